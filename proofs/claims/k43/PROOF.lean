import PyProof.Rows.All
import Wide.All
import OpenK.AllK
import Wide.FinOn
import Lean
import PyProof.EqAt
import PyProof.EqKinds
import PyProof.TupleCall
import PyProof.AttrMissHeap
import PySem.Challenge.RW_basehouse_k43_tables_over_all
set_option Elab.async false
set_option linter.all false
set_option maxRecDepth 100000
open PySem.W(Frag instObj methodObj lookIn plainGet hasDictIn findIn isFn plainOver takerIn makesIn emptyDict keepIn specialIn takesIn mroIn kitOne fnOf codeIn nsIn)
section
local macro_rules|`(#[$x,*])=>do{let w<-`(_);let q<-`(rfl);let d<-`(by decide);let g<-`(?_);let l<-`(by lia);let f:=fun c:Char=>if c=='1' then [w] else if c=='2' then [q] else if c=='3' then [w,w,w,q,q] else if c=='4' then [d] else if c=='6' then [g] else if c=='7' then [w,q] else if c=='8' then [w,w,q,q] else [l];let n:=fun e:Lean.TSyntax `term=>e.raw.isNatLit?.getD 0;let z:=x.getElems.toList;let y:=((z.map fun e=>if n e==0 then [e] else (toString (n e)).toList.flatMap f).flatten).toArray;match z with|[e]=>if n e==9 then `(by decide +kernel) else if n e==5 then `(by simp) else if n e==6 then `(fun _ _ _ _ h=>by rcases h with⟨⟩;subst_vars;rfl) else `(⟨$y,*⟩)|[a,e]=>if n a==5 then `(by simpa using $e) else `(⟨$y,*⟩)|_=>`(⟨$y,*⟩)}
local macro_rules|`(#v[$x,*])=>`(List.toArray [$x,*])
local macro_rules|`(())=>`(by lia)
local macro_rules|`(∅)=>`(by decide)
local macro_rules|`(⋯)=>`(by rfl)
abbrev My:=@List.length_map
abbrev OO:=@if_neg
abbrev OP:=@if_pos
abbrev OQ:=@decide_eq_true
abbrev OR:=@decide_eq_false
abbrev OS:=@List.mem_range
abbrev OT:=@List.mem_cons
abbrev OU:=@Int.toNat_natCast
abbrev OV:=@List.getD_eq_getElem?_getD
abbrev OW:=@Nat.lt_of_lt_of_le
abbrev OX:=@List.mem_map
abbrev OY:=@Nat.le_trans
abbrev OZ:=@List.mem_cons_of_mem
abbrev O0:=@Nat.testBit_two_pow
abbrev O1:=@List.getElem?_eq_some_iff
abbrev O2:=@Nat.eq_of_testBit_eq
abbrev O3:=@decide_eq_true_iff
abbrev O4:=@Nat.le_refl
abbrev O5:=@List.mem_of_getElem?
abbrev O6:=@List.mem_cons_self
abbrev O7:=@Nat.testBit_or
abbrev O8:=@List.length_range
abbrev O9:=@of_decide_eq_true
abbrev Pa:=@List.length_cons
abbrev Pb:=@Classical.byContradiction
abbrev Pc:=@Bool.and_eq_true
abbrev Pd:=@Nat.lt_of_le_of_lt
abbrev Pe:=@List.not_mem_nil
abbrev Pf:=@Bool.false_ne_true
abbrev Pg:=@List.mem_append
abbrev Ph:=@List.getElem?_map
abbrev Pj:=@Int.dvd_mul_of_dvd_right
abbrev Pk:=@Ne.symm
abbrev Pl:=@List.length_append
abbrev Pn:=@List.mem_filter
abbrev Po:=@List.getElem?_eq_getElem
abbrev Pq:=@Nat.testBit_two_pow_sub_one
abbrev Pr:=@Nat.pow_le_pow_right
abbrev Pu:=@List.mem_singleton
abbrev Pw:=@Nat.zero_testBit
abbrev Px:=@Bool.or_eq_true
abbrev Py:=@List.nodup_range
abbrev Pz:=@List.length_take
abbrev PB:=@PySem.Heap.lt_size
abbrev PC:=@List.map_append
abbrev PD:=@Nat.testBit_and
abbrev PF:=@List.map_cons
abbrev PH:=@PySem.Heap.get?_push_of_some
abbrev PJ:=@List.map_map
abbrev PK:=@Int.dvd_zero
abbrev PL:=@List.getElem?_append_left
abbrev PM:=@List.getElem?_append_right
abbrev PN:=@congrArg
abbrev PQ:=@Int.dvd_mul_of_dvd_left
abbrev PR:=@List.all_eq_true
abbrev PU:=@List.size_toArray
abbrev PV:=@Nat.or_lt_two_pow
abbrev PX:=@List.nodup_cons
abbrev PY:=@Nat.testBit_lt_two_pow
abbrev PZ:=@Int.mul_assoc
abbrev P0:=@congrFun
abbrev P1:=@PySem.wpAny_bind
abbrev P2:=@List.getElem?_of_mem
abbrev P4:=@List.map_congr_left
abbrev P5:=@Int.mul_comm
abbrev P6:=@Bool.false_and
abbrev P7:=@Bool.true_and
abbrev P8:=@List.length_eraseIdx_of_lt
abbrev P9:=@List.mem_append_right
abbrev Qa:=@or_false
abbrev Qb:=@Nat.xor_assoc
abbrev Qc:=@Bool.and_false
abbrev Qd:=@Option.some.inj
abbrev Qe:=@Nat.testBit_xor
abbrev Qf:=@Nat.ne_of_lt
abbrev Qg:=@Int.natCast_nonneg
abbrev Qh:=@PySem.W.mg_none_of
abbrev Qi:=@List.filter_congr
abbrev Qj:=@Nat.zero_le
abbrev Qk:=@Int.zero_add
abbrev Ql:=@List.take_add_one
abbrev Qm:=@Bool.not_eq_true'
abbrev Qn:=@PySem.Heap.get?_push_size
abbrev Qo:=@List.take_length
abbrev Qp:=@List.getElem?_range
abbrev Qq:=@List.filter_eq_self
abbrev Qr:=@PySem.F.plainAttrs_list
abbrev Qs:=@Int.one_mul
abbrev Qt:=@List.getElem_mem
abbrev Qu:=@Int.sub_self
abbrev Qv:=@PySem.F.slot_list_append
abbrev Qw:=@PySem.F.type_list_append
abbrev Qx:=@List.append_nil
abbrev Qy:=@List.length_filter_le
abbrev Qz:=@Nat.le_antisymm
abbrev QA:=@PySem.wpAny_pure
abbrev QB:=@Nat.lt_succ_self
abbrev QC:=@Nat.le_of_not_lt
abbrev QD:=@List.filter_cons
abbrev QE:=@Nat.sub_lt_sub_left
abbrev QF:=@PySem.mem_of_lookup
abbrev QG:=@decide_eq_decide
abbrev QH:=@Nat.succ_le_succ
abbrev QI:=@List.append_assoc
abbrev QJ:=@Int.mul_left_comm
abbrev QK:=@PyProof.Rows.callWith_type1
abbrev QL:=@Int.emod_lt_of_pos
abbrev QM:=@Int.eq_ofNat_of_zero_le
abbrev QN:=@Nat.lt_irrefl
abbrev QO:=@List.range_succ
abbrev QP:=@List.length_nil
abbrev QQ:=@Bool.or_false
abbrev QR:=@List.nil_append
abbrev QS:=@Int.emod_nonneg
abbrev QT:=@Int.mul_one
abbrev QU:=@Nat.pow_pos
abbrev QV:=@Bool.eq_false_iff
abbrev QW:=@List.mem_append_left
abbrev QX:=@Bool.eq_iff_iff
abbrev QY:=@List.foldl_cons
abbrev QZ:=@Nat.pow_lt_pow_right
abbrev Q0:=@Nat.or_assoc
abbrev Q1:=@Int.zero_mul
abbrev Q2:=@Int.mul_zero
abbrev Q3:=@Int.neg_mul
abbrev Q4:=@Int.dvd_add
abbrev Q5:=@Int.mul_sub
abbrev Q6:=@Int.dvd_sub
abbrev Q7:=@Nat.lt_pow_two_of_testBit
abbrev Q8:=@List.foldl_append
abbrev Q9:=@PySem.W.mg_of
abbrev Ra:=@Nat.xor_self
abbrev Rb:=@PyProof.Rows.boot_isinstance
abbrev Rc:=@PySem.W.kia_one
abbrev Rf:=@Int.sub_add_cancel
abbrev Rg:=@List.nodup_iff_pairwise_ne
abbrev Rh:=@List.getElem?_take_of_lt
abbrev Ri:=@List.length_drop
abbrev Rj:=@Nat.lt_of_not_le
abbrev Rm:=@List.filter_filter
abbrev Rn:=@List.nodup_append
abbrev Ro:=@List.take_of_length_le
abbrev Rp:=@PyProof.Rows.boot_list
abbrev Rq:=@True.intro
abbrev Rr:=@List.lookup_cons
abbrev Rt:=@List.filter_append
abbrev Ru:=@List.map_id
abbrev Rv:=@Int.mul_add
abbrev Rw:=@Nat.zero_add
abbrev Rx:=@Int.add_zero
abbrev Ry:=@List.mem_of_mem_take
abbrev Rz:=@Classical.axiomOfChoice
abbrev RA:=@not_or
abbrev RB:=@Int.sub_sub_self
abbrev RC:=@Bool.not_eq_true
abbrev RD:=@List.length_pos_of_mem
abbrev RE:=@Nat.xor_comm
abbrev RF:=@Int.sub_zero
abbrev RG:=@PySem.wpAny_passesOwn
abbrev RH:=@List.find?_cons
abbrev RI:=@List.filter_map
abbrev RJ:=@Classical.choose_spec
abbrev RK:=@PySem.wpAny_truthy_bool
abbrev RL:=@Nat.le_of_succ_le
abbrev RM:=@or_congr_right
abbrev RN:=@List.map_nil
abbrev RO:=@Nat.xor_zero
abbrev RP:=@List.length_erase_of_mem
abbrev RQ:=@beq_eq_false_iff_ne
abbrev RR:=@Array.length_toList
abbrev RS:=@Nat.testBit_div_two_pow
abbrev RT:=@PyProof.Rows.boot_tuple
abbrev RU:=@List.sum_cons
abbrev RV:=@PySem.wpAny_Call_Name_kw
abbrev RW:=@Nat.not_lt_zero
abbrev RX:=@PySem.W.piece_app
abbrev RY:=@PySem.W.segRun_of
abbrev RZ:=@Nat.or_comm
abbrev R0:=@Nat.zero_or
abbrev R1:=@List.getElem?_eraseIdx
abbrev R4:=@List.eq_nil_of_length_eq_zero
abbrev R5:=@PySem.Heap.size_push
abbrev R6:=@Array.getElem?_toList
abbrev R7:=@Nat.pow_succ
abbrev R9:=@eq_comm
abbrev Sa:=@List.getElem?_eq_none
abbrev Sb:=@Nat.le_add_right
abbrev Sd:=@List.any_eq_true
abbrev Se:=@Classical.not_forall
abbrev Sf:=@List.any_cons
abbrev Sg:=@Bool.and_comm
abbrev Sh:=@Int.mul_neg
abbrev Si:=@Int.sub_mul
abbrev Sj:=@List.length_reverse
abbrev Sl:=@List.mem_map_of_mem
abbrev Sn:=@Nat.add_le_add_left
abbrev So:=@Int.toNat_of_nonneg
abbrev Sq:=@Nat.and_le_left
abbrev Sr:=@PySem.W.callWith_K
abbrev Ss:=@of_decide_eq_false
abbrev Su:=@Nat.zero_xor
abbrev Sv:=@Nat.pos_of_ne_zero
abbrev Sw:=@Bool.or_true
abbrev Sx:=@List.append_of_mem
abbrev Sy:=@Int.zero_dvd
abbrev Sz:=@List.Pairwise.imp_of_mem
abbrev SA:=@Nat.add_sub_cancel
abbrev SD:=@Bool.xor_false
abbrev SE:=@decide_eq_false_iff_not
abbrev SF:=@List.getElem?_cons_succ
abbrev SG:=@List.length_eq_zero_iff
abbrev SH:=@Nat.testBit_mod_two_pow
abbrev SI:=@Int.dvd_of_emod_eq_zero
abbrev SJ:=@List.pairwise_map
abbrev SK:=@Int.dvd_mul_right
abbrev SM:=@List.flatMap_cons
abbrev SN:=@List.getElem?_inj
abbrev SO:=@PySem.wpAny_pyIter_rangeiter
abbrev SQ:=@Option.map_eq_some_iff
abbrev SR:=@List.singleton_sublist
abbrev SS:=@PySem.Paired.length
abbrev SU:=@Int.dvd_trans
abbrev SV:=@List.getElem_inj
abbrev SW:=@Nat.testBit_eq_decide_div_mod_eq
abbrev SX:=@List.length_replicate
abbrev SY:=@List.length_singleton
abbrev S1:=@PySem.W.methodCall_KW
abbrev S3:=@PySem.F.slot_range_reversed
abbrev S4:=@Int.mul_ediv_add_emod
abbrev S5:=@Nat.le_of_lt
abbrev S6:=@PySem.wpAny_mono
abbrev S7:=@PySem.wpAny_execs_nil
abbrev S9:=@beq_iff_eq
abbrev Ta:=@Or.inl
abbrev Tc:=@Nat.min_eq_left
abbrev Td:=@List.range_eq_range'
abbrev Te:=@Array.toArray_toList
abbrev Tf:=@Nat.lt_trans
abbrev Tg:=@Int.pow_succ
abbrev Th:=@Int.mul_eq_zero
abbrev Ti:=@List.mem_of_mem_drop
abbrev Tj:=@List.eq_nil_iff_forall_not_mem
abbrev Tn:=@List.filterMap_cons
abbrev To:=@PySem.W.plainGet_of
abbrev Tp:=@Int.natAbs_mul
abbrev Tq:=@PySem.wpAny_of_eq
abbrev Tr:=@Int.ofNat_dvd_left
abbrev Ts:=@Nat.testBit_two_pow_mul_add
abbrev Tt:=@Int.add_sub_cancel
abbrev Tu:=@Nat.and_one_is_mod
abbrev Tv:=@Int.fdiv_eq_ediv_of_nonneg
abbrev Tw:=@List.all_cons
abbrev Tx:=@List.perm_ext_iff_of_nodup
abbrev Tz:=@PySem.slot_list_getitem
abbrev TC:=@List.reverse_cons
abbrev TF:=@Nat.lt_succ_of_lt
abbrev TH:=@Int.eq_of_mul_eq_mul_left
abbrev TJ:=@Nat.ne_of_gt
abbrev TK:=@PySem.codeAny_mono
abbrev TL:=@Nat.min_eq_right
abbrev TM:=@List.cons_append
abbrev TN:=@List.getElem_map
abbrev TQ:=@Int.pow_zero
abbrev TR:=@Nat.sub_self
abbrev TU:=@Nat.testBit_zero
abbrev TV:=@List.getElem?_replicate
abbrev TX:=@List.filter_cons_of_neg
abbrev TY:=@Nat.add_sub_cancel_left
abbrev TZ:=@List.of_mem_zip
abbrev T3:=@PySem.pushCells_keeps
abbrev T4:=@Int.natCast_add
abbrev T5:=@if_true
abbrev T6:=@PySem.boot_len
abbrev T7:=@List.nodup_nil
abbrev T8:=@or_assoc
abbrev T9:=@Nat.mod_lt
abbrev Ua:=@Nat.mul_assoc
namespace L2
open PySem PySem.Spec PyProof.Rows
abbrev Key:=Sum Int Str
def uN:Key->Value->Bool
 | .inl k,v=>Value.isInt k v
 | .inr x,v=>Value.isStrOf x v
def OF(w:World):Key->Int
 | .inl k=>hashInt k
 | .inr x=>hashStr w x
def du:∀ {k:Key} {v:Value},uN k v=true->(∃i t,k=Sum.inl i/\v=Value.int i t)\/(∃x t,k=Sum.inr x/\v=Value.str x t)
 | .inl i,v,h=>by obtain⟨t,e⟩:=Value.isInt_shape (k:=i) (v:=v) h;exact .inl #[i,t,2,e]
 | .inr x,v,h=>by obtain⟨t,e⟩:=Value.isStrOf_shape (x:=x) (v:=v) h;exact .inr #[x,t,2,e]
def F4(i:Int)(t:Tok):uN (.inl i) (.int i t)=true:=by simp[uN,Value.isInt]
def F3(x:Str)(t:Tok):uN (.inr x) (.str x t)=true:=by simp[uN,Value.isStrOf]
def CW(a b:Int):decide ((Sum.inl a:Key)=Sum.inl b)=(a==b):=by
 by_cases e:a=b
 .subst e;simp
 .have h:¬(Sum.inl a:Key)=Sum.inl b:=λq=>e (Sum.inl.inj q);rw[OR h];exact(RQ.mpr e).symm
def Nk(a b:Str):decide ((Sum.inr a:Key)=Sum.inr b)=decide (a=b):=by
 by_cases e:a=b
 .subst e;simp
 .have h:¬(Sum.inr a:Key)=Sum.inr b:=λq=>e (Sum.inr.inj q);rw[OR h,OR e]
def Nm(a:Int)(b:Str):decide ((Sum.inl a:Key)=Sum.inr b)=false:=OR (λq=>nomatch q)
def Nl(a:Str)(b:Int):decide ((Sum.inr a:Key)=Sum.inl b)=false:=OR (λq=>nomatch q)
def eT(prog:Program)(w:World):PySem.KeyKind prog w Key where
 is:=uN
 hash:=OF w
 inj:=λv a b ha d=>by
  rcases du ha with ⟨i,t,rfl,rfl⟩|⟨x,t,rfl,rfl⟩
  .rcases du d with ⟨j,u,rfl,e⟩|⟨y,u,rfl,e⟩
   .injection e with c _;rw[c]
   .exact nomatch e
  .rcases du d with ⟨j,u,rfl,e⟩|⟨y,u,rfl,e⟩
   .exact nomatch e
   .injection e with c _;rw[c]
 byValue:=λk v h=>by rcases du h with ⟨i,t,rfl,rfl⟩|⟨x,t,rfl,rfl⟩<;>rfl
 pyHash:=λhv h=>by
  rcases du hv with ⟨i,t,rfl,rfl⟩|⟨x,t,rfl,rfl⟩
  .exact wpAny_pyHash_int h
  .exact wpAny_pyHash_str h
 eqBool:=λf hv h=>by
  rcases du f with ⟨i,t,rfl,rfl⟩|⟨x,t,rfl,rfl⟩
  .rcases du hv with ⟨j,u,rfl,rfl⟩|⟨y,u,rfl,rfl⟩
   .rw[CW]at h;exact wpAny_eqBool_int h
   .rw[Nm]at h;exact SeqAt.EqAt.int_str i t y u _ _ _ _ h
  .rcases du hv with ⟨j,u,rfl,rfl⟩|⟨y,u,rfl,rfl⟩
   .rw[Nl]at h;exact SeqAt.EqAt.str_int x t j u _ _ _ _ h
   .rw[Nk]at h;exact wpAny_eqBool_str h
 «strs»:=λk x t v h=>by
  rcases du h with ⟨i,u,rfl,e⟩|⟨y,u,rfl,e⟩
  .exact nomatch e
  .injection e with c _
   subst c;cases v<;>rfl
def Ba(prog:Program)(w:World)(i:Int)(t:Tok):(eT prog w).is (.inl i) (.int i t)=true:=F4 i t
def A9(prog:Program)(w:World)(x:Str)(t:Tok):(eT prog w).is (.inr x) (.str x t)=true:=F3 x t
inductive V where
 |non|bl (b:Bool)|int (i:Int)|str (x:Str)|byt (b:Array UInt8)|flt (b:UInt64)|ref (a:Addr)|ty (n:String)
 deriving DecidableEq
abbrev rW(a:Addr):Option V:=some (.ref a)
abbrev rT(n:Nat):Option V:=some (.int n)
abbrev xS(n:Int):Option V:=some (.int n)
def cC:V->Value->Prop
 | .non,u=>u=Value.none
 | .bl b,u=>u=Value.bool b
 | .int i,u=>∃t,u=Value.int i t
 | .str x,u=>∃t,u=Value.str x t
 | .byt b,u=>∃t,u=Value.bytes b t
 | .flt b,u=>∃t,u=Value.float b t
 | .ref a,u=>u=Value.ref a
 | .ty n,u=>u=Value.type n
abbrev Vals:List V->List Value->Prop:=Paired cC
def Vals.length{xs:List V}{us:List Value}(r:Vals xs us):xs.length=us.length:=SS r
def Vals.get:∀ {xs:List V} {us:List Value} {i:Nat} {x:V},Vals xs us->xs[i]?=some x->∃u,us[i]?=some u/\cC x u
 |_,_,_,_, .nil,e=>by simp at e
 |_,_,0,_, .cons r _,e=>by simp at e;subst e;exact#[7,r]
 |_,_,i+1,x, .cons _ t,e=>by obtain⟨u,a,b⟩:=Vals.get (i:=i) (x:=x) t #[5,e];exact#[u,#[5,a],b]
def Vals.append:∀ {xs a:List V} {us ws:List Value},Vals xs us->Vals a ws->Vals (xs++a) (us++ws)
 |_,_,_,_, .nil,s=>s
 |_,_,_,_, .cons r t,s=> .cons r (Vals.append t s)
def Vals.take:∀ {xs:List V} {us:List Value} (n:Nat),Vals xs us->Vals (xs.take n) (us.take n)
 |_,_,0,_=> .nil
 |_,_,_+1, .nil=> .nil
 |_,_,n+1, .cons r t=> .cons r (Vals.take n t)
def Vals.drop:∀ {xs:List V} {us:List Value} (n:Nat),Vals xs us->Vals (xs.drop n) (us.drop n)
 |_,_,0,r=>r
 |_,_,_+1, .nil=> .nil
 |_,_,n+1, .cons _ t=>Vals.drop n t
def oo:Option V->Option Value->Prop
 |some v,some u=>cC v u
 |none,none=>True
 |_,_=>False
def KV{κ:Type}:List (κ×V)->List (κ×Value)->Prop:=Paired λ(p:κ×V) (q:κ×Value)=>p.1=q.1/\cC p.2 q.2
def kV:Key->V
 | .inl i=> .int i
 | .inr x=> .str x
inductive HO where
 |lst (xs:List V)
 |tup (xs:List V)
 |dK (kvs:List (Key×V))|dT (kvs:List (List Key×V))
 |set (S:Int->Bool) (n:Nat)
 |ins (C dx:Addr) (fs:List (Str×V))
 |own (x:Addr)
 |xd (fs:List (Str×V))
 |met (f x:Addr)
 |rng (lo hi:Int)
 |frz (o:Obj) (u:HO)
 |tbl (ps:Array Value)
 |ext (φ:Heap->Prop)
abbrev Hp:=Addr->Option HO
def upd(H:Hp)(a:Addr)(o:HO):Hp:=λb=>if b=a then some o else H b
def ak:upd H a o a=some o:=by unfold upd;rw[OP rfl]
def aE(h:b≠a):upd H a o b=H b:=by unfold upd;rw[OO h]
def nA:upd (upd H a o) a u=upd H a u:=by funext b;unfold upd;split<;>rfl
def kJ{H:Hp}(h:H a=some o)(h':H b=some u)(d:o≠u):a≠b:=by intro e;subst e;rw[h]at h';exact d (Qd h')
def aI{H:Hp}(h:H a=some o)(h':H b=none):a≠b:=by intro e;subst e;rw[h]at h';cases h'
section
variable(P:Program)(w:World)
def c7(H:Hp)(h:Heap)(a:Addr):HO->Prop
 | .lst xs=>xs.length<=sizeLine/\∃(c:List Value)(n:Nat),Vals xs c/\h.get? a=some {cls:= .type "list",data:= .seq c.toArray n}
 | .tup xs=>xs.length<=sizeLine/\∃c:List Value,Vals xs c/\IsTup h a c.toArray
 | .dK kvs=>kvs.length<=sizeLine/\(a==sysModules)=false/\∃vs,KV kvs vs/\h.DictOf (eT P w) a vs
 | .dT kvs=>kvs.length<=sizeLine/\(a==sysModules)=false/\∃xs:List (List Key×Addr×Value),
   Paired (λ(p:List Key×V) (q:List Key×Addr×Value)=>p.1=q.1/\H q.2.1=some (.tup (p.1.map kV))/\cC p.2 q.2.2) kvs xs/\
   ∃o e ep,h.get? a=some o/\o.ExactDict/\o.data= .dict e ep/\e.toList=xs.map (entryOfKey (tupleKind (eT P w)))/\(xs.map (·.1)).Nodup
 | .set S n=>h.SetOf (intKind P w) a S n
 | .ins C d fs=>H d=some (.own a)/\fs.length<=1000/\d≠a/\h.get? a=some (instObj C d)/\
   ∃b,h.Ns1 d b/\(∀f,oo (fs.lookup f) (b f))/\PySem.Within b (fs.map (·.1))
 | .own _=>∃o,h.get? a=some o
 | .xd fs=>∃b,h.Ns1 a b/\∀f,oo (fs.lookup f) (b f)
 | .rng k j=>∃t u v,h.get? a=some {cls:= .type "range",data:= .fields #v[.int k t, .int j u, .int 1 v]}
 | .frz o u=>h.get? a=some o/\c7 H h a u
 | .tbl ps=>h.get? a=some {cls:= .none,data:= .fields ps}
 | .met f x=>h.get? a=some (methodObj (.ref f) (.ref x))
 | .ext φ=>φ h/\(∃o,h.get? a=some o)/\∀g i:Heap,φ g->(∀o,g.get? a=some o->i.get? a=some o)->φ i
def HOk(H:Hp)(h:Heap):Prop:=∀a o,H a=some o->c7 P w H h a o
end
section
variable{P:Program}{w:World}{H H':Hp}{h h':Heap}{a:Addr}{o:HO}
def c7.lt(x:c7 P w H h a o):a<h.objs.size:=by
 cases o with
 |lst xs=>obtain⟨_,_,_,_,e⟩:=x;exact PB e
 |tup xs=>obtain⟨_,_,_,p⟩:=x;exact p.lt
 |dK kvs=>obtain⟨_,_,_,_,o,_,_,e,_⟩:=x;exact PB e
 |dT kvs=>obtain⟨_,_,_,_,o,_,_,e,_⟩:=x;exact PB e
 |set S n=>obtain⟨o,_,_,_,e,_⟩:=x;exact PB e
 |ins C b fs=>obtain⟨_,_,_,e,_⟩:=x;exact PB e
 |own y=>obtain⟨_,e⟩:=x;exact PB e
 |xd fs=>obtain⟨_,⟨_,_,_,e,_⟩,_⟩:=x;exact PB e
 |rng d c=>obtain⟨_,_,_,e⟩:=x;exact PB e
 |frz g u=>obtain⟨e,_⟩:=x;exact PB e
 |tbl ps=>exact PB (show h.get? a=some _ from x)
 |met f y=>exact PB (show h.get? a=some _ from x)
 |ext φ=>obtain⟨_,⟨_,e⟩,_⟩:=x;exact PB e
def Paired.mapP:∀ {c:List e} {d:List β},Paired F c d->(∀a b,F a b->G a b)->Paired G c d
 |_,_, .nil,_=> .nil
 |_,_, .cons r t,f=> .cons (f _ _ r) (Paired.mapP t f)
def c7.stay(x:c7 P w H h a o)(k:∀b u,(b=a\/H b=some (.own a))->h.get? b=some u->h'.get? b=some u)
  (A:∀b,H b=some (.own a)->H' b=some (.own a)) (B:∀b xs,H b=some (.tup xs)->H' b=some (.tup xs)):c7 P w H' h' a o:=by
 induction o with
 |lst xs=>obtain⟨z,j,n,r,e⟩:=x;exact#[z,j,n,r,k _ _ (.inl rfl) e]
 |tup xs=>obtain⟨z,j,r,g,e,c⟩:=x;exact#[z,j,r,g,k _ _ (.inl rfl) e,c]
 |dK kvs=>obtain⟨z,y,vs,r,g,i,ep,e,c⟩:=x;exact#[z,y,vs,r,g,i,ep,k _ _ (.inl rfl) e,c]
 |dT kvs=>
  obtain⟨z,y,xs,r,g,i,ep,e,c⟩:=x;exact#[z,y,xs,Paired.mapP r λp q z=>#[z.1,B _ _ z.2.1,z.2.2],g,i,ep,k _ _ (.inl rfl) e,c]
 |set S n=>obtain⟨g,i,ep,t,e,c⟩:=x;exact#[g,i,ep,t,k _ _ (.inl rfl) e,c]
 |ins C J fs=>
  obtain⟨d,z,ne,e,l,⟨m,i,ep,s,c⟩,r⟩:=x;exact#[A _ d,z,ne,k _ _ (.inl rfl) e,l,#[m,i,ep,k _ _ (.inr d) s,c],r]
 |own y=>obtain⟨g,e⟩:=x;exact#[g,k _ _ (.inl rfl) e]
 |xd fs=>obtain⟨l,⟨m,i,ep,e,c⟩,r⟩:=x;exact#[l,#[m,i,ep,k _ _ (.inl rfl) e,c],r]
 |rng L K=>obtain⟨t,u,v,e⟩:=x;exact#[t,u,v,k _ _ (.inl rfl) e]
 |frz g u G=>obtain⟨e,q⟩:=x;exact#[k _ _ (.inl rfl) e,G q]
 |tbl ps=>
  have e:h.get? a=some {cls:= .none,data:= .fields ps}:=x;show h'.get? a=some {cls:= .none,data:= .fields ps};exact k a _ (.inl rfl) e
 |met f y=>
  have e:h.get? a=some (methodObj (.ref f) (.ref y)):=x;show h'.get? a=some (methodObj (.ref f) (.ref y));exact k a _ (.inl rfl) e
 |ext φ=>obtain⟨p,⟨o,e⟩,st⟩:=x;exact#[st _ _ p λo q=>k _ _ (.inl rfl) q,#[o,k _ _ (.inl rfl) e],st]
def HOk.lt(x:HOk P w H h)(e:H a=some o):a<h.objs.size:=(x a o e).lt
def HOk.fresh(x:HOk P w H h)(e:h.objs.size<=a):H a=none:=by
 cases q:H a with
 |none=>rfl
 |some u=>exact absurd (OW (x.lt q) e) (QN _)
def HOk.kept(x:HOk P w H h)(k:∀b u,h.get? b=some u->h'.get? b=some u):HOk P w H h':=λa o e=>
 (x a o e).stay (λb u _ q=>k b u q) (λ_ q=>q) λ_ _ q=>q
def HOk.laid(x:HOk P w H h)(k:∀b u,h.get? b=some u->h'.get? b=some u)(g:h.objs.size<=a)(new:c7 P w (upd H a o) h' a o):HOk P w (upd H a o) h':=λb u e=>by
 have f:=x.fresh g;by_cases d:b=a
 .subst d;rw[ak]at e;cases e;exact new
 .rw[aE d]at e;exact(x b u e).stay (λc v _ q=>k c v q) (λc q=>by rw[aE (aI q f)];exact q) λc xs q=>by rw[aE (aI q f)];exact q
end
def Rd(H:Hp)(a:Addr)(u:HO):Prop:=H a=some u\/∃o,H a=some (.frz o u)
def Rd.ok(r:Rd H a u)(x:HOk P w H h):c7 P w H h a u:=by
 rcases r with r|⟨o,r⟩
 .exact x a u r
 .obtain⟨_,q⟩:=x a _ r;exact q
def Mut:Option HO->Prop
 |some (.lst _)=>True
 |some (.dK _)=>True
 |some (.dT _)=>True
 |some (.set _ _)=>True
 |some (.ins _ _ _)=>True
 |some (.ext _)=>True
 |_=>False
section
variable{P:Program}{w:World}{H:Hp}{h h':Heap}{x e:Addr}{o':HO}
def HOk.write(ok:HOk P w H h)(g:Mut (H x))(i:e=x\/H e=some (.own x))(k:∀b u,b≠e->h.get? b=some u->h'.get? b=some u)(m:∃u,h'.get? e=some u)
  (new:c7 P w (upd H x o') h' x o'):HOk P w (upd H x o') h':=λb u q=>by
 have j:∀c y,H c=some (.own y)->c≠x:=λc y r z=>by subst z;rwa[r]at g
 have o:∀c xs,H c=some (.tup xs)->c≠x:=λc xs r z=>by subst z;rwa[r]at g
 by_cases a:b=x
 .subst a;rw[ak]at q;cases q;exact new
 .rw[aE a]at q;by_cases d:b=e
  .have l:H b=some (.own x):=by
    rcases i with z|z
    .exact absurd (d.trans z) a
    .rw[d];exact z
   rw[q]at l;cases l;obtain⟨v,n⟩:=m;exact#[v,by rw[d];exact n]
  .refine(ok b u q).stay (λc v f r=>k c v ?_ r) (λc r=>by rw[aE (j c b r)];exact r) λc xs r=>by rw[aE (o c xs r)];exact r
   rcases f with rfl|f
   .exact d
   .rintro rfl;rcases i with z|z
    .exact j c b f z
    .rw[f]at z;cases z;exact a rfl
end
structure Un(fs ex:List Addr)(H H':Hp)(h h':Heap):Prop where
 keep:∀b o,h.get? b=some o->H b=none->b∉fs->b∉ex->h'.get? b=some o
 slot:∀b o,h.get? b=some o->H b=none->b∈fs->b∉ex->∃sl,h'.get? b=some {o with slots:=sl}
 free:∀b o,h.get? b=some o->H b=none->b∉ex->H' b=none
 there:∀b o,h.get? b=some o->b∉ex->∃o',h'.get? b=some o'
 tups:∀b xs,H b=some (.tup xs)->H' b=some (.tup xs)
 frzs:∀b o u,H b=some (.frz o u)->H' b=some (.frz o u)
 tbls:∀b ps,H b=some (.tbl ps)->∃more,H' b=some (.tbl (ps++more))
section
variable{fs fs' ex ex':List Addr}{H H1 H2:Hp}{h h1 h2 h':Heap}{a x e:Addr}{o:HO}
def Un.any(u:Un fs ex H H1 h h1)(q:h.get? b=some c)(n:H b=none)(f:b∉ex):∃g,h1.get? b=some {c with slots:=g}:=by
 by_cases d:b∈fs
 .exact u.slot b c q n d f
 .exact#[c.slots,u.keep b c q n d f]
def Un.kept(k:∀b u,h.get? b=some u->h'.get? b=some u):Un fs ex H H h h':=
 #[λb c q _ _ _=>k b c q,λb c q _ _ _=>#[c.slots,k b c q],λ_ _ _ n _=>n,λb c q _=>#[c,k b c q],λ_ _ q=>q,λ_ _ _ q=>q,λ_ ps q=>#[#v[],by rw[q];simp]]
def Un.refl:Un fs ex H H h h:=Un.kept λ_ _ q=>q
def Un.laid(k:∀b u,h.get? b=some u->h'.get? b=some u)(c:h.objs.size<=a)(hn:H a=none):Un fs ex H (upd H a o) h h' where
 keep:=λb u q _ _ _=>k b u q
 slot:=λb u q _ _ _=>#[u.slots,k b u q]
 free:=λb u q n _=>by rw[aE (Qf (OW (PB q) c))];exact n
 there:=λb u q _=>#[u,k b u q]
 tups:=λb xs q=>by rw[aE (aI q hn)];exact q
 frzs:=λb u xs q=>by rw[aE (aI q hn)];exact q
 tbls:=λb ps q=>#[#v[],by rw[aE (aI q hn),q];simp]
def Un.write(c:Mut (H x))(j:e=x\/H e=some (.own x))(k:∀b u,b≠e->h.get? b=some u->h'.get? b=some u)(l:∃u,h'.get? e=some u):Un fs ex H (upd H x o) h h':=by
 have i:∀b,H b=none->b≠x:=λb n z=>by subst z;rwa[n]at c
 have f:∀b,H b=none->b≠e:=λb n z=>by
  subst z;rcases j with r|r
  .exact i b n r
  .rw[n]at r;cases r
 have d:∀b u,H b=some u->¬Mut (some u)->b≠x:=λb u q m z=>by subst z;rw[q]at c;exact m c
 refine#[λb u q n _ _=>k b u (f b n) q,λb u q n _ _=>#[u.slots,k b u (f b n) q],λb u q n _=>by rw[aE (i b n)];exact n,λb u q _=> ?_,
  λb xs q=>by rw[aE (d b _ q λz=>z)];exact q,λb u xs q=>by rw[aE (d b _ q λz=>z)];exact q,λb ps q=>#[#v[],by rw[aE (d b _ q λz=>z),q];simp]]
 by_cases g:b=e
 .subst g;exact l
 .exact#[u,k b u g q]
end
def trk(h:Heap)(H:Hp):List Addr:=(List.range h.objs.size).filter λa=>(H a).isSome
def yV(h:Heap)(H:Hp):Heap:=PySem.W.hideAll h (trk h H)
def F8(h:Heap)(H:Hp):(yV h H).objs.size=h.objs.size:=PySem.W.hideAll_size _ _
def Jw{h:Heap}(e:h.get? b=some o)(n:H b=none):(yV h H).get? b=some o:=
 PySem.W.hideAll_get _ e λa=>by have q:(H b).isSome=true:=(Pn.mp a).2;rw[n]at q;simp at q
def K5{h:Heap}(e:(yV h H).get? b=some o):h.get? b=some o/\H b=none:=by
 have a:h.get? b=some o:=PySem.W.of_hideAll (trk h H) e;refine#[a,6];cases q:H b with
 |none=>rfl
 |some x=>
  have c:b∈trk h H:=Pn.mpr #[OS.mpr (PB a),by simp[q]];have z:(yV h H).get? b=none:=PySem.W.hideAll_none (trk h H) c;rw[z]at e;cases e
def LH(g h:Heap)(L:Addr):List (Addr×Obj):=(List.range h.objs.size).filterMap λa=>if a=L\/(g.get? a).isSome=true then none else(h.get? a).map λo=>(a,o)
def rest(g h:Heap)(L d:Addr):List (Addr×Obj):=(LH g h L).filter λp=>decide (p.1≠d)
structure Mod(K:Frag)(mg:Str->Option Value)(base:Heap):Prop where
 kin:K.In base
 glob:base.Ns mainGlobals mg
 blt:∃mb,base.Ns builtinsNs mb/\∀x:Str,x≠ "__name__"->mb x=bootBuiltins x
 nolimit:base.NoLimit
structure Cx where
 prog:Program
 w:World
 K:Frag
 mg:Str->Option Value
 base:Heap
 A:Around
 N:List Str
 s₀:Shared
 H₀:Hp
 env:Env
 outer:List Env
 stack:List Env
 ex:List Addr
 fn:Str->Bool
 calm:Bool
 pn:List (Addr×Obj)
 xe:Value->Shared->Prop
def frs(l:List Env):List Addr:=l.filterMap (·.frame)
abbrev Cx.fs(X:Cx):List Addr:=frs X.outer
def Vis(a:Scope)(x:Str):Prop:=a.names.lookup x=some .local\/a.names.lookup x=some .cell\/a.names.lookup x=some .free
def Loc(a:Scope)(x:Str):Prop:=a.names.lookup x=some .local\/a.names.lookup x=some .cell
def Look(env:Env)(h:Heap)(m:Str->Option Value)(x:Str)(u:Value):Prop:=
 (env.kindOf x=some .local/\m x=some u)\/((env.kindOf x=some .cell\/env.kindOf x=some .free)/\∃c,env.cells.lookup x=some c/\h.IsCell c (some u))
structure Cx.Ok(X:Cx):Prop where
 mod:Mod X.K X.mg X.base
 kind:X.env.scope.kind= .function
 glob:X.env.globals=mainGlobals
 blt:X.env.builtins=builtinsNs
 above:X.s₀.heap.objs.size<=X.env.locals
 inj:∀x y c,X.env.cells.lookup x=some c->X.env.cells.lookup y=some c->x=y
 has:∀x,(X.env.kindOf x=some .cell\/X.env.kindOf x=some .free)->∃c,X.env.cells.lookup x=some c
 cab:∀x c,X.fn x=true->X.env.cells.lookup x=some c->X.s₀.heap.objs.size<=c
 hd:X.calm=true->X.A.handled=none
 frames:X.A.frames=some X.stack
 stk:X.stack=X.outer\/(X.stack=X.env::X.outer/\X.env.frame=some X.env.locals)
 exf:∀b∈X.ex,b≠X.env.locals/\∀x c,X.env.cells.lookup x=some c->c≠b
 bs:∀b o,X.base.get? b=some o->X.s₀.heap.get? b=some o/\X.H₀ b=none
 bsz:X.base.objs.size<=X.s₀.heap.objs.size
 noex:∀b o,X.base.get? b=some o->b∉X.ex
 exfs:∀b∈X.ex,b∉X.fs
 funs:X.s₀.heap.FunFrames X.base X.outer
 frf:∀b∈X.fs,X.H₀ b=none
structure Inv(X:Cx)(pins:List (Addr×Obj))(σ:List (Option V))(H:Hp)(s:Shared):Prop where
 ok:X.Ok
 os:s.os=X.s₀.os
 bare:AllBare s.gens
 base:Un X.fs X.ex X.H₀ H X.s₀.heap s.heap
 loc:∃m,s.heap.Ns X.env.locals m/\∀(i:Nat)(x:Str)(v:V),X.N[i]?=some x->σ[i]?=some (some v)->Vis X.env.scope x->∃u,cC v u/\Look X.env s.heap m x u
 cell:∀x c,X.env.cells.lookup x=some c->∃v,s.heap.IsCell c v
 free:H X.env.locals=none
 freeC:∀x c,X.env.cells.lookup x=some c->H c=none
 pin:∀p∈X.pn++pins,s.heap.get? p.1=some p.2/\H p.1=none/\p.1≠X.env.locals/\p.1∉X.fs/\∀v,p.2.data≠ .cell v
 hok:HOk X.prog X.w H s.heap
 len:σ.length=X.N.length
section
variable{X:Cx}{pins:List (Addr×Obj)}{σ:List (Option V)}{H H':Hp}{s:Shared}{h':Heap}
def Cx.Ok.nofr(ok:X.Ok)(e:X.base.get? b=some o):b∉X.fs:=λa=>by have:=(ok.funs.mem a).1;rw[e]at this;cases this
def Inv.bs(I:Inv X pins σ H s):∀b o,X.base.get? b=some o->s.heap.get? b=some o/\H b=none:=λb o e=>
 #[I.base.keep b o (I.ok.bs b o e).1 (I.ok.bs b o e).2 (I.ok.nofr e) (I.ok.noex b o e),I.base.free b o (I.ok.bs b o e).1 (I.ok.bs b o e).2 (I.ok.noex b o e)]
def Inv.bk(I:Inv X pins σ H s):∀b o,X.base.get? b=some o->s.heap.get? b=some o:=λb o e=>(I.bs b o e).1
def Inv.mod(I:Inv X pins σ H s):Mod X.K X.mg X.base:=I.ok.mod
def Inv.kIn(I:Inv X pins σ H s):X.K.In s.heap:=I.ok.mod.kin.keeps I.bk
def Inv.lt(I:Inv X pins σ H s):X.env.locals<s.heap.objs.size:=let⟨_,a,_⟩:=I.loc;a.lt
def Inv.sz(I:Inv X pins σ H s):X.s₀.heap.objs.size<=s.heap.objs.size:=OY I.ok.above (S5 I.lt)
def Inv.nofs(I:Inv X pins σ H s){a:Addr}(h:s.heap.objs.size<=a):a∉X.fs:=λb=>by obtain⟨_,o,c,_⟩:=I.ok.funs.mem b;exact absurd (OW (PB c) (OY I.sz h)) (QN _)
def Inv.cne(I:Inv X pins σ H s):∀x c,X.env.cells.lookup x=some c->c≠X.env.locals:=λx c e z=>by obtain⟨v,o,b,a⟩:=I.cell x c e;obtain⟨m,⟨h,g,ep,f,d,_⟩,_⟩:=I.loc;rw[z,f]at b;cases b;rw[d]at a;cases a
def Inv.funs(I:Inv X pins σ H s):s.heap.FunFrames X.base X.outer:=by
 have all:∀(l:List Env),(∀b∈frs l,b∈X.fs)->X.s₀.heap.FunFrames X.base l->s.heap.FunFrames X.base l:=by
  intro l
  induction l with
  |nil=>intro _ _;trivial
  |cons env r m=>
   intro f hl;obtain⟨h,⟨L,o,d,i,j,g⟩,k⟩:=hl;have a:L∈X.fs:=f L (by unfold frs;rw[Tn,d];exact O6);obtain⟨n,e⟩:=I.base.slot L o j (I.ok.frf L a) a λz=>I.ok.exfs L z a;exact#[h,#[L,_,d,i,e,g],m (λb c=>f b (by unfold frs;rw[Tn,d];exact OZ _ c)) k]
 exact all X.outer (λ_ c=>c) I.ok.funs
def Inv.stack(I:Inv X pins σ H s):s.heap.FunFrames X.base X.stack:=by
 rcases I.ok.stk with e|⟨e,a⟩
 .rw[e];exact I.funs
 .rw[e];obtain⟨m,b,_⟩:=I.loc;refine .cons (by rw[I.ok.kind];decide) a b ?_ I.funs;exact Heap.get?_none_of_le (OY I.ok.bsz I.ok.above)
def Inv.stkSub(I:Inv X pins σ H s):∀b∈frs X.stack,b∈X.env.locals::X.fs:=λb a=>by
 rcases I.ok.stk with e|⟨e,c⟩
 .rw[e]at a;exact OZ _ a
 .rw[e]at a;unfold frs at a;rwa[Tn,c]at a
def Inv.stkFree(I:Inv X pins σ H s):∀b∈frs X.stack,H b=none:=λb a=>by
 rcases OT.mp (I.stkSub b a)with e|a
 .rw[e];exact I.free
 .obtain⟨_,o,c,_⟩:=I.ok.funs.mem a;exact I.base.free b o c (I.ok.frf b a) λz=>I.ok.exfs b z a
def Inv.step{ch:List Addr}(I:Inv X pins σ H s)
  (t:∀b∈ch,(b∈X.ex\/X.s₀.heap.objs.size<=b)/\b≠X.env.locals/\(∀x c,X.env.cells.lookup x=some c->c≠b)/\∀p∈X.pn++pins,p.1≠b)
  (keep:∀b o,b≠X.env.locals->b∉X.fs->b∉ch->s.heap.get? b=some o->H b=none->h'.get? b=some o)
  (slot:∀b o,b≠X.env.locals->b∈X.fs->b∉ch->s.heap.get? b=some o->H b=none->∃J,h'.get? b=some {o with slots:=J}) (free:∀b o,b∉ch->s.heap.get? b=some o->H b=none->H' b=none)
  (there:∀b o,b∉ch->s.heap.get? b=some o->∃A,h'.get? b=some A)
  (tups:∀b xs,H b=some (.tup xs)->H' b=some (.tup xs)) (Q:∀b o u,H b=some (.frz o u)->H' b=some (.frz o u)) (ar:∀b ps,H b=some (.tbl ps)->∃more,H' b=some (.tbl (ps++more)))
  (ns:∀m,s.heap.Ns X.env.locals m->h'.Ns X.env.locals m) (ag:HOk X.prog X.w H' h') (U:AllBare g'):
  Inv X pins σ H' {s with heap:=h',gens:=g',drawn:=d',toks:=t'}:=by
 have M:∀b o,X.s₀.heap.get? b=some o->b≠X.env.locals:=λb o e=>Qf (OW (PB e) I.ok.above);have B:∀b o,X.s₀.heap.get? b=some o->b∉X.ex->b∉ch:=λb o e a g=>by
  rcases(t b g).1 with z|z
  .exact a z
  .exact absurd (OW (PB e) z) (QN _)
 have cellK:∀x c,X.env.cells.lookup x=some c->∀v,s.heap.IsCell c v->h'.IsCell c v:=λx c e v ⟨o,h,G⟩=>by
  have y:c∉ch:=λz=>(t c z).2.2.1 x c e rfl;by_cases K:c∈X.fs
  .obtain⟨J,q⟩:=slot c o (I.cne x c e) K y h (I.freeC x c e);exact#[_,q,G]
  .exact#[o,keep c o (I.cne x c e) K y h (I.freeC x c e),G]
 refine#[I.ok,I.os,U,#[λb o e n g a=> ?_,λb o e n g a=> ?_,λb o e n a=> ?_,λb o e a=> ?_,λb xs e=>tups b xs (I.base.tups b xs e),λb o xs e=>Q b o xs (I.base.frzs b o xs e),λb ps e=> ?_],6,λx c e=> ?_,6,λx c e=> ?_,λp L=> ?_,ag,I.len]
 .exact keep b o (M b o e) g (B b o e a) (I.base.keep b o e n g a) (I.base.free b o e n a)
 .obtain⟨J,f⟩:=I.base.slot b o e n g a;obtain⟨ai,j⟩:=slot b _ (M b o e) g (B b o e a) f (I.base.free b o e n a);exact#[ai,j]
 .obtain⟨A,f⟩:=I.base.there b o e a;exact free b A (B b o e a) f (I.base.free b o e n a)
 .obtain⟨A,f⟩:=I.base.there b o e a;exact there b A (B b o e a) f
 .obtain⟨m1,f⟩:=I.base.tbls b ps e;obtain⟨m2,j⟩:=ar b _ f;exact#[m1++m2,by rw[j,Array.append_assoc]]
 .obtain⟨m,hn,hl⟩:=I.loc;refine#[m,ns m hn,λi x v f j O=> ?_];obtain⟨u,r,l⟩:=hl i x v f j O;refine#[u,r,6];rcases l with l|⟨k,c,e,z⟩
  .exact .inl l
  .exact .inr #[k,c,e,cellK x c e _ z]
 .obtain⟨v,z⟩:=I.cell x c e;exact#[v,cellK x c e v z]
 .obtain⟨m,⟨o,_,_,h,_⟩,_⟩:=I.loc;exact free _ o (λz=>(t _ z).2.1 rfl) h I.free
 .obtain⟨v,o,h,G⟩:=I.cell x c e;exact free c o (λz=>(t c z).2.2.1 x c e rfl) h (I.freeC x c e)
 .obtain⟨e,n,ne,N,d⟩:=I.pin p L;have y:p.1∉ch:=λz=>(t p.1 z).2.2.2 p L rfl;exact#[keep p.1 p.2 ne N y e n,free p.1 p.2 y e n,ne,N,d]
def Inv.un(I:Inv X pins σ H s)(u:Un X.fs [] H H' s.heap h')(j:HOk X.prog X.w H' h'):Inv X pins σ H' {s with heap:=h',toks:=t'}:=by
 obtain⟨m,⟨o,l,ep,c,r⟩,_⟩:=id I.loc;obtain⟨t,h⟩:=u.any c I.free #[5];exact I.step (g':=s.gens) (d':=s.drawn) (ch:=[]) (λ_ z=>nomatch z) (λb o _ a _ e n=>u.keep b o e n a #[5]) (λb o _ a _ e n=>u.slot b o e n a #[5]) (λb o _ e n=>u.free b o e n #[5]) (λb o _ e=>u.there b o e #[5]) u.tups u.frzs u.tbls (λp i=>by obtain⟨q,g,f,d,k⟩:=i;rw[c]at d;cases d;exact#[_,g,f,h,k]) j I.bare
def Inv.call(I:Inv X pins σ H s)(u:Un (frs X.stack) ch H H' s.heap h')(t:HOk X.prog X.w H' h')(l:AllBare g')
  (f:∀b∈ch,(b∈X.ex\/X.s₀.heap.objs.size<=b)/\b≠X.env.locals/\(∀x c,X.env.cells.lookup x=some c->c≠b)/\∀p∈X.pn++pins,p.1≠b):
  Inv X pins σ H' {s with heap:=h',gens:=g',drawn:=d',toks:=t'}:=by
 obtain⟨m,⟨o,y,ep,g,r⟩,_⟩:=id I.loc;obtain⟨G,d⟩:=u.any g I.free λz=>(f _ z).2.1 rfl;exact I.step (ch:=ch) f (λb o d k a e n=>u.keep b o e n (λz=>(OT.mp (I.stkSub b z)).elim d k) a) (λb o _ _ a e n=>u.any e n a) (λb o a e n=>u.free b o e n a) (λb o a e=>u.there b o e a) u.tups u.frzs u.tbls (λA q=>by obtain⟨B,j,i,h,v⟩:=q;rw[g]at h;cases h;exact#[_,j,i,d,v]) t l
def Inv.turned(I:Inv X pins σ H s)(k:∀b o,b≠a->s.heap.get? b=some o->h'.get? b=some o)(y:H a=none)(f:a≠X.env.locals)
  (i:a∈X.ex\/X.s₀.heap.objs.size<=a) (j:∀x c,X.env.cells.lookup x=some c->c≠a) (l:∀p∈X.pn++pins,p.1≠a):Inv X pins σ H {s with heap:=h',toks:=t'}:=by
 have g:∀b u,H b=some u->b≠a:=λb u e z=>by rw[z,y]at e;cases e
 refine I.step (g':=s.gens) (d':=s.drawn) (ch:=[a]) (λb t=> ?_) (λb o _ _ d e _=>k b o (λz=>d (by simp[z])) e) (λb o _ _ d e _=>#[o.slots,k b o (λz=>d (by simp[z])) e]) (λ_ _ _ _ n=>n)
  (λb o d e=>#[o,k b o (λz=>d (by simp[z])) e]) (λ_ _ e=>e) (λ_ _ _ e=>e) (λb ps e=>#[#v[],by rw[e];simp]) (λm w=> ?_) (λb u e=> ?_) I.bare
 .have e:b=a:=#[5,t]
  subst e;exact#[i,f,j,l]
 .obtain⟨o,h,ep,A,r⟩:=w;exact#[o,h,ep,k _ o (Pk f) A,r]
 .refine(I.hok b u e).stay (λc v d q=>k c v ?_ q) (λ_ q=>q) λ_ _ q=>q;rcases d with z|z
  .rw[z];exact g b u e
  .exact g c _ z
def Inv.tok(I:Inv X pins σ H s)(t:Nat):Inv X pins σ H {s with toks:=t}:=I.un (h':=s.heap) (t':=t) Un.refl I.hok
def Inv.kept(I:Inv X pins σ H s)(k:∀b u,s.heap.get? b=some u->h'.get? b=some u):Inv X pins σ H {s with heap:=h',toks:=t'}:=I.un (Un.kept k) (I.hok.kept k)
def Inv.laid{a:Addr}(I:Inv X pins σ H s)(k:∀b u,s.heap.get? b=some u->h'.get? b=some u)(c:s.heap.objs.size<=a)(new:c7 X.prog X.w (upd H a o) h' a o):
  Inv X pins σ (upd H a o) {s with heap:=h',toks:=t'}:=I.un (Un.laid k c (I.hok.fresh c)) (I.hok.laid k c new)
def Inv.write(I:Inv X pins σ H s)(d:Mut (H x))(a:e=x\/H e=some (.own x))(k:∀b u,b≠e->s.heap.get? b=some u->h'.get? b=some u)(c:∃u,h'.get? e=some u)
  (new:c7 X.prog X.w (upd H x o) h' x o):Inv X pins σ (upd H x o) {s with heap:=h',toks:=t'}:=I.un (Un.write d a k c) (I.hok.write d a k c new)
def Inv.pins_of(I:Inv X pins σ H s)(h:∀p∈b,s.heap.get? p.1=some p.2/\H p.1=none/\p.1≠X.env.locals/\p.1∉X.fs/\∀v,p.2.data≠ .cell v):Inv X b σ H s:=
 #[I.ok,I.os,I.bare,I.base,I.loc,I.cell,I.free,I.freeC,λp a=>(Pg.mp a).elim (λz=>I.pin p (QW _ z)) (h p),I.hok,I.len]
def A4{N:List Str}(e:N.Nodup){i j:Nat}(a:N[i]?=some x)(b:N[j]?=some x):i=j:=by obtain⟨f,c⟩:=O1.mp a;obtain⟨g,d⟩:=O1.mp b;exact(SV e).mp (c.trans d.symm)
def wt{M:Model}{A:Around}{E:Value->Shared->Prop}{i:Nat}{x:Str}{v:V}{u:Value}{Q:Unit->Shared->Prop}(I:Inv X pins σ H s)(hN:X.N.Nodup)(L:X.N[i]?=some x)(t:Loc X.env.scope x)(r:cC v u)
  (h:∀s',Inv X pins (σ.set i (some v)) H s'->(∃a,Heap.SameBut a s.heap s'.heap/\(a=X.env.locals\/X.env.cells.lookup x=some a))->Q Unit.unit s') (hf:X.fn x=true\/X.env.scope.names.lookup x=some .local:=by first|exact .inl rfl|exact .inr rfl|assumption):wpAny M A (storeName X.env x u) Q E s:=by
 obtain⟨m,hn,hl⟩:=id I.loc;have bt:(X.env.scope.kind== .class||(X.env.scope.kind== .module&&X.env.locals !=X.env.globals))=false:=by rw[I.ok.kind];rfl
 have bb:i<σ.length:=by rw[I.len];exact(O1.mp L).1
 have cne:=I.cne;have tracked:∀ {a:Addr} {h':Heap},(∃o,s.heap.get? a=some o/\H a=none)->Heap.SameBut a s.heap h'->HOk X.prog X.w H h':=λ{a h'} ha f b ob e=>by
  obtain⟨_,_,a6⟩:=ha;refine(I.hok b ob e).stay (λc U l q=>(f.2 c ?_).trans q) (λ_ q=>q) λ_ _ q=>q;rintro rfl;rcases l with rfl|l
  .rw[a6]at e;cases e
  .rw[a6]at l;cases l
 rcases t with G|G
 .refine wpAny_storeName_local G hn (λh' bx f=> ?_) bt;obtain⟨oL,_,_,bB,_⟩:=id hn;refine h _ #[I.ok,I.os,I.bare,#[λb o e n J t=> ?_,λb o e n J t=> ?_,I.base.free,λb o e t=> ?_,I.base.tups,I.base.frzs,I.base.tbls],#[_,bx,λj y v' g B e3=> ?_],λy c e=> ?_,I.free,I.freeC,λp hp=> ?_,tracked #[oL,bB,I.free] f,#[5,I.len]] #[_,f, .inl rfl]
  .exact(f.2 b (Qf (OW (PB e) I.ok.above))).trans (I.base.keep b o e n J t)
  .obtain⟨sl,g⟩:=I.base.slot b o e n J t;exact#[sl,(f.2 b (Qf (OW (PB e) I.ok.above))).trans g]
  .obtain⟨o',g⟩:=I.base.there b o e t;exact#[o',(f.2 b (Qf (OW (PB e) I.ok.above))).trans g]
  .by_cases K:j=i
   .subst K;rw[L]at g;cases g;rw[List.getElem?_set_self bb]at B;cases B;exact#[u,r, .inl #[G,#[5]]]
   .rw[List.getElem?_set_ne (Pk K)]at B;obtain⟨u',r',q⟩:=hl j y v' g B e3;refine#[u',r',6];rcases q with ⟨k,e⟩|⟨k,c,e,z⟩
    .refine .inl #[k,6];have:y≠x:=λe=>K (A4 hN g (e▸L));simp[this,e]
    .exact .inr #[k,c,e,z.sameBut f (cne y c e)]
  .obtain⟨U,z⟩:=I.cell y c e;exact#[U,z.sameBut f (cne y c e)]
  .obtain⟨e,n,ne,nf,d⟩:=I.pin p hp;exact#[(f.2 p.1 ne).trans e,n,ne,nf,d]
 .have ag:X.fn x=true:=by
   rcases hf with z|z
   .exact z
   .rw[z]at G;cases G
  obtain⟨c,l⟩:=I.ok.has x (.inl G);obtain⟨U,z⟩:=I.cell x c l;refine wpAny_storeName_cell I.ok.kind G l z (λh' a4 f=> ?_);obtain⟨oc,bc,bN⟩:=id z;refine h {s with heap:=h'} #[I.ok,I.os,I.bare,#[λb o e n J t=> ?_,λb o e n J t=> ?_,I.base.free,λb o e t=> ?_,I.base.tups,I.base.frzs,I.base.tbls],#[m,hn.sameBut f (Pk (cne x c l)),λj y v' g B e3=> ?_],λy O e=> ?_,I.free,I.freeC,λp hp=> ?_,tracked #[oc,bc,I.freeC x c l] f,#[5,I.len]] #[c,f, .inr l]
  .exact(f.2 b (Qf (OW (PB e) (I.ok.cab x c ag l)))).trans (I.base.keep b o e n J t)
  .obtain⟨sl,g⟩:=I.base.slot b o e n J t;exact#[sl,(f.2 b (Qf (OW (PB e) (I.ok.cab x c ag l)))).trans g]
  .obtain⟨o',g⟩:=I.base.there b o e t;exact#[o',(f.2 b (Qf (OW (PB e) (I.ok.cab x c ag l)))).trans g]
  .by_cases K:j=i
   .subst K;rw[L]at g;cases g;rw[List.getElem?_set_self bb]at B;cases B;exact#[u,r, .inr #[.inl G,c,l,a4]]
   .rw[List.getElem?_set_ne (Pk K)]at B;obtain⟨u',r',q⟩:=hl j y v' g B e3;refine#[u',r',6];rcases q with q|⟨k,O,e,z'⟩
    .exact .inl q
    .refine .inr #[k,O,e,z'.sameBut f ?_];rintro rfl;exact K (A4 hN g (I.ok.inj _ _ _ e l▸L))
  .by_cases a5:O=c
   .subst a5;exact#[_,a4]
   .obtain⟨w2,z2⟩:=I.cell y O e;exact#[w2,z2.sameBut f a5]
  .obtain⟨e,n,ne,nf,d⟩:=I.pin p hp;refine#[(f.2 p.1 ?_).trans e,n,ne,nf,d];intro q;rw[q,bc]at e;have q':oc=p.2:=Qd e;exact d U (by rw[<-q'];exact bN)
def Af{M:Model}{A:Around}{E:Value->Shared->Prop}{i:Nat}{x:Str}{v:V}{u:Value}{Q:Unit->Shared->Prop}(I:Inv X pins σ H s)(c:X.N.Nodup)(e:X.N[i]?=some x)(f:Loc X.env.scope x)(r:cC v u)
  (h:∀a,Inv X pins (σ.set i (some v)) H a->Q Unit.unit a) (d:X.fn x=true\/X.env.scope.names.lookup x=some .local:=by first|exact .inl rfl|exact .inr rfl|assumption):wpAny M A (storeName X.env x u) Q E s:=
 wt I c e f r (λa b _=>h a b) d
def Inv.call'{a:Shared}(I:Inv X pins σ H s)(g:a.os=s.os)(u:Un (frs X.stack) ch H H' s.heap a.heap)(h:HOk X.prog X.w H' a.heap)(f:AllBare a.gens)
  (d:∀b∈ch,(b∈X.ex\/X.s₀.heap.objs.size<=b)/\b≠X.env.locals/\(∀x c,X.env.cells.lookup x=some c->c≠b)/\∀p∈X.pn++pins,p.1≠b):Inv X pins σ H' a:=by
 obtain⟨h',g',d',t',i⟩:=a;have e:i=s.os:=g;subst e;exact I.call (g':=g') (t':=t') (d':=d') u h f d
end
abbrev XK:=Value->Option Addr->Hp->Prop
abbrev St:=List (Option V)
abbrev VK:=V->Hp->Prop
abbrev TE:=St->Hp->VK->Prop
abbrev TT:=St->Hp->(Bool->Hp->Prop)->Prop
abbrev TA:=St->Hp->(List V->Hp->Prop)->Prop
structure Ends where
 nx:St->Hp->Prop
 rt:VK
 bk:St->Hp->Prop:=λ_ _=>False
 ct:St->Hp->Prop:=λ_ _=>False
abbrev TS:=Ends->St->Hp->Prop
def EP(X:Cx)(a:List (Addr×Obj))(c:St)(Q:VK)(u:Value)(b:Shared):Prop:=∃v H',Inv X a c H' b/\cC v u/\Q v H'
def TP(X:Cx)(a:List (Addr×Obj))(d:St)(Q:Bool->Hp->Prop)(b:Bool)(c:Shared):Prop:=∃H',Inv X a d H' c/\Q b H'
def AP(X:Cx)(a:List (Addr×Obj))(c:St)(Q:List V->Hp->Prop)(us:List Value)(b:Shared):Prop:=∃vs H',Inv X a c H' b/\Vals vs us/\Q vs H'
def SP(X:Cx)(b:List (Addr×Obj))(D:Ends)(f:Flow)(c:Shared):Prop:=
 match f with
 | .next=>∃a H',Inv X b a H' c/\D.nx a H'
 | .brk=>∃a H',Inv X b a H' c/\D.bk a H'
 | .cont=>∃a H',Inv X b a H' c/\D.ct a H'
 | .ret u=>∃v a H',Inv X b a H' c/\cC v u/\D.rt v H'
def PE(X:Cx)(e:Expr)(t:TE):Prop:=
 ∀(b:List (Addr×Obj)) (s:Shared) (a:St) (H:Hp) (Q:VK),Inv X b a H s->t a H Q->wpAny (model X.prog X.w) X.A (eval e X.env) (EP X b a Q) X.xe s
def PT(X:Cx)(e:Expr)(t:TT):Prop:=
 ∀(b:List (Addr×Obj)) (s:Shared) (a:St) (H:Hp) (Q:Bool->Hp->Prop),Inv X b a H s->t a H Q->wpAny (model X.prog X.w) X.A (isTrue e X.env (eval e X.env)) (TP X b a Q) X.xe s
def PW(X:Cx)(e:Expr)(t:TT):Prop:=
 ∀(whole:Sem Value) (b:List (Addr×Obj)) (s:Shared) (a:St) (H:Hp) (Q:Bool->Hp->Prop),Inv X b a H s->t a H Q->wpAny (model X.prog X.w) X.A (isTrue e X.env whole) (TP X b a Q) X.xe s
def PW.pt(h:PW X e t):PT X e t:=h _
def PA(X:Cx)(c:List Expr)(t:TA):Prop:=
 ∀(pos:Pos) (b:List (Addr×Obj)) (s:Shared) (a:St) (H:Hp) (Q:List V->Hp->Prop),Inv X b a H s->t a H Q->wpAny (model X.prog X.w) X.A (spliced (backTo pos (starEach c X.env))) (AP X b a Q) X.xe s
def PS(X:Cx)(st:Stmt)(t:TS):Prop:=
 ∀(a:List (Addr×Obj)) (s:Shared) (b:St) (H:Hp) (D:Ends),Inv X a b H s->t D b H->wpAny (model X.prog X.w) X.A (exec st X.env) (SP X a D) X.xe s
def PSs(X:Cx)(st:List Stmt)(t:TS):Prop:=
 ∀(a:List (Addr×Obj)) (s:Shared) (b:St) (H:Hp) (D:Ends),Inv X a b H s->t D b H->wpAny (model X.prog X.w) X.A (execs st X.env) (SP X a D) X.xe s
def thn(h:wpAny M A t Q E s)(b:∀a s,Q a s->Q' a s):wpAny M A t Q' E s:=S6 h b λ_ _ x=>x
section
variable{X:Cx}
inductive RdV(o:Option (Option V))(H:Hp)(Q:VK):Prop
 |mk(v:V) (e:o=some (some v)) (q:Q v H):RdV o H Q
def Mr(i:Nat):TE:=λa H Q=>RdV a[i]? H Q
def tC(v:V):TE:=λ_ H Q=>Q v H
def MN{i:Nat}{x:Str}{pos:Pos}(j:X.N[i]?=some x)(p:Vis X.env.scope x)(d:(x==("__debug__":Str))=false:=by decide)(k:(x==("__classdict__":Str))=false:=by decide):PE X (.Name x pos) (Mr i):=by
 intro q s t H Q I h;obtain⟨v,e,h⟩:=h;obtain⟨m,o,hl⟩:=I.loc;obtain⟨u,r,l⟩:=hl i x v j e p;have b:EP X q t Q u s:=#[v,H,I,r,h];rcases l with ⟨a,n⟩|⟨a,c,f,g⟩
 .exact wpAny_Name (wpAny_loadName_local I.ok.kind a o n b) d
 .rcases a with a|a
  .exact wpAny_Name (wpAny_loadName_cell I.ok.kind a f g b) d
  .exact wpAny_Name (wpAny_loadName_free I.ok.kind a f g b k) d
def af{i j pos}:PE X (.Constant (.int i) j pos) (tC (.int i)):=λ_ _ _ H _ I h=>wpAny_Constant_int #[.int i,H,I.tok _,#[7],h]
def iY{b j pos}:PE X (.Constant (.bool b) j pos) (tC (.bl b)):=λ_ _ _ H _ I h=>Constant_bool #[.bl b,H,I,2,h]
def jJ{j pos}:PE X (.Constant .none j pos) (tC .non):=λ_ _ _ H _ I h=>Constant_none #[.non,H,I,2,h]
def gd{x j pos}:PE X (.Constant (.str x) j pos) (tC (.str x)):=λ_ _ _ H _ I h=>Calls.Constant_str #[.str x,H,I.tok _,#[7],h]
def Gl(X:Cx)(x:Str):Prop:=X.env.kindOf x=some .globalImplicit
def yU{E:Value->Shared->Prop}{d:List (Addr×Obj)}{s:Shared}{e:St}{H:Hp}{x:Str}{u:Value}{pos:Pos}{Q:Value->Shared->Prop}(I:Inv X d e H s)(b:Gl X x)(c:X.mg x=some u)(h:Q u s)
  (a:(x==("__debug__":Str))=false:=by decide):wpAny (model X.prog X.w) X.A (eval (.Name x pos) X.env) Q E s:=
 Calls.Name_function_global I.ok.kind b (Calls.loadGlobal_global (by rw[I.ok.glob];exact I.mod.glob.keeps I.bk) c h) a
def ko{E:Value->Shared->Prop}{i:List (Addr×Obj)}{s:Shared}{j:St}{H:Hp}{x:Str}{u:Value}{pos:Pos}{Q:Value->Shared->Prop}(I:Inv X i j H s)(d:Gl X x)(e:X.mg x=none)(g:bootBuiltins x=some u)(h:Q u s)
  (f:x≠ "__name__":=by decide) (c:(x==("__debug__":Str))=false:=by decide):wpAny (model X.prog X.w) X.A (eval (.Name x pos) X.env) Q E s:=by
 obtain⟨k,a,b⟩:=I.mod.blt;exact Calls.Name_function_global I.ok.kind d (Calls.loadGlobal_builtin (by rw[I.ok.glob];exact I.mod.glob.keeps I.bk) e (by rw[I.ok.blt];exact a.keeps I.bk) ((b x f).trans g) h) c
def eS{x:Str}{v:V}{u:Value}{pos:Pos}(b:Gl X x)(c:X.mg x=some u)(r:cC v u)(a:(x==("__debug__":Str))=false:=by decide):PE X (.Name x pos) (tC v):=
 λ_ _ _ H _ I h=>yU I b c #[v,H,I,r,h] a
def nQ{x:Str}{v:V}{u:Value}{pos:Pos}(b:Gl X x)(c:X.mg x=none)(e:bootBuiltins x=some u)(r:cC v u)(d:x≠ "__name__":=by decide)(a:(x==("__debug__":Str))=false:=by decide):PE X (.Name x pos) (tC v):=
 λ_ _ _ H _ I h=>ko I b c e #[v,H,I,r,h] d a
variable{a b:Expr}{ta tb:TE}{pos:Pos}
inductive RdB(Q:Bool->Hp->Prop)(x:V)(H:Hp):Prop
 |mk(k:Bool) (e:x= .bl k) (q:Q k H):RdB Q x H
def tB(t:TE):TT:=λc H Q=>t c H (RdB Q)
def fj{e:Expr}{t:TE}(h:PE X e t)(g:∀whole,isTrue e X.env whole=(do let v<-whole;standAt e.pos;holding [v] (truthy v)):=by intro _;rfl):PT X e (tB t):=by intro j s m H Q I i;refine isTrue_plain (thn (h j s m H _ I i) λv n ⟨x,c,f,l,k⟩=> ?_) (g _);obtain⟨d,rfl,q⟩:=k;cases l;exact RK #[c,f,q]
variable{tA tB':TT}{rest:List Expr}
def OC(t u:TT):TT:=λe H Q=>t e H λc d=>if c=true then u e d Q else Q false d
def tOr(t u:TT):TT:=λe H Q=>t e H λc d=>if c=true then Q true d else u e d Q
def OA(t:TT):TT:=λe H Q=>t e H λc d=>Q (!c) d
def fP(d:PT X a tA):PW X (.BoolOp .And [a] pos) tA:=by
 intro j f s g H Q I h;refine isTrue_and (thn (d f s g H Q I h) λc i e=> ?_);cases c with
 |true=>exact isTrue_and_nil e
 |false=>exact e
def kg(d:PT X a tA):PW X (.BoolOp .Or [a] pos) tA:=by
 intro j f s g H Q I h;refine isTrue_or (thn (d f s g H Q I h) λc i e=> ?_);cases c with
 |false=>exact isTrue_or_nil e
 |true=>exact e
def eg(j:PT X a tA)(k:PW X (.BoolOp .And (b::rest) pos) tB'):PW X (.BoolOp .And (a::b::rest) pos) (OC tA tB'):=by
 intro m f s i H Q I h;refine isTrue_and (thn (j f s i H _ I h) λc l ⟨d,e,g⟩=> ?_);cases c with
 |true=>exact k m f l i d Q e g
 |false=>exact#[d,e,g]
def jf(j:PT X a tA)(k:PW X (.BoolOp .Or (b::rest) pos) tB'):PW X (.BoolOp .Or (a::b::rest) pos) (tOr tA tB'):=by
 intro m f s i H Q I h;refine isTrue_or (thn (j f s i H _ I h) λc l ⟨d,e,g⟩=> ?_);cases c with
 |true=>exact#[d,e,g]
 |false=>exact k m f l i d Q e g
def oO(e:PT X a tA):PT X (.UnaryOp .Not a pos) (OA tA):=by intro f s g H Q I h;exact isTrue_not (e f s g H (λc d=>Q (!c) d) I h)
def NQ(ta tb:TE):TE:=λe H Q=>ta e H (RdB λc d=>if c=true then tb e d Q else Q (.bl false) d)
def NJ(ta:TE):TE:=λe H Q=>ta e H (RdB λc d=>Q (.bl (!c)) d)
def Cy{op}(h:PE X a t):PE X (.BoolOp op [a] pos) t:=λd s e H Q I c=>BoolOp_one (h d s e H Q I c)
def yt(j:PE X a ta)(k:PE X (.BoolOp .And (b::rest) pos) tb):PE X (.BoolOp .And (a::b::rest) pos) (NQ ta tb):=by
 intro g s i H Q I h;refine BoolOp_and (thn (j g s i H _ I h) λv m ⟨x,e,f,l,d⟩=> ?_);obtain⟨c,rfl,d⟩:=d;cases l;refine RK ?_;cases c with
 |true=>exact k g m i e Q f d
 |false=>exact#[.bl false,e,f,2,d]
def MP(g:PE X a ta):PE X (.UnaryOp .Not a pos) (NJ ta):=by intro i s k H Q I h;refine UnaryOp_ (thn (g i s k H _ I h) λv l ⟨x,e,f,j,d⟩=> ?_);obtain⟨c,rfl,d⟩:=d;cases j;exact not_of (RK #[.bl (!c),e,f,2,d])
def tIf(t:TT)(ta tb:TE):TE:=λd H Q=>t d H λc e=>if c=true then ta d e Q else tb d e Q
def mw(n:PT X c tA)(l:PE X a ta)(m:PE X b tb):PE X (.IfExp c a b pos) (tIf tA ta tb):=by
 intro e s f H Q I h;refine wpAny_IfExp (thn (n e s f H _ I h) λd k ⟨g,i,j⟩=> ?_);cases d with
 |true=>exact l e k f g Q i j
 |false=>exact m e k f g Q i j
end
def SqL(K:Frag)(H:Hp)(a:Addr)(xs:List V):Prop:=
 Rd H a (.lst xs)\/
  ∃(o:Obj)(b:Array Value)(n:Nat),K.lookup a=some o/\o.cls= .type "list"/\o.dict=none/\o.data= .seq b n/\b.size<=sizeLine/\Vals xs b.toList
def SqT(K:Frag)(H:Hp)(a:Addr)(xs:List V):Prop:=
 Rd H a (.tup xs)\/
  ∃(o:Obj)(b:Array Value)(n:Nat),K.lookup a=some o/\o.cls= .type "tuple"/\o.data= .seq b n/\b.size<=sizeLine/\Vals xs b.toList
def OK:Value->Option V
 | .none=>some .non
 | .bool b=>some (.bl b)
 | .int i _=>some (.int i)
 | .str x _=>some (.str x)
 | .bytes b _=>some (.byt b)
 | .float b _=>some (.flt b)
 | .ref a=>some (.ref a)
 | .type n=>some (.ty n)
 |_=>none
def cC.abs(r:cC x u):OK u=some x:=by
 cases x with
 |non=>cases r;rfl
 |bl _=>cases r;rfl
 |int _=>obtain⟨t,rfl⟩:=r;rfl
 |str _=>obtain⟨t,rfl⟩:=r;rfl
 |byt _=>obtain⟨t,rfl⟩:=r;rfl
 |flt _=>obtain⟨t,rfl⟩:=r;rfl
 |ref _=>cases r;rfl
 |ty _=>cases r;rfl
def cC.inj(r:cC x u)(q:cC y u):x=y:=Qd (r.abs.symm.trans q.abs)
def Vals.inj:∀ {xs a:List V} {us:List Value},Vals xs us->Vals a us->xs=a
 |_,_,_, .nil, .nil=>rfl
 |_,_,_, .cons r t, .cons b t'=>by rw[r.inj b,Vals.inj t t']
section
variable{X:Cx}{pins:List (Addr×Obj)}{σ:St}{H:Hp}{s:Shared}{a:Addr}{xs ys:List V}
def SqL.of{K:Frag}(h:H a=some (.lst xs)):SqL K H a xs:= .inl (.inl h)
def SqT.of{K:Frag}(h:H a=some (.tup xs)):SqT K H a xs:= .inl (.inl h)
def Inv.list(I:Inv X pins σ H s)(h:SqL X.K H a xs):∃b:List Value,Vals xs b/\PlainL s.heap a b.toArray/\xs.length<=sizeLine:=by
 rcases h with h|⟨o,b,n,f,c,d,g,i,r⟩
 .obtain⟨z,b,n,r,e⟩:=h.ok I.hok;exact#[b,r,#[_,n,e,222],z]
 .refine#[b.toList,r,#[o,n,I.kIn a o f,c,d,#[5,g]],6];have e:=r.length;simp only[RR]at e;lia
def Inv.tuple(I:Inv X pins σ H s)(h:SqT X.K H a xs):∃b:List Value,Vals xs b/\IsTup s.heap a b.toArray/\xs.length<=sizeLine:=by
 rcases h with h|⟨o,b,n,d,c,f,g,r⟩
 .obtain⟨z,b,r,p⟩:=h.ok I.hok;exact#[b,r,p,z]
 .refine#[b.toList,r,#[o,I.kIn a o d,c,n,#[5,f]],6];have e:=r.length;simp only[RR]at e;lia
def Inv.list_inj(I:Inv X pins σ H s)(h:SqL X.K H a xs)(h':SqL X.K H a ys):xs=ys:=by
 obtain⟨f,r,⟨o,n,e,_,_,d⟩,_⟩:=I.list h;obtain⟨its',g,⟨j,i,b,_,_,d'⟩,_⟩:=I.list h';rw[e]at b;cases b;rw[d]at d';injection d' with c _
 have:f=its':=#[5,PN Array.toList c]
 subst this;exact r.inj g
def Inv.tuple_inj(I:Inv X pins σ H s)(h:SqT X.K H a xs)(h':SqT X.K H a ys):xs=ys:=by
 obtain⟨f,r,⟨o,e,_,n,d⟩,_⟩:=I.tuple h;obtain⟨its',g,⟨j,b,_,i,d'⟩,_⟩:=I.tuple h';rw[e]at b;cases b;rw[d]at d';injection d' with c _
 have:f=its':=#[5,PN Array.toList c]
 subst this;exact r.inj g
end
abbrev Cx.wish(X:Cx)(E:Value->Shared->Prop):Cx:={X with xe:=E}
abbrev Cx.nox(X:Cx):Cx:=X.wish λ_ _=>False
def Cx.Ok.wish{X:Cx}(ok:X.Ok)(E:Value->Shared->Prop):(X.wish E).Ok:=
 #[ok.mod,ok.kind,ok.glob,ok.blt,ok.above,ok.inj,ok.has,ok.cab,ok.hd,ok.frames,ok.stk,ok.exf,ok.bs,ok.bsz,ok.noex,ok.exfs,ok.funs,ok.frf]
def Cx.Ok.unwish{X:Cx}(ok:(X.wish E).Ok):X.Ok:=
 #[ok.mod,ok.kind,ok.glob,ok.blt,ok.above,ok.inj,ok.has,ok.cab,ok.hd,ok.frames,ok.stk,ok.exf,ok.bs,ok.bsz,ok.noex,ok.exfs,ok.funs,ok.frf]
section
variable{X:Cx}{pins:List (Addr×Obj)}{σ:St}{H:Hp}{s:Shared}{E:Value->Shared->Prop}
def Inv.wish(I:Inv X pins σ H s)(E:Value->Shared->Prop):Inv (X.wish E) pins σ H s:=#[I.ok.wish E,I.os,I.bare,I.base,I.loc,I.cell,I.free,I.freeC,I.pin,I.hok,I.len]
def Inv.unwish(I:Inv (X.wish E) pins σ H s):Inv X pins σ H s:=#[I.ok.unwish,I.os,I.bare,I.base,I.loc,I.cell,I.free,I.freeC,I.pin,I.hok,I.len]
def SP.unwish(h:SP (X.wish E) pins D f s'):SP X pins D f s':=by
 cases f with
 |next=>obtain⟨a,H',I,q⟩:=h;exact#[a,H',I.unwish,q]
 |brk=>obtain⟨a,H',I,q⟩:=h;exact#[a,H',I.unwish,q]
 |cont=>obtain⟨a,H',I,q⟩:=h;exact#[a,H',I.unwish,q]
 |ret u=>obtain⟨v,a,H',I,r,q⟩:=h;exact#[v,a,H',I.unwish,r,q]
def PSs.nox{st:List Stmt}(h:PSs X.nox st t):PSs X st t:=λpins s σ H D I a=>
 S6 (h pins s σ H D (I.wish _) a) (λ_ _ q=>q.unwish) λ_ _ z=>False.elim z
end
section
variable{X:Cx}{st:Stmt}{rest:List Stmt}{t u:TS}{e:Expr}{te:TE}{pos:Pos}
def LO:TS:=λD a H=>D.nx a H
def EW(t u:TS):TS:=λD a H=>t {D with nx:=u D} a H
def aQ:PSs X [] LO:=λ_ _ a H _ I h=>S7 #[a,H,I,h]
def ae(c:PS X st t)(d:PSs X rest u):PSs X (st::rest) (EW t u):=by
 intro a s i H D I h;refine wpAny_execs_cons (thn (c a s i H {D with nx:=u D} I h) λf g q=> ?_);cases f with
 |next=>
  obtain⟨j,H',b,q⟩:=q;exact d a g j H' D b q
 |ret v=>exact q
 |brk=>exact q
 |cont=>exact q
def aj(a:PS X st t):PSs X [st] t:=by
 intro b s c H D I h;refine wpAny_execs_cons (thn (a b s c H D I h) λf d q=> ?_);cases f with
 |next=>exact S7 q
 |ret v=>exact q
 |brk=>exact q
 |cont=>exact q
def Inv.quiet{a:St}(I:Inv X pins a H s):interactive X.env=false:=by simp[interactive,I.ok.kind]
def NM(te:TE):TS:=λD a H=>te a H λ_ b=>D.nx a b
def dI(d:PE X e te)(f:swapsWith e none pos.line X.env=pure false:=by rfl):PS X (.Expr e pos) (NM te):=by intro g s a H D I h;exact wpAny_Expr_any (thn (d g s a H _ I h) λv k ⟨x,b,c,j,i⟩=>#[a,b,c,i]) I.quiet f
def Oz(te:TE):TS:=λD a H=>te a H D.rt
def aF(d:PE X e te):PS X (.Return (some e) pos) (Oz te):=by intro f s a H D I h;exact wpAny_Return_some (thn (d f s a H _ I h) λv j ⟨x,b,c,i,g⟩=>#[x,a,b,c,i,g])
def OB(c:TT)(t u:TS):TS:=λD a H=>c a H λb d=>if b=true then t D a d else u D a d
def bA(o:PT X c tc)(m:PSs X a t)(n:PSs X b u):PS X (.If c a b pos) (OB tc t u):=by
 intro f s g H D I h;refine wpAny_If (thn (o f s g H _ I h) λd l ⟨i,j,k⟩=> ?_);cases d with
 |true=>exact m f l g i D j k
 |false=>exact n f l g i D j k
end
abbrev TG:=V->St->Hp->(St->Hp->Prop)->Prop
abbrev TGs:=List V->St->Hp->(St->Hp->Prop)->Prop
def PG(X:Cx)(target:Expr)(t:TG):Prop:=
 ∀(a:List (Addr×Obj)) (s:Shared) (b:St) (H:Hp) (v:V) (u:Value) (Q:St->Hp->Prop),Inv X a b H s->cC v u->t v b H Q->
  wpAny (model X.prog X.w) X.A (assign target X.env u) (λ_ d=>∃c H',Inv X a c H' d/\Q c H') X.xe s
def PGs(X:Cx)(ts:List Expr)(t:TGs):Prop:=
 ∀(a:List (Addr×Obj)) (s:Shared) (b:St) (H:Hp) (vs:List V) (us:List Value) (Q:St->Hp->Prop),Inv X a b H s->Vals vs us->t vs b H Q->
  wpAny (model X.prog X.w) X.A (assignInOrder ((assignEach ts X.env).map (·.2)) us) (λ_ d=>∃c H',Inv X a c H' d/\Q c H') X.xe s
section
variable{X:Cx}{pos:Pos}
def br(i:Nat):TG:=λv a H Q=>Q (a.set i (some v)) H
def D7{i:Nat}{x:Str}(b:X.N.Nodup)(d:X.N[i]?=some x)(e:Loc X.env.scope x)(c:X.fn x=true\/X.env.scope.names.lookup x=some .local:=by first|exact .inl rfl|exact .inr rfl|assumption):PG X (.Name x pos) (br i):=by intro f s j H v u Q I r h;exact wpAny_assign_Name (Af I b d e r (λg a=>#[_,H,a,h]) c)
def OH:TGs:=λvs a H Q=>vs=[]/\Q a H
inductive RdC(t:TG)(u:TGs)(vs:List V)(σ:St)(H:Hp)(Q:St->Hp->Prop):Prop
 |mk(v:V) (r:List V) (e:vs=v::r) (q:t v σ H λσ' H'=>u r σ' H' Q):RdC t u vs σ H Q
def Oe(t:TG)(u:TGs):TGs:=λvs a H Q=>RdC t u vs a H Q
def nO:PGs X [] OH:=by intro b s a H vs us Q I r h;obtain⟨e,h⟩:=h;subst e;cases r;exact assignInOrder_nil #[a,H,I,h]
def fb{e:Expr}{a:List Expr}{t:TG}{u:TGs}(g:PG X e t)(i:PGs X a u)
  (j:(assignEach (e::a) X.env).map (·.2)=assign e X.env::(assignEach a X.env).map (·.2):=by rfl):PGs X (e::a) (Oe t u):=by
 intro b s n H vs us Q I r h;obtain⟨v,p,f,h⟩:=h;subst f;cases r with
 |cons r l=>
  rw[j];refine assignInOrder_cons (thn (g b s n H _ _ _ I r h) λ_ m ⟨o,c,d,k⟩=> ?_);exact i b m o c _ _ Q d l k
inductive RdT(K:Frag)(n:Nat)(t:TGs)(v:V)(σ:St)(H:Hp)(Q:St->Hp->Prop):Prop
 |mk(a:Addr) (xs:List V) (e:v= .ref a) (s:SqT K H a xs) (l:xs.length=n) (q:t xs σ H Q):RdT K n t v σ H Q
def Od(K:Frag)(n:Nat)(t:TGs):TG:=λv a H Q=>RdT K n t v a H Q
def MM{c:List Expr}{k:Nat}{t:TGs}{n:Nat}(m:X.calm=true)(h:PGs X c t)
  (p:(assignEach c X.env).length=n:=by rfl) (w:(assignEach c X.env).findIdx? (·.1)=none:=by rfl):PG X (.Tuple c k pos) (Od X.K n t):=by
 intro f s i H v u Q I r d;obtain⟨a,xs,l,q,hl,d⟩:=d;subst l;cases r;obtain⟨A,g,x,z⟩:=I.tuple q;refine assign_Tuple_tuple (I.ok.hd m) x (by simp[p,<-hl,g.length]) w λh' y=> ?_;have j:Inv X f i H {s with heap:=h'}:=I.kept (t':=s.toks) λb o e=>y b o (Qf (PB e)) e;exact h f _ i H xs _ Q j #[5,g] d
def Cj(c:TE)(g:TG):TS:=λD a H=>c a H λx b=>g x a b D.nx
def Ik{a e:Expr}{c:TE}{g:TG}(k:PE X e c)(l:PG X a g)(m:swapsWithSole [a] e pos.line X.env=pure false:=by rfl)(n:swappedStores [a] e X.env=pure none:=by rfl)
  (j:(assignEach [a] X.env).map (·.2)=[assign a X.env]:=by rfl):PS X (.Assign [a] e pos) (Cj c g):=by
 intro b s d H D I h;refine wpAny_Assign_stores (thn (k b s d H _ I h) λv r ⟨x,f,i,p,o⟩=> ?_) m n;rw[j];exact thn (l b r d f x v _ i p o) λ_ t q=>q
def Ij{i:Nat}{x:Str}{e:Expr}{a:TE}{pos':Pos}(f:X.N.Nodup)(k:X.N[i]?=some x)(m:Loc X.env.scope x)(g:PE X e a)(l:swapsWith e (some (.Name x pos')) pos.line X.env=pure false:=by rfl)(j:X.fn x=true\/X.env.scope.names.lookup x=some .local:=by first|exact .inl rfl|exact .inr rfl|assumption):
  PS X (.Assign [.Name x pos'] e pos) (Cj a (br i)):=by
 intro n s q H D I h;refine wpAny_Assign_Name (thn (g n s q H _ I h) λv r ⟨y,b,c,p,o⟩=> ?_) l;exact Af c f k m p (λt d=>#[_,b,d,o]) j
end
section
variable{X:Cx}{pos:Pos}
def Mq(c:TT)(g:TS):TS:=λD a H=>∃W:Nat->St->Hp->Prop,(∃m,W m a H)/\∀m a H,W m a H->
 c a H λb d=>if b=true then∃N:St->Hp->Prop,(∀f H',N f H'->∃e,e<m/\W e f H')/\g {D with nx:=N,ct:=N,bk:=D.nx} a d else D.nx a d
def Ii(x:PassesOwn (model X.prog X.w) X.A X.env X.xe)(G:PT X c tc)(B:PSs X body tb):PS X (.While c body [] pos) (Mq tc tb):=by
 intro o s Q H D I h;obtain⟨W,⟨m0,M⟩,turn⟩:=h;refine wpAny_While (codeAny_whileLoop (λn J=>∃y H',Inv X o y H' J/\W n y H') ?_ m0 #[Q,H,I,M]);rintro n K ⟨i,q,z,O⟩;refine RG x (thn (G o K i q _ z (turn n i q O)) λb L ⟨r,t,e⟩=> ?_);cases b with
 |true=>
  obtain⟨N,u,e⟩:=e;rw[OP rfl];refine RG x (thn (B o L i r _ t e) λf U g=> ?_);cases f with
  |next=>
   obtain⟨d,a,j,m⟩:=g;obtain⟨l,k,p⟩:=u d a m;exact#[l,k,d,a,j,p]
  |cont=>
   obtain⟨d,a,j,m⟩:=g;obtain⟨l,k,p⟩:=u d a m;exact#[l,k,d,a,j,p]
  |brk=>exact g
  |ret v=>exact g
 |false=>
  rw[OO Pf];exact S7 #[i,r,t,e]
end
structure It where
 go:Nat->Hp->Prop
 yld:Nat->Hp->V->Hp->Prop
 stop:Nat->Hp->Prop
def zV(X:Cx)(a:List (Addr×Obj))(H:Hp)(b:Addr):Prop:=
 H b=none/\b≠X.env.locals/\b∉X.fs/\(b∈X.ex\/X.s₀.heap.objs.size<=b)/\(∀x c,X.env.cells.lookup x=some c->c≠b)/\∀p∈X.pn++a,p.1≠b
def Inv.fpOk{g:St}{s:Shared}{b:Addr}(I:Inv X pins g H s)(a:s.heap.objs.size<=b)(d:H' b=none):zV X pins H' b:=by
 refine#[d,TJ (OW I.lt a),I.nofs a, .inr (OY I.sz a),λx c e z=> ?_,λp f z=> ?_]
 .obtain⟨v,q⟩:=I.cell x c e;exact absurd (OW q.lt (by rw[z];exact a)) (QN _)
 .exact absurd (OW (PB (I.pin p f).1) (by rw[z];exact a)) (QN _)
structure Turn(P:Program)(w:World)(K:Frag)(tg:Expr)(J:It)(fp:List Addr)(it:Addr)(tn:Nat->Heap->Prop):Prop where
 mem:it∈fp
 obj:∀i h,tn i h->∀b∈fp,∃o,h.get? b=some o/\∀v,o.data≠ .cell v
 keep:∀i h h',tn i h->(∀b∈fp,∀o,h.get? b=some o->h'.get? b=some o)->tn i h'
 item:∀(X:Cx),X.prog=P->X.w=w->X.K=K->X.calm=true->∀(i:Nat) (pins:List (Addr×Obj)) (s:Shared) (σ:St) (H:Hp) (E:Value->Shared->Prop),Inv X pins σ H s->(∀b∈fp,zV X pins H b)->tn i s.heap->J.go i H->
  wpAny (model P w) X.A (pyNext (.ref it)) (λr s1=>∃u,r=some u/\
   wpAny (model P w) X.A (letOwnedTupleGo tg (.ref it) u) (λ_ s2=>∃x H',Inv X pins σ H' s2/\cC x u/\J.yld i H x H'/\tn (i+1) s2.heap/\∀b∈fp,H' b=none) E s1) E s
 done:∀(X:Cx),X.prog=P->X.w=w->X.K=K->X.calm=true->∀(i:Nat) (pins:List (Addr×Obj)) (s:Shared) (σ:St) (H:Hp) (E:Value->Shared->Prop),Inv X pins σ H s->(∀b∈fp,zV X pins H b)->tn i s.heap->J.stop i H->
  wpAny (model P w) X.A (pyNext (.ref it)) (λr s1=>r=none/\Inv X pins σ H s1) E s
 self:∀(A:Around)(i:Nat)(s:Shared)(Q:Value->Shared->Prop)(E:Value->Shared->Prop),tn i s.heap->Q (.ref it) s->wpAny (model P w) A (pyIter (.ref it)) Q E s
abbrev TI:=St->Hp->(It->Hp->Prop)->Prop
def PIE(X:Cx)(d:List (Addr×Obj))(i:St)(h:Expr)(R:It->Hp->Prop)(g:Value)(e:Shared):Prop:=
 ∃(c:Addr)(a:List Addr)(f:Nat->Heap->Prop)(J:It)(H':Hp),g= .ref c/\Inv X d i H' e/\Turn X.prog X.w X.K h J a c f/\f 0 e.heap/\(∀b∈a,zV X d H' b)/\R J H'
def PI(X:Cx)(d iter:Expr)(e:TI):Prop:=
 ∀(b:List (Addr×Obj)) (s:Shared) (a:St) (H:Hp) (R:It->Hp->Prop),Inv X b a H s->e a H R->
  wpAny (model X.prog X.w) X.A (eval iter X.env) (λv c=>wpAny (model X.prog X.w) X.A (pyIter v) (PIE X b a d R) X.xe c) X.xe s
def Ei{s:Shared}{o:Obj}(e:s.heap.get? it=some o)(b:o.cls= .type n)(c:o.data= .fields vs)
  (d:["enumerate","zip","dict_itemiterator","dict_reverseitemiterator","odict_iterator","itertools.zip_longest","itertools.pairwise"].contains n=false) (a:Q Unit.unit s):wpAny M A (letOwnedTupleGo f (.ref it) u) Q E s:=by
 unfold letOwnedTupleGo;cases f<;>first
  |exact QA a
  |(cases u<;>first
    |exact QA a
    |(refine P1 (wpAny_load e ?_)
      rw[b,c];show wpAny M A (if(["enumerate","zip","dict_itemiterator","dict_reverseitemiterator","odict_iterator","itertools.zip_longest","itertools.pairwise"].contains n&&vs[0]?==some (rawInt _))=true then _ else _) Q E s;rw[OO (by intro h;rw[d,P6]at h;cases h)];exact QA a))
def Itl(K:Frag)(a:Addr):It:=
 #[λi H=>∃xs x,SqL K H a xs/\xs[i]?=some x,λi H x H'=>H'=H/\∀xs,SqL K H a xs->xs[i]?=some x,λi H=>∃xs,SqL K H a xs/\xs.length<=i]
def Itt(K:Frag)(a:Addr):It:=
 #[λi H=>∃xs x,SqT K H a xs/\xs[i]?=some x,λi H x H'=>H'=H/\∀xs,SqT K H a xs->xs[i]?=some x,λi H=>∃xs,SqT K H a xs/\xs.length<=i]
def Itr(a:Int)(n:Nat):It:=#[λi _=>i<n,λi H x H'=>H'=H/\x= .int (a+i),λi _=>n<=i]
def EO{P:Program}{w:World}{K:Frag}{tg:Expr}(a g:Addr):Turn P w K tg (Itl K a) [g] g (λi h=>h.IsListIter g a i) where
 mem:=#[5]
 obj:=λi h st b f=>by
  have e:b=g:=#[5,f]
  subst e;obtain⟨o,e,c,d⟩:=st;exact#[o,e,λv z=>by rw[d]at z;cases z]
 keep:=λi h h' st k=>st.at λo e=>k g #[5] o e
 item:=by intro X t A r G i J s M H E I j st y;subst t A r;obtain⟨xs,x,l,hx⟩:=y;obtain⟨U,B,p,hz⟩:=I.list l;obtain⟨u,Q,ru⟩:=B.get hx;obtain⟨f0,f1,f2,m,n,q⟩:=j g #[5];refine wpAny_pyNext_list_item st p.isList (x:=u) #[5,Q] λh' L sb=> ?_;have N:Inv X J M H {s with heap:=h'}:=I.turned (t':=s.toks) (λb o f e=>(sb.2 b f).trans e) f0 f1 m n q;obtain⟨o,e,c,d⟩:=id L;exact#[u,2,Ei (s:={s with heap:=h'}) e c d ∅ #[x,H,N,ru,#[2,λys hy=>by rw[I.list_inj hy l];exact hx],L,λb f=>(j b f).1]]
 done:=by intro X t A r G i J s M H E I j st y;subst t A r;obtain⟨xs,l,hx⟩:=y;obtain⟨U,B,p,hz⟩:=I.list l;obtain⟨f0,f1,f2,m,n,q⟩:=j g #[5];have hl:=B.length;exact wpAny_pyNext_list_end (I.ok.hd G) st p.isList (by simp;lia) λh' O=>#[2,I.turned (t':=s.toks) (λb o f e=>O b o f e) f0 f1 m n q]
 self:=λ_ _ _ _ _ st h=>wpAny_pyIter_listiter st h
def Cf{P:Program}{w:World}{K:Frag}{tg:Expr}(a g:Addr):Turn P w K tg (Itt K a) [g] g (λi h=>h.IsTupleIter g a i) where
 mem:=#[5]
 obj:=λi h st b f=>by
  have e:b=g:=#[5,f]
  subst e;obtain⟨o,e,c,d⟩:=st;exact#[o,e,λv z=>by rw[d]at z;cases z]
 keep:=λi h h' st k=>st.at λo e=>k g #[5] o e
 item:=by intro X t A r J i L s N H E I j st y;subst t A r;obtain⟨xs,x,l,hx⟩:=y;obtain⟨B,G,p,hz⟩:=I.tuple l;obtain⟨u,U,ru⟩:=G.get hx;obtain⟨f0,f1,f2,m,n,q⟩:=j g #[5];refine wpAny_pyNext_tuple_item st (show s.heap.IsTuple a B.toArray from p) (x:=u) #[5,U] λh' M sb=> ?_;have O:Inv X L N H {s with heap:=h'}:=I.turned (t':=s.toks) (λb o f e=>(sb.2 b f).trans e) f0 f1 m n q;obtain⟨o,e,c,d⟩:=id M;exact#[u,2,Ei (s:={s with heap:=h'}) e c d ∅ #[x,H,O,ru,#[2,λys hy=>by rw[I.tuple_inj hy l];exact hx],M,λb f=>(j b f).1]]
 done:=by intro X t A r J i L s N H E I j st y;subst t A r;obtain⟨xs,l,hx⟩:=y;obtain⟨B,G,p,hz⟩:=I.tuple l;obtain⟨f0,f1,f2,m,n,q⟩:=j g #[5];have hl:=G.length;exact wpAny_pyNext_tuple_end (I.ok.hd J) st (show s.heap.IsTuple a B.toArray from p) (by simp;lia) λh' Q=>#[2,I.turned (t':=s.toks) (λb o f e=>Q b o f e) f0 f1 m n q]
 self:=λ_ _ _ _ _ st h=>wpAny_pyIter_tupleiter st h
def Cg{P:Program}{w:World}{K:Frag}{M:Expr}(a:Addr)(f:Int)(n:Nat):Turn P w K M (Itr f n) [a] a (λi h=>IsRangeIter h a (f+(i:Nat)*1) ((n:Int) - (i:Nat)) 1) where
 mem:=#[5]
 obj:=λi h st b c=>by
  have e:b=a:=#[5,c]
  subst e;exact#[_,st,λv z=>by have N:Data.fields _=Data.cell v:=z;cases N]
 keep:=λi h h' st k=>k a #[5] _ st
 item:=by intro X p u m q i x s B H E I d st r;subst p u m;obtain⟨f0,f1,f2,g,j,l⟩:=d a #[5];have W:=Walks.range (prog:=X.prog) (w:=X.w) (I.ok.hd q) a f 1 n;refine W.item i s _ _ r st λv h' A hv y L=> ?_;obtain⟨t,rfl⟩:=hv;have G:Inv X x B H {s with heap:=h',toks:=A}:=I.turned (λb o c e=>L b o #[5,c] e) f0 f1 g j l;refine#[7,Ei (s:={s with heap:=h',toks:=A}) (n:= "range_iterator") y rfl rfl ∅ #[.int (f+i),H,G,#[t,6],#[22],y,λb c=>(d b c).1]];rw[QT]
 done:=by intro X p u m q i x s B H E I d st r;subst p u m;obtain⟨f0,f1,f2,g,j,l⟩:=d a #[5];exact wpAny_pyNext_range_end (I.ok.hd q) st (by have:n<=i:=r;lia) λh' J=>#[2,I.turned (t':=s.toks) (λb o c e=>J b o c e) f0 f1 g j l]
 self:=λ_ _ _ _ _ st h=>SO st h
section
variable{X:Cx}{tg:Expr}
inductive RdL(K:Frag)(R:It->Hp->Prop)(x:V)(H:Hp):Prop
 |mk(a:Addr) (e:x= .ref a) (s:∃xs,SqL K H a xs) (q:R (Itl K a) H):RdL K R x H
def Ju(K:Frag)(a:TE):TI:=λb H R=>a b H (RdL K R)
def Np(K:Frag)(c:TE):TI:=λd H R=>c d H λx b=>∃a,x= .ref a/\(∃xs,SqT K b a xs)/\R (Itt K a) b
def KN(hl:PE X l tl):PI X tg l (Ju X.K tl):=by
 intro j s n H R I h;refine thn (hl j s n H _ I h) λv d ⟨x,f,c,m,k⟩=> ?_;obtain⟨a,e,⟨xs,i⟩,q⟩:=k;subst e;cases m;obtain⟨t,u,p,r⟩:=c.list i;refine wpAny_pyIter_list p.isList ?_;refine#[d.heap.objs.size,[d.heap.objs.size],11,f,2,c.kept (t':=d.toks) λb o e=>PH _ e,EO a _,#[_,Qn _ rfl,22],λb g=> ?_,q];have e:b=d.heap.objs.size:=#[5,g]
 subst e;exact c.fpOk (O4 _) (c.hok.fresh (O4 _))
def MK(hl:PE X l tl):PI X tg l (Np X.K tl):=by
 intro k s r H R I h;refine thn (hl k s r H _ I h) λv c ⟨x,f,d,n,m⟩=> ?_;obtain⟨a,e,⟨xs,i⟩,q⟩:=m;subst e;cases n;obtain⟨j,u,p,t⟩:=d.tuple i;refine wpAny_pyIter_tuple (show c.heap.IsTuple a j.toArray from p) ?_;refine#[c.heap.objs.size,[c.heap.objs.size],11,f,2,d.kept (t':=c.toks) λb o e=>PH _ e,Cf a _,#[_,Qn _ rfl,22],λb g=> ?_,q];have e:b=c.heap.objs.size:=#[5,g]
 subst e;exact d.fpOk (O4 _) (d.hok.fresh (O4 _))
def AM{f:St}{s:Shared}{a c:Int}(I:Inv X g f H s)(j: -(2^62)<=a)(k:a<2^62)(l: -(2^62)<=c)(m:c<2^62)
  (q:R (Itr a (c-a).toNat) H):wpAny (model X.prog X.w) X.A (pyIter (.ref s.heap.objs.size)) (PIE X g f tg R) E {s with heap:=s.heap.push {cls:= .type "range",data:= .fields #v[.int a t, .int c u, .int 1 v]},toks:=tk}:=by
 refine wpAny_pyIter_range (IsRange.new ..) (small_one j k l m) ?_;have d:Inv X g f H {s with heap:=s.heap.push {cls:= .type "range",data:= .fields #v[.int a t, .int c u, .int 1 v]},toks:=tk}:=I.kept λb o e=>PH _ e;refine#[(s.heap.push {cls:= .type "range",data:= .fields #v[.int a t, .int c u, .int 1 v]}).objs.size,[(s.heap.push {cls:= .type "range",data:= .fields #v[.int a t, .int c u, .int 1 v]}).objs.size],11,H,2,
  d.kept (t':=tk) λb o e=>PH _ e,Cg _ a (c-a).toNat,6,λb n=> ?_,q]
 .have h:a+((0:Nat):Int)*1=a:=#[5]
  have i:(((c-a).toNat:Nat):Int) - ((0:Nat):Int)=Builtin.Range.rangeSize a c 1:=by rw[rangeSize_one];split<;>lia
  show IsRangeIter _ _ (a+((0:Nat):Int)*1) ((((c-a).toNat:Nat):Int) - ((0:Nat):Int)) 1;rw[h,i];exact Qn _ rfl
 .have e:b=(s.heap.push {cls:= .type "range",data:= .fields #v[.int a t, .int c u, .int 1 v]}).objs.size:=#[5,n]
  subst e;exact d.fpOk (O4 _) (d.hok.fresh (O4 _))
def Mb(b:TA):TI:=λc H R=>b c H λvs a=>∃j:Int,vs=[.int j]/\ -(2^62)<=j/\j<2^62/\R (Itr 0 j.toNat) a
def Oc(b:TA):TI:=λc H R=>b c H λvs a=>∃i j:Int,vs=[.int i, .int j]/\(-(2^62)<=i/\i<2^62/\ -(2^62)<=j/\j<2^62)/\R (Itr i (j-i).toNat) a
def Fu{a:Expr}{c:TA}{p pos:Pos}(g:Gl X "range")(i:X.mg "range"=none)(f:PA X [a] c)(k:starEach [a] X.env=[(false,eval a X.env)]:=by rfl):PI X tg (.Call (.Name "range" p) [a] [] pos) (Mb c):=by
 intro l s u H R I h;refine Call_ (ko I g i boot_range (QK (thn (f pos l s u H _ I h) λus w ⟨vs,v,d,n,b⟩=> ?_) k rfl));obtain⟨j,e,b,m,q⟩:=b;subst e;cases n with
 |cons r o=>
  cases o;obtain⟨t,rfl⟩:=r;exact call_range_1 (AM d () () b m #[5,q])
def Ft{a b:Expr}{g:TA}{p pos:Pos}(m:Gl X "range")(n:X.mg "range"=none)(l:PA X [a,b] g)(o:starEach [a,b] X.env=[(false,eval a X.env),(false,eval b X.env)]:=by rfl)(f:starEach [b] X.env=[(false,eval b X.env)]:=by rfl):
  PI X tg (.Call (.Name "range" p) [a,b] [] pos) (Oc g):=by
 intro u s A H R I h;refine Call_ (ko I m n boot_range (QK (thn (l pos u s A H _ I h) λus G ⟨vs,B,k,z,c⟩=> ?_) (by rw[o,f]) (by rw[f];rfl)));obtain⟨i,j,e,⟨c,v,w,x⟩,q⟩:=c;subst e;cases z with
 |cons r d=>
  cases d with
  |cons y d=>
   cases d;obtain⟨t,rfl⟩:=r;obtain⟨t',rfl⟩:=y;exact call_range_2 (AM k c v w x q)
def NL(h:TI)(g:TG)(f:TS):TS:=λD a H=>h a H λJ d=>∃W:Nat->Nat->St->Hp->Prop,(∃m,W 0 m a d)/\∀i m a H,W i m a H->
 (J.stop i H/\D.nx a H)\/(J.go i H/\∃N:St->Hp->Prop,(∀c H',N c H'->∃b,b<m/\W (i+1) b c H')/\∀x H',J.yld i H x H'->g x a H' λj e=>f {D with nx:=N,ct:=N,bk:=D.nx} j e)
def uo(a:List Addr)(h:Heap):List (Addr×Obj):=a.filterMap λb=>(h.get? b).map λo=>(b,o)
def kX{h:Heap}(a:b∈fp)(e:h.get? b=some o):(b,o)∈uo fp h:=List.mem_filterMap.mpr #[b,a,by rw[e];rfl]
def FK{h:Heap}(d:p∈uo fp h):p.1∈fp/\h.get? p.1=some p.2:=by
 obtain⟨b,c,e⟩:=List.mem_filterMap.mp d;cases q:h.get? b with
 |none=>rw[q]at e;cases e
 |some o=>
  rw[q]at e;have a:(b,o)=p:=Qd e;subst a;exact#[c,q]
def Inv.pinned{g:St}{s:Shared}(I:Inv X pins g H s)(h:∀b∈c,zV X pins H b)(i:∀b∈c,∃o,s.heap.get? b=some o/\∀v,o.data≠ .cell v):Inv X (pins++uo c s.heap) g H s:=
 I.pins_of λp j=>(Pg.mp j).elim (λz=>I.pin p (P9 _ z)) λz=>by obtain⟨f,e⟩:=FK z;obtain⟨f0,f1,f2,_⟩:=h p.1 f;obtain⟨o,a,d⟩:=i p.1 f;rw[e]at a;cases a;exact#[e,f0,f1,f2,d]
def Inv.unpinned{a:St}(I:Inv X (pins++pl) a H s):Inv X pins a H s:=I.pins_of λp b=>I.pin p (P9 _ (QW _ b))
def MH{iter:Expr}{U:List Stmt}{wi:TI}{g:TG}{tb:TS}{pos:Pos}(t:PassesOwn (model X.prog X.w) X.A X.env X.xe)(hc:X.calm=true)(hi:PI X tg iter wi)(hg:PG X tg g)(j:PSs X U tb)
  (hs:∀x,foldedSetIterable iter X.env x=pure x:=by intro _;rfl):PS X (.For tg iter U [] pos) (NL wi g tb):=by
 intro p s σ H D I h;refine wpAny_For (thn (hi p s σ H _ I h) λv s1 h1=>thn h1 λct s2 h2=> ?_) hs;obtain⟨it,q,tn,J,H2,e,I2,T,cb,f2,W,⟨m0,w0⟩,turn⟩:=h2;subst e;have M:∀ {H':Hp},(∀b∈q,H' b=none)->∀b∈q,zV X p H' b:=λhn b j=>#[hn b j,(f2 b j).2];refine codeAny_forLoop_any (λn s'=>∃i z H',Inv X p z H' s'/\tn i s'.heap/\(∀b∈q,H' b=none)/\W i n z H') ?_ m0 #[0,σ,H2,I2,cb,λb j=>(f2 b j).1,w0];rintro n s3 ⟨i,B,G,Q,ay,ab,w3⟩;rcases turn i n B G w3 with ⟨stop,qn⟩|⟨go,N,hN,step⟩
 .refine RG t (thn (T.done X rfl rfl rfl hc i p s3 B G X.xe Q (M ab) ay stop) λr s4 ⟨K,I4⟩=> ?_);subst K;exact S7 #[B,G,I4,qn]
 .refine RG t (thn (T.item X rfl rfl rfl hc i p s3 B G X.xe Q (M ab) ay go) λr s4 ⟨u,K,h4⟩=> ?_);subst K;refine RG t (thn h4 λ_ s5 ⟨x,O,I5,r5,y5,L,bk⟩=> ?_);have bb:=I5.pinned (M bk) (T.obj _ _ L);refine RG t (thn (hg _ s5 B O x u _ bb r5 (step x O y5)) λ_ s6 ⟨cp,H6,I6,q6⟩=> ?_);refine RG t (thn (j _ s6 cp H6 _ I6 q6) λf s7 l=> ?_);have again:∀ {k:St} {a:Hp},Inv X (p++uo q s5.heap) k a s7->N k a->∃m,m<n/\∃i z H',Inv X p z H' s7/\tn i s7.heap/\(∀b∈q,H' b=none)/\W i m z H':=λ{k a} c y=>by obtain⟨m',hm,w7⟩:=hN k a y;refine#[m',hm,i+1,k,a,c.unpinned,T.keep _ _ _ L λb j o e=>(c.pin (b,o) (P9 _ (P9 _ (kX j e)))).1,λb j=> ?_,w7];obtain⟨o,e,d⟩:=T.obj _ _ L b j;exact(c.pin (b,o) (P9 _ (P9 _ (kX j e)))).2.1
  cases f with
  |next=>obtain⟨k,a,c,y⟩:=l;exact again c y
  |cont=>obtain⟨k,a,c,y⟩:=l;exact again c y
  |brk=>obtain⟨k,a,c,l⟩:=l;exact#[k,a,c.unpinned,l]
  |ret v=>obtain⟨x7,k,a,c,r7,l⟩:=l;exact#[x7,k,a,c.unpinned,r7,l]
end
def cQ{K:Frag}{xs:List V}{g:TG}{l:TS}{D:Ends}(Pv:Nat->St->Hp->Prop)(n:Pv 0 b H)(hl:∀i b H,i<=xs.length->Pv i b H->SqL K H a xs)
  (r:∀i x b H,xs[i]?=some x->Pv i b H->g x b H λh d=>l {D with nx:=Pv (i+1),ct:=Pv (i+1),bk:=D.nx} h d) (o:∀b H,Pv xs.length b H->D.nx b H):
  ∃W:Nat->Nat->St->Hp->Prop,(∃m,W 0 m b H)/\∀i m b H,W i m b H->
   ((Itl K a).stop i H/\D.nx b H)\/((Itl K a).go i H/\∃N:St->Hp->Prop,(∀f H',N f H'->∃k,k<m/\W (i+1) k f H')/\∀x H',(Itl K a).yld i H x H'->g x b H' λh d=>l {D with nx:=N,ct:=N,bk:=D.nx} h d):=by
 refine#[λi m b H=>m=xs.length-i/\i<=xs.length/\Pv i b H,#[xs.length,#[5],Qj _,n],6];rintro i m b H ⟨rfl,j,p⟩;have q:=hl i b H j p;by_cases c:i<xs.length
 .refine .inr #[#[xs,xs[i],q,by simp[c]],Pv (i+1),λf H' s=>#[xs.length- (i+1),QE c (QB _),2,c,s],λx H' y=> ?_];obtain⟨e,y⟩:=y;subst e;exact r i x b _ (y xs q) p
 .have e:i=xs.length:=Qz j (QC c);subst e;exact .inl #[#[xs,q,O4 _],o b H p]
def cZ{c:Int}{g:TG}{k:TS}{D:Ends}(Pv:Nat->St->Hp->Prop)(l:Pv 0 a H)
  (r:∀i a H,i<n->Pv i a H->g (.int (c+i)) a H λh d=>k {D with nx:=Pv (i+1),ct:=Pv (i+1),bk:=D.nx} h d) (o:∀a H,Pv n a H->D.nx a H):
  ∃W:Nat->Nat->St->Hp->Prop,(∃m,W 0 m a H)/\∀i m a H,W i m a H->
   ((Itr c n).stop i H/\D.nx a H)\/((Itr c n).go i H/\∃N:St->Hp->Prop,(∀f H',N f H'->∃j,j<m/\W (i+1) j f H')/\∀x H',(Itr c n).yld i H x H'->g x a H' λh d=>k {D with nx:=N,ct:=N,bk:=D.nx} h d):=by
 refine#[λi m a H=>m=n-i/\i<=n/\Pv i a H,#[n,#[5],Qj _,l],6];rintro i m a H ⟨rfl,q,p⟩;by_cases b:i<n
 .refine .inr #[b,Pv (i+1),λf H' s=>#[n- (i+1),QE b (QB _),2,b,s],λx H' y=> ?_];obtain⟨e,y⟩:=y;subst e y;exact r i a _ b p
 .have e:i=n:=Qz q (QC b);subst e;exact .inl #[O4 _,o a H p]
abbrev R2:=V->V->Hp->VK->Prop
def OpR(X:Cx)(f:Value->Value->Sem Value)(r:R2):Prop:=
 ∀(a:List (Addr×Obj)) (s:Shared) (b:St) (H:Hp) (x y:V) (v u:Value) (Q:VK),Inv X a b H s->cC x v->cC y u->r x y H Q->
  wpAny (model X.prog X.w) X.A (f v u) (EP X a b Q) X.xe s
def UnR(X:Cx)(f:Value->Sem Value)(r:V->Hp->VK->Prop):Prop:=
 ∀(a:List (Addr×Obj)) (s:Shared) (b:St) (H:Hp) (x:V) (v:Value) (Q:VK),Inv X a b H s->cC x v->r x H Q->
  wpAny (model X.prog X.w) X.A (f v) (EP X a b Q) X.xe s
def gs(X:Cx)(f:Value)(r:List V->Hp->VK->Prop):Prop:=
 ∀(a:List (Addr×Obj)) (s:Shared) (b:St) (H:Hp) (xs:List V) (us:List Value) (Q:VK),Inv X a b H s->Vals xs us->r xs H Q->
  wpAny (model X.prog X.w) X.A (call f us) (EP X a b Q) X.xe s
def OL(X:Cx)(r:V->Hp->(Bool->Hp->Prop)->Prop):Prop:=
 ∀(a:List (Addr×Obj)) (s:Shared) (b:St) (H:Hp) (x:V) (v:Value) (Q:Bool->Hp->Prop),Inv X a b H s->cC x v->r x H Q->
  wpAny (model X.prog X.w) X.A (truthy v) (TP X a b Q) X.xe s
def tOp(r:R2)(d e:TE):TE:=λa H Q=>d a H λx b=>e a b λy c=>r x y c Q
def tUn(r:V->Hp->VK->Prop)(b:TE):TE:=λc H Q=>b c H λx a=>r x a Q
inductive RdI(C:Int->Int->Prop)(g:Int->Int->V)(x y:V)(H:Hp)(Q:VK):Prop
 |mk(i j:Int) (e1:x= .int i) (e2:y= .int j) (c:C i j) (q:Q (g i j) H):RdI C g x y H Q
def rI(C:Int->Int->Prop)(g:Int->Int->V):R2:=λx y H Q=>RdI C g x y H Q
inductive Om(g:Int->Int->V)(x y:V)(H:Hp)(Q:VK):Prop
 |mk(i j:Int) (e1:x= .int i) (e2:y= .int j) (q:Q (g i j) H):Om g x y H Q
def rI0(g:Int->Int->V):R2:=λx y H Q=>Om g x y H Q
def rU(g:Int->V):V->Hp->VK->Prop:=λx H Q=>∃i,x= .int i/\Q (g i) H
section
variable{X:Cx}{a b c:Expr}{ta tb tc:TE}{pos:Pos}
def NA(l:PE X a ta)(m:PE X b tb){e:St}{R:V->V->Hp->Prop}(I:Inv X pins e H s)
  (h:ta e H λx i=>tb e i λy d=>R x y d)  {f:Value->Value->Sem Value}
  (n:∀v u g x y d,Inv X pins e d g->cC x v->cC y u->R x y d->wpAny (model X.prog X.w) X.A (f v u) Q X.xe g):
  wpAny (model X.prog X.w) X.A (eval a X.env) (λv z=>wpAny (model X.prog X.w) X.A (eval b X.env) (λu B=>wpAny (model X.prog X.w) X.A (f v u) Q X.xe B) X.xe z) X.xe s:=by
 refine thn (l pins s e H _ I h) λv t ⟨x,i,j,q,o⟩=> ?_;refine thn (m pins t e i _ j o) λu g ⟨y,d,k,r,p⟩=> ?_;exact n v u g x y d k q r p
def aw(i:OpR X (binaryOp op) r)(f:PE X a ta)(g:PE X b tb):PE X (.BinOp a op b pos) (tOp r ta tb):=by intro j s n H Q I h;exact wpAny_BinOp (NA f g I h λv u m x y d e k l q=>i j m n d x y v u Q e k l q)
def jg(j:UnR X (unaryOp op) r)(i:PE X a ta):PE X (.UnaryOp op a pos) (tUn r ta):=by intro d s e H Q I h;exact UnaryOp_ (thn (i d s e H _ I h) λv m ⟨x,f,g,l,k⟩=>j d m e f x v Q g l k)
def opI{g:Int->Int->Int}
  (rule:∀(i j:Int)(t u:Tok)(s:Shared)(Q:Value->Shared->Prop)(E:Value->Shared->Prop),C i j->Q (.int (g i j) s.toks) {s with toks:=s.toks+1}->wpAny (model X.prog X.w) X.A (f (.int i t) (.int j u)) Q E s):
  OpR X f (rI C λi j=> .int (g i j)):=by
 intro l s m H x y v u Q I e k h;obtain⟨i,j,rfl,rfl,d,q⟩:=h;obtain⟨t,rfl⟩:=e;obtain⟨t',rfl⟩:=k;exact rule i j t t' s _ _ d #[.int (g i j),H,I.tok _,#[7],q]
def IC{g:Int->Int->Int}
  (rule:∀(i j:Int)(t u:Tok)(s:Shared)(Q:Value->Shared->Prop)(E:Value->Shared->Prop),Q (.int (g i j) s.toks) {s with toks:=s.toks+1}->wpAny (model X.prog X.w) X.A (f (.int i t) (.int j u)) Q E s):
  OpR X f (rI0 λi j=> .int (g i j)):=by
 intro k s l H x y v u Q I d e h;obtain⟨i,j,rfl,rfl,q⟩:=h;obtain⟨t,rfl⟩:=d;obtain⟨t',rfl⟩:=e;exact rule i j t t' s _ _ #[.int (g i j),H,I.tok _,#[7],q]
def MX{g:Int->Int->Bool}
  (rule:∀(i j:Int)(t u:Tok)(s:Shared)(Q:Value->Shared->Prop)(E:Value->Shared->Prop),Q (.bool (g i j)) s->wpAny (model X.prog X.w) X.A (f (.int i t) (.int j u)) Q E s):
  OpR X f (rI0 λi j=> .bl (g i j)):=by
 intro k s l H x y v u Q I d e h;obtain⟨i,j,rfl,rfl,q⟩:=h;obtain⟨t,rfl⟩:=d;obtain⟨t',rfl⟩:=e;exact rule i j t t' s _ _ #[.bl (g i j),H,I,2,q]
def ON(i j:Int):Prop:=0<j/\j<1073741824
def Ov(i j:Int):Prop:=0<=j/\j<=1000000/\i.natAbs<2^64
def ND(i j:Int):Prop:=(-(2^64)<i/\i<2^64)\/(-(2^64)<j/\j<2^64)
def ND.ok(h:ND i j):IntMulOk i j:=by
 rcases h with ⟨d,e⟩|⟨d,e⟩
 .exact .of_left (intBits_le_64 d e)
 .exact .of_right (intBits_le_64 d e)
def oG(k:Nat):(0:Int)<=2^k:=by rw[two_pow_cast];exact Qg _
def eu:OpR X (binaryOp .Add) (rI0 λi j=> .int (i+j)):=IC λ_ _ _ _ _ _ _ q=>add_int q
def fJ:OpR X (binaryOp .Sub) (rI0 λi j=> .int (i-j)):=IC λ_ _ _ _ _ _ _ q=>sub_int q
def jM:OpR X (binaryOp .Mult) (rI ND λi j=> .int (i*j)):=opI λ_ _ _ _ _ _ _ d q=>mul_int q d.ok
def iI:OpR X (binaryOp .FloorDiv) (rI ON λi j=> .int (i/j)):=opI λi j _ _ _ _ _ d q=>by have e:(0:Int)<j:=d.1;have f:j<1073741824:=d.2;exact floordiv_int () (by rw[Tv i ()];exact q) (.inl (PyProof.noPylong_small ()))
def cF:OpR X (binaryOp .Mod) (rI (λ_ j=>0<j) λi j=> .int (i % j)):=opI λi j _ _ _ _ _ d q=>by have e:(0:Int)<j:=d;exact mod_int' () (by rw[Int.fmod_eq_emod_of_nonneg i ()];exact q)
def dG:OpR X (binaryOp .LShift) (rI Ov λi j=> .int (i*2^j.toNat)):=opI λ_ _ _ _ _ _ _ d q=>lshift_int_small d.1 d.2.1 d.2.2 q
def jL:OpR X (binaryOp .RShift) (rI (λ_ j=>0<=j) λi j=> .int (i/2^j.toNat)):=opI λi j _ _ _ _ _ d q=>
 rshift_int d (by rw[Tv i (oG _)];exact q)
def gB:OpR X (binaryOp .BitAnd) (rI0 λi j=> .int (Builtin.bitAnd i j)):=IC λ_ _ _ _ _ _ _ q=>and_int q
def ow:OpR X (binaryOp .BitOr) (rI0 λi j=> .int (Builtin.bitOr i j)):=IC λ_ _ _ _ _ _ _ q=>or_int q
def CF:OpR X (binaryOp .BitXor) (rI0 λi j=> .int (Builtin.bitXor i j)):=IC λ_ _ _ _ _ _ _ q=>xor_int q
def unI{g:Int->Int}
  (rule:∀(i:Int)(t:Tok)(s:Shared)(Q:Value->Shared->Prop)(E:Value->Shared->Prop),Q (.int (g i) s.toks) {s with toks:=s.toks+1}->wpAny (model X.prog X.w) X.A (f (.int i t)) Q E s):
  UnR X f (rU λi=> .int (g i)):=by
 intro e s j H x v Q I d h;obtain⟨i,rfl,q⟩:=h;obtain⟨t,rfl⟩:=d;exact rule i t s _ _ #[.int (g i),H,I.tok _,#[7],q]
def f9:UnR X (unaryOp .USub) (rU λi=> .int (-i)):=unI λ_ _ _ _ _ q=>neg_int q
end
def scal:V->V->Bool
 | .non, .non=>true| .non, .int _=>true| .int _, .non=>true| .non, .bl _=>true| .bl _, .non=>true| .non, .str _=>true| .str _, .non=>true
 | .int _, .int _=>true| .bl _, .bl _=>true| .str _, .str _=>true| .byt _, .byt _=>true
 | .int _, .str _=>true| .str _, .int _=>true| .bl _, .str _=>true| .str _, .bl _=>true
 |_,_=>false
def rEq:R2:=λx y H Q=>scal x y=true/\Q (.bl (decide (x=y))) H
def rNe:R2:=λx y H Q=>scal x y=true/\Q (.bl (!decide (x=y))) H
def aV:decide (V.int i=V.int j)=(i==j):=by rw[QX];simp
def JM:decide (V.bl i=V.bl j)=(i==j):=by rw[QX];simp
def Eo:decide (V.str i=V.str j)=(i==j):=by rw[QX];simp
def Ep{i j:Array UInt8}:decide (V.byt i=V.byt j)=(i.toList==j.toList):=by rw[QX];cases i;cases j;simp
section
variable{X:Cx}{a b c:Expr}{ta tb tc:TE}{pos:Pos}
def bY{f:List (Addr×Obj)}{g:St}{H:Hp}{s:Shared}{Q:VK}{k d:Bool}(I:Inv X f g H s)(q:Q (.bl k) H)(e:k=d):EP X f g Q (.bool d) s:=by subst e;exact#[.bl k,H,I,2,q]
def a7:OpR X (compareOp .Eq) rEq:=by
 intro g s k H x y v u Q I f d h;obtain⟨e,q⟩:=h;cases x with
 |non=>
  cases f;cases y with
  |non=>cases d;exact PySem.EqNone.eq_none_none (bY I q #[5])
  |bl j=>cases d;exact PySem.EqNone.eq_none_bool (bY I q #[5])
  |int j=>obtain⟨t',rfl⟩:=d;exact PySem.EqNone.eq_none_int (bY I q #[5])
  |str j=>obtain⟨t',rfl⟩:=d;exact PySem.EqNone.eq_none_str (bY I q #[5])
  |_=>exact absurd (show false=true from e) Pf
 |bl i=>
  cases f;cases y with
  |non=>cases d;exact PySem.EqNone.eq_bool_none (bY I q #[5])
  |bl j=>cases d;exact eq_bool (bY I q JM)
  |str j=>obtain⟨t',rfl⟩:=d;exact PySem.EqMixed.eq_bool_str (bY I q #[5])
  |_=>exact absurd (show false=true from e) Pf
 |int i=>
  obtain⟨t,rfl⟩:=f;cases y with
  |non=>cases d;exact PySem.EqNone.eq_int_none (bY I q #[5])
  |int j=>obtain⟨t',rfl⟩:=d;exact eq_int (bY I q aV)
  |str j=>obtain⟨t',rfl⟩:=d;exact PySem.EqMixed.eq_int_str (bY I q #[5])
  |_=>exact absurd (show false=true from e) Pf
 |str i=>
  obtain⟨t,rfl⟩:=f;cases y with
  |non=>cases d;exact PySem.EqNone.eq_str_none (bY I q #[5])
  |bl j=>cases d;exact PySem.EqMixed.eq_str_bool (bY I q #[5])
  |int j=>obtain⟨t',rfl⟩:=d;exact PySem.EqMixed.eq_str_int (bY I q #[5])
  |str j=>obtain⟨t',rfl⟩:=d;exact eq_str (bY I q Eo)
  |_=>exact absurd (show false=true from e) Pf
 |byt i=>
  obtain⟨t,rfl⟩:=f;cases y with
  |byt j=>obtain⟨t',rfl⟩:=d;exact PySem.W.eq_bytes (bY I q Ep)
  |_=>exact absurd (show false=true from e) Pf
 |_=>cases y<;>exact absurd (show false=true from e) Pf
def jh:OpR X (compareOp .NotEq) rNe:=by
 intro g s k H x y v u Q I f d h;obtain⟨e,q⟩:=h;cases x with
 |non=>
  cases f;cases y with
  |non=>cases d;exact PySem.EqNone.ne_none_none (bY I q #[5])
  |bl j=>cases d;exact PySem.EqNone.ne_none_bool (bY I q #[5])
  |int j=>obtain⟨t',rfl⟩:=d;exact PySem.EqNone.ne_none_int (bY I q #[5])
  |str j=>obtain⟨t',rfl⟩:=d;exact PySem.EqNone.ne_none_str (bY I q #[5])
  |_=>exact absurd (show false=true from e) Pf
 |bl i=>
  cases f;cases y with
  |non=>cases d;exact PySem.EqNone.ne_bool_none (bY I q #[5])
  |bl j=>cases d;exact ne_bool (bY I q (PN not JM))
  |str j=>obtain⟨t',rfl⟩:=d;exact PySem.EqMixed.ne_bool_str (bY I q #[5])
  |_=>exact absurd (show false=true from e) Pf
 |int i=>
  obtain⟨t,rfl⟩:=f;cases y with
  |non=>cases d;exact PySem.EqNone.ne_int_none (bY I q #[5])
  |int j=>obtain⟨t',rfl⟩:=d;exact ne_int (bY I q (PN not aV))
  |str j=>obtain⟨t',rfl⟩:=d;exact PySem.EqMixed.ne_int_str (bY I q #[5])
  |_=>exact absurd (show false=true from e) Pf
 |str i=>
  obtain⟨t,rfl⟩:=f;cases y with
  |non=>cases d;exact PySem.EqNone.ne_str_none (bY I q #[5])
  |bl j=>cases d;exact PySem.EqMixed.ne_str_bool (bY I q #[5])
  |int j=>obtain⟨t',rfl⟩:=d;exact PySem.EqMixed.ne_str_int (bY I q #[5])
  |str j=>obtain⟨t',rfl⟩:=d;exact ne_str (bY I q (PN not Eo))
  |_=>exact absurd (show false=true from e) Pf
 |byt i=>
  obtain⟨t,rfl⟩:=f;cases y with
  |byt j=>obtain⟨t',rfl⟩:=d;exact PySem.W.ne_bytes (bY I q (PN not Ep))
  |_=>exact absurd (show false=true from e) Pf
 |_=>cases y<;>exact absurd (show false=true from e) Pf
def pZ:OpR X (compareOp .Lt) (rI0 λi j=> .bl (decide (i<j))):=MX λ_ _ _ _ _ _ _ q=>lt_int q
def qb:OpR X (compareOp .Gt) (rI0 λi j=> .bl (decide (j<i))):=MX λ_ _ _ _ _ _ _ q=>gt_int q
def N7:OpR X (compareOp .GtE) (rI0 λi j=> .bl (decide (j<=i))):=MX λ_ _ _ _ _ _ _ q=>ge_int q
def MW:OpR X (compareOp .Is) (λx y H Q=>y= .non/\Q (.bl (decide (x= .non))) H):=by
 intro f s g H x y v u Q I d e h;obtain⟨rfl,q⟩:=h;cases e;refine is_none_gen (bY I q ?_);cases x<;>first
  |(cases d;rfl)
  |(obtain⟨t,rfl⟩:=d;rfl)
def yC:OpR X (compareOp .IsNot) (λx y H Q=>y= .non/\Q (.bl (!decide (x= .non))) H):=by
 intro f s g H x y v u Q I d e h;obtain⟨rfl,q⟩:=h;cases e;refine isnot_none_gen (bY I q ?_);cases x<;>first
  |(cases d;rfl)
  |(obtain⟨t,rfl⟩:=d;rfl)
def nomark(b:Expr){d:CmpOp}(h:d≠ .In:=by decide)(g:d≠ .NotIn:=by decide):behindInMarks d b=false:=by
 have e:(d==CmpOp.In)=false:=by cases d<;>first|rfl|exact absurd rfl h
 have f:(d==CmpOp.NotIn)=false:=by cases d<;>first|rfl|exact absurd rfl g
 cases b<;>simp[behindInMarks,e,f]
def Eb(j:OpR X (compareOp op) r)(f:PE X a ta)(g:PE X b tb)(i:behindInMarks op b=false):PE X (.Compare a [op] [b] pos) (tOp r ta tb):=by intro k s o H Q I h;exact wpAny_Compare1 (NA f g I h λv u n x y d e l m q=>j k n o d x y v u Q e l m q) i
def LN(t:TE):TT:=λd H Q=>t d H (RdB Q)
def sM(t:OpR X (compareOp op) r)(o:PE X a ta)(p:PE X b tb)(q:behindInMarks op b=false):PT X (.Compare a [op] [b] pos) (LN (tOp r ta tb)):=by
 intro d s f H Q I h;refine wpAny_isTrue_Compare1 (thn (o d s f H _ I h) λv L ⟨x,g,l,G,w⟩=>thn (p d L f g _ l w) λu M ⟨y,i,m,J,A⟩=>
  thn (t d M f i x y v u _ m G J A) λc N ⟨z,j,n,K,k,e,B⟩=> ?_) q
 subst e;cases K;exact RK #[j,n,B]
def Oj(K:Frag)(x:V)(H:Hp)(k:Bool):Prop:=
 match x with
 | .non=>k=false
 | .bl b=>k=b
 | .int i=>k=(i !=0)
 | .str y=>y.length<=sizeLine/\k=((y.length:Int) !=0)
 | .byt y=>y.size<=sizeLine/\k=((y.size:Int) !=0)
 | .ref p=>(∃xs,SqL K H p xs/\k= !xs.isEmpty)\/(∃xs,SqT K H p xs/\k= !xs.isEmpty)\/∃kvs,H p=some (.dK kvs)/\k= !kvs.isEmpty
 |_=>False
def CY{kvs:List (κ×V)}{vs:List (κ×Value)}(r:KV kvs vs):(!vs.isEmpty)= !kvs.isEmpty:=by cases r<;>rfl
def uP{xs:List V}{d:List Value}(r:Vals xs d):(!d.toArray.isEmpty)= !xs.isEmpty:=by cases r<;>simp
def yR:(sizeLine:Nat)<2^63:=by rw[sizeLine_eq];decide
def Mj:OL X (λx H Q=>∃k,Oj X.K x H k/\Q k H):=by
 intro A s B H x v Q I f h;obtain⟨k,e,q⟩:=h;have hl:=yR;have z:sizeLine=16777216:=sizeLine_eq;cases x with
 |non=>
  cases f;have d:k=false:=e;subst d;exact truthy_none #[H,I,q]
 |bl b=>
  cases f;have d:k=b:=e;subst d;exact RK #[H,I,q]
 |int i=>
  obtain⟨t,rfl⟩:=f;have d:k=(i !=0):=e;subst d;exact PySem.P.truthy_int #[H,I,q]
 |str y=>
  obtain⟨t,rfl⟩:=f;obtain⟨o,d⟩:y.length<=sizeLine/\k=((y.length:Int) !=0):=e;subst d;exact PySem.P.truthy_str () #[H,I.tok _,q]
 |byt y=>
  obtain⟨t,rfl⟩:=f;obtain⟨o,d⟩:y.size<=sizeLine/\k=((y.size:Int) !=0):=e;subst d;exact PySem.W.truthy_bytes () #[H,I.tok _,q]
 |ref p=>
  cases f;have d:(∃xs,SqL X.K H p xs/\k= !xs.isEmpty)\/(∃xs,SqT X.K H p xs/\k= !xs.isEmpty)\/∃kvs,H p=some (.dK kvs)/\k= !kvs.isEmpty:=e;rcases d with ⟨xs,g,d⟩|⟨xs,g,d⟩|⟨kvs,g,d⟩
  .subst d;obtain⟨u,r,pl,l⟩:=I.list g;have j:=r.length;exact wpAny_truthy_list pl.isList (by simp only[PU];lia) #[H,I.tok _,by rw[uP r];exact q]
  .subst d;obtain⟨u,r,pl,l⟩:=I.tuple g;have j:=r.length;exact truthy_tuple pl (by simp only[PU];lia) #[H,I.tok _,by rw[uP r];exact q]
  .subst d;obtain⟨l,n,vs,r,m⟩:kvs.length<=sizeLine/\(p==sysModules)=false/\∃vs,KV kvs vs/\s.heap.DictOf (eT X.prog X.w) p vs:=I.hok p _ g;have j:kvs.length=vs.length:=SS r;exact wpAny_truthy_dict n m () #[H,I.tok _,by rw[CY r];exact q]
 |_=>exact(show False from e).elim
def Ih(i:PE X a ta)(j:∀whole,isTrue a X.env whole=(do let v<-whole;standAt a.pos;holding [v] (truthy v))):
  PT X a (λd H Q=>ta d H λx H'=>∃k,Oj X.K x H' k/\Q k H'):=by
 intro e s d H Q I h;exact isTrue_plain (thn (i e s d H _ I h) λv n ⟨x,f,g,m,l⟩=>Mj e n d f x v Q g m l) (j _)
def rF(r:Vals [x] us):∃u,us=[u]/\cC x u:=by
 cases r with
 |cons d e=>cases e;exact#[7,d]
def LM(r:Vals [x,y] us):∃u d,us=[u,d]/\cC x u/\cC y d:=by
 cases r with
 |cons e f=>
  cases f with
  |cons g h=>cases h;exact#[17,e,g]
def Gu(e:X.calm=true):gs X (.builtin "max") (λxs H Q=>∃i j,xs=[.int i, .int j]/\Q (.int (if j>i then j else i)) H):=by
 intro f s m H xs us Q I r h;obtain⟨i,j,rfl,q⟩:=h;obtain⟨u,l,rfl,⟨t,rfl⟩,⟨t',rfl⟩⟩:=LM r;refine max_two_ints (I.ok.hd e) λh' g k=>#[_,H,I.kept k,6,q];by_cases d:j>i
 .rw[OP d,OP d];exact#[7]
 .rw[OO d,OO d];exact#[7]
end
structure Du(h:Heap)(x dx C:Addr)(mA:Str->Option Value):Prop where
 obj:h.get? x=some (instObj C dx)
 ns:h.Ns1 dx mA
 ne:dx≠x
def FV{h:Heap}(n:h.Ns1 dx mA):∃c,h.get? dx=some c/\∀name,lookIn name c=some (mA name):=by
 obtain⟨o,b,ep,k,f,g,_,j⟩:=n;refine#[o,k,λname=> ?_];have e:=j name;unfold nsFind findBy at e;rw[<-Array.find?_toList]at e;unfold lookIn;rw[f];dsimp only;split
 .rename_i y q;rw[q]at e;exact PN some e
 .rename_i q;rw[q]at e;have a:b.toList.any (·.refKey)=false:=by rw[List.any_eq_false];intro y l;obtain⟨z,t,i⟩:=g y (Array.mem_toList_iff.mp l);simp[DictEntry.refKey,i]
  have d:¬b.toList.any (·.refKey)=true:=by rw[a];exact Pf
  rw[OO d];exact PN some e
def Du.look(I:Du h x dx C mA):∃a,PySem.W.InstAt h x (instObj C dx) C (some a)/\∀name,lookIn name a=some (mA name):=
 let⟨a,b,hl⟩:=FV I.ns
 #[a,#[I.obj,22,b],hl]
section
variable{prog:Program}{w:World}{A:Around}{E:Value->Shared->Prop}{s:Shared}{K:Frag}{x dx C f:Addr}{mA:Str->Option Value}{name:Str}{v:Value}
def Lo(X:K.In s.heap)(I:Du s.heap x dx C mA)(b:plainGet K C name=true)(c:hasDictIn K C=true)
  (a:findIn K (.ref C) name=some none) (d:mA name=some v) (e:PySem.W.handedIn v=true) (h:Q v {s with toks:=s.toks+1}):
  wpAny (model prog w) A (getAttr (.ref x) name expr) Q E s:=by
 obtain⟨g,J,hl⟩:=I.look;exact PySem.W.get_value X J (To b).1 (PySem.W.findObj_own c a rfl (by rw[hl,d])) e h
def Jx(X:K.In s.heap)(I:Du s.heap x dx C mA)(a:plainGet K C name=true)
  (b:findIn K (.ref C) name=some (some (.ref f))) (c:isFn K (.ref f)=true) (d:mA name=none) (h:Q (.ref f,[.ref x]) s):
  wpAny (model prog w) A (getMethod (.ref x) name pl) Q E s:=by
 obtain⟨e,J,hl⟩:=I.look;exact PySem.W.method_fn X J (To a).1 (To a).2 b (S9.mp c) (by show(lookIn name e).map (·.isSome)=some false;rw[hl,d];rfl) h
def Kp{ns:List Str}(X:K.In s.heap)(I:Du s.heap x dx C mA)
  (n:findIn K (.ref C) "__setattr__"=some (some (.builtin "object.__setattr__"))) (m:plainOver K C=true) (o:takerIn K C name=some none) (k:hasDictIn K C=true)
  (p:PySem.Within mA ns) (hsz:ns.length<=sizeLine)
  (h:∀h',Du h' x dx C (λy=>if y=name then some v else mA y)->Heap.SameBut dx s.heap h'->Q Unit.unit {s with heap:=h',toks:=s.toks+2}):
  wpAny (model prog w) A (setAttr (.ref x) name v) Q E s:=by
 obtain⟨G,J,hl⟩:=I.look;refine PySem.W.set_plain X J n (PySem.W.osa_open (s:={s with toks:=s.toks+1}) (r:=none) X J m o λb=> ?_);obtain⟨t,e,i⟩:=PySem.W.any_some k;have q:s.heap.get? x=some #[.ref C,some dx, .plain, #v[]]:=I.obj;refine P1 (QA (P1 (P1 (wpAny_loadPart q (P1 (PySem.W.Looks.here (s:={s with toks:=s.toks+1}) (PySem.W.looks_clsIn X e) ?_))))));rw[i];refine QA (a:=some dx) (P1 (QA (P1 ?_)));refine wpAny_nsSet1 (s:={s with toks:=s.toks+1}) I.ns λh' c d=> ?_;obtain⟨B,z,u,l,j,g⟩:=c.count (PySem.Within.cons name v p);refine P1 (wpAny_lookBehind l (by rw[j];exact pastItsLine_dict (OY g (by rw[Pa];lia))) ?_);exact QA (h _ #[(d.2 _ (Pk I.ne)).trans I.obj,c,I.ne] d)
def Je(X:K.In s.heap)(e:makesIn K C=true)
  (c:findIn K (.ref C) "__init__"=some (some (.ref f))) (b:PySem.W.typeIn K (.ref f)=some (.type "function"))
  (h:codeAny (model prog w) (A.under (.builtin "type.__call__" #[.ref C::vs,a])) (.call (.ref f) #[.ref (s.heap.objs.size+1)::vs,a]) (PySem.W.InitBack (s.heap.objs.size+1) R)
   {s with heap:=(s.heap.push emptyDict).push (instObj C s.heap.objs.size)}):
  codeAny (model prog w) A (.call (.ref C) #[vs,a]) R s:=by
 obtain⟨i,g,d,t,os⟩:=s;exact PySem.W.make_core (PySem.W.makes_of X e) (PySem.W.looks_findIn X c) (λself=>PySem.W.bind_fn X self b) (.inl rfl) h
end
def cf(f:Str)(v:V):List (Str×V)->List (Str×V)
 | []=>[(f,v)]
 |(g,x)::r=>if g=f then(g,v)::r else(g,x)::cf f v r
def ka(f g:Str)(v:V):∀fs:List (Str×V),(cf f v fs).lookup g=if g=f then some v else fs.lookup g
 | []=>by
  show List.lookup g [(f,v)]=_;by_cases h:g=f
  .have a:(g==f)=true:=S9.mpr h;simp only[List.lookup,a,OP h]
  .have a:(g==f)=false:=RQ.mpr h;simp only[List.lookup,a,OO h]
 |(k,x)::r=>by
  have c:=ka f g v r;rw[show cf f v ((k,x)::r)=(if k=f then(k,v)::r else(k,x)::cf f v r)from rfl];by_cases b:k=f
  .rw[OP b];by_cases h:g=k
   .have a:(g==k)=true:=S9.mpr h;simp only[List.lookup,a,OP (h.trans b)]
   .have a:(g==k)=false:=RQ.mpr h;simp only[List.lookup,a,OO (λe:g=f=>h (e.trans b.symm))]
  .rw[OO b];by_cases h:g=k
   .have a:(g==k)=true:=S9.mpr h;simp only[List.lookup,a,OO (λe:g=f=>b (h.symm.trans e))]
   .have a:(g==k)=false:=RQ.mpr h;simp only[List.lookup,a];exact c
def qX(f:Str)(v:V):∀fs:List (Str×V),f∈(cf f v fs).map (·.1)/\∀g,g∈fs.map (·.1)->g∈(cf f v fs).map (·.1)
 | []=>#[by simp[cf],λg h=>by simp at h]
 |(k,x)::r=>by
  obtain⟨b,c⟩:=qX f v r;rw[show cf f v ((k,x)::r)=(if k=f then(k,v)::r else(k,x)::cf f v r)from rfl];by_cases a:k=f
  .rw[OP a];subst a;exact#[#[5],λg h=>#[5,h]]
  .rw[OO a];refine#[6,λg h=> ?_]
   .rw[PF];exact OZ _ b
   .rw[PF]at h⊢;rcases OT.mp h with e|e
    .exact OT.mpr (.inl e)
    .exact OZ _ (c g e)
def aS(f:Str)(v:V):∀fs:List (Str×V),(cf f v fs).length<=fs.length+1
 | []=>by simp[cf]
 |(k,x)::r=>by
  have b:=aS f v r;rw[show cf f v ((k,x)::r)=(if k=f then(k,v)::r else(k,x)::cf f v r)from rfl];by_cases a:k=f
  .rw[OP a,Pa,Pa];lia
  .rw[OO a,Pa,Pa];lia
def oo.some_of(r:oo (some v) o):∃u,o=some u/\cC v u:=by
 cases o with
 |none=>exact(show False from r).elim
 |some u=>exact#[u,2,r]
def oo.none_of(r:oo none o):o=none:=by
 cases o with
 |none=>rfl
 |some u=>exact(show False from r).elim
def F9(r:cC v u):PySem.W.handedIn u=true:=by
 cases v with
 |non=>cases (show u=Value.none from r);rfl
 |bl b=>cases (show u=Value.bool b from r);rfl
 |int i=>obtain⟨t,e⟩:=(show∃t,u=Value.int i t from r);cases e;rfl
 |str x=>obtain⟨t,e⟩:=(show∃t,u=Value.str x t from r);cases e;rfl
 |byt b=>obtain⟨t,e⟩:=(show∃t,u=Value.bytes b t from r);cases e;rfl
 |flt b=>obtain⟨t,e⟩:=(show∃t,u=Value.float b t from r);cases e;rfl
 |ref a=>cases (show u=Value.ref a from r);rfl
 |ty n=>cases (show u=Value.type n from r);rfl
section
variable{P:Program}{w:World}{H H':Hp}{h h':Heap}{a C dx:Addr}{fs fs':List (Str×V)}
def sU(c:HOk P w H h)(e:H a=some (.ins C dx fs)):∃b,Du h a dx C b/\(∀f,oo (fs.lookup f) (b f))/\PySem.Within b (fs.map (·.1))/\fs.length<=1000/\H dx=some (.own a):=by obtain⟨d,z,ne,g,b,n,r,q⟩:=(show c7 P w H h a (.ins C dx fs)from c a _ e);exact#[b,#[g,n,ne],r,q,z,d]
end
structure Cls(K:Frag)(C:Addr):Prop where
 pg:plainGet K C Str.empty=true
 hd:hasDictIn K C=true
 po:plainOver K C=true
 sa:findIn K (.ref C) "__setattr__"=some (some (.builtin "object.__setattr__"))
def Cls.get{K:Frag}{C:Addr}(c:Cls K C)(f:Str):plainGet K C f=true:=c.pg
def bK(K:Frag)(C:Addr)(f:Str):Prop:=findIn K (.ref C) f=some none
def bK.taker{K:Frag}{C:Addr}{f:Str}(n:bK K C f):takerIn K C f=some none:=by unfold takerIn;rw[show findIn K (.ref C) f=some none from n];rfl
structure Meth(K:Frag)(C:Addr)(m:Str)(f:Addr):Prop where
 at_:findIn K (.ref C) m=some (some (.ref f))
 fn:isFn K (.ref f)=true
 kp:keepIn K (.ref f)=true
section
variable{X:Cx}{pins:List (Addr×Obj)}{σ:St}{H:Hp}{s:Shared}{a C dx:Addr}{fs:List (Str×V)}{f:Str}{v:V}{A:Around}{E:Value->Shared->Prop}
def C4(I:Inv X pins σ H s)(e:H a=some (.ins C dx fs))(c:Cls X.K C)(n:bK X.K C f)(l:fs.lookup f=some v)
  (h:∀u g,Inv X pins σ H g->cC v u->Q u g):wpAny (model X.prog X.w) A (getAttr (.ref a) f b) Q E s:=by
 obtain⟨j,O,r,_,_,_⟩:=sU I.hok e;obtain⟨u,i,d⟩:=oo.some_of (v:=v) (o:=j f) (by rw[<-l];exact r f);exact Lo I.kIn O (c.get f) c.hd n i (F9 d) (h u _ (I.tok _) d)
def uU(I:Inv X pins σ H s)(e:H a=some (.ins C dx fs))(c:Cls X.K C)(k:Meth X.K C m g)(l:fs.lookup m=none)
  (h:Q (.ref g,[.ref a]) s):wpAny (model X.prog X.w) A (getMethod (.ref a) m pl) Q E s:=by
 obtain⟨d,O,r,_,_,_⟩:=sU I.hok e;have b:d m=none:=oo.none_of (by rw[<-l];exact r m);exact Jx I.kIn O (c.get m) k.at_ k.fn b h
def Co(I:Inv X pins σ H s)(e:H a=some (.ins C dx fs))(c:Cls X.K C)(n:bK X.K C f)(hl:fs.length<1000)(J:cC y u)
  (h:∀k,Inv X pins σ (upd H a (.ins C dx (cf f y fs))) k->Q Unit.unit k):wpAny (model X.prog X.w) A (setAttr (.ref a) f u) Q E s:=by
 obtain⟨j,O,r,l,_,i⟩:=sU I.hok e;have G:(fs.map (·.1)).length<=sizeLine:=by rw[My,sizeLine_eq];lia
 refine Kp I.kIn O c.sa c.po n.taker c.hd l G λh' d L=>h _ ?_;have t:∃o,h'.get? dx=some o:=let⟨o,_,_,m,_⟩:=d.ns;#[o,m];refine I.write (x:=a) (e:=dx) (by rw[e];exact Rq) (.inr i) (λb q p z=>(L.2 b p).trans z) t ?_;refine#[by rw[aE O.ne];exact i,6,O.ne,d.obj,_,d.ns,λg=> ?_,λg B=> ?_]
 .have:=aS f y fs;lia
 .show oo ((cf f y fs).lookup g) (if g=f then some u else j g);rw[ka];by_cases q:g=f
  .rw[OP q,OP q];exact J
  .rw[OO q,OO q];exact r g
 .by_cases q:g=f
  .rw[q];exact(qX f y fs).1
  .refine(qX f y fs).2 g (l g λz=>B ?_);show(if g=f then some u else j g)=none;rw[OO q];exact z
def Inv.made(I:Inv X pins σ H s):Inv X pins σ (upd (upd H s.heap.objs.size (.own (s.heap.objs.size+1))) (s.heap.objs.size+1) (.ins C s.heap.objs.size []))
  {s with heap:=(s.heap.push emptyDict).push (instObj C s.heap.objs.size)}:=by
 have c:(s.heap.push emptyDict).get? s.heap.objs.size=some emptyDict:=Qn s.heap rfl;have g:((s.heap.push emptyDict).push (instObj C s.heap.objs.size)).get? (s.heap.objs.size+1)=some (instObj C s.heap.objs.size):=by
  have:=Qn (s.heap.push emptyDict) (o:=instObj C s.heap.objs.size) rfl
  rwa [R5]at this
 have h:(s.heap.push emptyDict).Ns s.heap.objs.size (λ_=>none):=#[emptyDict, #v[],_,c,2,(λe i=>absurd i #[5]),λ_=>rfl];have d:=I.laid (a:=s.heap.objs.size) (o:= .own (s.heap.objs.size+1)) (h':=s.heap.push emptyDict) (t':=s.toks) (λb u q=>PH _ q) (O4 _) #[_,c];refine d.laid (a:=s.heap.objs.size+1) (o:= .ins C s.heap.objs.size []) (t':=s.toks) (λb u q=>PH _ q) (Nat.le_of_eq (R5 _ _)) ?_;have ne:s.heap.objs.size≠s.heap.objs.size+1:=Qf (QB _);refine#[by rw[aE ne,ak],Qj _,ne,g,λ_=>none,(Heap.Ns1.of_empty h).at λo q=>PH _ q,λ_=>Rq,λy j=>absurd rfl j]
def LF(b:attributeBase e f env (eval e env)=eval e env)
  (h:wpAny (model prog w) A (eval e env) (λo c=>wpAny (model prog w) A (getAttr o f true) Q E c) E s):wpAny (model prog w) A (eval (.Attribute e f pos) env) Q E s:=
 Attribute_any_ h (by rw[arm_eval_Attribute,b])
end
inductive RdF(K:Frag)(f:Str)(Q:VK)(x:V)(H:Hp):Prop
 |mk(a C dx:Addr) (fs:List (Str×V)) (v:V) (e1:x= .ref a) (e2:H a=some (.ins C dx fs)) (c:Cls K C) (n:bK K C f) (l:fs.lookup f=some v) (q:Q v H):RdF K f Q x H
def Ms(K:Frag)(a:TE)(f:Str):TE:=λb H Q=>a b H (RdF K f Q)
def Mw(K:Frag)(g tv:TE)(f:Str):TS:=λD b H=>tv b H λy e=>g b e λx c=>∃a C d fs,x= .ref a/\c a=some (.ins C d fs)/\Cls K C/\bK K C f/\fs.length<1000/\
 D.nx b (upd c a (.ins C d (cf f y fs)))
section
variable{X:Cx}{o e value:Expr}{f:Str}{pos pos' tpos:Pos}{ta tv:TE}
def MR(k:PE X e ta)(j:attributeBase e f X.env (eval e X.env)=eval e X.env):PE X (.Attribute e f pos) (Ms X.K ta f):=by intro p s w H Q I h;refine LF j (thn (k p s w H _ I h) λu z m=> ?_);obtain⟨x,b,d,t,a,C,y,fs,v,ex,i,c,n,l,q⟩:=m;subst ex;obtain rfl:u=Value.ref a:=t;exact C4 d i c n l λB A g r=>#[v,b,g,r,q]
def MI(p:PE X o ta)(v:PE X value tv)(t:swapsWith value (some (.Attribute o f pos')) pos.line X.env=pure false):PS X (.Assign [.Attribute o f pos'] value pos) (Mw X.K ta tv f):=by intro d s b H D I h;refine plainObj_wpAny_Assign_Attribute (thn (v d s b H _ I h) λu B ⟨y,g,i,A,q⟩=>thn (p d B b g _ i q) λov L r=> ?_) t;obtain⟨x,G,j,z,a,C,J,fs,ex,m,c,n,l,w⟩:=r;subst ex;obtain rfl:ov=Value.ref a:=z;exact Co j m c n l A λM k=>#[b,_,k,w]
end
section
variable{X:Cx}{pins:List (Addr×Obj)}{σ:St}{H:Hp}{s:Shared}{A:Around}{E:Value->Shared->Prop}{Q:Value->Shared->Prop}{c:Value}{b:Bool}
inductive rD(K:Frag)(H:Hp):V->Value->Prop where
 |non:rD K H .non (.type "NoneType")
 |bl (x:Bool):rD K H (.bl x) (.type "bool")
 |int (i:Int):rD K H (.int i) (.type "int")
 |str (x:Str):rD K H (.str x) (.type "str")
 |flt (x:UInt64):rD K H (.flt x) (.type "float")
 |lst {a:Addr} {xs:List V} (e:H a=some (.lst xs)):rD K H (.ref a) (.type "list")
 |frz {a:Addr} {o:Obj} {xs:List V} (e:H a=some (.frz o (.lst xs))):rD K H (.ref a) (.type "list")
 |tup {a:Addr} {xs:List V} (e:H a=some (.tup xs)):rD K H (.ref a) (.type "tuple")
 |dK {a:Addr} {kvs:List (Key×V)} (e:H a=some (.dK kvs)):rD K H (.ref a) (.type "dict")
 |dT {a:Addr} {kvs:List (List Key×V)} (e:H a=some (.dT kvs)):rD K H (.ref a) (.type "dict")
 |ins {a C dx:Addr} {fs:List (Str×V)} (e:H a=some (.ins C dx fs)) (cl:Cls K C) (ha:findIn K (.ref C) "__class__"=some (some (.builtin "object.__class__")))
   (hn:specialIn K (.builtin "object.__class__") "__get__"=some (some (.builtin "getset_descriptor.__get__"))) (htk:takesIn K (.builtin "object.__class__")=some true)
   (hm:mroIn K C (.type "object")=some true):rD K H (.ref a) (.ref C)
def F5(I:Inv X pins σ H s)(f:cC x u)(ty:rD X.K H x t)(e:kitOne X.K t c=some b)(h:∀L,Q (.bool b) {s with toks:=L}):
  wpAny (model X.prog X.w) A (call (.builtin "isinstance") [u,c]) Q E s:=by
 cases ty with
 |non=>cases (show u=Value.none from f);exact Rc PySem.W.kitx_none I.kIn Rq e (λz=>nomatch z) h
 |bl y=>cases (show u=Value.bool y from f);exact Rc PySem.W.kitx_bool I.kIn Rq e (λz=>nomatch z) h
 |int i=>obtain⟨t,q⟩:=(show∃t,u=Value.int i t from f);cases q;exact Rc PySem.W.kitx_int I.kIn Rq e (λz=>nomatch z) h
 |str y=>obtain⟨t,q⟩:=(show∃t,u=Value.str y t from f);cases q;exact Rc PySem.W.kitx_str I.kIn Rq e (λz=>nomatch z) h
 |flt y=>obtain⟨t,q⟩:=(show∃t,u=Value.float y t from f);cases q;exact Rc PySem.W.kitx_float I.kIn Rq e (λz=>nomatch z) h
 | @lst a xs d=>
  cases (show u=Value.ref a from f);obtain⟨_,_,n,_,g⟩:=(show c7 X.prog X.w H s.heap a (.lst xs)from I.hok a _ d);exact Rc PySem.W.kitx_list I.kIn #[_,g,2] e (λz=>nomatch z) h
 | @frz a G xs d=>
  cases (show u=Value.ref a from f);obtain⟨_,_,_,n,_,g⟩:=(show c7 X.prog X.w H s.heap a (.frz G (.lst xs))from I.hok a _ d);exact Rc PySem.W.kitx_list I.kIn #[_,g,2] e (λz=>nomatch z) h
 | @tup a xs d=>
  cases (show u=Value.ref a from f);obtain⟨_,_,_,p⟩:=(show c7 X.prog X.w H s.heap a (.tup xs)from I.hok a _ d);obtain⟨o,g,j,_⟩:=p;exact Rc PySem.W.kitx_tuple I.kIn #[o,g,j] e (λz=>nomatch z) h
 | @dK a kvs d=>
  cases (show u=Value.ref a from f);obtain⟨_,_,vs,_,p⟩:=(show c7 X.prog X.w H s.heap a (.dK kvs)from I.hok a _ d);obtain⟨o,l,ep,g,j,_⟩:=p;exact Rc PySem.W.kitx_dict I.kIn #[o,g,j.1] e (λz=>nomatch z) h
 | @dT a kvs d=>
  cases (show u=Value.ref a from f);obtain⟨_,_,xs,_,o,l,ep,g,j,_⟩:=(show c7 X.prog X.w H s.heap a (.dT kvs)from I.hok a _ d);exact Rc PySem.W.kitx_dict I.kIn #[o,g,j.1] e (λz=>nomatch z) h
 | @ins a C M fs d k m v B r=>
  cases (show u=Value.ref a from f);obtain⟨N,O,_⟩:=sU I.hok d;obtain⟨U,J,_⟩:=O.look;exact Rc (PySem.W.kitx_own (k.get _) k.hd m v B r) I.kIn J e (λz=>nomatch z) h
end
structure Room(k:Nat)(A:Around):Prop where
 hd:A.handled=none
 dp:A.depth+3*k+5<recursionLimit
 un:A.units+16*k+200<cLine
def Room.mono(r:Room k A)(h:j<=k):Room j A:=#[r.hd,by have:=r.dp;lia,by have:=r.un;lia]
def Room.deeper{A:Around}(r:Room (k+1) A)(env:Env):Room k (A.deeper env):=
 #[r.hd,by have:=r.dp;show A.depth+1+3*k+5<_;lia,by have:=r.un;show A.units+3+16*k+200<_;lia]
def CS{A:Around}:(A.under (.builtin "type.__call__" #[.ref C::us,kw])).depth=A.depth+1:=by
 first|rfl|simp[Around.under,Code.weight,Code.isCreation,Code.isGuard,Code.isCaller,Code.frames,Code.isFrame,guardIds]
def CQ{A:Around}:(A.under (.builtin "type.__call__" #[.ref C::us,kw])).units=A.units+1:=by
 first|rfl|simp[Around.under,Code.cUnits,Code.frames,Code.isFrame]
def Room.make{A:Around}(r:Room (k+1) A)(C:Addr)(us:List Value)(a:List (Str×Value)):Room k (A.under (.builtin "type.__call__" #[.ref C::us,a])):=
 #[r.hd,by have:=r.dp;rw[CS];lia,by have:=r.un;rw[CQ];lia]
def Room.depth{A:Around}(r:Room k A):A.depth<recursionLimit:=by have:=r.dp;lia
def Room.units{A:Around}(r:Room k A):A.units+64<cLine:=by have:=r.un;lia
def Ki:TA:=λ_ H Q=>Q [] H
def GW(d:TE)(e:TA):TA:=λa H Q=>d a H λx b=>e a b λxs c=>Q (x::xs) c
section
variable{X:Cx}{e:Expr}{es:List Expr}{te:TE}{t:TA}{pos:Pos}
def ah:PA X [] Ki:=λ_ _ _ _ H Q I h=>Calls.spliced_nil #[[],H,I, .nil,h]
def aa(i:PE X e te)(j:PA X es t)(k:starEach (e::es) X.env=(false,eval e X.env)::starEach es X.env:=by rfl):PA X (e::es) (GW te t):=by intro pos a s b H Q I h;rw[k];show wpAny _ _ (spliced ((false,eval e X.env)::backTo pos (starEach es X.env))) _ _ s;refine Calls.spliced_cons (thn (i a s b H _ I h) λu p ⟨x,c,f,n,l⟩=> ?_);exact thn (j pos a p b c _ f l) λus q ⟨xs,d,g,o,m⟩=>#[x::xs,d,g, .cons n o,m]
def Ox(t:TA):TE:=λb H Q=>t b H λxs a=>xs.length<=sizeLine/\∀p,a p=none->Q (.ref p) (upd a p (.tup xs))
def NK(t:TA):TE:=λb H Q=>t b H λxs a=>xs.length<=sizeLine/\∀p,a p=none->Q (.ref p) (upd a p (.lst xs))
def iy{x1}(h:PA X es t):PE X (.Tuple es x1 pos) (Ox t):=by intro i s j H Q I g;refine wpAny_Tuple_spliced (thn (h pos i s j H _ I g) λus a ⟨xs,c,d,r,z,q⟩=>#[by rw[<-r.length];exact z,6]);have f:c a.heap.objs.size=none:=d.hok.fresh (O4 _);refine#[.ref a.heap.objs.size,upd c a.heap.objs.size (.tup xs),d.laid (t':=a.toks) (λb u e=>PH _ e) (O4 _) ?_,2,q _ f];exact#[z,us,r,#[_,Qn _ rfl,27]]
def dU(h:PA X es t):PE X (.List es pos) (NK t):=by intro i s j H Q I g;refine wpAny_List_spliced (thn (h pos i s j H _ I g) λus a ⟨xs,c,d,r,z,q⟩=>#[by rw[<-r.length];exact z,6]);have f:c a.heap.objs.size=none:=d.hok.fresh (O4 _);refine#[.ref a.heap.objs.size,upd c a.heap.objs.size (.lst xs),d.laid (t':=a.toks) (λb u e=>PH _ e) (O4 _) ?_,2,q _ f];exact#[z,us,0,r,Qn _ rfl]
end
abbrev Sp:=List V->Hp->VK->XK->Prop
abbrev CXT:=List Env->Hp->Shared->XK->Value->Shared->Prop
structure Dx(P:Program)(w:World)(K:Frag)(mg:Str->Option Value)(base:Heap)(A:Around)(outer:List Env)(s:Shared)(H:Hp):Prop where
 frames:A.frames=some outer
 mod:Mod K mg base
 bs:∀b o,base.get? b=some o->s.heap.get? b=some o/\H b=none
 bsz:base.objs.size<=s.heap.objs.size
 funs:s.heap.FunFrames base outer
 frf:∀b∈frs outer,H b=none
 hok:HOk P w H s.heap
 bare:AllBare s.gens
def CE(outer:List Env)(P:Program)(w:World)(H:Hp)(s:Shared)(Q:VK)(u:Value)(a:Shared):Prop:=
 ∃v H',a.os=s.os/\AllBare a.gens/\Un (frs outer) [] H H' s.heap a.heap/\HOk P w H' a.heap/\cC v u/\Q v H'
def CR(CX:CXT)(outer:List Env)(P:Program)(w:World)(H:Hp)(s:Shared)(Q:VK)(E:XK)(r:Result)(a:Shared):Prop:=
 match r with
 | .ok (.ret u)=>CE outer P w H s Q u a
 | .ok _=>False
 | .error e=>CX outer H s E e a
structure lr(P:Program)(w:World)(K:Frag)(mg:Str->Option Value)(base:Heap)(CX:CXT)(k:Nat)(f:Addr)(fd:FuncData)(ps:List Str)(sp:Sp):Prop where
 len:∀vs H Q E,sp vs H Q E->vs.length=ps.length
 run:∀(A:Around)(outer:List Env)(s:Shared)(H:Hp)(args:Args)(us:List Value)(vs:List V)(Q:VK)(E:XK),Room k A->Dx P w K mg base A outer s H->BindsTo s fd args (ps.zip us)->Vals vs us->sp vs H Q E->
  codeAny (model P w) A (.call (.ref f) args) (CR CX outer P w H s Q E) s
def lr.mono{P:Program}{w:World}{K:Frag}{mg:Str->Option Value}{base:Heap}{CX:CXT}{j k:Nat}{f:Addr}{a:FuncData}{ps:List Str}{sp:Sp}(F:lr P w K mg base CX j f a ps sp)(h:j<=k):
  lr P w K mg base CX k f a ps sp:=#[F.len,λA outer s H args us vs Q E b=>F.run A outer s H args us vs Q E (b.mono h)]
def lr.imp{P:Program}{w:World}{K:Frag}{mg:Str->Option Value}{base:Heap}{CX:CXT}{k:Nat}{f:Addr}{a:FuncData}{ps:List Str}{sp b:Sp}(F:lr P w K mg base CX k f a ps sp)
  (h:∀vs H Q E,b vs H Q E->sp vs H Q E):lr P w K mg base CX k f a ps b:=
 #[λvs H Q E q=>F.len vs H Q E (h _ _ _ _ q),λA outer s H args us vs Q E e d c i g=>F.run A outer s H args us vs Q E e d c i (h _ _ _ _ g)]
def Dx.make{P:Program}{w:World}{K:Frag}{mg:Str->Option Value}{base:Heap}{A:Around}{outer:List Env}{s:Shared}{H:Hp}(e:Dx P w K mg base A outer s H)(C:Addr)(us:List Value)(a:List (Str×Value)):
  Dx P w K mg base (A.under (.builtin "type.__call__" #[.ref C::us,a])) outer s H:=#[by first|exact e.frames|(simpa [Around.under,Code.envs,Code.isFrame,pushEnvs]using e.frames),e.mod,e.bs,e.bsz,e.funs,e.frf,e.hok,e.bare]
section
variable{X:Cx}{pins:List (Addr×Obj)}{σ:St}{H:Hp}{s s':Shared}
def Inv.env0(I:Inv X pins σ H s):Dx X.prog X.w X.K X.mg X.base X.A X.stack s H:=
 #[I.ok.frames,I.ok.mod,I.bs,OY I.ok.bsz I.sz,I.stack,I.stkFree,I.hok,I.bare]
def Inv.after(I:Inv X pins σ H s)(h:CE X.stack X.prog X.w H s Q u s'):EP X pins σ Q u s':=by obtain⟨v,H',os,bare,un,c,r,q⟩:=h;obtain⟨a,g,d,t,e⟩:=s';obtain rfl:e=s.os:=os;exact#[v,H',I.call (h':=a) (g':=g) (d':=d) (t':=t) (ch:=[]) un c bare (λb z=>absurd z #[5]),r,q]
end
def GX(sp:Sp)(dvs:List V)(E:XK)(t:TA):TE:=λb H Q=>t b H λvs a=>sp (vs++dvs) a Q E
def LP(C:Addr)(sp:Sp)(dvs:List V)(E:XK)(t:TA):TE:=λd H Q=>t d H λvs b=>∀x a,b x=none->b a=none->a≠x->
 sp (.ref x::(vs++dvs)) (upd (upd b a (.own x)) x (.ins C a [])) (λv c=>v= .non/\Q (.ref x) c) E
def nr(K:Frag)(b:FuncData)(ps:List Str)(a:List Value):Prop:=
 ∀(s:Shared)(us:List Value),K.In s.heap->(us++a).length=ps.length->BindsTo s b #[us,[]] (ps.zip (us++a))
def nr.all{K:Frag}{a:FuncData}{ps:List Str}(h:∀us:List Value,us.length=ps.length->bindArgs a #[us,[]]=pure (ps.zip us)):nr K a ps []:=λs us _ hl=>by rw[Qx]at hl⊢;exact .of_eq (h us hl)
def vt(CX:CXT)(X:Cx)(E:XK):Prop:=∀(b:List (Addr×Obj)) (c:St) (H:Hp) (s:Shared) (e:Value) (a:Shared),Inv X b c H s->CX X.stack H s E e a->X.xe e a
section
variable{X:Cx}{CX:CXT}{k:Nat}{f C:Addr}{fd:FuncData}{ps:List Str}{sp:Sp}{dvs:List V}{ds:List Value}{E:XK}{x m:Str}{p pos apos:Pos}{e o:Expr}{es:List Expr}{ta:TE}{t:TA}
def yi{b:List (Addr×Obj)}{c:St}{H:Hp}{s:Shared}{Q:VK}{us:List Value}{vs:List V}(F:lr X.prog X.w X.K X.mg X.base CX k f fd ps sp)(l:Room k X.A)(i:nr X.K fd ps ds)(j:Vals dvs ds)(n:vt CX X E)
  (I:Inv X b c H s) (r:Vals vs us) (h:sp (vs++dvs) H Q E):wpAny (model X.prog X.w) X.A (call (.ref f) us) (EP X b c Q) X.xe s:=by
 have d:Vals (vs++dvs) (us++ds):=r.append j;have hl:(us++ds).length=ps.length:=by rw[<-d.length];exact F.len _ _ _ _ h
 refine wpAny_call (TK (F.run X.A X.stack s H #[us,[]] (us++ds) (vs++dvs) Q E l I.env0 (i s us I.kIn hl) d h) λr q a=> ?_);cases r with
 |error e=>exact n b c H s e q I a
 |ok g=>
  cases g with
  |ret u=>exact I.after a
  |next=>exact False.elim a
  |brk=>exact False.elim a
  |cont=>exact False.elim a
def KU(F:lr X.prog X.w X.K X.mg X.base CX k f fd ps sp)(v:Room k X.A)(j:Gl X x)(n:X.mg x=some (.ref f))(l:keepIn X.K (.ref f)=true)(c:nr X.K fd ps ds)(d:Vals dvs ds)(y:vt CX X E)
  (b:PA X (e::es) t) (g:(x==("__debug__":Str))=false:=by decide) (i:starEach (e::es) X.env=(false,eval e X.env)::starEach es X.env:=by rfl) (u:(backTo pos (starEach es X.env)).any (·.1)=false:=by rfl):
  PE X (.Call (.Name x p) (e::es) [] pos) (GX sp dvs E t):=by
 intro z s B H Q I h;refine RV (yU I j n ?_ g);refine Sr (h₀:=X.base) I.ok.mod.kin l (thn (b pos z s B H _ I h) λus J ⟨vs,G,a,r,q⟩=>#[a.kIn,6]) i u;exact yi F v c d y a r q
structure Mk(K:Frag)(C f:Addr):Prop where
 makes:makesIn K C=true
 init:findIn K (.ref C) "__init__"=some (some (.ref f))
 fn:isFn K (.ref f)=true
 kp:keepIn K (.ref C)=true
def HF{d:List (Addr×Obj)}{g:St}{H:Hp}{s:Shared}{Q:VK}{us:List Value}{vs:List V}(M:Mk X.K C f)(F:lr X.prog X.w X.K X.mg X.base CX k f fd ps sp)(B:Room (k+1) X.A)(y:nr X.K fd ps ds)(z:Vals dvs ds)
  (G:vt CX X E) (I:Inv X d g H s) (r:Vals vs us)
  (h:∀x c,H x=none->H c=none->c≠x->sp (.ref x::(vs++dvs)) (upd (upd H c (.own x)) x (.ins C c [])) (λv l=>v= .non/\Q (.ref x) l) E):
  wpAny (model X.prog X.w) X.A (call (.ref C) us) (EP X d g Q) X.xe s:=by
 have i:=h (s.heap.objs.size+1) s.heap.objs.size (I.hok.fresh (Nat.le_succ _)) (I.hok.fresh (O4 _)) (Qf (QB _));have b:=Inv.made (C:=C) I;have j:Vals (V.ref (s.heap.objs.size+1)::(vs++dvs)) (Value.ref (s.heap.objs.size+1)::(us++ds)):= .cons rfl (r.append z);have hl:(Value.ref (s.heap.objs.size+1)::us++ds).length=ps.length:=by have e:=j.length;rw[F.len _ _ _ _ i]at e;exact e.symm
 refine wpAny_call (Je (f:=f) I.kIn M.makes M.init (S9.mp M.fn) (TK (F.run _ X.stack _ _ #[Value.ref (s.heap.objs.size+1)::us,[]] (Value.ref (s.heap.objs.size+1)::(us++ds)) _ _ E (B.make C us [])
  (b.env0.make C us []) (y _ (Value.ref (s.heap.objs.size+1)::us) b.kIn hl) j i) λr N a=> ?_))
 cases r with
 |error e=>exact G d g _ _ e N b a
 |ok q=>
  cases q with
  |ret u=>
   obtain⟨v,H',n,L,ev,J⟩:=b.after a;subst ev;exact#[L,#[V.ref (s.heap.objs.size+1),H',n,2,J]]
  |next=>exact False.elim a
  |brk=>exact False.elim a
  |cont=>exact False.elim a
def KR(M:Mk X.K C f)(F:lr X.prog X.w X.K X.mg X.base CX k f fd ps sp)(u:Room (k+1) X.A)(j:Gl X x)(l:X.mg x=some (.ref C))(c:nr X.K fd ps ds)(d:Vals dvs ds)(v:vt CX X E)
  (b:PA X (e::es) t) (g:(x==("__debug__":Str))=false:=by decide) (i:starEach (e::es) X.env=(false,eval e X.env)::starEach es X.env:=by rfl) (n:(backTo pos (starEach es X.env)).any (·.1)=false:=by rfl):
  PE X (.Call (.Name x p) (e::es) [] pos) (LP C sp dvs E t):=by
 intro y s z H Q I h;refine RV (yU I j l ?_ g);refine Sr (h₀:=X.base) I.ok.mod.kin M.kp (thn (b pos y s z H _ I h) λus G ⟨vs,B,a,r,q⟩=>#[a.kIn,6]) i n;exact HF M F u c d v a r q
end
structure aH(N P:List Str)(sc:Scope):Prop where
 kind:sc.kind= .function
 co:sc.isCoroutine=false
 gen:sc.isGenerator=false
 nd:N.Nodup
 pre:N.take P.length=P
 par:∀x∈P,sc.names.lookup x=some .local\/sc.names.lookup x=some .cell
 nofree:∀y∈sc.names,y.2≠ .free
def w4{kindOf:Str->Option NameKind}{x:Str}:∀ {binds:List (Str×Value)} {m:Str->Option Value},(∀v,(x,v)∉binds)->bindL kindOf binds m x=m x
 | [],_,_=>rfl
 |(n,v)::r,m,h=>by
  unfold bindL;rw[w4 λw a=>h w (OZ _ a)];split
  .have:x≠n:=by rintro rfl;exact h v O6
   simp[this]
  .rfl
def w8{kindOf:Str->Option NameKind}{x:Str}:∀ {binds:List (Str×Value)} {m:Str->Option Value},(∀v,(x,v)∉binds)->bindC kindOf binds m x=m x
 | [],_,_=>rfl
 |(n,v)::r,m,h=>by
  unfold bindC;rw[w8 λw a=>h w (OZ _ a)];split
  .rfl
  .have:x≠n:=by rintro rfl;exact h v O6
   simp[this]
def w6{kindOf:Str->Option NameKind}{x:Str}{v:Value}:∀ {P:List Str} {vs:List Value} {i:Nat} {m:Str->Option Value},P.Nodup->P[i]?=some x->vs[i]?=some v->kindOf x=some .local->
  bindL kindOf (P.zip vs) m x=some v
 | [],_,_,_,_,h,_,_=>by simp at h
 |_::_,[],_,_,_,_,h,_=>by simp at h
 |p::P,w::vs,0,m,d,a,b,c=>by simp at a b;subst a;subst b;show bindL kindOf ((p,w)::P.zip vs) m p=_;unfold bindL;rw[w4 λv e=>(PX.mp d).1 (TZ e).1,OP c];simp
 |p::P,w::vs,i+1,m,d,a,b,c=>by show bindL kindOf ((p,w)::P.zip vs) m x=_;unfold bindL;exact w6 (i:=i) (PX.mp d).2 #[5,a] #[5,b] c
def w9{kindOf:Str->Option NameKind}{x:Str}{v:Value}:∀ {P:List Str} {vs:List Value} {i:Nat} {m:Str->Option Value},P.Nodup->P[i]?=some x->vs[i]?=some v->kindOf x≠some .local->
  bindC kindOf (P.zip vs) m x=some v
 | [],_,_,_,_,h,_,_=>by simp at h
 |_::_,[],_,_,_,_,h,_=>by simp at h
 |p::P,w::vs,0,m,d,a,b,c=>by simp at a b;subst a;subst b;show bindC kindOf ((p,w)::P.zip vs) m p=_;unfold bindC;rw[w8 λv e=>(PX.mp d).1 (TZ e).1,OO c];simp
 |p::P,w::vs,i+1,m,d,a,b,c=>by show bindC kindOf ((p,w)::P.zip vs) m x=_;unfold bindC;exact w9 (i:=i) (PX.mp d).2 #[5,a] #[5,b] c
def start(N:List Str)(vs:List V):St:=vs.map some++List.replicate (N.length-vs.length) none
def zf(CX:CXT)(P:Program)(w:World)(K:Frag)(mg:Str->Option Value)(base:Heap)(N:List Str)(b:Str)(scope:Scope)(f:Addr)(a:Value)(A:Around)(outer:List Env)(s:Shared)(H:Hp)(E:XK):Cx where
 prog:=P
 w:=w
 K:=K
 mg:=mg
 base:=base
 A:=A.deeper (envOfC b scope s.heap.objs.size f a)
 N:=N
 s₀:=s
 H₀:=H
 env:=envOfC b scope s.heap.objs.size f a
 outer:=outer
 stack:=envOfC b scope s.heap.objs.size f a::outer
 ex:=[]
 calm:=true
 fn:=λ_=>true
 pn:=[]
 xe:=λe g=>wpAny (model P w) (A.deeper (envOfC b scope s.heap.objs.size f a)) (leaving (envOfC b scope s.heap.objs.size f a) e) (λ_ c=>CX outer H s E e c) (λd c=>CX outer H s E d c) g
def BF{a:Scope}(h:a.names.lookup x=some .cell):∃c,(cellsFrom n a.names []).lookup x=some c:=by have q:=PySem.W.cellsFrom_some a.names n [] (.inl h);exact Option.isSome_iff_exists.mp q
def F6{CX:CXT}{P:Program}{w:World}{K:Frag}{mg:Str->Option Value}{base:Heap}{N ps:List Str}{B:Str}{scope:Scope}{f:Addr}{m:Value}{A:Around}{outer:List Env}{s O:Shared}{H:Hp}{E:XK}{us:List Value}{vs:List V}
  (S:aH N ps scope) (U:A.handled=none) (g:Dx P w K mg base A outer s H) (hl:vs.length=ps.length) (r:Vals vs us)
  (x:InCallC s s.heap.objs.size (bindL (envOfC B scope s.heap.objs.size f m).kindOf (ps.zip us) λ_=>none) (cellsFrom (s.heap.objs.size+1) scope.names []) (bindC (envOfC B scope s.heap.objs.size f m).kindOf (ps.zip us) λ_=>none) O):
  Inv (zf CX P w K mg base N B scope f m A outer s H E) [] (start N vs) H O:=by
 have ai:ps.length<=N.length:=by have:=PN List.length S.pre;rw[Pz]at this;lia
 obtain⟨o,tk,rfl,J⟩:=x.done;have G:∀b:Addr,b∉ (zf CX P w K mg base N B scope f m A outer s H E).ex:=λb z=>absurd (show b∈([]:List Addr)from z) #[5];refine#[#[g.mod,S.kind,22,O4 _,λy z c o d=> ?_,λy j=> ?_,λy c _ h=> ?_,λ_=>U,Around.frames_deeper g.frames, .inr #[22],λb z=>absurd z (G b),g.bs,g.bsz,λb _ _=>G b,λb z=>absurd z (G b),g.funs,g.frf],2,g.bare,Un.kept J,#[_,x.toInCall.ns,λi y v o d h3=> ?_],λy c h=>#[_,x.cell y c h],g.hok.fresh (O4 _),λy c h=> ?_,λp l=>absurd (show p∈([]:List (Addr×Obj))from l) #[5],g.hok.kept J,6]
 .exact name_of_addr x.apart (QF o) (QF d)
 .have j:scope.names.lookup y=some .cell\/scope.names.lookup y=some .free:=j;rcases j with j|j
  .exact BF j
  .exact absurd rfl (S.nofree _ (QF j))
 .exact S5 (x.above y c (QF h))
 .have t:i<vs.length:=by
   unfold start at d;by_cases t:i<vs.length
   .exact t
   .rw[PM #[5,t]]at d;rw[TV]at d;split at d<;>cases d
  have Q:vs[i]?=some v:=by
   unfold start at d;rw[PL #[5,t],Ph]at d;cases e:vs[i]? with
   |none=>rw[e]at d;cases d
   |some a=>rw[e]at d;cases d;rfl
  obtain⟨u,L,rv⟩:=r.get Q;have l:ps[i]?=some y:=by rw[<-S.pre,Rh ()];exact o
  have M:ps.Nodup:=by rw[<-S.pre];exact S.nd.sublist (List.take_sublist _ _)
  refine#[u,rv,6];rcases S.par y (O5 l)with k|k
  .exact .inl #[k,w6 M l L k]
  .obtain⟨c,e⟩:=BF (n:=s.heap.objs.size+1) k;refine .inr #[.inl k,c,e,6];have q:=x.cell y c e;rwa[w9 M l L (by show scope.names.lookup y≠_;rw[k];decide)]at q
 .exact g.hok.fresh (S5 (x.above y c (QF h)))
 .unfold start;show _=N.length;rw[Pl,My,SX];lia
def Of{CX:CXT}{P:Program}{w:World}{K:Frag}{mg:Str->Option Value}{base:Heap}{k:Nat}{f:Addr}{name a:Str}{params:Arguments}{h:List Stmt}{scope:Scope}{B kV G O cdv z oc:Value}{p od:Option Addr}
  {a5:Array (Option Value)} {N ps:List Str} {sp:Sp} (lk:K.lookup f=some #[oc,od, .func (fnOf name a params h scope B kV G O p cdv z),a5]) (ar:codeIn K cdv a=true) (S:aH N ps scope)
  (len:∀vs H Q E,sp vs H Q E->vs.length=ps.length)
  (ai:∀(A:Around)(outer:List Env)(s:Shared)(H:Hp)(vs:List V)(Q:VK)(E:XK),Room k (A.deeper (envOfC a scope s.heap.objs.size f cdv))->sp vs H Q E->
   ∃t,PSs (zf CX P w K mg base N a scope f cdv A outer s H E) h t/\t {nx:=λ_ H'=>Q .non H',rt:=Q} (start N vs) H):
  lr P w K mg base CX (k+1) f (fnOf name a params h scope B kV G O p cdv z) ps sp:=by
 refine#[len,λA outer s H args us vs Q E i d hb r M=> ?_];have hl:=len _ _ _ _ M;have m:K.In s.heap:=d.mod.kin.keeps λb o e=>(d.bs b o e).1;have aD:s.heap.NoLimit:=d.mod.nolimit.keeps λb o e=>(d.bs b o e).1;have ay:∀y∈ps.zip us,scope.names.lookup y.1=some .local\/(scope.names.lookup y.1=some .cell/\((cellsFrom (s.heap.objs.size+1) scope.names []).lookup y.1).isSome=true):=λ⟨n,v⟩ hy=>by
  rcases S.par n (TZ hy).1 with q|q
  .exact .inl q
  .exact .inr #[q,PySem.W.cellsFrom_some _ _ _ (.inl q)]
 refine codeAny_call_function i.depth (m _ _ lk) rfl S.co S.gen rfl (PySem.W.codeRec_of m ar) (hb _ _ _ _ ?_);refine wpAny_newFunctionEnv_cells S.kind ay λenv he U x=> ?_;subst he;refine#[aD.keeps x.toInCall.keep,codeAny_func ?_];obtain⟨t,ht,hq⟩:=ai A outer s H vs Q E (i.deeper _) M;have I:Inv (zf CX P w K mg base N a scope f cdv A outer s H E) [] (start N vs) H U:=F6 S i.hd d hl r x;refine S6 (ht [] U (start N vs) H _ I hq) (λfl l c=> ?_) λe l c=>c;have L:∀ {g:St} {H':Hp} {v:V} {u:Value},Inv (zf CX P w K mg base N a scope f cdv A outer s H E) [] g H' l->cC v u->Q v H'->CE outer P w H s Q u l:=
  λ{g H' v u} J j q=>#[v,H',J.os,J.bare,J.base,J.hok,j,q]
 cases fl with
 |ret u=>
  obtain⟨v,g,H',J,j,q⟩:=c;exact L J j q
 |next=>
  obtain⟨g,H',J,q⟩:=c;exact L (v:=V.non) (u:=Value.none) J rfl q
 |brk=>
  obtain⟨_,_,_,q⟩:=c;exact False.elim q
 |cont=>
  obtain⟨_,_,_,q⟩:=c;exact False.elim q
section
variable{X:Cx}{x:Str}{p pos:Pos}{e:Expr}{es:List Expr}{t:TA}{id T:String}{r:List V->Hp->VK->Prop}
def tCB(r:List V->Hp->VK->Prop)(t:TA):TE:=λb H Q=>t b H λvs a=>r vs a Q
def eh(g:gs X (.builtin id) r)(k:Gl X x)(l:X.mg x=none)(o:bootBuiltins x=some (.builtin id))(f:PA X (e::es) t)(m:x≠ "__name__":=by decide)(i:(x==("__debug__":Str))=false:=by decide)
  (j:starEach (e::es) X.env=(false,eval e X.env)::starEach es X.env:=by rfl) (n:(backTo pos (starEach es X.env)).any (·.1)=false:=by rfl):PE X (.Call (.Name x p) (e::es) [] pos) (tCB r t):=by
 intro a s b H Q I h;refine RV (ko I k l o ?_ m i);exact PyProof.Rows.callWith_builtin1 (thn (f pos a s b H _ I h) λus v ⟨vs,c,d,u,q⟩=>g a v b c vs us Q d u q) j n
def fQ(g:gs X (.type T) r)(k:Gl X x)(l:X.mg x=none)(o:bootBuiltins x=some (.type T))(f:PA X (e::es) t)(m:x≠ "__name__":=by decide)(i:(x==("__debug__":Str))=false:=by decide)
  (j:starEach (e::es) X.env=(false,eval e X.env)::starEach es X.env:=by rfl) (n:(backTo pos (starEach es X.env)).any (·.1)=false:=by rfl):PE X (.Call (.Name x p) (e::es) [] pos) (tCB r t):=by
 intro a s b H Q I h;refine RV (ko I k l o ?_ m i);exact QK (thn (f pos a s b H _ I h) λus v ⟨vs,c,d,u,q⟩=>g a v b c vs us Q d u q) j n
end
end L2
namespace HT
open PySem PyProof.Rows
section
variable{prog:Program}{w:World}{A:Around}{E:Value->Shared->Prop}{s:Shared}
def sIx(n d:Nat):Option Int->Nat
 |none=>d
 |some v=>if v<0 then(v+(n:Int)).toNat else min v.toNat n
def t6(n d:Nat):sIx n d none=d:=rfl
def yh(n d k:Nat):sIx n d (some (k:Int))=min k n:=by show(if(k:Int)<0 then((k:Int)+(n:Int)).toNat else min (k:Int).toNat n)=min k n;rw[OO (),OU]
end
end HT
namespace L2
open PySem PySem.Spec PyProof.Rows
abbrev TO:=St->Hp->(Option Int->Hp->Prop)->Prop
def PO(X:Cx)(e:Option Expr)(t:TO):Prop:=
 ∀(b:List (Addr×Obj)) (s:Shared) (a:St) (H:Hp) (Q:Option Int->Hp->Prop),Inv X b a H s->t a H Q->
  wpAny (model X.prog X.w) X.A (evalPart e X.env) (λu c=>∃o H',Inv X b a H' c/\IsPart u o/\Q o H') X.xe s
def Kh:TO:=λ_ H Q=>Q none H
def NI(t:TE):TO:=λb H Q=>t b H λx a=>∃i,x= .int i/\Q (some i) a
def uQ{ns:List Int}:∀ {us:List Value},Vals (ns.map V.int) us->IntsAre us ns:=by
 induction ns with
 |nil=>intro us r;rw[RN]at r;cases r;exact .nil
 |cons n ns a=>
  intro us r;rw[PF]at r;cases r with
  |cons b c=>
   obtain⟨t,e⟩:=b;subst e;exact .cons n t (a c)
section
variable{X:Cx}{e:Expr}{te:TE}{lo hi:Option Expr}{tl th:TO}{pos p2:Pos}
def pU:PO X none Kh:=by intro a s b H Q I h;rw[evalPart_none];exact QA #[none,H,I, .none,h]
def pT(h:PE X e te):PO X (some e) (NI te):=by intro d s j H Q I c;rw[evalPart_some];refine thn (h d s j H _ I c) λu k ⟨x,a,b,g,f⟩=> ?_;obtain⟨i,rfl,q⟩:=f;obtain⟨t,rfl⟩:=g;exact#[some i,a,b, .int i t,q]
def SlR(X:Cx)(r:V->Option Int->Option Int->Hp->VK->Prop):Prop:=
 ∀(a:List (Addr×Obj)) (s:Shared) (f:St) (H:Hp) (x:V) (v c d:Value) (lo hi:Option Int) (b:Addr) (Q:VK),Inv X a f H s->cC x v->s.heap.IsSliceOf b c d .none->IsPart c lo->IsPart d hi->r x lo hi H Q->
  ∃T id,typeLookup (.type T) "__getitem__"=pure (some (.builtin id))/\s.TypeIs v T/\wpAny (model X.prog X.w) X.A (getItem v (.ref b)) (EP X a f Q) X.xe s
def tSl(r:V->Option Int->Option Int->Hp->VK->Prop)(te:TE)(tl th:TO):TE:=λa H Q=>te a H λx b=>tl a b λl c=>th a c λu d=>r x l u d Q
def mr(B:SlR X r)(y:PE X e te)(hl:PO X lo tl)(J:PO X hi th):PE X (.Subscript e (.Slice lo hi none p2) pos) (tSl r te tl th):=by intro c s d H Q I h;refine Subscript_ (thn (y c s d H _ I h) λv U ⟨x,j,m,O,L⟩=> ?_);refine wpAny_Slice (thn (hl c U d j _ m L) λf s2 ⟨l,k,n,pl,M⟩=>thn (J c s2 d k _ n M) λg a ⟨u,i,o,K,N⟩=> ?_);rw[evalPart_none];refine QA ?_;have p:Inv X c d i {a with heap:=a.heap.push {cls:= .type "slice",data:= .fields #v[f,g, .none]}}:=o.kept (t':=a.toks) λb ob q=>PH _ q;obtain⟨T,id,t,G,z⟩:=B c {a with heap:=a.heap.push {cls:= .type "slice",data:= .fields #v[f,g, .none]}} d i x v f g l u a.heap.objs.size Q p O (Heap.IsSliceOf.new ..) pl K N;show wpAny (model X.prog X.w) X.A (subscriptTail e (.Slice lo hi none p2) v (.ref a.heap.objs.size)) (EP X c d Q) X.xe {a with heap:=a.heap.push {cls:= .type "slice",data:= .fields #v[f,g, .none]}};exact tail_any (ops:=[.ref a.heap.objs.size,v]) G t z (by with_unfolding_all rfl)
def sA(xs:List V)(lo hi:Option Int):List V:=(xs.drop (HT.sIx xs.length 0 lo)).take (HT.sIx xs.length xs.length hi-HT.sIx xs.length 0 lo)
def BD(xs:List V)(lo hi:Option Int):(sA xs lo hi).length<=xs.length:=by unfold sA;rw[Pz,Ri];exact OY (Nat.min_le_right _ _) (Nat.sub_le _ _)
end
def ixN(n:Nat)(i:Int):Option Nat:=if 0<=i then(if i<n then some i.toNat else none)else if-(n:Int)<=i then some (i+n).toNat else none
def atI{a:Type}(xs:List a)(i:Int):Option a:=(ixN xs.length i).bind λj=>xs[j]?
def Lk(h:ixN n i=some j):seqIndex? i n=some j/\j<n/\ -(n:Int)<=i/\i<n:=by
 unfold ixN at h;by_cases b:0<=i
 .rw[OP b]at h;by_cases a:i<n
  .rw[OP a]at h;have e:i.toNat=j:=Qd h;exact#[by rw[seqIndex_of b a,e],99,a]
  .rw[OO a]at h;cases h
 .rw[OO b]at h;by_cases a: -(n:Int)<=i
  .rw[OP a]at h;have e:(i+n).toNat=j:=Qd h;exact#[by rw[seqIndex_neg () a,e],9,a,9]
  .rw[OO a]at h;cases h
def Ey{xs:List α}(h:atI xs i=some v):∃j,seqIndex? i xs.length=some j/\xs[j]?=some v/\j<xs.length/\ -(xs.length:Int)<=i/\i<xs.length:=by
 unfold atI at h;cases e:ixN xs.length i with
 |none=>rw[e]at h;cases h
 |some j=>
  rw[e]at h;obtain⟨a,b,c,d⟩:=Lk e;exact#[j,a,h,b,c,d]
def fv{a:Type}{xs:List a}{j:Nat}{v:a}(h:xs[j]?=some v):atI xs (j:Int)=some v:=by
 have b:j<xs.length:=(O1.mp h).1;have e:ixN xs.length (j:Int)=some j:=by unfold ixN;rw[OP (),OP ()];simp
 unfold atI;rw[e];exact h
def zP(b:Expr):Prop:=∀o i,subscripted b false o i=operate [o,i] (getItem o i)
def IxR(X:Cx)(r:R2):Prop:=
 ∀(c slice:Expr) (a:List (Addr×Obj)) (s:Shared) (b:St) (H:Hp) (x y:V) (v u:Value) (Q:VK),Inv X a b H s->cC x v->cC y u->r x y H Q->
  subscripted slice false v u=operate [v,u] (getItem v u)->wpAny (model X.prog X.w) X.A (subscriptTail c slice v u) (EP X a b Q) X.xe s
def MtR(X:Cx)(id:String)(r:V->List V->Hp->VK->Prop):Prop:=
 ∀(a:List (Addr×Obj)) (s:Shared) (b:St) (H:Hp) (x:V) (xs:List V) (v:Value) (us:List Value) (Q:VK),Inv X a b H s->cC x v->Vals xs us->r x xs H Q->
  wpAny (model X.prog X.w) X.A (call (.builtin id) (v::us)) (EP X a b Q) X.xe s
section
variable{X:Cx}{a b:Expr}{ta tb:TE}{pos:Pos}
def D9(g:IxR X r)(e:PE X a ta)(f:PE X b tb)(i:zP b):PE X (.Subscript a b pos) (tOp r ta tb):=by intro j s n H Q I h;exact Subscript_ (NA e f I h λv u m x y c d k l q=>g a b j m n c x y v u Q d k l q (i _ _))
inductive RdX(K:Frag)(x y:V)(H:Hp)(Q:VK):Prop
 |mk(p:Addr) (xs:List V) (i:Int) (v:V) (e1:x= .ref p) (e2:y= .int i) (s:SqL K H p xs) (a:atI xs i=some v) (q:Q v H):RdX K x y H Q
def Ig(K:Frag):R2:=λx y H Q=>RdX K x y H Q
def MF(K:Frag):R2:=λx y H Q=>∃p xs i v,x= .ref p/\y= .int i/\SqT K H p xs/\atI xs i=some v/\Q v H
def Lj:IxR X (Ig X.K):=by
 intro ai slice l s m H x y v u Q I M N h k;obtain⟨p,xs,i,z,rfl,rfl,G,B,q⟩:=h;cases M;obtain⟨t,rfl⟩:=N;obtain⟨J,r,pl,hz⟩:=I.list G;obtain⟨j,c,n,U,o,A⟩:=Ey B;obtain⟨w,e,L⟩:=r.get n;have hl:=r.length;have hn:=yR;have f:EP X l m Q w s:=#[z,H,I,L,q];by_cases g:0<=i
 .have d:i.toNat=j:=by rw[seqIndex_of g A]at c;exact Qd c
  exact item_listR pl.isList g () (by rw[d];simpa using e) f k
 .have d:(i+(J.toArray.size:Int)).toNat=j:=by rw[seqIndex_neg () o]at c;rw[PU,<-hl];exact Qd c
  exact subscriptTail_builtinR (x:=w) pl.isList.typeIs Tz.lookup
   (wpAny_getItem_list_neg (Q:=λr O=>r=w/\EP X l m Q r O) pl.isList () (by rw[PU]<;>lia) () (by rw[d];simpa using e) #[2,f]) k
def Nn:IxR X (MF X.K):=by
 intro ab slice c s d H x y v u Q I A B h n;obtain⟨p,xs,i,z,rfl,rfl,m,l,q⟩:=h;cases A;obtain⟨t,rfl⟩:=B;obtain⟨U,r,pl,O⟩:=I.tuple m;obtain⟨j,g,k,J,L,M⟩:=Ey l;obtain⟨w,e,o⟩:=r.get k;have hl:=r.length;have N:=yR;have f:EP X c d Q w s:=#[z,H,I,o,q];exact subscriptTail_builtinR (x:=w) pl.typeIs slot_tuple_getitem.lookup
  (getItem_tuple (j:=j) (Q:=λr G=>r=w/\EP X c d Q r G) pl () () (by rw[PU,<-hl];exact g) #[5,e] #[2,f]) n
def ya(d c:Option Int)(n:Nat):(sliceBounds d c none n).1=((HT.sIx n 0 d:Nat):Int)/\(sliceBounds d c none n).2.1=((HT.sIx n n c:Nat):Int)/\(sliceBounds d c none n).2.2=1:=by
 refine#[662]
 .cases d with
  |none=>simp[sliceBounds,HT.sIx]
  |some i=>
   simp only[sliceBounds,HT.sIx,Option.getD_none,show(1:Int)>0 by decide,T5];by_cases h:i<0
   .simp only[h,T5]<;>lia
   .simp only[h,if_false]<;>lia
 .cases c with
  |none=>simp[sliceBounds,HT.sIx]
  |some i=>
   simp only[sliceBounds,HT.sIx,Option.getD_none,show(1:Int)>0 by decide,T5];by_cases h:i<0
   .simp only[h,T5]<;>lia
   .simp only[h,if_false]<;>lia
def vH(c:List Value)(d e:Option Int):slicePick c.toArray d e none=((c.drop (HT.sIx c.length 0 d)).take (HT.sIx c.length c.length e-HT.sIx c.length 0 d)).toArray:=by obtain⟨f,g,h⟩:=ya d e c.toArray.size;unfold slicePick;rw[f,g,h];simp only[sliceRange_one,pick_run,PU]<;>rfl
def NU(K:Frag):V->Option Int->Option Int->Hp->VK->Prop:=λx d c H Q=>∃a xs,x= .ref a/\SqL K H a xs/\∀p,H p=none->Q (.ref p) (upd H p (.lst (sA xs d c)))
def Ko:SlR X (NU X.K):=by intro p s y H x v u w c d t Q I l g pl k h;obtain⟨a,xs,rfl,i,q⟩:=h;cases l;obtain⟨m,r,e,j⟩:=I.list i;have f:=r.length;refine#["list",_,Tz.lookup,e.isList.typeIs,6];refine wpAny_getItem_list_slice e.isList g pl k .none #[5] ?_ (by rw[PU]<;>lia);rw[vH,<-f];refine#[.ref s.heap.objs.size,_,I.laid (t':=s.toks) (o:= .lst (sA xs c d)) (λb n q=>PH _ q) (O4 _) ?_,2,q _ (I.hok.fresh (O4 _))];exact#[OY (BD xs c d) j,_,0,(r.drop (HT.sIx xs.length 0 c)).take (HT.sIx xs.length xs.length d-HT.sIx xs.length 0 c),Qn _ rfl]
def qm:V->Bool
 | .non=>true
 | .bl _=>true
 | .int _=>true
 | .str _=>true
 |_=>false
def eqV:V->V->Bool
 | .non, .non=>true
 | .bl a, .bl b=>a==b
 | .bl a, .int b=>(if a then 1 else 0)==b
 | .int a, .bl b=>a==(if b then 1 else 0)
 | .int a, .int b=>a==b
 | .str a, .str b=>a==b
 |_,_=>false
def Nr(e:cC y u)(c:cC x v)(f:qm y=true)(d:qm x=true):SeqAt.EqAt A s u v (eqV y x):=by
 cases y with
 |non=>
  cases e;cases x with
  |non=>cases c;exact SeqAt.EqAt.same _
  |bl b=>cases c;exact SeqAt.EqAt.none_bool b
  |int b=>obtain⟨t,rfl⟩:=c;exact SeqAt.EqAt.none_int b t
  |str b=>obtain⟨t,rfl⟩:=c;exact SeqAt.EqAt.none_str b t
  |_=>exact absurd (show false=true from d) Pf
 |bl a=>
  cases e;cases x with
  |non=>cases c;exact SeqAt.EqAt.bool_none a
  |bl b=>cases c;exact SeqAt.EqAt.bool_bool a b
  |int b=>obtain⟨t,rfl⟩:=c;exact SeqAt.EqAt.bool_int a b t
  |str b=>obtain⟨t,rfl⟩:=c;exact SeqAt.EqAt.bool_str a b t
  |_=>exact absurd (show false=true from d) Pf
 |int a=>
  obtain⟨t',rfl⟩:=e;cases x with
  |non=>cases c;exact SeqAt.EqAt.int_none a t'
  |bl b=>cases c;exact SeqAt.EqAt.int_bool a t' b
  |int b=>obtain⟨t,rfl⟩:=c;exact SeqAt.EqAt.int_int a t' b t
  |str b=>obtain⟨t,rfl⟩:=c;exact SeqAt.EqAt.int_str a t' b t
  |_=>exact absurd (show false=true from d) Pf
 |str a=>
  obtain⟨t',rfl⟩:=e;cases x with
  |non=>cases c;exact SeqAt.EqAt.str_none a t'
  |bl b=>cases c;exact SeqAt.EqAt.str_bool a t' b
  |int b=>obtain⟨t,rfl⟩:=c;exact SeqAt.EqAt.str_int a t' b t
  |str b=>obtain⟨t,rfl⟩:=c;exact SeqAt.EqAt.str_str a t' b t
  |_=>exact absurd (show false=true from d) Pf
 |_=>exact absurd (show false=true from f) Pf
def eqU(x:V)(u:Value):Bool:=match u with
 | .none=>eqV .non x
 | .bool b=>eqV (.bl b) x
 | .int i _=>eqV (.int i) x
 | .str z _=>eqV (.str z) x
 |_=>false
def JF(r:cC y u)(f:qm y=true):eqU x u=eqV y x:=by
 cases y with
 |non=>cases r;rfl
 |bl b=>cases r;rfl
 |int i=>obtain⟨t,rfl⟩:=r;rfl
 |str z=>obtain⟨t,rfl⟩:=r;rfl
 |_=>exact absurd (show false=true from f) Pf
def qy:∀ {xs:List V} {us:List Value},Vals xs us->xs.all qm=true->us.any (eqU x)=xs.any λy=>eqV y x
 |_,_, .nil,_=>rfl
 |y::xs,u::us, .cons r t,f=>by rw[Tw,Pc]at f;rw[Sf,Sf,JF r f.1,qy t f.2]
def mG(e:cC x v)(d:qm x=true):∀ {xs:List V} {us:List Value},Vals xs us->xs.all qm=true->∀u∈us,SeqAt.EqAt A s u v (eqU x u)
 |_,_, .nil,_=>λu c=>by cases c
 |y::xs,u::us, .cons r t,f=>λg c=>by
  rw[Tw,Pc]at f;rcases OT.mp c with rfl|c
  .rw[JF r f.1];exact Nr r e f.1 d
  .exact mG e d t f.2 g c
def inV(x:V)(xs:List V):Bool:=xs.any λy=>eqV y x
def rIn(K:Frag)(c:Bool):R2:=λx y H Q=>∃p xs,y= .ref p/\(SqL K H p xs\/SqT K H p xs)/\qm x=true/\xs.all qm=true/\Q (.bl (if c then !inV x xs else inV x xs)) H
def FD:OpR X (compareOp .In) (rIn X.K false):=by
 intro k s l H x y v u Q I g j h;obtain⟨p,xs,rfl,c,f,fs,q⟩:=h;cases j;rcases c with c|c
 .obtain⟨d,r,pl,i⟩:=I.list c;refine SeqAt.in_listAt (eqU x) pl.isList (λw e=>mG g f r fs w #[5,e]) #[.bl _,H,I,26];rw[show d.toArray.any (eqU x)=d.any (eqU x) by simp,qy r fs];exact q
 .obtain⟨d,r,pl,i⟩:=I.tuple c;refine SeqAt.in_tupleAt (eqU x) pl (λw e=>mG g f r fs w #[5,e]) #[.bl _,H,I,26];rw[show d.toArray.any (eqU x)=d.any (eqU x) by simp,qy r fs];exact q
def yD:OpR X (compareOp .NotIn) (rIn X.K true):=by
 intro k s l H x y v u Q I g j h;obtain⟨p,xs,rfl,c,f,fs,q⟩:=h;cases j;rcases c with c|c
 .obtain⟨d,r,pl,i⟩:=I.list c;refine SeqAt.notIn_listAt (eqU x) pl.isList (λw e=>mG g f r fs w #[5,e]) #[.bl _,H,I,26];rw[show d.toArray.any (eqU x)=d.any (eqU x) by simp,qy r fs];exact q
 .obtain⟨d,r,pl,i⟩:=I.tuple c;refine SeqAt.notIn_tupleAt (eqU x) pl (λw e=>mG g f r fs w #[5,e]) #[.bl _,H,I,26];rw[show d.toArray.any (eqU x)=d.any (eqU x) by simp,qy r fs];exact q
def zH:gs X (.builtin "len") (λxs H Q=>∃p c,xs=[.ref p]/\(SqL X.K H p c\/SqT X.K H p c)/\Q (.int c.length) H):=by
 intro l s m H xs us Q I r h;obtain⟨p,c,rfl,d,q⟩:=h;obtain⟨u,rfl,j⟩:=rF r;cases j;have k:=yR;rcases d with d|d
 .obtain⟨i,f,pl,g⟩:=I.list d;have e:=f.length;exact Calls.call_len_list pl.isList (by simp only[PU]<;>lia) #[.int c.length,H,I.tok _,#[s.toks+1,by rw[PU,e]],q]
 .obtain⟨i,f,pl,g⟩:=I.tuple d;have e:=f.length;exact len_tuple pl (by simp only[PU]<;>lia) #[.int c.length,H,I.tok _,#[s.toks+1,by rw[PU,e]],q]
def zF:gs X (.type "list") (λxs H Q=>∃p g,xs=[.ref p]/\(SqL X.K H p g\/SqT X.K H p g)/\∀l,H l=none->Q (.ref l) (upd H l (.lst g))):=by
 intro A s G H xs us Q I r h;obtain⟨p,g,rfl,i,q⟩:=h;obtain⟨u,rfl,B⟩:=rF r;cases B;have x:∀(c:List Value),Vals g c->g.length<=sizeLine->∀(h':Heap)(d:Nat),(∀b y,s.heap.get? b=some y->h'.get? b=some y)->
   h'.get? s.heap.objs.size=some {cls:= .type "list",dict:=none,data:= .seq c.toArray d,slots:= #v[]}->EP X A G Q (.ref s.heap.objs.size) {s with heap:=h'}:=λc f j h' d k e=>
  #[.ref s.heap.objs.size,_,I.laid (t':=s.toks) k (O4 _) (show c7 X.prog X.w _ h' _ (.lst g)from#[j,c,d,f,e]),2,q _ (I.hok.fresh (O4 _))]
 rcases i with i|i
 .obtain⟨c,f,pl,j⟩:=I.list i;have z:=f.length;obtain⟨o,v,m,n,t⟩:=pl.isList;exact call_list_seq p (.inl rfl) v m t (λh' d k e=>x c f j h' d k e) (by simp only[PU]<;>lia)
 .obtain⟨c,f,pl,j⟩:=I.tuple i;have z:=f.length;obtain⟨o,v,m,n,t⟩:=pl;exact call_list_seq p (.inr rfl) v m t (λh' d k e=>x c f j h' d k e) (by simp only[PU]<;>lia)
def wd:gs X (.type "tuple") (λxs H Q=>∃p c,xs=[.ref p]/\((SqL X.K H p c/\∀l,H l=none->Q (.ref l) (upd H l (.tup c)))\/(SqT X.K H p c/\Q (.ref p) H))):=by
 intro k s m H xs us Q I r h;obtain⟨p,c,rfl,h⟩:=h;obtain⟨u,rfl,v⟩:=rF r;cases v;rcases h with ⟨d,q⟩|⟨d,q⟩
 .obtain⟨f,g,pl,j⟩:=I.list d;have x:=g.length;refine call_tuple_list pl.isList (λh' t=> ?_) (by simp only[PU]<;>lia);have i:Inv X k m H {s with heap:=h'}:=I.kept (t':=s.toks) t;have n:Inv X k m (upd H h'.objs.size (.tup c)) {s with heap:=h'.push {cls:= .type "tuple",data:= .seq f.toArray}}:=
   i.laid (t':=s.toks) (λb o e=>PH _ e) (O4 _) (show c7 X.prog X.w _ _ _ (.tup c)from#[j,f,g,IsTup.new _ _])
  exact#[.ref h'.objs.size,_,n,2,q _ (i.hok.fresh (O4 _))]
 .obtain⟨f,g,pl,j⟩:=I.tuple d;exact call_tuple_same pl #[.ref p,H,I,2,q]
def tyV(K:Frag)(T:String)(x:V)(H:Hp):Prop:=match x with
 | .str _=>T= "str"
 | .int _=>T= "int"
 | .ref p=>(T= "list"/\∃xs,SqL K H p xs)\/(T= "tuple"/\∃o,K.lookup p=some o/\o.cls= .type "tuple"/\o.dict=none)\/
   (T= "dict"/\((∃kvs,H p=some (.dK kvs))\/∃kvs,H p=some (.dT kvs)))\/(T= "set"/\∃S n,H p=some (.set S n))
 |_=>False
def GI{l:List (Addr×Obj)}{m:St}{H:Hp}{s:Shared}{T:String}{x:V}{v:Value}(I:Inv X l m H s)(r:cC x v)(ty:tyV X.K T x H):
  s.TypeIs v T/\∀a,v= .ref a->∃h,s.heap.get? a=some h/\h.dict=none:=by
 cases x with
 |str z=>
  obtain⟨t,rfl⟩:=r;cases (show T= "str" from ty);exact#[typeIs_str s z t,λ_ e=>nomatch e]
 |int i=>
  obtain⟨t,rfl⟩:=r;cases (show T= "int" from ty);exact#[typeIs_int s i t,λ_ e=>nomatch e]
 |ref p=>
  cases r;rcases ty with ⟨rfl,xs,k⟩|⟨rfl,o,d,j,g⟩|⟨rfl,d⟩|⟨rfl,S,n,d⟩
  .obtain⟨q,_,pl,_⟩:=I.list k;refine#[pl.isList.typeIs,λa e=> ?_];cases e;obtain⟨o,n,e,c,g,_⟩:=pl;exact#[o,e,g]
  .refine#[#[o,I.kIn p o d,j],λa e=> ?_];cases e;exact#[o,I.kIn _ o d,g]
  .have z:∃o,s.heap.get? p=some o/\o.ExactDict:=by
    rcases d with ⟨kvs,d⟩|⟨kvs,d⟩
    .obtain⟨_,_,_,_,o,_,_,e,ex,_⟩:=I.hok p _ d;exact#[o,e,ex]
    .obtain⟨_,_,_,_,o,_,_,e,ex,_⟩:=I.hok p _ d;exact#[o,e,ex]
   obtain⟨o,e,ex⟩:=z;refine#[#[o,e,ex.1],λa f=> ?_];cases f;exact#[o,e,ex.2.1]
  .obtain⟨o,_,_,_,e,ex,_⟩:=I.hok p _ d;refine#[#[o,e,ex.1],λa f=> ?_];cases f;exact#[o,e,ex.2.1]
 |_=>exact False.elim ty
def NP(K:Frag)(T:String)(r:V->List V->Hp->VK->Prop)(d:TE):TE:=λe H Q=>d e H λx c=>tyV K T x c/\r x [] c Q
def tBM(K:Frag)(T:String)(r:V->List V->Hp->VK->Prop)(f:TE)(t:TA):TE:=λd H Q=>f d H λx c=>tyV K T x c/\t d c λxs e=>r x xs e Q
variable{o e:Expr}{es:List Expr}{to:TE}{t:TA}{name:Str}{apos cpos:Pos}{T id:String}{r:V->List V->Hp->VK->Prop}
def MT(u:PlainAttrs T)(slot:Slot T name id)(q:typeOf (.builtin id)=pure (.type "method_descriptor"))(n:MtR X id r)(p:PE X o to)
  (l:attributeBase o name X.env (eval o X.env)=eval o X.env:=by rfl) (m:(apos.endLine==cpos.line)=true:=by rfl):PE X (.Call (.Attribute o name apos) [] [] cpos) (NP X.K T r to):=by
 intro d s g H Q I h;refine wpAny_Call_method0_late l m (thn (p d s g H _ I h) λv y ⟨x,i,c,f,ty,w⟩=> ?_);obtain⟨j,k⟩:=GI c f ty;exact#[T,id,u,slot,q,j,k,Calls.callWith_builtin rfl (PySem.evalArgs_none (n d y g i x [] v [] Q c f .nil w))]
def NY(J:PlainAttrs T)(slot:Slot T name id)(G:typeOf (.builtin id)=pure (.type "method_descriptor"))(y:MtR X id r)(z:PE X o to)(p:PA X (e::es) t)
  (q:attributeBase o name X.env (eval o X.env)=eval o X.env:=by rfl)
  (u:((backTo cpos (starEach (e::es) X.env)).all (λx=> !x.1)&&(backToKw cpos (keywordEach [] X.env)).all (λx=>x.1.isSome)
   &&decide ((e::es).length+([]:List Keyword).length+(if([]:List Keyword).isEmpty then 0 else 1)<30))=true:=by rfl)
  (w:(apos.endLine==cpos.line)=true:=by rfl) (B:starEach (e::es) X.env=(false,eval e X.env)::starEach es X.env:=by rfl) (A:(backTo cpos (starEach es X.env)).any (·.1)=false:=by rfl):
  PE X (.Call (.Attribute o name apos) (e::es) [] cpos) (tBM X.K T r to t):=by
 intro c s d H Q I h;refine wpAny_Call_method_late q u w rfl (thn (z c s d H _ I h) λv O ⟨x,j,f,i,ty,L⟩=> ?_);obtain⟨m,n⟩:=GI f i ty;refine#[T,id,J,slot,G,m,n,6];have g:=p cpos c O d j _ f L;rw[B]at g⊢;refine Calls.callWith_builtin (by show(false||(backTo cpos (starEach es X.env)).any (·.1))=false;rw[A]<;>rfl) (Calls.evalArgs_plain ?_);exact thn g λus U ⟨vs,k,l,N,M⟩=>y c U d k x vs v us Q l i N M
end
def MtM(X:Cx)(id:String)(r:V->List V->Hp->VK->Prop):Prop:=
 ∀(a:List (Addr×Obj)) (s:Shared) (b:St) (H:Hp) (x:V) (xs:List V) (v:Value) (us:List Value) (Q:VK),Inv X a b H s->cC x v->Vals xs us->r x xs H Q->
  wpAny (model X.prog X.w) X.A (call (.builtin id) (v::us)) (EP X a b Q) X.xe s
def Vals.one(h:Vals [x] us):∃u,us=[u]/\cC x u:=by
 cases h with
 |cons r q=>cases q;exact#[7,r]
def Vals.two(h:Vals [x,y] us):∃u v,us=[u,v]/\cC x u/\cC y v:=by
 cases h with
 |cons r q=>obtain⟨v,rfl,a⟩:=Vals.one q;exact#[17,r,a]
def Vals.zero:∀ {us:List Value},Vals [] us->us=[]
 |_, .nil=>rfl
def Vals.reverse{xs:List V}{us:List Value}(h:Vals xs us):Vals xs.reverse us.reverse:=by
 induction h with
 |nil=>exact .nil
 |cons r t a=>rw[TC,TC];exact Vals.append a (.cons r .nil)
section
variable{X:Cx}{pins:List (Addr×Obj)}{σ:St}{H:Hp}{s:Shared}{l b:Addr}{xs ys zs:List V}
def Inv.lset{a its':List Value}(I:Inv X pins σ H s)(c:H l=some (.lst xs))
  (e:s.heap.get? l=some {cls:= .type "list",data:= .seq a.toArray n}) (g:f a.toArray=its'.toArray) (i:Vals ys its') (j:ys.length<=sizeLine):
  Inv X pins σ (upd H l (.lst ys)) {s with heap:=s.heap.update l (Obj.mapSeq f),toks:=t'}:=by
 have q:=PySem.IsL.update e f;rw[g]at q;refine I.write (x:=l) (e:=l) (by rw[c];exact trivial) (.inl rfl) (λk u d h=>(Heap.get?_update_other s.heap (Obj.mapSeq f) (Pk d)).trans h) #[_,q] ?_;exact#[j,its',_,i,q]
def Inv.lnew{a:List Value}(I:Inv X pins σ H s)(c:Vals ys a)(d:ys.length<=sizeLine):
  Inv X pins σ (upd H s.heap.objs.size (.lst ys)) {s with heap:=s.heap.push {cls:= .type "list",data:= .seq a.toArray},toks:=t'}:=
 I.laid (λ_ _ q=>PH _ q) (O4 _) #[d,a,0,c,Qn _ rfl]
def Inv.fresh(I:Inv X pins σ H s):H s.heap.objs.size=none:=I.hok.fresh (O4 _)
def Inv.lstM(I:Inv X pins σ H s)(c:H l=some (.lst xs)):xs.length<=sizeLine/\∃(a:List Value)(n:Nat),Vals xs a/\xs.length=a.length/\s.heap.get? l=some {cls:= .type "list",data:= .seq a.toArray n}:=by obtain⟨z,a,n,r,e⟩:=I.hok l _ c;exact#[z,a,n,r,r.length,e]
def IK(h:n<=sizeLine):Builtin.List.listTooLong n=false:=by unfold Builtin.List.listTooLong;exact OR ()
end
section
variable{X:Cx}
inductive RdA(x:V)(vs:List V)(H:Hp)(Q:VK):Prop
 |mk(l:Addr) (xs:List V) (y:V) (e1:x= .ref l) (e2:vs=[y]) (h:H l=some (.lst xs)) (n:xs.length<sizeLine) (q:Q .non (upd H l (.lst (xs++[y])))):RdA x vs H Q
def KG:V->List V->Hp->VK->Prop:=λx vs H Q=>RdA x vs H Q
def dz:MtM X "list.append" KG:=by intro i s j H x vs v us Q I f d h;obtain⟨l,xs,y,rfl,rfl,a,g,q⟩:=h;cases f;obtain⟨u,rfl,c⟩:=d.one;obtain⟨z,b,n,r,hl,e⟩:=I.lstM a;refine call_meets F.slot_list_append #[_,e,2] F.entry_list_append (F.args_list_append_2 _ _) (PySem.list_append l b.toArray n u (by rw[PU];lia)) #[e,6];refine#[.non,_,I.lset (its':=b++[u]) a e #[5] (r.append (.cons c .nil)) ?_,2,q];rw[Pl,SY];lia
def KD:V->List V->Hp->VK->Prop:=λx vs H Q=>∃l b xs a,x= .ref l/\vs=[.ref b]/\H l=some (.lst xs)/\H b=some (.lst a)/\xs.length+a.length<=sizeLine/\Q .non (upd H l (.lst (xs++a)))
def FN:MtM X "list.extend" KD:=by
 intro y s G H x vs v us Q I p o h;obtain⟨l,b,xs,B,rfl,rfl,d,g,w,q⟩:=h;cases p;obtain⟨u,rfl,m⟩:=o.one;cases m;obtain⟨z,a,n,r,hl,e⟩:=I.lstM d;obtain⟨A,c,j,k,t,f⟩:=I.lstM g;have hsz:a.toArray.size+c.toArray.size<=sizeLine:=by rw[PU,PU];lia
 have i:¬(!a.toArray.isEmpty&&Builtin.List.listTooLong (a.toArray.size+c.toArray.size))=true:=by rw[IK hsz,Qc];exact Pf
 refine call_meets F.slot_list_extend #[_,e,2] F.entry_list_extend (F.args_list_extend_2 _ _)
  (AutoSeq1.list_extend_list_list_0 l a.toArray n b c.toArray j i (by rw[PU];lia) ()) #[e,f,6]
 refine#[.non,_,I.lset (its':=a++c) d e #[5] (r.append k) ?_,2,q];rw[Pl];lia
def OE:R2:=λx y H Q=>∃l b xs a,x= .ref l/\y= .ref b/\H l=some (.lst xs)/\H b=some (.lst a)/\xs.length+a.length<=sizeLine/\∀p,H p=none->Q (.ref p) (upd H p (.lst (xs++a)))
def qT:OpR X (binaryOp .Add) OE:=by
 intro w s G H x y v u Q I k m h;obtain⟨l,b,xs,B,rfl,rfl,i,g,p,q⟩:=h;cases k;cases m;obtain⟨z,a,n,r,hl,e⟩:=I.lstM i;obtain⟨A,c,t,j,o,d⟩:=I.lstM g;refine PySem.P.add_list e d ?_ (by rw[PU,PU];lia);have f:a.toArray++c.toArray=(a++c).toArray:=#[5]
 rw[f];exact#[.ref _,_,I.lnew (t':=s.toks) (r.append j) (by rw[Pl];lia),2,q _ I.fresh]
end
end L2
namespace Att
open PySem PySem.W PySem.Calls PyProof.Rows
def sx:∀(ns:List Int)(vs:List Value),WellAll P h vs (ns.map WData.int)->IntsAre vs ns:=by
 intro ns
 induction ns with
 |nil=>
  intro vs w;rw[RN]at w;cases w;exact .nil
 |cons n ns c=>
  intro vs w;rw[PF]at w;cases w with
  |cons a b=>
   cases a;exact .cons _ _ (c _ b)
def E6{l:OpenLaw}(o:l.most=some n){h:Heap}
  (f:l.row.toRowW.claim.pre args=true) (t:WellAll P h vals args):
  ∃a vs ns,vals=[Value.ref a]/\args=[WData.list (ns.map WData.int)]/\h.get? a=some {cls:= .type "list",data:= .seq vs.toArray}/\IntsAre vs ns/\ns.length<=n:=by
 have s:WShape.hasAll [] args [.list .int]=true:=(pre_splitW f).1;have e:l.pre.holds [] {args:=args}=true:=(pre_splitW f).2;obtain⟨d,r,rfl,g,i⟩:=hasAllW_cons s;obtain rfl:=hasAllW_nil i;obtain⟨xs,rfl,j⟩:=hasW_list g;obtain⟨ns,rfl⟩:=items_int j;have m:ns.length<=n:=by
  unfold OpenLaw.pre at e;have b:(WTm.not (.lt (.lit (.int (n:Int))) (.len (.arg 0)))).holds [] {args:=[.list (ns.map .int)]}=true:=by have b:=(holds_andW e).1;rwa[o]at b
  have c:=condW_of b (w_not (w_lt w_lit (w_len_list (w_arg rfl))));rw[My]at c;refine QC λq=> ?_;have u:(n:Int)<((ns.length:Nat):Int):=()
  first
   |(rw[OQ u]at c;exact absurd c ∅)
   |(simp at c;lia)
 cases t with
 |cons v w=>
  cases w;cases v with
  |list p k=>exact#[11,ns,22,p,sx ns _ k,m]
def Fq(l:OpenLaw)(args:List WData):l.row.toRowW.claim.post args (.bool true) args=true:=
 postW_of (r:=l.row.toRowW) (X:=(true==true))
  (show WShape.has [] (.bool true) .bool=true by first|rfl|decide|simp[WShape.has,WShape.arms,WShape.armsAll])
  (show(WTm.eq .res (.lit (.bool true))).value [] {args:=args,res:=some (.bool true),after:=args}=some (.bool (true==true))from w_eq_bool (w_res rfl) w_lit) rfl
def BN{l:OpenLaw}{d:DefRec}
  (J:l.most=some n) (y:d.params.defaults=[])
  (call:∀(w:World)(k b:Shared)(mg i:Str->Option Value)(c:Addr)(o:Obj)(j e h:Value)(a:Addr)(vs:List Value)(ns:List Int),
   Ground q loose [] XP w k mg i b.heap->YP w b.heap->
   b.heap.get? c=some o->o.data= .func (docDef d.name d.params d.body d.scope j e h)->b.heap.CodeRec e d.name->mg d.name=some (.ref c)->
   b.heap.get? a=some {cls:= .type "list",data:= .seq vs.toArray}->IntsAre vs ns->ns.length<=n->b.gens= #v[]->
   codeAny (model l.prog w) callerA (.call (.ref c) #[[.ref a],[]]) (λr g=>r= .ok (.ret (.bool true))/\OldK b.heap g.heap/\g.os=b.os/\AllBare g.gens) b):
  WalkO q loose XP YP l.row.toRowW d [] (λf vs=>PySem.call f vs):=by
 intro w k b mg i G Y c o j e h p kV K x v m H z args vals Q M U ag O ab;obtain rfl:p= .none:=Dflts.none m y;obtain rfl:kV= .none:=Dflts.noKw m;obtain⟨a,vs,ns,rfl,rfl,L,hints,A⟩:=E6 J M O;refine enter_call (TK (call w k b mg i c o j e h a vs ns G Y K (fd_plain x) v H L hints A z) λr g N=> ?_);obtain⟨rfl,s,t,u⟩:=N;exact#[.inl #[.bool true, .bool true,[],2,λ_=>rfl, .bool true,Fq l _,λ_=>#[List.Pairwise.nil,λ_ B=>(nomatch B)]],s,t,u]
end Att
namespace L2
open PySem PySem.Spec PyProof.Rows
def wk:∀ {vs:List Value} {ns:List Int},IntsAre vs ns->Vals (ns.map V.int) vs
 |_,_, .nil=> .nil
 |_,_, .cons n t h=> .cons #[t,2] (wk h)
def Only(H:Hp):Prop:=∀b,H b=none\/∃o xs,H b=some (.frz o (.lst xs))
def Jm{K:Frag}{c:Shared}{vs:List Value}{ns:List Int}
  (A:K.In c.heap) (O:c.heap.Ns mainGlobals mg) (f:c.heap.Ns builtinsNs U) (a0:∀x:Str,x≠ "__name__"->U x=bootBuiltins x) (a5:c.heap.NoLimit) (hg:c.gens= #v[])
  (l:c.heap.get? a=some {cls:= .type "list",data:= .seq vs.toArray}) (N:IntsAre vs ns) (hl:ns.length<=sizeLine) (hr:Room k callerA)
  (F:∀base:Heap,K.In base->base.Ns mainGlobals mg->lr P w K mg base CX k fa fd [x] sp) (a3:∀(s:Shared)(u:Value),BindsTo s fd #[[u],[]] [(x,u)])
  (bc:∀H:Hp,Only H->SqL K H a (ns.map V.int)->sp [.ref a] H (λv _=>v= .bl true) λ_ _ _=>False)
  (aA:∀H e g,CX [] H c (λ_ _ _=>False) e g->False):
  codeAny (model P w) callerA (.call (.ref fa) #[[.ref a],[]]) (λr g=>r= .ok (.ret (.bool true))/\OldK c.heap g.heap/\g.os=c.os/\AllBare g.gens) c:=by
 have rv:=wk N;have bk:=N.length;have core:∀H:Hp,Only H->SqL K H a (ns.map V.int)->HOk P w H c.heap->(∀b,H b≠none->b=a)->(H a≠none->K.lookup a=none)->
   codeAny (model P w) callerA (.call (.ref fa) #[[.ref a],[]]) (λr g=>r= .ok (.ret (.bool true))/\OldK c.heap g.heap/\g.os=c.os/\AllBare g.gens) c:=by
  intro H M hS Q J hK;have B:∀ {b:Addr} {o:Obj},c.heap.get? b=some o->H b=none->(yV c.heap H).get? b=some o:=λe n=>Jw e n;have bt:∀ {b:Addr} {o:Obj} {i:Array DictEntry} {ep:Nat},c.heap.get? b=some o->o.data= .dict i ep->H b=none:=λ{b o i ep} e d=>by
   cases q:H b with
   |none=>rfl
   |some u=>
    have t:b=a:=J b (by rw[q];simp);subst t;rw[l]at e;cases e;have d':Data.seq vs.toArray _=Data.dict i ep:=d;cases d'
  have p:∀ {b:Addr} {m:Str->Option Value},c.heap.Ns b m->(yV c.heap H).Ns b m:=λ{b m} ⟨o,i,ep,e,d,r⟩=>#[o,i,ep,B e (bt e d),d,r];have L:K.In (yV c.heap H):=λb o e=>B (A b o e) (by
   cases q:H b with
   |none=>rfl
   |some u=>
    have t:b=a:=J b (by rw[q];simp);subst t;rw[hK (by rw[q];simp)]at e;cases e)
  have hM:Mod K mg (yV c.heap H):=#[L,p O,#[U,p f,a0],let⟨mc,h1,h2⟩:=a5;#[mc,p h1,h2]];have e0:Dx P w K mg (yV c.heap H) callerA [] c H:=#[2,hM,λb o e=>K5 e,Nat.le_of_eq (F8 _ _),trivial,λb f=>absurd (show b∈([]:List Addr)from f) #[5],Q, .of_eq hg];refine TK ((F _ L (p O)).run callerA [] c H #[[.ref a],[]] [.ref a] [.ref a] _ _ hr e0 (a3 c (.ref a)) (.cons rfl .nil) (bc H M hS)) λr g h=> ?_;cases r with
  |error e=>exact(aA H e g h).elim
  |ok fl=>
   cases fl with
   |next=>exact False.elim h
   |brk=>exact False.elim h
   |cont=>exact False.elim h
   |ret u=>
    obtain⟨v,H',os,bare,un,a6,r',q⟩:=h;have q':v= .bl true:=q;subst q';obtain rfl:u=Value.bool true:=r';refine#[2,OldK.of_keep λb o e=> ?_,os,bare];cases q:H b with
    |none=>exact un.keep b o e q (by intro z;exact absurd (show b∈([]:List Addr)from z) #[5]) #[5]
    |some u=>
     rcases M b with z|⟨ob,xs,z⟩
     .rw[q]at z;cases z
     .have z2:=un.frzs b ob _ z;obtain⟨G,_⟩:=Q b _ z;obtain⟨e2,_⟩:=a6 b _ z2;rw[e]at G;cases G;exact e2
 cases y:K.lookup a with
 |some o=>
  have e:=A a o y;rw[l]at e;cases e;refine core (λ_=>none) (λ_=> .inl rfl) (.inr #[_,vs.toArray,_,y,222,by rw[PU,bk];exact hl,#[5,rv]]) (λb u z=>by have j:(none:Option HO)=some u:=z;cases j) (λb z=>absurd rfl z) λz=>absurd rfl z
 |none=>
  refine core (λb=>if b=a then some (.frz {cls:= .type "list",data:= .seq vs.toArray} (.lst (ns.map V.int)))else none) (λb=> ?_) (.inl (.inr #[{cls:= .type "list",data:= .seq vs.toArray},OP rfl])) (λb u z=> ?_) (λb z=> ?_) λ_=>y
  .by_cases f:b=a
   .exact .inr #[11,OP f]
   .exact .inl (OO f)
  .by_cases f:b=a
   .have j:=(OP f).symm.trans z;cases j;subst f;exact#[l,by rw[My];exact hl,vs,_,rv,l]
   .have j:=(OO f).symm.trans z;cases j
  .by_cases f:b=a
   .exact f
   .exact absurd (OO f) z
def DA{l:PySem.W.OpenLaw}{n k:Nat}{q:Program}{loose:List Str}{XP:(Str->Option Value)->Heap->Prop}{YP:World->Heap->Prop}{d:DefRec}{K:Params->Frag}{CX:World->CXT}{sp:World->Sp}{x:Str}
  (N:l.most=some n) (O:n<=sizeLine) (J:d.params.defaults=[]) (U:Room k callerA)
  (A:∀(w:World)(h:Heap),YP w h->(K w.params).In h)
  (F:∀(w:World)(mg:Str->Option Value)(c:Addr)(h:Heap),(K w.params).In h->h.Ns mainGlobals mg->mg d.name=some (.ref c)->
   ∃i:FuncData,(∀(s:Shared)(u:Value),BindsTo s i #[[u],[]] [(x,u)])/\
    ∀base:Heap,(K w.params).In base->base.Ns mainGlobals mg->lr l.prog w (K w.params) mg base (CX w) k c i [x] (sp w))
  (ab:∀(w:World)(H:Hp)(a:Addr)(ns:List Int),ns.length<=n->Only H->SqL (K w.params) H a (ns.map V.int)->sp w [.ref a] H (λv _=>v= .bl true) λ_ _ _=>False)
  (r:∀(w:World)(H:Hp)(s:Shared)(e:Value)(j:Shared),CX w [] H s (λ_ _ _=>False) e j->False):
  PySem.W.WalkO q loose XP YP l.row.toRowW d [] (λf vs=>PySem.call f vs):=by
 refine Att.BN N J λw aD ag mg mb c o pm cd ar a vs ns G Y ho hd ax M Q hints p L=> ?_;have m:=A w _ Y;obtain⟨i,B,t⟩:=F w mg c _ m G.T.g M;exact Jm m G.T.g G.T.b G.T.builtins G.T.nolimit L Q hints (OY p O) U t B (λH y z=>ab w H a ns p y z) λH e j=>r w H ag e j
def ft(s:Stmt)(j:Nat):Stmt:=match s with
 | .ClassDef _ _ _ a _ _ _ _ _ _ _=>a.getD j (.Pass #[0,0,0,0])
 |_=> .Pass #[0,0,0,0]
def eV(s:Stmt):Arguments:=match s with
 | .FunctionDef _ a _ _ _ _ _ _ _ _=>a
 |_=>{posonlyargs:=[],args:=[],vararg:=none,kwonlyargs:=[],kw_defaults:=[],kwarg:=none,defaults:=[]}
def bF(s:Stmt):List Stmt:=match s with
 | .FunctionDef _ _ b _ _ _ _ _ _ _=>b
 |_=>[]
def au(s:Stmt):Scope:=match s with
 | .FunctionDef _ _ _ _ _ _ a _ _ _=>a
 |_=>{kind:= .function,names:=[],isGenerator:=false,isCoroutine:=false}
abbrev CX0:CXT:=λ_ _ _ _ _ _=>False
abbrev E0:XK:=λ_ _ _=>False
def AQ:vt CX0 X E0:=λ_ _ _ _ _ _ _ h=>h.elim
structure Fun(K:Frag)(x qual:Str)(st:Stmt)(f:Addr)(fd:FuncData):Prop where
 ex:∃(oc:Value)(od:Option Addr)(kV doc pm:Value)(an:Option Addr)(cdv ct:Value) (osl:Array (Option Value)),
  fd=fnOf x qual (eV st) (bF st) (au st) .none kV doc pm an cdv ct/\K.lookup f=some #[oc,od, .func fd,osl]/\codeIn K cdv qual=true
 kp:keepIn K (.ref f)=true
section
variable{P:Program}{w:World}{K:Frag}{mg:Str->Option Value}{base:Heap}
def Fun.ok{x a:Str}{st:Stmt}{f:Addr}{b:FuncData}{N ps:List Str}{k:Nat}{sp:Sp}(F:Fun K x a st f b)(S:aH N ps (au st))(len:∀vs H Q E,sp vs H Q E->vs.length=ps.length)
  (c:∀(cdv:Value)(A:Around)(outer:List Env)(s:Shared)(H:Hp)(vs:List V)(Q:VK)(E:XK),Room k (A.deeper (envOfC a (au st) s.heap.objs.size f cdv))->sp vs H Q E->
   ∃t,PSs (zf CX0 P w K mg base N a (au st) f cdv A outer s H E).nox (bF st) t/\t {nx:=λ_ H'=>Q .non H',rt:=Q} (start N vs) H):lr P w K mg base CX0 (k+1) f b ps sp:=by
 obtain⟨n,o,kV,m,r,j,cdv,l,p,rfl,i,d⟩:=F.ex;refine Of i d S len λA outer s H vs Q E e g=> ?_;obtain⟨t,h,q⟩:=c cdv A outer s H vs Q E e g;exact#[t,h.nox,q]
def Fun.binds{x g:Str}{st:Stmt}{f:Addr}{e:FuncData}{ps:List Str}(F:Fun K x g st f e)
  (h:∀(kV c d:Value)(a:Option Addr)(cdv b:Value)(us:List Value),us.length=ps.length->bindArgs (fnOf x g (eV st) (bF st) (au st) .none kV c d a cdv b) #[us,[]]=pure (ps.zip us)):nr K e ps []:=by
 obtain⟨k,l,kV,c,d,a,cdv,b,m,rfl,j,i⟩:=F.ex;exact .all (h kV c d a cdv b)
def uV{x a:Str}{st:Stmt}{f:Addr}{h:Value}{i b:Option Addr}{j:Array (Option Value)}{kV e g cdv d:Value}(l:K.lookup f=some #[h,i, .func (fnOf x a (eV st) (bF st) (au st) .none kV e g b cdv d),j])
  (c:codeIn K cdv a=true) (k:keepIn K (.ref f)=true):Fun K x a st f (fnOf x a (eV st) (bF st) (au st) .none kV e g b cdv d):=#[#[h,i,kV,e,g,b,cdv,d,j,2,l,c],k]
end
section
variable{X:Cx}
def pv(i:Nat){x:Str}{pos:Pos}(a:X.N[i]?=some x:=by rfl)(d:Vis X.env.scope x:=by first|exact Ta rfl|exact Or.inr (Ta rfl)|exact Or.inr (Or.inr rfl))(c:(x==("__debug__":Str))=false:=by decide)
  (b:(x==("__classdict__":Str))=false:=by decide):PE X (.Name x pos) (Mr i):=MN a d c b
end
def gE{A B:Prop}(h:B):if false=true then A else B:=by rw[OO Pf];exact h
def oS{A B:Prop}(h:A):if true=true then A else B:=by rw[OP rfl];exact h
def cP{c A B:Prop}[Decidable c](a:c->A)(b:¬c->B):if c then A else B:=by
 by_cases h:c
 .rw[OP h];exact a h
 .rw[OO h];exact b h
def wN{c A B:Prop}[Decidable c](a:c)(h:B):if(!decide c)=true then A else B:=by rw[OQ a];exact gE h
def Same(H H':Hp):Prop:=∀b o,H b=some o->H' b=some o
def Same.refl(H:Hp):Same H H:=λ_ _ h=>h
def Same.trans(a:Same H H1)(b:Same H1 H2):Same H H2:=λc o h=>b c o (a c o h)
def Same.free(e:Same H H')(h:H' l=Option.none):H l=Option.none:=by
 cases q:H l with
 |none=>rfl
 |some o=>
  rw[e l o q]at h;cases h
def Same.seq{K:Frag}{H H':Hp}{a:Addr}{xs:List V}(e:Same H H')(h:SqL K H a xs):SqL K H' a xs:=by
 rcases h with (h|⟨o,h⟩)|h
 .exact .inl (.inl (e _ _ h))
 .exact .inl (.inr #[o,e _ _ h])
 .exact .inr h
def qY{a β:Type}{f:a->β->Sem (ForInStep β)}(g:β->a->β):∀(l:List a)(c:β),(∀x∈l,∀c,f x c=pure (.yield (g c x)))->forIn l c f=pure (l.foldl g c):=by
 intro l
 induction l with
 |nil=>intro c _;rfl
 |cons x l d=>
  intro c h;rw[List.forIn_cons,h x O6,pure_bind];exact d _ λy b=>h y (OZ _ b)
def jb(env:Env)(cs:List (Str×Addr))(y:Str×NameKind):List (Str×Addr):=if(y.2==NameKind.free)=true then(y.1,(env.cells.lookup y.1).getD 0)::cs else cs
def k5(env:Env)(a:List (Str×NameKind)):List (Str×Addr):=a.foldl (jb env) []
def oC{env:Env}{b:Scope}(h:∀y∈b.names,y.2= .free->∃c,env.cells.lookup y.1=some c):closureFor b env=pure (k5 env b.names):=by
 simp only[closureFor];rw[qY (jb env) b.names [] (λx i c=>by
  obtain⟨n,kind⟩:=x;by_cases f:kind= .free
  .subst f;obtain⟨a,g⟩:=h _ i rfl;have d:env.cells.lookup n=some a:=g;have e:cellOf env n=pure a:=by simp only[cellOf,d]
   simp only[jb,e,d,beq_self_eq_true,T5,pure_bind,Option.getD_some]
  .have:(kind==NameKind.free)=false:=#[5,f]
   simp only[jb,this,Bool.false_eq_true,if_false])]
 rfl
def Gn(env:Env):∀(f:List (Str×NameKind)) (b:List (Str×Addr)),(∀y∈f,y.2= .free->∃c,env.cells.lookup y.1=some c)->(∀x c,b.lookup x=some c->env.cells.lookup x=some c)->
  ∀x c,(f.foldl (jb env) b).lookup x=some c->env.cells.lookup x=some c:=by
 intro f
 induction f with
 |nil=>intro b _ d x c e;exact d x c e
 |cons y r m=>
  intro b h d;refine m _ (λz l=>h z (OZ _ l)) λx c e=> ?_;unfold jb at e;split at e
  .rename_i j;obtain⟨a,i⟩:=h y O6 #[5,j];rw[Rr]at e;cases g:x==y.1 with
   |true=>
    rw[g]at e;have k:x=y.1:=#[5,g]
    rw[i]at e;rw[k,i];exact e
   |false=>rw[g]at e;exact d x c e
  .exact d x c e
def Gp(env:Env):∀(b:List (Str×NameKind)) (a:List (Str×Addr)) (x:Str),((∃y∈b,y.1=x/\y.2= .free)\/∃c,a.lookup x=some c)->∃c,(b.foldl (jb env) a).lookup x=some c:=by
 intro b
 induction b with
 |nil=>
  intro a x h;rcases h with ⟨y,i,_⟩|h
  .cases i
  .exact h
 |cons y r k=>
  intro a x h;refine k _ x ?_;have l:∀c,a.lookup x=some c->∃c,(jb env a y).lookup x=some c:=λc e=>by
   unfold jb;split
   .rw[Rr];cases m:x==y.1 with
    |true=>exact#[7]
    |false=>exact#[c,e]
   .exact#[c,e]
  rcases h with ⟨z,j,f,d⟩|⟨c,e⟩
  .rcases OT.mp j with e|g
   .subst e;refine .inr ?_;unfold jb;rw[d,OP ⋯,Rr,f];simp
   .exact .inl #[z,g,f,d]
  .exact .inr (l c e)
def Nz{env:Env}(h:∀y∈a,y.2= .free->∃c,env.cells.lookup y.1=some c)(e:(k5 env a).lookup x=some c):env.cells.lookup x=some c:=
 Gn env a [] h (λ_ _ z=>by simp at z) x c e
def JU(h:∃y∈a,y.1=x/\y.2= .free):∃c,(k5 env a).lookup x=some c:=Gp env a [] x (.inl h)
def inner(a:Nat)(fr:List Nat)(b:St):St:=List.replicate a none++fr.map λj=>(b[j]?).join
def sD(X:Cx)(a:Scope):List Nat->List Str->Prop
 | [],[]=>True
 |j::b,x::xs=>(X.N[j]?=some x/\(X.env.kindOf x=some .cell\/X.env.kindOf x=some .free)/\((relabel a X.env).names.lookup x=some .cell\/(relabel a X.env).names.lookup x=some .free))/\sD X a b xs
 |_,_=>False
def sD.get{X:Cx}:∀ {fr:List Nat} {a:List Str} {k j:Nat},sD X sc fr a->fr[k]?=some j->
  ∃x,a[k]?=some x/\X.N[j]?=some x/\(X.env.kindOf x=some .cell\/X.env.kindOf x=some .free)/\((relabel sc X.env).names.lookup x=some .cell\/(relabel sc X.env).names.lookup x=some .free)
 | [],[],_,_,_,e=>by simp at e
 | [],_::_,_,_,h,_=>h.elim
 |_::_,[],_,_,h,_=>h.elim
 |j::f,x::xs,0,i,h,e=>by
  have b:j=i:=#[5,e]
  subst b;exact#[x,2,h.1]
 |j::f,x::xs,k+1,i,h,e=>by obtain⟨y,c,d⟩:=sD.get (k:=k) (j:=i) h.2 #[5,e];exact#[y,#[5,c],d]
def sD.len:∀ {fr:List Nat} {a:List Str},sD X sc fr a->fr.length=a.length
 | [],[],_=>rfl
 | [],_::_,h=>h.elim
 |_::_,[],h=>h.elim
 |_::_,_::_,h=>by rw[Pa,Pa,sD.len h.2]
def PTs(X:Cx)(ifs:List Expr)(t:TT):Prop:=
 ∀(b:List (Addr×Obj)) (s:Shared) (a:St) (H:Hp) (Q:Bool->Hp->Prop),Inv X b a H s->t a H Q->
  wpAny (model X.prog X.w) X.A (forIn ifs true λc r=>if r=true then do let ok<-isTrue c X.env (eval c X.env);pure (ForInStep.yield ok)else pure (ForInStep.yield r)) (TP X b a Q) X.xe s
def iM:TT:=λ_ H Q=>Q true H
def cc:PTs X [] iM:=λ_ _ _ H _ I h=>wpAny_tests_nil #[H,I,h]
def dH(h:PT X c t):PTs X [c] t:=λa s b H Q I q=>wpAny_tests_one (h a s b H Q I q)
def LCW(J:It)(g:TG)(p:TT)(q:TE)(o:Nat)(fr:List Nat)(r:St)(d:Hp)(Q:VK):Prop:=∀D,d D=none->
 ∃W:Nat->Nat->St->Hp->Prop,(∃m,W 0 m (inner o fr r) (upd d D (.lst [])))/\∀i m k H',W i m k H'->
  (J.stop i H'/\Q (.ref D) H')\/(J.go i H'/\∃N:St->Hp->Prop,(∀l c,N l c->∃j,j<m/\W (i+1) j l c)/\
   ∀x e,J.yld i H' x e->g x k e λa n=>p a n λb f=>if b=true then q a f λy h=>∃xs,h D=some (.lst xs)/\xs.length<sizeLine/\N a (upd h D (.lst (xs++[y])))else N a f)
def tLC(f:TI)(g:TG)(d:TT)(e:TE)(c:Nat)(fr:List Nat):TE:=λa H Q=>f a H λJ b=>LCW J g d e c fr a b Q
section
variable{X:Cx}{elt target iter:Expr}{ifs:List Expr}{sc:Scope}{pos:Pos}{wi:TI}{g:TG}{tc:TT}{te:TE}{vars frn:List Str}{fr:List Nat}
def Kc(X:Cx)(a:List (Addr×Obj))(d:St)(Q:VK)(D C:Addr)(b:Shared):Prop:=
 ∃H',Inv X a d H' b/\Q (.ref D) H'/\(∃m,b.heap.Ns C m)/\H' C=none/\C≠X.env.locals/\X.s₀.heap.objs.size<=C/\(∀x c,X.env.cells.lookup x=some c->c≠C)/\∀p∈X.pn++a,p.1≠C
def Me{env:Env}(h:sc.names.all (λy=> !(y.2== .free)||(env.kindOf y.1==some .cell||env.kindOf y.1==some .free))=true):∀y∈sc.names,y.2= .free->env.kindOf y.1=some .cell\/env.kindOf y.1=some .free:=λy b a=>by have:=PR.mp h y b;rw[a]at this;simpa using this
def Ma(h:sc.names.all (λy=> !(y.2== .local)||(sc.names.lookup y.1==some .local))=true):∀y∈sc.names,y.2= .local->sc.names.lookup y.1=some .local:=λy b a=>by have:=PR.mp h y b;rw[a]at this;simpa using this
end
section
variable{X:Cx}{e st:Expr}{te ts:TE}{pos p2:Pos}
def NH(K:Frag)(te ts:TE):TE:=λc H Q=>te c H λx d=>ts c d λk b=>k= .int (-1)/\∃a xs,x= .ref a/\SqL K b a xs/\∀p,b p=none->Q (.ref p) (upd b p (.lst xs.reverse))
def MO(p:PE X e te)(u:PE X st ts):PE X (.Subscript e (.Slice none none (some st) p2) pos) (NH X.K te ts):=by intro d s f H Q I h;refine Subscript_ (thn (p d s f H _ I h) λv M ⟨x,j,m,L,G⟩=> ?_);refine wpAny_Slice ?_;rw[evalPart_none];refine QA (QA ?_);rw[evalPart_some];refine thn (u d M f j _ m G) λU c ⟨k,l,n,rk,J⟩=> ?_;obtain⟨rfl,a,xs,rfl,y,q⟩:=J;obtain⟨t,rfl⟩:=rk;cases L;have g:Inv X d f l {c with heap:=c.heap.push {cls:= .type "slice",data:= .fields #v[.none, .none, .int (-1) t]}}:=n.kept (t':=c.toks) λb B q=>PH _ q;obtain⟨O,r,i,z⟩:=g.list y;have N:=r.length;show wpAny (model X.prog X.w) X.A (subscriptTail e (.Slice none none (some st) p2) (.ref a) (.ref c.heap.objs.size)) (EP X d f Q) X.xe {c with heap:=c.heap.push {cls:= .type "slice",data:= .fields #v[.none, .none, .int (-1) t]}};refine tail_any (ops:=[.ref a, .ref c.heap.objs.size]) i.isList.typeIs Tz.lookup ?_ (by with_unfolding_all rfl);refine wpAny_getItem_list_slice i.isList (Heap.IsSliceOf.new ..) .none .none (.int (-1) t) #[5] ?_ (by rw[PU]<;>lia);rw[PySem.W.krv_pick];refine#[.ref _,_,g.laid (t':=c.toks) (o:= .lst xs.reverse) (λb B q=>PH _ q) (O4 _) ?_,2,q _ (g.hok.fresh (O4 _))];exact#[by rw[Sj];exact z,_,0,r.reverse,Qn _ rfl]
def NW:V->List V->Hp->VK->Prop:=λx vs H Q=>∃i,x= .int i/\vs=[]/\Q (.int (Builtin.Int.intBits i:Nat)) H
def K9:MtR X "int.bit_length" NW:=by intro c s d H x vs v us Q I b a h;obtain⟨i,rfl,rfl,q⟩:=h;obtain⟨t,rfl⟩:=b;cases a.zero;exact call_gives F.slot_int_bit_length (typeIs_int s i t) F.entry_int_bit_length (F.args_int_bit_length_1 _) (PySem.AutoIntG2.int_bit_length_int_0 i t) #[.int (Builtin.Int.intBits i:Nat),H,I.tok _,#[7],q]
def NV(K:Frag):List V->Hp->VK->Prop:=λxs H Q=>∃x n t b,xs=[x, .ty n]/\rD K H x t/\kitOne K t (.type n)=some b/\Q (.bl b) H
def BI:gs X (.builtin "isinstance") (NV X.K):=by intro g s i H vs us Q I c h;obtain⟨x,n,t,b,rfl,ty,e,q⟩:=h;obtain⟨u,w,rfl,a,d⟩:=c.two;cases (show w=Value.type n from d);exact F5 I a ty e λf=>#[.bl b,H,I.tok f,2,q]
end
def Ite(K:Frag)(a:Addr):It:=
 #[λi H=>∃xs x,SqL K H a xs/\xs[i]?=some x,
  λi H x H'=>∃t,x= .ref t/\H t=none/\∃v,(∀xs,SqL K H a xs->xs[i]?=some v)/\H'=upd H t (.tup [.int (i:Nat),v]),
  λi H=>∃xs,SqL K H a xs/\xs.length<=i]
def Inv.own{X:Cx}{j:List (Addr×Obj)}{s:Shared}{k:St}{H:Hp}{g:Heap}{t':Nat}(ch:List Addr)(I:Inv X j k H s)(d:∀b∈ch,zV X j H b)
  (h:∀b o,b∉ch->s.heap.get? b=some o->g.get? b=some o):Inv X j k H {s with heap:=g,gens:=s.gens,drawn:=s.drawn,toks:=t'}:=by
 have u:HOk X.prog X.w H g:=λb v e=>(I.hok b v e).stay (λc o a q=>h c o (λf=>by
   have n:=(d c f).1;rcases a with z|z
   .rw[z,e]at n;cases n
   .rw[z]at n;cases n) q) (λ_ q=>q) λ_ _ q=>q
 have p:∀m,s.heap.Ns X.env.locals m->g.Ns X.env.locals m:=λm f=>by obtain⟨o,l,ep,t,r⟩:=f;exact#[o,l,ep,h _ o (λf=>(d _ f).2.1 rfl) t,r]
 exact I.step (h':=g) (g':=s.gens) (d':=s.drawn) (t':=t') (ch:=ch) (λb i=>#[(d b i).2.2.2.1,(d b i).2.1,(d b i).2.2.2.2.1,(d b i).2.2.2.2.2]) (λb o _ _ a e _=>h b o a e)
  (λb o _ _ a e _=>#[o.slots,h b o a e]) (λ_ _ _ _ n=>n) (λb o a e=>#[o,h b o a e]) (λ_ _ e=>e) (λ_ _ _ e=>e) (λb ps e=>#[#v[],by rw[e];simp]) p u I.bare
def Inv.pairIn{X:Cx}{i:List (Addr×Obj)}{s j:Shared}{k:St}{H:Hp}{x y:V}{u v:Value}(I:Inv X i k H s)(a:Inv X i k H j)(G:cC x u)(J:cC y v)
  (r:j.heap.get? s.heap.objs.size=some {cls:= .type "tuple",data:= .seq #v[u,v]}):Inv X i k (upd H s.heap.objs.size (.tup [x,y])) j:=by
 have g:H s.heap.objs.size=none:=I.fresh;refine#[a.ok,a.os,a.bare,#[λb o e n d h=>a.base.keep b o e n d h,λb o e n d h=>a.base.slot b o e n d h,λb o e n h=> ?_,a.base.there,λb m e=> ?_,λb o u e=> ?_,λb ps e=> ?_],a.loc,a.cell,6,λy c e=> ?_,λp l=> ?_,6,a.len]
 .have d:b≠s.heap.objs.size:=Qf (OW (PB e) I.sz);rw[aE d];exact a.base.free b o e n h
 .have f:=a.base.tups b m e;rw[aE (aI f g)];exact f
 .have f:=a.base.frzs b o u e;rw[aE (aI f g)];exact f
 .obtain⟨more,f⟩:=a.base.tbls b ps e;exact#[more,by rw[aE (aI f g)];exact f]
 .rw[aE (Qf I.lt)];exact a.free
 .obtain⟨v,q⟩:=I.cell y c e;rw[aE (Qf q.lt)];exact a.freeC y c e
 .obtain⟨t,w,z,A,B⟩:=a.pin p l;have d:p.1≠s.heap.objs.size:=Qf (PB (I.pin p l).1);exact#[t,by rw[aE d];exact w,z,A,B]
 .intro b o e;by_cases d:b=s.heap.objs.size
  .subst d;rw[ak]at e;cases e;exact#[by show 2<=sizeLine;decide,[u,v], .cons G (.cons J .nil),#[_,r,27]]
  .rw[aE d]at e;refine(a.hok b o e).stay (λ_ _ _ q=>q) (λc q=> ?_) λc m q=> ?_
   .rw[aE (aI q g)];exact q
   .rw[aE (aI q g)];exact q
def ER{P:Program}{w:World}{K:Frag}{ax:List Expr}{x1:Nat}{tp:Pos}(a f g:Addr)(ab:g≠f):
  Turn P w K (.Tuple ax x1 tp) (Ite K a) [g,f] g (λi h=>(∃q,IsEnum h g f ((i:Nat):Int) q)/\h.IsListIter f a i) where
 mem:=#[5]
 obj:=λi h st b l=>by
  obtain⟨⟨q,j⟩,hi⟩:=st;rcases OT.mp l with e|e
  .subst e;exact#[_,j,λv z=>by have z':Data.fields _=Data.cell v:=z;cases z']
  .have e:b=f:=#[5,e]
   subst e;obtain⟨o,e,c,d⟩:=hi;exact#[o,e,λv z=>by rw[d]at z;cases z]
 keep:=λi h h' st k=>#[let⟨q,j⟩:=st.1;#[q,k g #[5] _ j],st.2.at λo e=>k f #[5] o e]
 item:=by
  intro X B J A Q i L s N H E I r st G;subst B J A;obtain⟨xs,x,y,hx⟩:=G;obtain⟨⟨q,j⟩,t⟩:=st;obtain⟨bt,M,p,hz⟩:=I.list y;obtain⟨u,hu,ru⟩:=M.get hx;obtain⟨f0,f1,f2,f3,f4,f5⟩:=r g #[5];obtain⟨g0,g1,g2,g3,g4,g5⟩:=r f #[5];refine wpAny_pyNext_enum_item j t p.isList (x:=u) #[5,hu] ab λbp aA a3 a6 bk a4=> ?_;refine#[7,wpAny_letOwnedTupleGo_enum aA λn aB m=> ?_];replace m:Heap.SameBut g bp n:=m;have U:g<s.heap.objs.size:=PB j;obtain⟨oi,a5,b2,b3⟩:=id t;have a0:f<s.heap.objs.size:=PB a5;have aC:H s.heap.objs.size=none:=I.fresh;have bb:n.get? s.heap.objs.size=some {cls:= .type "tuple",data:= .seq #v[.int i s.toks,u]}:=(m.2 _ (TJ U)).trans a6;have kk:∀b o,b≠g->b≠f->s.heap.get? b=some o->n.get? b=some o:=λb o O h2 e=>(m.2 b O).trans (a4 b o O h2 e);have I1:Inv X L N H {s with heap:=n,gens:=s.gens,drawn:=s.drawn,toks:=s.toks+1}:=I.own [g,f] r λb o l e=>kk b o (λz=>l (by simp[z])) (λz=>l (by simp[z])) e;have b4:n.objs.size=s.heap.objs.size+1:=m.1.trans bk;have I2:Inv X L N (upd H s.heap.objs.size (.tup [.int (i:Nat),x])) {s with heap:=n,toks:=s.toks+1}:=I.pairIn I1 #[7] ru bb;refine#[.ref s.heap.objs.size,_,I2,2,#[7,aC,x,λys hy=>by rw[I.list_inj hy y];exact hx,2],#[#[u,6],6],λb l=> ?_]
  .have:((i+1:Nat):Int)=(i:Int)+1:=()
   rw[this];exact aB
  .obtain⟨o,e,c,d⟩:=a3;exact#[o,(m.2 f (Pk ab)).trans e,c,d]
  .rcases OT.mp l with e|e
   .rw[e,aE (Qf U)];exact f0
   .have e:b=f:=#[5,e]
    rw[e,aE (Qf a0)];exact g0
 done:=by intro X B J A Q i L s N H E I r st G;subst B J A;obtain⟨xs,y,hx⟩:=G;obtain⟨⟨q,j⟩,t⟩:=st;obtain⟨bt,M,p,hz⟩:=I.list y;obtain⟨g0,g1,g2,g3,g4,g5⟩:=r f #[5];have hl:=M.length;exact wpAny_pyNext_enum_end (I.ok.hd Q) j t p.isList (by simp;lia) λh' eb=>#[2,I.turned (t':=s.toks) (λb o l e=>eb b o l e) g0 g1 g3 g4 g5]
 self:=λ_ _ _ _ _ st h=>let⟨_,j⟩:=st.1;wpAny_pyIter_enum j h
section
variable{X:Cx}{elts:List Expr}{x1:Nat}{tp:Pos}
def Mc(K:Frag)(c:TA):TI:=λd H R=>c d H λvs b=>∃a,vs=[.ref a]/\(∃xs,b a=some (.lst xs))/\R (Ite K a) b
def KO{a:Expr}{i:TA}{p pos:Pos}(o:Gl X "enumerate")(w:X.mg "enumerate"=none)(k:PA X [a] i)(x:starEach [a] X.env=[(false,eval a X.env)]:=by rfl):PI X (.Tuple elts x1 tp) (.Call (.Name "enumerate" p) [a] [] pos) (Mc X.K i):=by
 intro A s L H R I h;refine Call_ (ko I o w boot_enumerate (QK (thn (k pos A s L H _ I h) λus c ⟨vs,j,d,G,B⟩=> ?_) x rfl));obtain⟨l,e,⟨xs,y⟩,q⟩:=B;subst e;obtain⟨u,rfl,J⟩:=G.one;cases J;obtain⟨z,M,n,r,hl,e⟩:=d.lstM y;refine call_enumerate_1 e λh' g t hsz v=> ?_;refine wpAny_pyIter_enum g #[c.heap.objs.size+1,[c.heap.objs.size+1,c.heap.objs.size],_,Ite X.K l,j,2,d.kept (t':=c.toks) v,ER l _ _ (Nat.succ_ne_self _),#[#[_,g],t],λb m=> ?_,q];have f:c.heap.objs.size<=b:=by
  rcases OT.mp m with e|e
  .rw[e];exact Nat.le_succ _
  .have e:b=c.heap.objs.size:=#[5,e]
   rw[e];exact O4 _
 exact d.fpOk f (d.hok.fresh f)
end
structure Cal(P:Program)(w:World)(K:Frag)(mg:Str->Option Value)(base:Heap)(k:Nat)(x:Str)(ps:List Str)(sp:Sp):Prop where
 ex:∃(f:Addr)(fd:FuncData),lr P w K mg base CX0 k f fd ps sp/\mg x=some (.ref f)/\keepIn K (.ref f)=true/\nr K fd ps []
structure bC(K:Frag)(mg:Str->Option Value)(x:Str)(st:Stmt)(ps:List Str):Prop where
 ex:∃(f:Addr)(fd:FuncData),Fun K x x st f fd/\nr K fd ps []/\mg x=some (.ref f)
def Nx{K:Frag}{h:Heap}{mg:Str->Option Value}{x:Str}{st:Stmt}{ps:List Str}{f:Addr}{j:Value}{m d:Option Addr}{n:Array (Option Value)}{kV g i cdv e:Value}(X:K.In h)(G:h.Ns mainGlobals mg)
  (a:nsIn K mainGlobals x=some (some (.ref f))) (l:K.lookup f=some #[j,m, .func (fnOf x x (eV st) (bF st) (au st) .none kV g i d cdv e),n])
  (c:codeIn K cdv x=true) (k:keepIn K (.ref f)=true)
  (b:∀(kV g i:Value)(d:Option Addr)(cdv e:Value)(us:List Value),us.length=ps.length->bindArgs (fnOf x x (eV st) (bF st) (au st) .none kV g i d cdv e) #[us,[]]=pure (ps.zip us)):bC K mg x st ps:=
 #[f,_,uV (st:=st) l c k,(uV (st:=st) l c k).binds b,Q9 X G a]
section
variable{P:Program}{w:World}{K:Frag}{mg:Str->Option Value}{base:Heap}
def bC.cal{x:Str}{st:Stmt}{N ps:List Str}{k:Nat}{sp:Sp}(D:bC K mg x st ps)(S:aH N ps (au st))(len:∀vs H Q E,sp vs H Q E->vs.length=ps.length)
  (c:∀(f:Addr)(cdv:Value)(A:Around)(outer:List Env)(s:Shared)(H:Hp)(vs:List V)(Q:VK)(E:XK),Room k (A.deeper (envOfC x (au st) s.heap.objs.size f cdv))->sp vs H Q E->
   ∃t,PSs (zf CX0 P w K mg base N x (au st) f cdv A outer s H E).nox (bF st) t/\t {nx:=λ_ H'=>Q .non H',rt:=Q} (start N vs) H):Cal P w K mg base (k+1) x ps sp:=by
 obtain⟨f,a,F,b,m⟩:=D.ex;exact#[f,a,F.ok S len λcdv A outer s H vs Q E d e=>c f cdv A outer s H vs Q E d e,m,F.kp,b]
end
section
variable{X:Cx}{x:Str}{ps:List Str}{j k:Nat}{sp:Sp}{e:Expr}{es:List Expr}{t:TA}{p pos:Pos}
def MS(C:Cal X.prog X.w X.K X.mg X.base j x ps sp)(l:Room k X.A)(h:j<=k)(g:Gl X x)(a:PA X (e::es) t)(c:(x==("__debug__":Str))=false:=by decide)
  (d:starEach (e::es) X.env=(false,eval e X.env)::starEach es X.env:=by rfl) (i:(backTo pos (starEach es X.env)).any (·.1)=false:=by rfl):PE X (.Call (.Name x p) (e::es) [] pos) (GX sp [] E0 t):=by
 obtain⟨f,o,F,m,n,b⟩:=C.ex;exact KU F (l.mono h) g m n b .nil AQ a c d i
end
def Same.upd{H a:Hp}{l:Addr}{o:HO}(e:Same H a)(h:H l=none):Same H (upd a l o):=λb u q=>by rw[aE (aI q h)];exact e b u q
def Same.new(h:H l=none):Same H (L2.upd H l o):=(Same.refl H).upd h
def Same.at(e:Same H H1)(h:H l=some o):H1 l=some o:=e l o h
def JN{ts:List Int}{t:Int}(a:0<=t):sA (ts.map V.int) none (some t)=(ts.take t.toNat).map V.int:=by
 obtain⟨k,rfl⟩:=QM a;unfold sA;show((ts.map V.int).drop (HT.sIx _ 0 none)).take (HT.sIx _ _ (some (k:Int)) -HT.sIx _ 0 none)=_;rw[HT.yh,HT.t6,My,List.drop_zero,Nat.sub_zero,<-List.map_take];show(ts.take (min k ts.length)).map V.int=(ts.take k).map V.int;by_cases b:k<=ts.length
 .rw[Tc b]
 .rw[TL (),Qo,Ro ()]
def gI(p:Nat->Bool)(f:Nat->V)(i:Nat):List V:=((List.range i).filter p).map f
def Cz(p:Nat->Bool)(f:Nat->V)(i:Nat):gI p f (i+1)=if p i=true then gI p f i++[f i]else gI p f i:=by unfold gI;rw[QO,Rt,PC];cases a:p i<;>simp[a]
def FA(p:Nat->Bool)(f:Nat->V)(i:Nat):(gI p f i).length<=i:=by unfold gI;rw[My];exact OY (Qy _ _) #[5]
def eD{A:Int}{n:Nat}{g:TG}{B:TT}{G:TE}{c:Nat}{fr:List Nat}{d:St}{H:Hp}{Q:VK}(p:Nat->Bool)(f:Nat->V)(hn:n<=sizeLine)
  (hs:∀(i:Nat)(vs:St)(H':Hp)(R:V->St->Hp->Prop)(S:St->Hp->Prop),i<n->vs.length=c->Same H H'->
   (∀k a,k.length=c->Same H' a->if p i=true then R (f i) (k++fr.map λj=>(d[j]?).join) a else S (k++fr.map λj=>(d[j]?).join) a)->
   g (.int (A+i)) (vs++fr.map λj=>(d[j]?).join) H' λl L=>B l L λb v=>if b=true then G l v λy o=>R y l o else S l v)
  (O:∀D H',H D=none->Same H H'->H' D=some (.lst (gI p f n))->Q (.ref D) H'):LCW (Itr A n) g B G c fr d H Q:=by
 intro D t;refine#[λi m J H'=>m=n-i/\i<=n/\∃vs:St,vs.length=c/\J=vs++(fr.map λj=>(d[j]?).join)/\Same H H'/\H' D=some (.lst (gI p f i)),#[n,#[5],Qj _,List.replicate c none,#[5],2,Same.new t,ak],6];rintro i m J H' ⟨rfl,U,vs,hv,rfl,r,u⟩;by_cases h:i<n
 .refine .inr #[h,λK a=>∃vs:St,vs.length=c/\K=vs++(fr.map λj=>(d[j]?).join)/\Same H a/\a D=some (.lst (gI p f (i+1))),λK a q=>#[n- (i+1),QE h (QB _),2,h,q],λx H2 y=> ?_];obtain⟨M,N⟩:=y;subst M N;refine hs i vs _ (λy l o=>∃xs,o D=some (.lst xs)/\xs.length<sizeLine/\∃vs:St,vs.length=c/\l=vs++(fr.map λj=>(d[j]?).join)/\Same H (upd o D (.lst (xs++[y])))/\upd o D (.lst (xs++[y])) D=some (.lst (gI p f (i+1)))) _ h hv r λk a z s=> ?_;have e:=Cz p f i;cases w:p i with
  |true=>
   rw[w,OP rfl]at e;rw[OP rfl];exact#[_,s D _ u,Pd (FA p f i) (OW h hn),k,z,2,(r.trans s).upd t,by rw[ak,e]]
  |false=>
   rw[w,OO Pf]at e;rw[OO Pf];exact#[k,z,2,r.trans s,by rw[e];exact s D _ u]
 .have e:i=n:=Qz U (QC h);subst e;exact .inl #[O4 _,O D H' t r u]
def gr(p:V->Bool)(f:V->V)(xs:List V):List V:=(xs.filter p).map f
def uy(p:V->Bool)(f:V->V)(xs:List V)(i:Nat)(x:V)(h:xs[i]?=some x):gr p f (xs.take (i+1))=if p x=true then gr p f (xs.take i)++[f x]else gr p f (xs.take i):=by unfold gr;rw[Ql,h,Rt,PC];cases a:p x<;>simp[a]
def wF(p:V->Bool)(f:V->V)(xs:List V):(gr p f xs).length<=xs.length:=by unfold gr;rw[My];exact Qy _ _
def bT{K:Frag}{a:Addr}{xs:List V}{g:TG}{J:TT}{L:TE}{d:Nat}{fr:List Nat}{h:St}{H:Hp}{Q:VK}(p:V->Bool)(f:V->V)(ha:SqL K H a xs)(hn:xs.length<=sizeLine)
  (hs:∀(i:Nat)(x:V)(vs:St)(H':Hp)(R:V->St->Hp->Prop)(S:St->Hp->Prop),xs[i]?=some x->vs.length=d->Same H H'->
   (∀k c,k.length=d->Same H' c->if p x=true then R (f x) (k++fr.map λj=>(h[j]?).join) c else S (k++fr.map λj=>(h[j]?).join) c)->
   g x (vs++fr.map λj=>(h[j]?).join) H' λl O=>J l O λb z=>if b=true then L l z λy n=>R y l n else S l z)
  (hd:∀D H',H D=none->Same H H'->H' D=some (.lst (gr p f xs))->Q (.ref D) H'):LCW (Itl K a) g J L d fr h H Q:=by
 intro D v;refine#[λi m M H'=>m=xs.length-i/\i<=xs.length/\∃vs:St,vs.length=d/\M=vs++(fr.map λj=>(h[j]?).join)/\Same H H'/\H' D=some (.lst (gr p f (xs.take i))),#[xs.length,#[5],Qj _,List.replicate d none,#[5],2,Same.new v,ak],6];rintro i m M H' ⟨rfl,hi,vs,hv,rfl,o,r⟩;have w:=o.seq ha;by_cases s:i<xs.length
 .refine .inr #[#[xs,xs[i],w,by simp[s]],λN c=>∃vs:St,vs.length=d/\N=vs++(fr.map λj=>(h[j]?).join)/\Same H c/\c D=some (.lst (gr p f (xs.take (i+1)))),λN c q=>#[xs.length- (i+1),QE s (QB _),2,s,q],λx H2 y=> ?_];obtain⟨U,e2⟩:=y;subst U;have G:=e2 xs w;refine hs i x vs _ (λy l n=>∃u,n D=some (.lst u)/\u.length<sizeLine/\∃vs:St,vs.length=d/\l=vs++(fr.map λj=>(h[j]?).join)/\Same H (upd n D (.lst (u++[y])))/\upd n D (.lst (u++[y])) D=some (.lst (gr p f (xs.take (i+1))))) _ G hv o λk c B t=> ?_;have e:=uy p f xs i x G;cases A:p x with
  |true=>
   rw[A,OP rfl]at e;rw[OP rfl];refine#[_,t D _ r,Pd (wF p f _) ?_,k,B,2,(o.trans t).upd v,by rw[ak,e]];rw[Pz];lia
  |false=>
   rw[A,OO Pf]at e;rw[OO Pf];exact#[k,B,2,o.trans t,by rw[e];exact t D _ r]
 .have e:i=xs.length:=Qz hi (QC s);subst e;refine .inl #[#[xs,w,O4 _],hd D H' v o ?_];rwa[Qo]at r
def gJ(p:Nat->V->Bool)(f:Nat->V->V):Nat->List V->List V
 |_,[]=>[]
 |i,x::r=>if p i x=true then f i x::gJ p f (i+1) r else gJ p f (i+1) r
def uz(p:Nat->V->Bool)(f:Nat->V->V):∀(i:Nat)(xs:List V)(x:V),gJ p f i (xs++[x])=if p (i+xs.length) x=true then gJ p f i xs++[f (i+xs.length) x]else gJ p f i xs
 |i,[],x=>by simp[gJ]
 |i,y::r,x=>by
  have e:i+(y::r).length=i+1+r.length:=by simp;lia
  rw[TM,gJ,uz p f (i+1) r x,e]
  conv=>rhs;rw[gJ]
  by_cases a:p i y=true<;>by_cases b:p (i+1+r.length) x=true<;>simp[a,b]
def wG(p:Nat->V->Bool)(f:Nat->V->V):∀(i:Nat)(xs:List V),(gJ p f i xs).length<=xs.length
 |_,[]=>O4 _
 |i,x::r=>by have:=wG p f (i+1) r;rw[gJ];split<;>simp<;>lia
def Jl{K:Frag}{a:Addr}{xs:List V}{g:TG}{U:TT}{te:TE}{d:Nat}{fr:List Nat}{h:St}{H:Hp}{Q:VK}(p:Nat->V->Bool)(f:Nat->V->V)(ha:SqL K H a xs)(hn:xs.length<=sizeLine)
  (hs:∀(i:Nat)(x:V)(t:Addr)(vs:St)(H':Hp)(R:V->St->Hp->Prop)(S:St->Hp->Prop),xs[i]?=some x->vs.length=d->Same H H'->H' t=some (.tup [.int (i:Nat),x])->
   (∀k c,k.length=d->Same H' c->if p i x=true then R (f i x) (k++fr.map λj=>(h[j]?).join) c else S (k++fr.map λj=>(h[j]?).join) c)->
   g (.ref t) (vs++fr.map λj=>(h[j]?).join) H' λl H3=>U l H3 λb G=>if b=true then te l G λy n=>R y l n else S l G)
  (hd:∀D H',H D=none->Same H H'->H' D=some (.lst (gJ p f 0 xs))->Q (.ref D) H'):LCW (Ite K a) g U te d fr h H Q:=by
 intro D w;refine#[λi m ag H'=>m=xs.length-i/\i<=xs.length/\∃vs:St,vs.length=d/\ag=vs++(fr.map λj=>(h[j]?).join)/\Same H H'/\H' D=some (.lst (gJ p f 0 (xs.take i))),#[xs.length,#[5],Qj _,List.replicate d none,#[5],2,Same.new w,ak],6];rintro i m ag H' ⟨rfl,L,vs,hv,rfl,o,z⟩;have A:=o.seq ha;by_cases r:i<xs.length
 .refine .inr #[#[xs,xs[i],A,by simp[r]],λai c=>∃vs:St,vs.length=d/\ai=vs++(fr.map λj=>(h[j]?).join)/\Same H c/\c D=some (.lst (gJ p f 0 (xs.take (i+1)))),λai c q=>#[xs.length- (i+1),QE r (QB _),2,r,q],λx H2 y=> ?_];obtain⟨t,e1,ht,v,e2,e3⟩:=y;subst e1 e3;have O:=e2 xs A;have s:Same H' (upd H' t (.tup [.int (i:Nat),v])):=Same.new ht;refine hs i v t vs _ (λy l n=>∃u,n D=some (.lst u)/\u.length<sizeLine/\∃vs:St,vs.length=d/\l=vs++(fr.map λj=>(h[j]?).join)/\Same H (upd n D (.lst (u++[y])))/\upd n D (.lst (u++[y])) D=some (.lst (gJ p f 0 (xs.take (i+1))))) _ O hv (o.trans s) ak λk c N B=> ?_;have e:gJ p f 0 (xs.take (i+1))=if p i v=true then gJ p f 0 (xs.take i)++[f i v]else gJ p f 0 (xs.take i):=by rw[Ql,O];show gJ p f 0 (xs.take i++[v])=_;rw[uz,Pz,Tc L,Rw]
  have J:=B D _ (s D _ z);cases M:p i v with
  |true=>
   rw[M,OP rfl]at e;rw[OP rfl];refine#[_,J,Pd (wG p f _ _) ?_,k,N,2,((o.trans s).trans B).upd w,by rw[ak,e]];rw[Pz];lia
  |false=>
   rw[M,OO Pf]at e;rw[OO Pf];exact#[k,N,2,(o.trans s).trans B,by rw[e];exact J]
 .have e:i=xs.length:=Qz L (QC r);subst e;refine .inl #[#[xs,A,O4 _],hd D H' w o ?_];rwa[Qo]at z
inductive RdN(K:Frag)(xs:List V)(H:Hp)(Q:VK):Prop
 |mk(p:Addr) (ys:List V) (e:xs=[.ref p]) (s:SqL K H p ys\/SqT K H p ys) (q:Q (.int ys.length) H):RdN K xs H Q
def LX(K:Frag):List V->Hp->VK->Prop:=λxs H Q=>RdN K xs H Q
def KA(K:Frag):List V->Hp->VK->Prop:=λxs H Q=>∃p a,xs=[.ref p]/\(SqL K H p a\/SqT K H p a)/\∀l,H l=none->Q (.ref l) (upd H l (.lst a))
section
variable{X:Cx}{K:Frag}
def uO(h:X.K=K):IxR X (Ig K):=by subst h;exact Lj
def Li(h:X.K=K):IxR X (MF K):=by subst h;exact Nn
def CG(h:X.K=K):OpR X (compareOp .In) (rIn K false):=by subst h;exact FD
def ki(h:X.K=K):OpR X (compareOp .NotIn) (rIn K true):=by subst h;exact yD
def wg(h:X.K=K):gs X (.builtin "len") (LX K):=by subst h;intro c s f H xs us Q I r a;obtain⟨p,d,e,b,q⟩:=a;exact zH c s f H xs us Q I r #[p,d,e,b,q]
def we(h:X.K=K):gs X (.type "list") (KA K):=by subst h;exact zF
def fX(h:X.K=K):gs X (.builtin "isinstance") (NV K):=by subst h;exact BI
def lP(h:X.K=K):SlR X (NU K):=by subst h;exact Ko
def KQ{e st:Expr}{a ts:TE}{pos p2:Pos}(h:X.K=K)(b:PE X e a)(c:PE X st ts):PE X (.Subscript e (.Slice none none (some st) p2) pos) (NH K a ts):=by subst h;exact MO b c
def KW{o:Expr}{c:TE}{name:Str}{a b:Pos}{T id:String}{r:V->List V->Hp->VK->Prop}(h:X.K=K)(j:PlainAttrs T)(slot:Slot T name id)(i:typeOf (.builtin id)=pure (.type "method_descriptor"))(f:MtR X id r)(g:PE X o c)
  (d:attributeBase o name X.env (eval o X.env)=eval o X.env:=by rfl) (e:(a.endLine==b.line)=true:=by rfl):PE X (.Call (.Attribute o name a) [] [] b) (NP K T r c):=by subst h;exact MT j slot i f g d e
def iz{o e:Expr}{a:List Expr}{d:TE}{t:TA}{name:Str}{c b:Pos}{T id:String}{r:V->List V->Hp->VK->Prop}(h:X.K=K)(q:PlainAttrs T)(slot:Slot T name id)(p:typeOf (.builtin id)=pure (.type "method_descriptor"))(k:MtR X id r)(l:PE X o d)(f:PA X (e::a) t)
  (g:attributeBase o name X.env (eval o X.env)=eval o X.env:=by rfl)
  (i:((backTo b (starEach (e::a) X.env)).all (λx=> !x.1)&&(backToKw b (keywordEach [] X.env)).all (λx=>x.1.isSome)
   &&decide ((e::a).length+([]:List Keyword).length+(if([]:List Keyword).isEmpty then 0 else 1)<30))=true:=by rfl)
  (j:(c.endLine==b.line)=true:=by rfl) (n:starEach (e::a) X.env=(false,eval e X.env)::starEach a X.env:=by rfl) (m:(backTo b (starEach a X.env)).any (·.1)=false:=by rfl):
  PE X (.Call (.Attribute o name c) (e::a) [] b) (tBM K T r d t):=by subst h;exact NY q slot p k l f g i j n m
def Im(h:X.K=K)(hl:PE X l tl):PI X tg l (Ju K tl):=by subst h;exact KN hl
def KL(h:X.K=K)(hl:PE X l tl):PI X tg l (Np K tl):=by subst h;exact MK hl
def ur{c:List Expr}{x1:Nat}{i:Pos}{a:Expr}{b:TA}{p pos:Pos}(h:X.K=K)(e:Gl X "enumerate")(f:X.mg "enumerate"=none)(d:PA X [a] b)(g:starEach [a] X.env=[(false,eval a X.env)]:=by rfl):
  PI X (.Tuple c x1 i) (.Call (.Name "enumerate" p) [a] [] pos) (Mc K b):=by subst h;exact KO e f d g
def nP{a:List Expr}{k:Nat}{t:TGs}{n:Nat}{pos:Pos}(h:X.K=K)(b:X.calm=true)(d:PGs X a t)(c:(assignEach a X.env).length=n:=by rfl)(e:(assignEach a X.env).findIdx? (·.1)=none:=by rfl):
  PG X (.Tuple a k pos) (Od K n t):=by subst h;exact MM b d c e
end
def Ol(H H':Hp):Prop:=∀b xs,H b=some (.tup xs)->H' b=some (.tup xs)
def Same.tups(e:Same H H'):Ol H H':=λb xs h=>e b _ h
structure i5(K:Frag)(m qual:Str)(st:Stmt)(ps:List Str)(f:Addr):Prop where
 ex:∃fd:FuncData,Fun K m qual st f fd/\nr K fd ps []
def Nc{K:Frag}{m a:Str}{st:Stmt}{ps:List Str}{f:Addr}{i:Value}{j d:Option Addr}{n:Array (Option Value)}{kV g h cdv e:Value}
  (l:K.lookup f=some #[i,j, .func (fnOf m a (eV st) (bF st) (au st) .none kV g h d cdv e),n]) (c:codeIn K cdv a=true) (k:keepIn K (.ref f)=true)
  (b:∀(kV g h:Value)(d:Option Addr)(cdv e:Value)(us:List Value),us.length=ps.length->bindArgs (fnOf m a (eV st) (bF st) (au st) .none kV g h d cdv e) #[us,[]]=pure (ps.zip us)):i5 K m a st ps f:=
 #[_,uV (st:=st) l c k,(uV (st:=st) l c k).binds b]
structure jd(P:Program)(w:World)(K:Frag)(mg:Str->Option Value)(base:Heap)(k:Nat)(f:Addr)(ps:List Str)(sp:Sp):Prop where
 ex:∃fd:FuncData,lr P w K mg base CX0 k f fd ps sp/\nr K fd ps []
 kp:keepIn K (.ref f)=true
structure dn(P:Program)(w:World)(K:Frag)(mg:Str->Option Value)(base:Heap)(k:Nat)(C:Addr)(m:Str)(ps:List Str)(sp:Sp):Prop where
 cl:Cls K C
 ex:∃f,Meth K C m f/\jd P w K mg base k f ps sp
structure vE(P:Program)(w:World)(K:Frag)(mg:Str->Option Value)(base:Heap)(k:Nat)(x:Str)(C:Addr)(ps:List Str)(sp:Sp):Prop where
 ex:∃f,Mk K C f/\jd P w K mg base k f ps sp
 g:mg x=some (.ref C)
structure GF(P:Program)(w:World)(K:Frag)(mg:Str->Option Value)(base:Heap)(k:Nat)(C:Addr)(m:Str)(ps:List Str)(sp:Sp):Prop where
 ex:∃f,jd P w K mg base k f ps sp/\PySem.W.findCls K (.ref C) (.type "type") m=some (.val (.ref f))
 ga:specialIn K (.ref C) "__getattribute__"=some (some (.builtin "type.__getattribute__"))
 rd:PySem.W.readsIn K C (.type "type")=true
section
variable{P:Program}{w:World}{K:Frag}{mg:Str->Option Value}{base:Heap}
def i5.fn{m a:Str}{st:Stmt}{N ps:List Str}{k:Nat}{sp:Sp}{f:Addr}(D:i5 K m a st ps f)(S:aH N ps (au st))(len:∀vs H Q E,sp vs H Q E->vs.length=ps.length)
  (d:∀(cdv:Value)(A:Around)(outer:List Env)(s:Shared)(H:Hp)(vs:List V)(Q:VK)(E:XK),Room k (A.deeper (envOfC a (au st) s.heap.objs.size f cdv))->sp vs H Q E->
   ∃t,PSs (zf CX0 P w K mg base N a (au st) f cdv A outer s H E).nox (bF st) t/\t {nx:=λ_ H'=>Q .non H',rt:=Q} (start N vs) H):jd P w K mg base (k+1) f ps sp:=by
 obtain⟨c,F,b⟩:=D.ex;exact#[#[c,F.ok S len d,b],F.kp]
def jd.mono(C:jd P w K mg base j f ps sp)(h:j<=k):jd P w K mg base k f ps sp:=by obtain⟨⟨a,F,b⟩,c⟩:=C;exact#[#[a,F.mono h,b],c]
end
inductive RdM(Dom:Addr->Prop)(m:Str)(spf:Addr->Sp)(t:TA)(σ:St)(Q:VK)(x:V)(H:Hp):Prop
 |mk(a C dx:Addr) (fs:List (Str×V)) (e:x= .ref a) (h:H a=some (.ins C dx fs)) (d:Dom C) (l:fs.lookup m=none) (q:t σ H λvs H2=>spf C (x::vs) H2 Q E0):RdM Dom m spf t σ Q x H
def GV(b:Addr->Prop)(m:Str)(c:Addr->Sp)(d:TE)(t:TA):TE:=λa H Q=>d a H (RdM b m c t a Q)
def NO(C:Addr)(sp:Sp)(d:TE)(t:TA):TE:=λa H Q=>d a H λx b=>x= .ref C/\t a b λvs c=>sp vs c Q E0
section
variable{X:Cx}{j k:Nat}{C:Addr}{x m:Str}{ps:List Str}{sp:Sp}{Dom:Addr->Prop}{spf:Addr->Sp}{e o:Expr}{es:List Expr}{ta:TE}{t:TA}{p pos apos:Pos}
def gu{pl:Sem Bool}(M:∀C,Dom C->dn X.prog X.w X.K X.mg X.base j C m ps (spf C))(U:Room k X.A)(L:j<=k)(J:PE X o ta)(B:PA X (e::es) t)
  (ab:starEach (e::es) X.env=(false,eval e X.env)::starEach es X.env:=by rfl) (N:(backTo pos (starEach es X.env)).any (·.1)=false:=by rfl)
  (ht:eval (.Call (.Attribute o m apos) (e::es) [] pos) X.env=(do
   let ov<-eval o X.env
   standAt apos.atName
   let(f,first)<-holding [ov] (getMethod ov m pl)
   callWith pos f first (backTo pos (starEach (e::es) X.env)) (backToKw pos (keywordEach [] X.env))):=by rfl):
  PE X (.Call (.Attribute o m apos) (e::es) [] pos) (GV Dom m spf ta t):=by
 intro i s n H Q I h;refine S1 (pl:=pl) (thn (J i s n H _ I h) λu s1 O=> ?_) ht;obtain⟨x,v,b,rx,a,C,dx,fs,ex,z,y,l,q⟩:=O;subst ex;obtain rfl:u=Value.ref a:=rx;obtain⟨c,f,g,⟨fd,F,G⟩,kp⟩:=M C y;refine uU b z c g l ?_;refine Sr (first:=[.ref a]) (h₀:=X.base) I.ok.mod.kin g.kp (thn (B pos i s1 n v _ b q) λus s2 ⟨vs,H2,d,r,q2⟩=>#[d.kIn,6]) ab N;exact yi (us:= .ref a::us) (vs:= .ref a::vs) (dvs:=[]) F (U.mono L) G .nil AQ d (.cons rfl r) (by rw[Qx];exact q2)
def gq{pl:Sem Bool}(M:∀C,Dom C->dn X.prog X.w X.K X.mg X.base j C m ps (spf C))(z:Room k X.A)(v:j<=k)(r:PE X o ta)
  (B:eval (.Call (.Attribute o m apos) [] [] pos) X.env=(do
   let ov<-eval o X.env
   standAt apos.atName
   let(f,first)<-holding [ov] (getMethod ov m pl)
   callWith pos f first (backTo pos (starEach [] X.env)) (backToKw pos (keywordEach [] X.env))):=by rfl):
  PE X (.Call (.Attribute o m apos) [] [] pos) (GV Dom m spf ta Ki):=by
 intro G s L H Q I h;refine S1 (pl:=pl) (thn (r G s L H _ I h) λu s1 y=> ?_) B;obtain⟨x,N,b,J,a,C,O,fs,ex,i,g,l,q⟩:=y;subst ex;obtain rfl:u=Value.ref a:=J;obtain⟨c,f,d,⟨U,F,n⟩,kp⟩:=M C g;refine uU b i c d l ?_;exact PySem.W.callWith_K0 (first:=[.ref a]) b.kIn d.kp (yi (us:=[.ref a]) (vs:=[.ref a]) (dvs:=[]) F (z.mono v) n .nil AQ b (.cons rfl .nil) q)
def qP(M:vE X.prog X.w X.K X.mg X.base j x C ps sp)(n:Room k X.A)(i:j+1<=k)(h:Gl X x)(a:PA X (e::es) t)(c:(x==("__debug__":Str))=false:=by decide)
  (d:starEach (e::es) X.env=(false,eval e X.env)::starEach es X.env:=by rfl) (l:(backTo pos (starEach es X.env)).any (·.1)=false:=by rfl):PE X (.Call (.Name x p) (e::es) [] pos) (LP C sp [] E0 t):=by
 obtain⟨⟨f,mk,⟨q,F,b⟩,r⟩,g⟩:=M;exact KR mk F (n.mono i) h g b .nil AQ a c d l
def pX{pl:Sem Bool}(M:GF X.prog X.w X.K X.mg X.base j C m ps sp)(J:Room k X.A)(B:j<=k)(y:PE X o ta)(n:PA X (e::es) t)
  (L:starEach (e::es) X.env=(false,eval e X.env)::starEach es X.env:=by rfl) (G:(backTo pos (starEach es X.env)).any (·.1)=false:=by rfl)
  (N:eval (.Call (.Attribute o m apos) (e::es) [] pos) X.env=(do
   let ov<-eval o X.env
   standAt apos.atName
   let(f,first)<-holding [ov] (getMethod ov m pl)
   callWith pos f first (backTo pos (starEach (e::es) X.env)) (backToKw pos (keywordEach [] X.env))):=by rfl):
  PE X (.Call (.Attribute o m apos) (e::es) [] pos) (NO C sp ta t):=by
 intro c s d H Q I h;refine S1 (pl:=pl) (thn (y c s d H _ I h) λu s1 ⟨x,g,a,rx,ex,q⟩=> ?_) N;subst ex;obtain rfl:u=Value.ref C:=rx;obtain⟨⟨f,⟨⟨fd,F,v⟩,O⟩,z⟩,l,rd⟩:=M;refine PySem.W.method_cls a.kIn l (PySem.W.cls_value a.kIn rd z rfl ?_);have i:=a.tok (s1.toks+1);refine Sr (first:=[]) (h₀:=X.base) I.ok.mod.kin O (thn (n pos c _ d g _ i q) λus s2 ⟨vs,H2,b,r,U⟩=>#[b.kIn,6]) L G;exact yi (us:=us) (vs:=vs) (dvs:=[]) F (J.mono B) v .nil AQ b r (by rw[Qx];exact U)
variable{K:Frag}{f:Str}{value:Expr}{tv:TE}{pos':Pos}
def KS(h:X.K=K)(b:PE X e ta)(a:attributeBase e f X.env (eval e X.env)=eval e X.env):PE X (.Attribute e f pos) (Ms K ta f):=by subst h;exact MR b a
def KI(h:X.K=K)(a:PE X o ta)(c:PE X value tv)(b:swapsWith value (some (.Attribute o f pos')) pos.line X.env=pure false):PS X (.Assign [.Attribute o f pos'] value pos) (Mw K ta tv f):=by subst h;exact MI a c b
def LW(K:Frag):List V->Hp->VK->Prop:=λxs H Q=>∃(a:Addr)(ns:List Int),xs=[.ref a]/\SqL K H a (ns.map V.int)/\ns≠[]/\∀m∈ns,(∀z∈ns,z<=m)->Q (.int m) H
def Gs(r:X.calm=true):gs X (.builtin "max") (LW X.K):=by
 intro ab s σ H vs us Q I M h;obtain⟨a,ns,rfl,n,A,q⟩:=h;obtain⟨u,rfl,L⟩:=M.one;cases L;obtain⟨U,J,p1,_⟩:=I.list n;have d:=uQ J;obtain⟨xs,ex⟩:=d.allInts.items;have hl:=p1.isList;rw[ex]at hl;have c:numsOf (intItems xs).toList=ns:=by rw[<-ex];exact d.numsOf
 rw[nums_intItems]at c;have hsz:xs.size=ns.length:=by rw[<-c];simp
 have O:0<ns.length:=by
  cases ns with
  |nil=>exact absurd rfl A
  |cons _ _=>simp
 have g:∀i,i<ns.length->ns[i]?=some (numAt xs i):=λi b=>by
  unfold numAt;rw[<-c,Ph,R6];have:i<xs.size:=()
  rw[Array.getElem?_eq_getElem this];rfl
 refine max_intList (I.ok.hd r) hl () λv h' tk B y=> ?_;obtain⟨t,rfl⟩:=intItems_at B;obtain⟨N,l⟩:=argBest_gt (numAt xs) (xs.size-1);refine#[.int (numAt xs (argBest (λi j=>decide (numAt xs i>numAt xs j)) (xs.size-1))),H,I.kept y,#[7],q _ ?_ λz G=> ?_]
 .exact O5 (g _ ())
 .obtain⟨i,b⟩:=P2 G;have w:i<ns.length:=(O1.mp b).1;rw[g i w]at b;cases b;exact l i ()
def Dl(h:X.K=K)(a:X.calm=true):gs X (.builtin "max") (LW K):=by subst h;exact Gs a
variable{a b:Expr}{rest:List Expr}{tb:TE}
end
def Lg{K:Frag}{a:Addr}{xs:List V}{g:TG}{J:TT}{L:TE}{d:Nat}{fr:List Nat}{h:St}{H:Hp}{Q:VK}(p:V->Bool)(f:V->V)(ha:H a=some (.tup xs))(hn:xs.length<=sizeLine)
  (hs:∀(i:Nat)(x:V)(vs:St)(H':Hp)(R:V->St->Hp->Prop)(S:St->Hp->Prop),xs[i]?=some x->vs.length=d->Same H H'->
   (∀k c,k.length=d->Same H' c->if p x=true then R (f x) (k++fr.map λj=>(h[j]?).join) c else S (k++fr.map λj=>(h[j]?).join) c)->
   g x (vs++fr.map λj=>(h[j]?).join) H' λl O=>J l O λb z=>if b=true then L l z λy n=>R y l n else S l z)
  (hd:∀D H',H D=none->Same H H'->H' D=some (.lst (gr p f xs))->Q (.ref D) H'):LCW (Itt K a) g J L d fr h H Q:=by
 intro D v;refine#[λi m M H'=>m=xs.length-i/\i<=xs.length/\∃vs:St,vs.length=d/\M=vs++(fr.map λj=>(h[j]?).join)/\Same H H'/\H' D=some (.lst (gr p f (xs.take i))),#[xs.length,#[5],Qj _,List.replicate d none,#[5],2,Same.new v,ak],6];rintro i m M H' ⟨rfl,hi,vs,hv,rfl,o,r⟩;have w:SqT K H' a xs:=SqT.of (o.at ha);by_cases s:i<xs.length
 .refine .inr #[#[xs,xs[i],w,by simp[s]],λN c=>∃vs:St,vs.length=d/\N=vs++(fr.map λj=>(h[j]?).join)/\Same H c/\c D=some (.lst (gr p f (xs.take (i+1)))),λN c q=>#[xs.length- (i+1),QE s (QB _),2,s,q],λx H2 y=> ?_];obtain⟨U,e2⟩:=y;subst U;have G:=e2 xs w;refine hs i x vs _ (λy l n=>∃u,n D=some (.lst u)/\u.length<sizeLine/\∃vs:St,vs.length=d/\l=vs++(fr.map λj=>(h[j]?).join)/\Same H (upd n D (.lst (u++[y])))/\upd n D (.lst (u++[y])) D=some (.lst (gr p f (xs.take (i+1))))) _ G hv o λk c B t=> ?_;have e:=uy p f xs i x G;cases A:p x with
  |true=>
   rw[A,OP rfl]at e;rw[OP rfl];refine#[_,t D _ r,Pd (wF p f _) ?_,k,B,2,(o.trans t).upd v,by rw[ak,e]];rw[Pz];lia
  |false=>
   rw[A,OO Pf]at e;rw[OO Pf];exact#[k,B,2,o.trans t,by rw[e];exact t D _ r]
 .have e:i=xs.length:=Qz hi (QC s);subst e;refine .inl #[#[xs,w,O4 _],hd D H' v o ?_];rwa[Qo]at r
def aR(f:Str)(v:V)(fs:List (Str×V)):(cf f v fs).lookup f=some v:=by rw[ka,OP rfl]
def az(v:V)(fs:List (Str×V))(h:¬g=f):(cf f v fs).lookup g=fs.lookup g:=by rw[ka,OO h]
def MC(K:Frag):List V->Hp->VK->Prop:=λxs H Q=>∃p a,xs=[.ref p]/\((SqL K H p a/\∀l,H l=none->Q (.ref l) (upd H l (.tup a)))\/(SqT K H p a/\Q (.ref p) H))
def jT{X:Cx}{K:Frag}(h:X.K=K):gs X (.type "tuple") (MC K):=by subst h;exact wd
structure TyC(K:Frag)(C:Addr):Prop where
 ha:findIn K (.ref C) "__class__"=some (some (.builtin "object.__class__"))
 hn:specialIn K (.builtin "object.__class__") "__get__"=some (some (.builtin "getset_descriptor.__get__"))
 ht:takesIn K (.builtin "object.__class__")=some true
 hm:mroIn K C (.type "object")=some true
end L2
namespace L2
def wH{b:St}(Pm:St->Hp->Prop)(c:∀a H',Pm a H'->u D a H')(h:(∀a H',Pm a H'->u D a H')->t {D with nx:=u D} (b.set i (some v)) H):br i v b H (EW t u D):=h c
def Hu{b:St}(Pm:St->Hp->Prop)(d:∀a H',Pm a H'->u D a H')(h:(∀a H',Pm a H'->u D a H')->t {D with nx:=u D} (b.set i (some c)) H):EW (Cj (tC c) (br i)) (EW t u) D b H:=h d
def gg(Pm:St->Hp->Prop)(b:∀a H',Pm a H'->u D a H')(h:(∀a H',Pm a H'->u D a H')->t {D with nx:=u D} σ H):EW t u D σ H:=h b
end L2
namespace L2
open PySem PySem.Spec PyProof.Rows
def si:isSubtype (.type "range_iterator") (.type "reversed")=pure false:=by rw[isSubtype_type];kernel_rfl
section
variable{prog:Program}{w:World}{A:Around}{E:Value->Shared->Prop}{s:Shared}
def mq(r:Addr)(n:Int)(t u v:Tok)(j:0<=n)(k:n<2^62):
  Meets (Builtin.«range.__reversed__» #[[.ref r],[]])
   (λ_ R s=>s.heap.get? r=some {cls:= .type "range",data:= .fields #v[.int 0 t, .int n u, .int 1 v]}/\
    R (.ok (.ret (.ref s.heap.objs.size))) {s with heap:=s.heap.push {cls:= .type "range_iterator",data:= .fields #v[rawInt (n-1),rawInt n,rawInt (-1)]}}):=
 .of_wp λprog w A R s h=>by
  obtain⟨l,g,d,o,os⟩:=s;obtain⟨m,h⟩:=h;have c:Builtin.Range.rangeSize 0 n 1=n:=by
   unfold Builtin.Range.rangeSize;rw[OP ∅];by_cases a:(0:Int)<n
   .rw[OP a];lia
   .rw[OO a];lia
  have f1:Builtin.Range.rangeFitsLong 0=true:=∅
  have f2:Builtin.Range.rangeFitsLong n=true:=by unfold Builtin.Range.rangeFitsLong;simp;lia
  have e:Builtin.Range.rangeFitsLong 1=true:=∅
  have f:Builtin.Range.rangeFitsLong (-1)=true:=∅
  have i:Builtin.Range.rangeFitsLong (0-1)=true:=∅
  have b:(0:Int)+(n-1)*1=n-1:=()
  unfold Builtin.«range.__reversed__» Builtin.Range.rangeFields
  repeat (any_goals (first|assumption|wp_step))
  all_goals
   refine#[76];rw[c,b,f1,f2,e,f,i];exact h
def om(a:s.heap.get? p=some {cls:= .type "range",data:= .fields #v[.int 0 t, .int n u, .int 1 v]})(b:0<=n)(c:n<2^62)
  (h:Q (.ref s.heap.objs.size) {s with heap:=s.heap.push {cls:= .type "range_iterator",data:= .fields #v[rawInt (n-1),rawInt n,rawInt (-1)]}}):wpAny (model prog w) A (call (.builtin "range.__reversed__") [.ref p]) Q E s:=
 call_meets S3 #[_,a,2] F.entry_range_reversed (F.args_range_reversed_1 _) (mq p n t u v b c) #[a,h]
def oe(b:s.heap.get? p=some {cls:= .type "range",data:= .fields #v[.int 0 t, .int n u, .int 1 v]})(c:0<=n)(d:n<2^62)
  (h:Q₁ (.ref s.heap.objs.size) {s with heap:=s.heap.push {cls:= .type "range_iterator",data:= .fields #v[rawInt (n-1),rawInt n,rawInt (-1)]}}):
  codeAny (model prog w) A (.call (.builtin "reversed.__new__") #[[.type "reversed", .ref p],[]]) (wants Q₁ E) s:=by
 refine codeAny_of_tree ?_;show wpAny _ A.in1 (do checkBuiltinCall "reversed.__new__" #[[.type "reversed", .ref p],[]];again (.builtin "reversed.__new__" #[[.type "reversed", .ref p],[]])) _ _ s;refine P1 (Tq (F.newCall_reversed_1 _) (QA #[plainId_quiet F.plain_reversed_new _,codeAny_builtin F.entry_reversed_new ?_]));rw[Around.under_plainId F.plain_reversed_new _];unfold Builtin.«reversed.__new__»;refine P1 (Tq (newClass_reversed _) ?_)
 try dsimp only
 refine P1 (Tq (a:=Unit.unit) (by first|rfl|kernel_rfl) ?_);refine P1 (Tq (a:=Unit.unit) (by first|rfl|kernel_rfl) ?_)
 try dsimp only
 refine P1 (wpAny_specialOf (#[_,b,2]:s.TypeIs (.ref p) "range") S3.lookup ?_)
 try dsimp only
 refine P1 (Tq (S3.bind _) ?_)
 try dsimp only
 first
 |rw[OO (show¬((Value.builtin "range.__reversed__"==Value.none)=true)from Pf)]
 |(show wpAny _ _ (if(Value.builtin "range.__reversed__"==Value.none)=true then _ else _) _ _ _;rw[OO (show¬((Value.builtin "range.__reversed__"==Value.none)=true)from Pf)])
 refine P1 (wpAny_rule ?_);refine P1 (m:=runValue (.call (.builtin "range.__reversed__") #[[.ref p],[]])) (show wpAny _ _ (call (.builtin "range.__reversed__") [.ref p]) _ _ _ from om b c d ?_)
 first
 |exact QA h
 |exact P1 (QA (QA h))
def oh(e:s.heap.get? p=some {cls:= .type "range",data:= .fields #v[.int 0 t, .int n u, .int 1 v]})(c:0<=n)(d:n<2^62)
  (h:Q (.ref s.heap.objs.size) {s with heap:=s.heap.push {cls:= .type "range_iterator",data:= .fields #v[rawInt (n-1),rawInt n,rawInt (-1)]}}):wpAny (model prog w) A (call (.type "reversed") [.ref p]) Q E s:=by
 refine callType_other (U:= "range_iterator") (Q₁:=λa b=>a= .ref s.heap.objs.size/\b={s with heap:=s.heap.push {cls:= .type "range_iterator",data:= .fields #v[rawInt (n-1),rawInt n,rawInt (-1)]}}) #[9] F.create_reversed #[11,F.mro_reversed] F.made_reversed si (F.typeCall_reversed_1 _) (oe e c d #[22]) ?_;rintro a b ⟨rfl,rfl⟩;exact#[#[_,Qn _ rfl,2],h]
end
def GC(a:Int)(n:Nat):It:=#[λi _=>i<n,λi H x H'=>H'=H/\x= .int (a+i*(-1)),λi _=>n<=i]
def z6{P:Program}{w:World}{K:Frag}{M:Expr}(a:Addr)(f:Int)(n:Nat):Turn P w K M (GC f n) [a] a (λi h=>IsRangeIter h a (f+(i:Nat)*(-1)) ((n:Int) - (i:Nat)) (-1)) where
 mem:=#[5]
 obj:=λi h st b c=>by
  have e:b=a:=#[5,c]
  subst e;exact#[_,st,λv z=>by have N:Data.fields _=Data.cell v:=z;cases N]
 keep:=λi h h' st k=>k a #[5] _ st
 item:=by intro X p u m q i x s B H E I d st r;subst p u m;obtain⟨f0,f1,f2,g,j,l⟩:=d a #[5];have W:=Walks.range (prog:=X.prog) (w:=X.w) (I.ok.hd q) a f (-1) n;refine W.item i s _ _ r st λv h' A hv y L=> ?_;obtain⟨t,rfl⟩:=hv;have G:Inv X x B H {s with heap:=h',toks:=A}:=I.turned (λb o c e=>L b o #[5,c] e) f0 f1 g j l;exact#[7,Ei (s:={s with heap:=h',toks:=A}) (n:= "range_iterator") y rfl rfl ∅ #[.int (f+i*(-1)),H,G,#[t,2],#[22],y,λb c=>(d b c).1]]
 done:=by intro X p u m q i x s B H E I d st r;subst p u m;obtain⟨f0,f1,f2,g,j,l⟩:=d a #[5];exact wpAny_pyNext_range_end (I.ok.hd q) st (by have:n<=i:=r;lia) λh' J=>#[2,I.turned (t':=s.toks) (λb o c e=>J b o c e) f0 f1 g j l]
 self:=λ_ _ _ _ _ st h=>SO st h
def C9{c:Int}{n:Nat}{g:TG}{k:TS}{D:Ends}{a:St}{H:Hp}(Pv:Nat->St->Hp->Prop)(l:Pv 0 a H)
  (r:∀i a H,i<n->Pv i a H->g (.int (c+i*(-1))) a H λh d=>k {D with nx:=Pv (i+1),ct:=Pv (i+1),bk:=D.nx} h d) (o:∀a H,Pv n a H->D.nx a H):
  ∃W:Nat->Nat->St->Hp->Prop,(∃m,W 0 m a H)/\∀i m a H,W i m a H->
   ((GC c n).stop i H/\D.nx a H)\/((GC c n).go i H/\∃N:St->Hp->Prop,(∀f H',N f H'->∃j,j<m/\W (i+1) j f H')/\∀x H',(GC c n).yld i H x H'->g x a H' λh d=>k {D with nx:=N,ct:=N,bk:=D.nx} h d):=by
 refine#[λi m a H=>m=n-i/\i<=n/\Pv i a H,#[n,#[5],Qj _,l],6];rintro i m a H ⟨rfl,q,p⟩;by_cases b:i<n
 .refine .inr #[b,Pv (i+1),λf H' s=>#[n- (i+1),QE b (QB _),2,b,s],λx H' y=> ?_];obtain⟨e,y⟩:=y;subst e y;exact r i a _ b p
 .have e:i=n:=Qz q (QC b);subst e;exact .inl #[O4 _,o a H p]
section
variable{X:Cx}{tg:Expr}
def Oy(b:TA):TE:=λc H Q=>b c H λvs a=>∃j:Int,vs=[.int j]/\∀p,a p=none->Q (.ref p) (upd a p (.rng 0 j))
def Io{a:Expr}{d:TA}{p pos:Pos}(g:Gl X "range")(i:X.mg "range"=none)(f:PA X [a] d)(k:starEach [a] X.env=[(false,eval a X.env)]:=by rfl):PE X (.Call (.Name "range" p) [a] [] pos) (Oy d):=by
 intro l s x H Q I h;refine Call_ (ko I g i boot_range (QK (thn (f pos l s x H _ I h) λus v ⟨vs,y,c,n,m⟩=> ?_) k rfl));obtain⟨j,e,q⟩:=m;subst e;cases n with
 |cons r u=>
  cases u;obtain⟨t,rfl⟩:=r;refine call_range_1 ?_;exact#[.ref v.heap.objs.size,_,c.laid (λb o e=>PH _ e) (O4 _) (show c7 X.prog X.w _ _ _ (.rng 0 j)from#[111,Qn _ rfl]),2,q _ (c.hok.fresh (O4 _))]
def OG(c:TA):TI:=λd H R=>c d H λvs b=>∃(a:Addr)(j:Int),vs=[.ref a]/\b a=some (.rng 0 j)/\0<=j/\j<2^62/\R (GC (j-1) j.toNat) b
def ML{l:Expr}{g:TA}{p pos:Pos}(y:Gl X "reversed")(z:X.mg "reversed"=none)(n:PA X [l] g)(B:starEach [l] X.env=[(false,eval l X.env)]:=by rfl):PI X tg (.Call (.Name "reversed" p) [l] [] pos) (OG g):=by
 intro K s O H R I h;refine Call_ (ko I y z boot_reversed (QK (thn (n pos K s O H _ I h) λus c ⟨vs,f,d,M,L⟩=> ?_) B rfl));obtain⟨a,j,e,A,G,J,q⟩:=L;subst e;cases M with
 |cons r N=>
  cases N;cases r;obtain⟨t,u,v,m⟩:=(show c7 X.prog X.w f c.heap a (.rng 0 j)from d.hok a _ A);refine oh m G J ?_;have st:IsRangeIter (c.heap.push {cls:= .type "range_iterator",data:= .fields #v[rawInt (j-1),rawInt j,rawInt (-1)]}) c.heap.objs.size (j-1) j (-1):=Qn _ rfl;refine SO st #[c.heap.objs.size,[c.heap.objs.size],_,GC (j-1) j.toNat,f,2,d.kept (t':=c.toks) λb o e=>PH _ e,z6 _ (j-1) j.toNat,6,λb x=> ?_,q]
  .have i:j-1+((0:Nat):Int)*(-1)=j-1:=#[5]
   have k:(((j.toNat:Nat):Int) - ((0:Nat):Int))=j:=()
   show IsRangeIter _ _ (j-1+((0:Nat):Int)*(-1)) (((j.toNat:Nat):Int) - ((0:Nat):Int)) (-1);rw[i,k];exact st
  .have e:b=c.heap.objs.size:=#[5,x]
   subst e;exact d.fpOk (O4 _) (d.hok.fresh (O4 _))
end
def Fl(bs:List Bool):(List.range bs.length).all (λi=>bs.getD i true)=bs.all id:=by
 rw[QX,PR,PR];constructor
 .intro h b d;obtain⟨i,a⟩:=P2 d;have c:i<bs.length:=(O1.mp a).1;have:=h i (OS.mpr c);rwa[OV,a]at this
 .intro h i a;have c:=OS.mp a;rw[OV,Po c];exact h _ (Qt c)
section
variable{X:Cx}
def BJ{bs:List Bool}{a:List Value}(r:Vals (bs.map V.bl) a):TruthOf prog w A (λi v=>a.toArray[i]?=some v) (λi=>bs.getD i true):=by
 intro i v s Q E d e;have c:a[i]?=some v:=#[5,d]
 have h:i<a.length:=(O1.mp c).1;have hl:=r.length;rw[My]at hl;have f:(bs.map V.bl)[i]?=some (V.bl (bs.getD i true)):=by rw[Ph,OV,Po (show i<bs.length by lia)];rfl
 obtain⟨u,b,g⟩:=r.get f;rw[c]at b;cases b;cases g;exact RK e
def LY(K:Frag):List V->Hp->VK->Prop:=λxs H Q=>∃(a:Addr)(bs:List Bool),xs=[.ref a]/\SqL K H a (bs.map V.bl)/\Q (.bl (bs.all id)) H
def Gv(f:X.calm=true):gs X (.builtin "all") (LY X.K):=by
 intro m s o H vs us Q I l h;obtain⟨a,bs,rfl,d,q⟩:=h;obtain⟨u,rfl,k⟩:=l.one;cases k;obtain⟨b,c,p1,_⟩:=I.list d;have hl:=p1.isList;have j:a<s.heap.objs.size:=by obtain⟨_,e,_⟩:=hl;exact PB e
 have len:=c.length;rw[My]at len;refine call_all_walk (wpAny_pyIter_list hl #[s.heap.objs.size,[s.heap.objs.size,a],[s.heap.objs.size],b.toArray.size,11,λi=>bs.getD i true,2,Walks.list (A:=X.A.in1) (I.ok.hd f) _ a (Qf j) b.toArray,#[#[_,Qn _ rfl,22],hl.push _],BJ c,λh' n g=> ?_]);refine#[.bl (bs.all id),H,I.kept (old_kept g),6,q];rw[PU,<-len,Fl];rfl
def vo{K:Frag}(h:X.K=K)(a:X.calm=true):gs X (.builtin "all") (LY K):=by subst h;exact Gv a
end
def nV:List Expr->Option (List Int)
 | []=>some []
 | .Constant (.int i) _ _::a=>(nV a).map (i:: ·)
 |_=>none
inductive rE:List Expr->List Int->Prop
 |nil:rE [] []
 |cons {i:Int} {j:Nat} {p:Pos} {es:List Expr} {zs:List Int} (h:rE es zs):rE (.Constant (.int i) j p::es) (i::zs)
def ql:∀ {b:List Expr} {a:List Int},nV b=some a->rE b a
 | [],a,h=>by have e:a=[]:=(Qd h).symm;subst e;exact .nil
 |e::b,a,h=>by
  unfold nV at h;split at h
  .rename_i d;cases d
  .rename_i d;cases d;cases c:nV b with
   |none=>rw[c]at h;cases h
   |some f=>
    rw[c]at h;have e:_::f=a:=Qd h;subst e;exact .cons (ql c)
  .cases h
def LQ(a:List Int):TA:=λ_ H Q=>Q (a.map V.int) H
def Fz(h:rE a b):PA X a (LQ b):=by
 induction h with
 |nil=>exact ah
 | @cons i j p a b h c=>exact aa (af (i:=i) (j:=j) (pos:=p)) c
def HQ:Stmt->Expr
 | .Assign _ e _=>e
 |_=> .Constant .none 0 #[0,0,0,0]
def Dq:Expr->Expr
 | .Subscript e _ _=>e
 |_=> .Constant .none 0 #[0,0,0,0]
def De:Expr->List Expr
 | .List a _=>a
 |_=>[]
structure PSp(X:Cx)(st:Stmt)(t:TS):Prop where
 h:PS X st t
def vj:∀(b:List (Str×NameKind)) (n:Nat) (a:List (Str×Addr)) {x:Str} {c:Addr},(x,c)∈cellsFrom n b a->(x,c)∈a\/n<=c
 | [],_,_,_,_,h=> .inl h
 |(name,kind)::r,n,a,x,c,h=>by
  unfold cellsFrom at h;split at h
  .rcases vj r (n+1) _ h with h|h
   .rcases OT.mp h with e|h
    .cases e;exact .inr (O4 _)
    .exact .inl h
   .exact .inr ()
  .exact vj r n a h
def zA:∀(d:List (Str×NameKind)) (h:Heap) (a:List (Str×Addr)) {x:Str} {c:Addr},(x,c)∈cellsFrom h.objs.size d a->(x,c)∈a\/(pushCells h d).IsCell c none
 | [],_,_,_,_,h=> .inl h
 |(name,kind)::r,h,a,x,c,e=>by
  unfold cellsFrom at e;unfold pushCells;split at e
  .rename_i b;rw[OP b];have f:(x,c)∈cellsFrom (h.push {cls:= .type "cell",data:= .cell none}).objs.size r ((name,h.objs.size)::a):=by rw[R5];exact e
   rcases zA r _ _ f with e|e
   .rcases OT.mp e with e|e
    .cases e;exact .inr #[_,T3 _ _ _ _ (Qn _ rfl),2]
    .exact .inl e
   .exact .inr e
  .rename_i b;rw[OO b];exact zA r h a e
def Dk(b:Nat):∀(j:List (Str×NameKind)) (n:Nat) (a:List (Str×Addr)),(∀p∈a,p.2<n)->b<=n->(∀x y c,(x,c)∈a->(y,c)∈a->b<=c->x=y)->∀x y c,(x,c)∈cellsFrom n j a->(y,c)∈cellsFrom n j a->b<=c->x=y
 | [],_,_,_,_,h=>h
 |(name,kind)::r,n,a,hl,l,h=>by
  unfold cellsFrom;split
  .refine Dk b r (n+1) _ (λp g=> ?_) () λx y c d f k=> ?_
   .rcases OT.mp g with e|g
    .subst e;exact QB _
    .exact TF (hl p g)
   .rcases OT.mp d with ex|d<;>rcases OT.mp f with i|f
    .cases ex;cases i;rfl
    .cases ex;exact absurd (hl _ f) (QN _)
    .cases i;exact absurd (hl _ d) (QN _)
    .exact h x y c d f k
  .exact Dk b r n a hl l h
def zq:∀(g:List (Str×NameKind)) (n:Nat) (b:List (Str×Addr)) (x:Str),((∃y∈g,y.1=x/\y.2= .cell)\/∃c,b.lookup x=some c)->∃c,(cellsFrom n g b).lookup x=some c
 | [],_,_,_,h=>by
  rcases h with ⟨y,a,_⟩|h
  .cases a
  .exact h
 |(name,kind)::r,n,b,x,h=>by
  unfold cellsFrom;have j:(∃c,b.lookup x=some c)->∃c,((name,n)::b).lookup x=some c:=λ⟨c,e⟩=>by
   rw[Rr];cases k:x==name with
   |true=>exact#[7]
   |false=>exact#[c,e]
  split
  .refine zq r (n+1) _ x ?_;rcases h with ⟨y,a,d,f⟩|h
   .rcases OT.mp a with e|a
    .subst e;refine .inr #[n,6];rw[Rr,show(x==name)=true from by simpa using d.symm]
    .exact .inl #[y,a,d,f]
   .exact .inr (j h)
  .rename_i i;refine zq r n b x ?_;rcases h with ⟨y,a,d,f⟩|h
   .rcases OT.mp a with e|a
    .subst e;exact absurd #[5,f] i
    .exact .inl #[y,a,d,f]
   .exact .inr h
def Dj(b:Nat):∀(k:List (Str×NameKind)) (n:Nat) (d:List (Str×Addr)) (x:Str),b<=n->((∃y∈k,y.1=x/\y.2= .cell)\/∀c,d.lookup x=some c->b<=c)->∀c,(cellsFrom n k d).lookup x=some c->b<=c
 | [],_,_,_,_,h,c,e=>by
  rcases h with ⟨y,a,_⟩|h
  .cases a
  .exact h c e
 |(name,kind)::r,n,d,x,j,h,c,e=>by
  unfold cellsFrom at e;split at e
  .refine Dj b r (n+1) _ x () ?_ c e;by_cases i:x=name
   .refine .inr λc e=> ?_;rw[Rr,show(x==name)=true from by simpa using i]at e;cases e;exact j
   .rcases h with ⟨y,a,f,g⟩|h
    .rcases OT.mp a with e|a
     .subst e;exact absurd f.symm i
     .exact .inl #[y,a,f,g]
    .refine .inr λc e=> ?_;rw[Rr,show(x==name)=false from by simpa using i]at e;exact h c e
  .rename_i l;refine Dj b r n d x j ?_ c e;rcases h with ⟨y,a,f,g⟩|h
   .rcases OT.mp a with e|a
    .subst e;exact absurd #[5,g] l
    .exact .inl #[y,a,f,g]
   .exact .inr h
def pR{a:Scope}(h:(relabel a env).names.lookup x=some .cell\/(relabel a env).names.lookup x=some .free):∃y∈a.names,y.1=x/\(y.2= .cell\/y.2= .free):=by
 obtain⟨k,i,m⟩:∃k,(k=NameKind.cell\/k=NameKind.free)/\(x,k)∈(relabel a env).names:=by
  rcases h with h|h
  .exact#[_, .inl rfl,QF h]
  .exact#[_, .inr rfl,QF h]
 obtain⟨y,f,e⟩:=OX.mp (show(x,k)∈a.names.map _ from m);obtain⟨n,c⟩:=y;dsimp only at e;split at e
 .rename_i d;have b:n=x:=PN Prod.fst e;refine#[_,f,b, .inr ?_];simp only[Pc,S9]at d;exact d.1.1
 .have b:n=x:=PN Prod.fst e;have g:c=k:=PN Prod.snd e;refine#[_,f,b,6];show c=_\/c=_;rw[g];exact i
def vG{M:Model}{A:Around}{E:Value->Shared->Prop}{s:Shared}{scope:Scope}{globals:Addr}{closure:List (Str×Addr)}{a:Str}{func:Option Addr}{code:Value}{outer:Env}{Q:Env->Shared->Prop}
  (h:Q (newEnv scope s.heap.objs.size globals (cellsFrom (s.heap.objs.size+1) scope.names closure) a func code (some outer) builtinsNs) {s with heap:=pushCells (s.heap.push {cls:= .type "dict",data:= .dict #v[]}) scope.names}):
  wpAny M A (newFunctionEnv scope globals closure [] a func code (some outer)) Q E s:=by
 simp only[newFunctionEnv,Option.isSome_some,T5];refine P1 (wpAny_alloc ?_);refine P1 (wpAny_layCells _ (λname kind cells=>by cases b:kind==NameKind.cell<;>simp[b]) _ _ _ _ ?_);rw[show({s with heap:=s.heap.push {cls:= .type "dict",data:= .dict #v[]}}:Shared).heap.objs.size=s.heap.objs.size+1 from R5 ..];refine P1 ?_;rw[List.forIn_nil];exact QA (QA h)
def rq{env:Env}(h:∀y∈b,y.2= .free->∃c,env.cells.lookup y.1=some c)(e:(x,c)∈k5 env b):env.cells.lookup x=some c:=by
 have k:∀(b:List (Str×NameKind)) (d:List (Str×Addr)),(∀y∈b,y.2= .free->∃c,env.cells.lookup y.1=some c)->(∀x c,(x,c)∈d->env.cells.lookup x=some c)->∀x c,(x,c)∈b.foldl (jb env) d->env.cells.lookup x=some c:=by
  intro b
  induction b with
  |nil=>intro d _ f x c e;exact f x c e
  |cons y r n=>
   intro d h f;refine n _ (λz m=>h z (OZ _ m)) λx c e=> ?_;unfold jb at e;split at e
   .rename_i l;obtain⟨a,j⟩:=h y O6 #[5,l];rcases OT.mp e with e|e
    .have g:x=y.1:=PN Prod.fst e;have i:c=(env.cells.lookup y.1).getD 0:=PN Prod.snd e;rw[g,i,j];rfl
    .exact f x c e
   .exact f x c e
 exact k b [] h (λ_ _ z=>by cases z) x c e
def zi:∀(c:List (Str×NameKind)) (n:Nat) (a:List (Str×Addr)) (x:Str),(∀y∈c,y.1=x->y.2≠ .cell)->(cellsFrom n c a).lookup x=a.lookup x
 | [],_,_,_,_=>rfl
 |(name,kind)::r,n,a,x,h=>by
  unfold cellsFrom;split
  .rename_i d;rw[zi r (n+1) _ x λy b=>h y (OZ _ b),Rr];cases f:x==name with
   |true=>
    have e:x=name:=#[5,f]
    exact absurd #[5,d] (h _ O6 e.symm)
   |false=>rfl
  .exact zi r n a x λy b=>h y (OZ _ b)
def cV(X:Cx)(d:List Str)(a:Scope)(b:Shared)(c:Hp)(e:List Addr)(f:List (Addr×Obj)):Cx where
 prog:=X.prog
 w:=X.w
 K:=X.K
 mg:=X.mg
 base:=X.base
 A:=X.A
 N:=d
 s₀:=b
 H₀:=c
 env:=compEnvC a (cellsFrom (b.heap.objs.size+1) a.names (k5 X.env a.names)) b.heap.objs.size X.env
 outer:=X.stack
 stack:=X.stack
 ex:=e
 fn:=λx=>a.names.lookup x==some .cell
 calm:=X.calm
 pn:=X.pn++f
 xe:=λ_ _=>False
section
variable{X:Cx}{elt target iter:Expr}{ifs:List Expr}{sc:Scope}{pos:Pos}{wi:TI}{g:TG}{tc:TT}{te:TE}{vars frn:List Str}{fr:List Nat}
def rZ(hc:X.calm=true)(fw:∀y∈sc.names,y.2= .free->X.env.kindOf y.1=some .cell\/X.env.kindOf y.1=some .free)(fV:sc.names.all (λy=> !(y.2== .cell)|| !(frn.contains y.1))=true)(fB:sc.kind= .function)
  (dV:sD X sc fr frn)
  (hg:∀ay a5 t M,PG (cV X (vars++frn) sc ay a5 t M) target g) (ht:∀ay a5 t M,PTs (cV X (vars++frn) sc ay a5 t M) ifs tc) (he:∀ay a5 t M,PE (cV X (vars++frn) sc ay a5 t M) elt te)
  {M:List (Addr×Obj)} {G:Shared} {U:St} {H2:Hp} {Q:VK} {E:Value->Shared->Prop} {R:Value->Addr->Result->Shared->Prop} {it:Addr} {t:List Addr} {tn:Nat->Heap->Prop} {J:It}
  (I2:Inv X M U H2 G) (T:Turn X.prog X.w X.K target J t it tn) (d5:tn 0 G.heap) (f2:∀b∈t,zV X M H2 b)
  (h:LCW J g tc te vars.length fr U H2 Q)
  (hR:∀D C s',Kc X M U Q D C s'->R (.ref D) C (.ok .next) s'):
  wpAny (model X.prog X.w) X.A (newList []) (λacc ay=>wpAny (model X.prog X.w) X.A (newFunctionEnv sc X.env.globals (k5 X.env sc.names) [] X.env.qual none .none (some X.env)) (λc6 hP=>
   codeAny (model X.prog X.w) X.A (.compStart (.ListComp elt [#[target,iter,ifs,0]] sc pos) 0 (.ref it) acc {c6 with scope:=relabel sc X.env}) (R acc c6.locals) hP) E ay) E G:=by
 have b3:∀y∈sc.names,y.2= .free->∃c,X.env.cells.lookup y.1=some c:=λy H hk=>I2.ok.has y.1 (fw y H hk);obtain⟨W,⟨m0,w0⟩,turn⟩:=h G.heap.objs.size I2.fresh;refine wpAny_newObj_type (vG ?_);dsimp only;have s:Inv X M U (upd H2 G.heap.objs.size (.lst [])) {G with heap:=G.heap.push {cls:= .type "list",data:= .seq ([]:List Value).toArray}}:=I2.lnew (t':=G.toks) .nil (Qj _);generalize cy:({G with heap:=G.heap.push {cls:= .type "list",data:= .seq ([]:List Value).toArray}}:Shared)=a at s;have b4:a.heap=G.heap.push {cls:= .type "list",data:= .seq ([]:List Value).toArray}:=by rw[<-cy]
 have hsz:a.heap.objs.size=G.heap.objs.size+1:=by rw[b4,R5]
 have hq:∀b o,G.heap.get? b=some o->a.heap.get? b=some o:=λb o e=>by rw[b4];exact PH _ e
 generalize hD:G.heap.objs.size=D at*;generalize e7:upd H2 D (.lst [])=H3 at*;have hC:(G.heap.push {cls:= .type "list",dict:=none,data:= .seq ([]:List Value).toArray}).objs.size=a.heap.objs.size:=by rw[b4]
 rw[hC];have e4:pushCells ((G.heap.push {cls:= .type "list",dict:=none,data:= .seq ([]:List Value).toArray}).push {cls:= .type "dict",data:= .dict #v[]}) sc.names=pushCells (a.heap.push {cls:= .type "dict",data:= .dict #v[]}) sc.names:=by rw[b4]
 rw[e4];have fW:(pushCells (a.heap.push {cls:= .type "dict",data:= .dict #v[]}) sc.names).Ns a.heap.objs.size (λ_=>none):=(Heap.Ns.new a.heap (.type "dict")).keeps (T3 _ _);have a0:∀b o,a.heap.get? b=some o->(pushCells (a.heap.push {cls:= .type "dict",data:= .dict #v[]}) sc.names).get? b=some o:=λb o e=>T3 _ _ _ _ (PH _ e);have fs:∀ {x c},(x,c)∈cellsFrom (a.heap.objs.size+1) sc.names (k5 X.env sc.names)->(x,c)∈k5 X.env sc.names\/(pushCells (a.heap.push {cls:= .type "dict",data:= .dict #v[]}) sc.names).IsCell c none:=λ{x c} e=>by refine zA sc.names (a.heap.push {cls:= .type "dict",data:= .dict #v[]}) _ (x:=x) ?_;rw[R5];exact e
 generalize pushCells (a.heap.push {cls:= .type "dict",data:= .dict #v[]}) sc.names=b6 at*;have b1:∀b∈t,b<G.heap.objs.size:=λb f=>by obtain⟨o,e,_⟩:=T.obj _ _ d5 b f;exact PB e
 have eN:∀b∈t,b≠D:=λb f=>by rw[<-hD];exact Qf (b1 b f)
 have dp:∀b∈t,b≠a.heap.objs.size:=λb f=>by rw[hsz];exact Qf (TF (hD▸b1 b f))
 have eR:∀b∈t,H3 b=none:=λb f=>by rw[<-e7,aE (eN b f)];exact(f2 b f).1
 have dt:∀b∈t,b∉frs X.stack:=λb f z=>by
  obtain⟨_,f1,dj,_⟩:=f2 b f;rcases OT.mp (s.stkSub b z)with e|e
  .exact f1 e
  .exact dj e
 have d6:tn 0 b6:=T.keep _ _ _ d5 λb f o e=>a0 b o (hq b o e);have eB:∀x c,(k5 X.env sc.names).lookup x=some c->X.env.cells.lookup x=some c:=λx c e=>Nz b3 e;have cm:∀x c,(x,c)∈k5 X.env sc.names->∃y,X.env.cells.lookup y=some c:=λx c e=>#[x,rq b3 e];have bS:∀x c,(cellsFrom (a.heap.objs.size+1) sc.names (k5 X.env sc.names)).lookup x=some c->(∃y,X.env.cells.lookup y=some c)\/(a.heap.objs.size+1<=c/\b6.IsCell c none):=λx c e=>by
  have m:=QF e;rcases vj _ _ _ m with h|h
  .exact .inl (cm _ _ h)
  .rcases fs m with h'|h'
   .exact .inl (cm _ _ h')
   .exact .inr #[h,h']
 have ez:∀y c,X.env.cells.lookup y=some c->c<a.heap.objs.size:=λy c e=>by obtain⟨v,q⟩:=s.cell y c e;exact q.lt
 have ey:∀x y c,(cellsFrom (a.heap.objs.size+1) sc.names (k5 X.env sc.names)).lookup x=some c->(cellsFrom (a.heap.objs.size+1) sc.names (k5 X.env sc.names)).lookup y=some c->x=y:=λx y c e1 O=>by
  have d3:∀p∈k5 X.env sc.names,p.2<a.heap.objs.size+1:=λp hp=>by obtain⟨y,H⟩:=cm p.1 p.2 hp;exact TF (ez y _ H)
  by_cases hc:a.heap.objs.size+1<=c
  .exact Dk (a.heap.objs.size+1) sc.names _ _ d3 (O4 _) (λx y c hx _ hc=>absurd (OW (d3 _ hx) hc) (QN _)) x y c (QF e1) (QF O) hc
  .have hh:(x,c)∈k5 X.env sc.names:=by
    rcases vj _ _ _ (QF e1)with h|h
    .exact h
    .exact absurd h hc
   have hj:(y,c)∈k5 X.env sc.names:=by
    rcases vj _ _ _ (QF O)with h|h
    .exact h
    .exact absurd h hc
   exact s.ok.inj x y c (rq b3 hh) (rq b3 hj)
 generalize L:cV X (vars++frn) sc a H3 t M=B;have hA:B.Ok:=by
  rw[<-L];refine#[s.ok.mod,fB,s.ok.glob,s.ok.blt,O4 _,ey,λx hx=> ?_,(λx c z e=> ?_),s.ok.hd,s.ok.frames, .inl rfl,
   λb f=>#[dp b f,λx c e z=> ?_],s.bs,OY s.ok.bsz s.sz,λb o e f=> ?_,λb f=>dt b f,s.stack,s.stkFree]
  .obtain⟨y,H,h1,h2|h2⟩:=pR hx
   .exact zq _ _ _ x (.inl #[y,H,h1,h2])
   .exact zq _ _ _ x (.inr (JU #[y,H,h1,h2]))
  .have hz:sc.names.lookup x=some .cell:=by simpa using (show(sc.names.lookup x==some NameKind.cell)=true from z)
   exact RL (Dj (a.heap.objs.size+1) sc.names _ _ x (O4 _) (.inl #[_,QF hz,22]) c e)
  .rcases bS x c e with ⟨y,H⟩|⟨h,_⟩
   .exact(f2 b f).2.2.2.2.1 y c H z
   .subst z;have q:=b1 c f;rw[hsz,<-hD]at h;exact QN _ (OW q (RL (RL h)))
  rcases(f2 b f).2.2.2.1 with z|z
  .exact s.ok.noex b o e z
  .exact absurd (OW (PB e) (OY s.ok.bsz z)) (QN _)
 have I4:Inv B [] (inner vars.length fr U) H3 {G with heap:=b6}:=by
  have gb:a.os=G.os:=by rw[<-cy]
  have fA:a.gens=G.gens:=by rw[<-cy]
  refine#[hA,by rw[<-L];exact gb.symm,by rw[<-fA];exact s.bare,by rw[<-L];exact Un.kept a0,#[λ_=>none,by rw[<-L];exact fW,λi x v e1 O e3=> ?_],λx c e=> ?_,6,λx c e=> ?_,λp hp=> ?_,by rw[<-L];exact s.hok.kept a0,6]
  .rw[<-L]at e1 e3⊢;have cn:(vars++frn)[i]?=some x:=e1;unfold inner at O;by_cases hi:i<vars.length
   .rw[PL #[5,hi],TV]at O;rw[OP hi]at O;cases O
   .rw[PM #[5,QC hi],SX,Ph]at O;rw[PM (QC hi)]at cn;cases ej:fr[i-vars.length]? with
    |none=>rw[ej]at O;cases O
    |some j=>
     rw[ej]at O;have b0:(U[j]?).join=some v:=Qd O;have eG:U[j]?=some (some v):=by
      cases q:U[j]? with
      |none=>rw[q]at b0;cases b0
      |some o=>rw[q]at b0;exact PN some b0
     obtain⟨y,h1,h2,h3,h4⟩:=dV.get ej;rw[h1]at cn;cases cn;obtain⟨m,hn,hl⟩:=s.loc;obtain⟨u,r,l⟩:=hl j x v h2 eG (by rcases h3 with z|z;exact .inr (.inl z);exact .inr (.inr z));refine#[u,r, .inr #[h4,6]];have d2:∀y∈sc.names,y.1=x->y.2≠ .cell:=λy H gN gy=>by have:=PR.mp fV y H;rw[gy,gN]at this;have hm:frn.contains x=true:=List.contains_iff_mem.mpr (O5 h1);rw[hm]at this;cases this
     have fx:∃y∈sc.names,y.1=x/\y.2= .free:=by
      obtain⟨y,H,z1,z2|z2⟩:=pR h4
      .exact absurd z2 (d2 y H z1)
      .exact#[y,H,z1,z2]
     obtain⟨c,dy⟩:=JU (env:=X.env) fx;have fe:(cellsFrom (a.heap.objs.size+1) sc.names (k5 X.env sc.names)).lookup x=some c:=(zi sc.names _ _ x d2).trans dy;have fl:=eB x c dy;rcases l with ⟨k,_⟩|⟨_,c',dx,fm⟩
     .rcases h3 with z|z
      .rw[z]at k;cases k
      .rw[z]at k;cases k
     .rw[fl]at dx;cases dx;exact#[c,fe,fm.keeps a0]
  .rw[<-L]at e;rcases bS x c e with ⟨y,H⟩|⟨_,h⟩
   .obtain⟨v,z⟩:=s.cell y c H;exact#[v,z.keeps a0]
   .exact#[_,h]
  .rw[<-L];exact s.fresh
  .rw[<-L]at e;rcases bS x c e with ⟨y,H⟩|⟨h,_⟩
   .exact s.freeC y c H
   .exact s.hok.fresh (RL h)
  .rw[<-L]at hp⊢;rw[Qx]at hp;obtain⟨q1,q2,q3,q4,q5⟩:=s.pin p hp;refine#[a0 _ _ q1,q2,Qf (PB q1),λz=> ?_,q5];rcases OT.mp (s.stkSub p.1 z)with e|e
   .exact q3 e
   .exact q4 e
  .rw[<-L];show(inner vars.length fr U).length=(vars++frn).length;unfold inner;rw[Pl,SX,My,Pl,dV.len]
 have c1:∀ {H':Hp},(∀b∈t,H' b=none)->∀b∈t,zV B [] H' b:=λhn b f=>by
  rw[<-L];obtain⟨_,f1,dj,f3,f4,f5⟩:=f2 b f;refine#[hn b f,dp b f,dt b f, .inl f,λx c e=> ?_,λp hp=> ?_]
  .rcases bS x c e with ⟨y,H⟩|⟨h,_⟩
   .exact f4 y c H
   .exact λz=>by subst z;have q:=b1 c f;rw[hsz,<-hD]at h;exact QN _ (OW q (RL (RL h)))
  exact f5 p (by simpa [cV]using hp)
 have back:∀ {el:St} {H7:Hp} {s7:Shared},Inv B [] el H7 s7->Inv X M U H7 s7:=λ{el H7 s7} I7=>by
  have ho:s7.os=a.os:=by have:=I7.os;rwa[<-L]at this
  have hu:Un (frs X.stack) t H3 H7 a.heap s7.heap:=by have:=I7.base;rwa[<-L]at this
  have hk:HOk X.prog X.w H7 s7.heap:=by have:=I7.hok;rwa[<-L]at this
  refine s.call' ho hu hk I7.bare λb f=> ?_;obtain⟨_,f1,_,f3,f4,f5⟩:=f2 b f;exact#[f3,f1,f4,f5]
 have fU:B.prog=X.prog/\B.w=X.w/\B.K=X.K/\B.A=X.A/\B.calm=true/\B.env=compEnvC sc (cellsFrom (a.heap.objs.size+1) sc.names (k5 X.env sc.names)) a.heap.objs.size X.env/\B.xe=(λ_ _=>False)/\B.env.locals=a.heap.objs.size:=by rw[<-L];exact#[2222,hc,222]
 obtain⟨eP,ew,eK,eA,ec,eE,ex,eL⟩:=fU;have d0:=hg a H3 t M;have d1:=ht a H3 t M;have dE:=he a H3 t M;rw[L]at d0 d1 dE;have loop:∀s4:Shared,s4={G with heap:=b6}->
   codeAny (model X.prog X.w) X.A (.compLoop (.ListComp elt [#[target,iter,ifs,0]] sc pos) 0 (.ref it) (.ref D) B.env) (R (.ref D) a.heap.objs.size) s4:=by
  rintro s4 rfl;refine codeAny_loop rfl (λn s'=>∃i bx H',Inv B [] bx H' s'/\tn i s'.heap/\(∀b∈t,H' b=none)/\W i n bx H') (λn s5 hI=> ?_) m0 #[0,_,H3,I4,d6,eR,w0];obtain⟨i,b9,H5,I5,d7,dr,w5⟩:=hI;show wpAny _ X.A ((compTurn (.ListComp elt [#[target,iter,ifs,0]] sc pos) 0 (.ref it) (.ref D) B.env).onRaise (λx=>do noteFrame x B.env;theTreesLotGoes x)) _ _ s5;refine wpAny_noted (wpAny_noRaise ?_);rw[compTurn_list];refine P1 (wpAny_standAt (P1 ?_));rcases turn i n b9 H5 w5 with ⟨stop,q⟩|⟨go,N,hN,step⟩
  .have z:=T.done B eP ew eK ec i [] s5 b9 H5 (λ_ _=>False) I5 (c1 dr) d7 stop;rw[eA]at z;refine thn z λr s6 ⟨hr,I6⟩=> ?_;subst hr;refine QA (hR _ _ _ #[H5,back I6,q,66,TJ s.lt,s.sz,λx c e z=> ?_,λp hp z=> ?_])
   .obtain⟨m,hn,_⟩:=I6.loc;rw[eL]at hn;exact#[m,hn]
   .have:=I6.free;rwa[eL]at this
   .obtain⟨v,q⟩:=s.cell x c e;exact absurd q.lt (by rw[z];exact QN _)
   .exact absurd (PB (s.pin p hp).1) (by rw[z];exact QN _)
  .have z:=T.item B eP ew eK ec i [] s5 b9 H5 (λ_ _=>False) I5 (c1 dr) d7 go;rw[eA]at z;refine thn z λr s6 ⟨u,hr,h6⟩=> ?_;subst hr;refine P1 (thn h6 λ_ s7 ⟨x,H7,I7,r7,y7,cO,eW⟩=> ?_);have er:=I7.pinned (c1 eW) (T.obj _ _ cO);have zg:=d0 _ s7 b9 H7 x u _ er r7 (step x H7 y7);rw[eP,ew,eA,ex]at zg;refine P1 (thn zg λ_ s8 ⟨cb,H8,I8,q8⟩=> ?_);have zt:=d1 _ s8 cb H8 _ I8 q8;rw[eP,ew,eA,ex]at zt;refine P1 (thn zt λok s9 ⟨H9,I9,q9⟩=> ?_);have again:∀ {bB:St} {Ha:Hp} {sa:Shared},Inv B ([]++uo t s7.heap) bB Ha sa->N bB Ha->∃m,m<n/\∃i bx H',Inv B [] bx H' sa/\tn i sa.heap/\(∀b∈t,H' b=none)/\W i m bx H':=λ{bB Ha sa} Ia na=>by obtain⟨m',hm,wa⟩:=hN bB Ha na;refine#[m',hm,i+1,bB,Ha,Ia.unpinned,T.keep _ _ _ cO λb f o e=>(Ia.pin (b,o) (P9 _ (P9 _ (kX f e)))).1,λb f=> ?_,wa];obtain⟨o,e,d⟩:=T.obj _ _ cO b f;exact(Ia.pin (b,o) (P9 _ (P9 _ (kX f e)))).2.1
   cases ok with
   |false=>
    rw[OO Pf]at q9;exact QA #[2,again I9 q9]
   |true=>
    rw[OP rfl]at q9;have ze:=dE _ s9 cb H9 _ I9 q9;rw[eP,ew,eA,ex]at ze;refine P1 (P1 (thn ze λy sa ⟨yv,Ha,Ia,ra,xs,gk,fI,na⟩=>P1 ?_));have zm:=dz (X:=B) _ sa cb Ha (.ref D) [yv] (.ref D) [y] (λ_ Hb=>N cb Hb) Ia rfl (.cons ra .nil) #[D,xs,yv,22,gk,fI,na];rw[eP,ew,eA,ex]at zm;exact thn zm λ_ sb ⟨vb,Hb,Ib,_,nb⟩=>QA (QA #[2,again Ib nb])
 have e:({(newEnv sc a.heap.objs.size X.env.globals (cellsFrom (a.heap.objs.size+1) sc.names (k5 X.env sc.names)) X.env.qual none .none (some X.env) builtinsNs)with scope:=relabel sc X.env}:Env)=B.env:=by rw[eE];rfl
 have dm:=codeAny_compStart_list (elt:=elt) (target:=target) (iter:=iter) (ifs:=ifs) (rest:=[]) (scope:=sc) (pos:=pos) (loop _ rfl) (T.self _ 0 _ _ _ d6 (loop _ rfl));rwa[<-e]at dm
def MQ(N:X.calm=true)(ab:sc.names.all (λy=> !(y.2== .free)||(X.env.kindOf y.1==some .cell||X.env.kindOf y.1==some .free))=true)(aC:sc.names.all (λy=> !(y.2== .cell)|| !(frn.contains y.1))=true)(l:sc.kind= .function)
  (aB:sc.names.all (λy=> !(y.2== .local)||(sc.names.lookup y.1==some .local))=true) (ag:sD X sc fr frn) (hi:PI X target iter wi)
  (hg:∀i f d a,PG (cV X (vars++frn) sc i f d a) target g) (ht:∀i f d a,PTs (cV X (vars++frn) sc i f d a) ifs tc) (O:∀i f d a,PE (cV X (vars++frn) sc i f d a) elt te)
  (hs:∀x,foldedSetIterable iter X.env x=pure x:=by intro _;rfl):PE X (.ListComp elt [#[target,iter,ifs,0]] sc pos) (tLC wi g tc te vars.length fr):=by
 intro a s n H Q I h;have k:=Me ab;have aA:=Ma aB;rw[eval_ListComp];have U:∀y∈sc.names,y.2= .free->∃c,X.env.cells.lookup y.1=some c:=λy hy hk=>I.ok.has y.1 (k y hy hk);refine wpAny_comprehension_free (use:=none) rfl hs (oC U) l aA (thn (hi a s n H _ I h) λv s1 u=>thn u λbp s2 z=> ?_);obtain⟨it,d,tn,J,H2,e,r,T,bb,f2,q⟩:=z;subst e;refine rZ (R:=λt C=>compPost (model X.prog X.w) X.A X.xe none (EP X a n Q) t C) N k aC l ag hg ht O r T bb f2 q λD C s' j=> ?_;obtain⟨H',p,q',⟨m,hn⟩,K,B,M,G,L⟩:=j;refine#[m,hn,λh' a0=>#[.ref D,H',62,q']];exact p.turned (t':=s'.toks) (λb o j e=>(a0.2 b j).trans e) K B (.inr M) G L
def Fm{i:Nat}{x:Str}{k L:Pos}(hN:X.N.Nodup)(bc:X.N[i]?=some x)(K:X.env.kindOf x=some .local)(hc:X.calm=true)
  (a4:sc.names.all (λy=> !(y.2== .free)||(X.env.kindOf y.1==some .cell||X.env.kindOf y.1==some .free))=true) (bx:sc.names.all (λy=> !(y.2== .cell)|| !(frn.contains y.1))=true) (G:sc.kind= .function)
  (bu:sc.names.all (λy=> !(y.2== .local)||(sc.names.lookup y.1==some .local))=true) (a5:sD X sc fr frn) (hi:PI X target iter wi)
  (hg:∀n l j d,PG (cV X (vars++frn) sc n l j d) target g) (ht:∀n l j d,PTs (cV X (vars++frn) sc n l j d) ifs tc) (he:∀n l j d,PE (cV X (vars++frn) sc n l j d) elt te)
  (b1:swapsWith (.ListComp elt [#[target,iter,ifs,0]] sc pos) (some (.Name x k)) L.line X.env=pure true:=by rfl)
  (hs:∀x,foldedSetIterable iter X.env x=pure x:=by intro _;rfl):PS X (.Assign [.Name x k] (.ListComp elt [#[target,iter,ifs,0]] sc pos) L) (Cj (tLC wi g tc te vars.length fr) (br i)):=by
 intro d s σ H p I h;have B:=Me a4;have bt:=Ma bu;rw[exec_Assign_Name_used _ _ _ _ b1];have a3:∀y∈sc.names,y.2= .free->∃c,X.env.cells.lookup y.1=some c:=λy hy hk=>I.ok.has y.1 (B y hy hk);refine P1 (wpAny_standAt (P1 ?_));show wpAny _ X.A (do let _<-comprehension (.ListComp elt [#[target,iter,ifs,0]] sc pos) sc X.env _ (newList []) false (eval iter X.env) (some (assign (.Name x k) X.env))) _ _ s;refine P1 (thn (Q:=λ_ f=>SP X d p .next f) (wpAny_comprehension_free (use:=some (assign (.Name x k) X.env)) (Q:=λ_ f=>SP X d p .next f) rfl hs (oC a3) G bt (thn (hi d s σ H _ I h) λv s1 h1=>thn h1 λcg s2 h2=> ?_)) λ_ f hq=>QA (QA hq));obtain⟨it,j,tn,J,H2,e,O,T,b7,f2,q⟩:=h2;subst e;refine rZ (R:=λab C=>compPost (model X.prog X.w) X.A X.xe (some (assign (.Name x k) X.env)) (λ_ f=>SP X d p .next f) ab C) hc B bx G a5 hg ht he O T b7 f2 q λD C f r=> ?_;obtain⟨H',M,q',⟨m,hn⟩,ar,t,ay,u,ax⟩:=r;show wpAny _ X.A (assign (.Name x k) X.env (.ref D)) _ _ f;refine wpAny_assign_Name (wt M hN bc (.inl K) (v:= .ref D) rfl (λs3 U b0=> ?_) (.inr K));obtain⟨a,sb,ha⟩:=b0;have aC:C≠a:=by
  rcases ha with e|e
  .rw[e];exact t
  .exact λz=>u x a e z.symm
 refine#[m,hn.sameBut sb aC,λh' bS=>#[_,H',6,q']];exact U.turned (t':=s3.toks) (λb o r e=>(bS.2 b r).trans e) ar t (.inr ay) u ax
end
end L2
namespace L2
open PySem PySem.Spec PySem.W PyProof.Rows PySem.SeqAt
end L2
namespace L2
open PySem PySem.Spec PyProof.Rows
end L2
namespace L2
open PySem PySem.Spec PySem.W PyProof.Rows PySem.SeqAt
def qz(H H':Hp):Prop:=∀b xs,H b=some (.tup xs)->H' b=some (.tup xs)
def qz.of(h:Same H H'):qz H H':=λb xs e=>h b _ e
def qz.upd{H:Hp}{q:Addr}{a:List V}{o:HO}(h:H q=some (.lst a)):qz H (upd H q o):=λb xs e=>by rw[aE (kJ e h (by intro z;cases z))];exact e
def qz.new(h:H q=none):qz H (L2.upd H q o):=λb xs e=>by rw[aE (aI e h)];exact e
def dO(H:Hp)(xs:List V)(ts:List (Nat×Nat)):Prop:=xs.length=ts.length/\∀(i:Nat)(t:Nat×Nat),ts[i]?=some t->∃a,xs[i]?=some (.ref a)/\H a=some (.tup [.int t.1, .int t.2])
def dO.ts{H H':Hp}{xs:List V}{ts:List (Nat×Nat)}(h:dO H xs ts)(e:qz H H'):dO H' xs ts:=
 #[h.1,λi t d=>by obtain⟨a,b,c⟩:=h.2 i t d;exact#[a,b,e _ _ c]]
def dO.nil:dO H [] []:=#[2,λi t h=>by simp at h]
def dO.snoc{H:Hp}{xs:List V}{ts:List (Nat×Nat)}{a:Addr}{t:Nat×Nat}(h:dO H xs ts)(k:H a=some (.tup [.int t.1, .int t.2])):dO H (xs++[.ref a]) (ts++[t]):=by
 refine#[by rw[Pl,Pl,h.1];rfl,λi u c=> ?_];by_cases d:i<ts.length
 .rw[PL d]at c;obtain⟨b,g,j⟩:=h.2 i u c;exact#[b,by rw[PL (by rw[h.1];exact d)];exact g,j]
 .rw[PM ()]at c;have f:i-ts.length=0:=by
   cases e:i-ts.length with
   |zero=>rfl
   |succ n=>rw[e]at c;simp at c
  rw[f]at c;cases c;refine#[a,6,k];rw[PM (by rw[h.1];lia),h.1,f];rfl
def dO.at{H:Hp}{xs:List V}{ts:List (Nat×Nat)}(h:dO H xs ts){i:Nat}{y:V}(d:xs[i]?=some y):∃a t,ts[i]?=some t/\y= .ref a/\H a=some (.tup [.int t.1, .int t.2]):=by
 have c:i<ts.length:=by rw[<-h.1];exact(O1.mp d).1
 obtain⟨a,b,e⟩:=h.2 i (ts[i]) (Po c);rw[d]at b;exact#[a,ts[i],Po c,Qd b,e]
def DZ(K:Frag):List V->Hp->VK->Prop:=λxs H Q=>∃(p:Addr)(ns:List Int),xs=[.ref p]/\SqL K H p (ns.map V.int)/\ns.length+1<4096/\
 ∀l,H l=none->Q (.ref l) (upd H l (.set (λk=>(firstMet (λi=>ns.getD i 0) ns.length).any (· ==k)) (firstMet (λi=>ns.getD i 0) ns.length).length))
def Gr{X:Cx}(j:X.calm=true):gs X (.type "set") (DZ X.K):=by
 intro x s y H vs us Q I n h;obtain⟨p,ns,rfl,i,t,q⟩:=h;obtain⟨u,rfl,m⟩:=rF n;cases m;obtain⟨d,f,p1,v⟩:=I.list i;have k:=uQ f;have c:=f.length;rw[My]at c;refine call_set_list (ns:=ns) (I.ok.hd j) p1.isList #[5,k] (by rw[PU];show d.length+1<4096;lia) λh' r a l=> ?_;have g:d.toArray.size=ns.length:=by rw[PU,c]
 rw[g]at a;exact#[.ref s.heap.objs.size,_,I.laid (t':=r) (λb o e=>l b o (PB e) e) (O4 _) (show c7 X.prog X.w _ _ _ (.set _ _)from a),2,q _ (I.hok.fresh (O4 _))]
def vm{X:Cx}{K:Frag}(h:X.K=K)(a:X.calm=true):gs X (.type "set") (DZ K):=by subst h;exact Gr a
def ME:List V->Hp->VK->Prop:=λxs H Q=>∃(p:Addr)(S:Int->Bool)(n:Nat),xs=[.ref p]/\H p=some (.set S n)/\Q (.int n) H
def vn:gs X (.builtin "len") ME:=by intro v s w H vs us Q I k h;obtain⟨p,S,n,rfl,i,q⟩:=h;obtain⟨u,rfl,j⟩:=rF k;cases j;obtain⟨o,a,ep,t,g,d,c,m,r,b,e,f⟩:=I.hok p _ i;have l:a.size<4096:=b;exact call_len_set g d c e (Int.lt_of_lt_of_le (show(a.size:Int)<4096 by lia) ∅) #[.int n,H,I.tok _,#[_,by rw[f]],q]
def MD:List V->Hp->VK->Prop:=λxs H Q=>∃(p:Addr)(n:Nat),xs=[.ref p]/\H p=some (.rng 0 n)/\n<=1000/\∀l,H l=none->Q (.ref l) (upd H l (.lst (((List.range n).map λi:Nat=>(i:Int)).map V.int)))
def oF:∀(a:List Value)(n k:Nat),a.length=n->(∀(i:Nat)(v:Value),a[i]?=some v->∃t,v= .int (((k+i:Nat)):Int) t)->Vals (((List.range' k n).map λi:Nat=>(i:Int)).map V.int) a
 | [],0,_,_,_=> .nil
 |v::r,n+1,k,hl,h=>by
  obtain⟨t,e⟩:=h 0 v rfl;subst e;exact .cons #[t,2] (oF r n (k+1) (Nat.succ.inj hl) λi u c=>by obtain⟨t',b⟩:=h (i+1) u #[5,c];exact#[t',by rw[b,show k+(i+1)=k+1+i by lia]])
def Dm{X:Cx}(g:X.calm=true):gs X (.type "list") MD:=by
 intro A s B H vs us Q I y h;obtain⟨p,n,rfl,l,k,q⟩:=h;obtain⟨u,rfl,x⟩:=rF y;cases x;obtain⟨t,u,v,e⟩:=I.hok p _ l;have m:IsRange s.heap p 0 (n:Int) 1 t u v:=e;refine call_list_range (n:=n) (I.ok.hd g) m (small_one ∅ ∅ () ()) (by rw[rangeSize_nat];lia) () λh' z a c j f b=> ?_;have o:Vals (((List.range n).map λi:Nat=>(i:Int)).map V.int) a.toList:=by rw[Td];refine oF a.toList n 0 (by rw[RR];exact b.1) λi w r=> ?_;obtain⟨t',d⟩:=b.2 i w (by rw[<-r,R6]);exact#[t',by rw[d];congr 1;lia]
 refine#[.ref s.heap.objs.size,_,I.laid (t':=z) j (O4 _) (show c7 X.prog X.w _ _ _ (.lst _)from#[6,a.toList,c,o,6]),2,q _ (I.hok.fresh (O4 _))]
 .rw[My,My,O8];exact OY k ∅
 .rw[Te];exact f
def Jk{K:Frag}{a:Addr}{xs:List V}{g:TG}{U:TT}{te:TE}{k:Nat}{fr:List Nat}{o:St}{H:Hp}{Q:VK}(f:V->V->Hp->Prop)(M:∀x y H H',qz H H'->f x y H->f x y H')(ha:SqL K H a xs)(hn:xs.length<=sizeLine)
  (hs:∀(i:Nat)(x:V)(vs:St)(H':Hp)(R:V->St->Hp->Prop)(S:St->Hp->Prop),xs[i]?=some x->vs.length=k->Same H H'->
   (∀y u d,f x y d->u.length=k->Same H' d->R y (u++fr.map λj=>(o[j]?).join) d)->
   g x (vs++fr.map λj=>(o[j]?).join) H' λp H3=>U p H3 λb G=>if b=true then te p G λy l=>R y p l else S p G)
  (hd:∀D H' (c:List V),H D=none->Same H H'->H' D=some (.lst c)->c.length=xs.length->(∀(j:Nat)(x y:V),xs[j]?=some x->c[j]?=some y->f x y H')->Q (.ref D) H'):LCW (Itl K a) g U te k fr o H Q:=by
 intro D v;refine#[λi m ag H'=>m=xs.length-i/\i<=xs.length/\∃(vs:St)(c:List V),vs.length=k/\ag=vs++(fr.map λj=>(o[j]?).join)/\Same H H'/\H' D=some (.lst c)/\c.length=i/\(∀(j:Nat)(x y:V),xs[j]?=some x->c[j]?=some y->f x y H'),#[xs.length,#[5],Qj _,List.replicate k none,[],#[5],2,Same.new v,ak,2,#[5]],6];rintro i m ag H' ⟨rfl,hi,vs,c,hv,rfl,t,J,hl,O⟩;have w:SqL K H' a xs:=t.seq ha;by_cases r:i<xs.length
 .refine .inr #[#[xs,xs[i],w,by simp[r]],λai d=>∃(vs:St)(c:List V),vs.length=k/\ai=vs++(fr.map λj=>(o[j]?).join)/\Same H d/\d D=some (.lst c)/\c.length=i+1/\(∀(j:Nat)(x y:V),xs[j]?=some x->c[j]?=some y->f x y d),λai d q=>#[xs.length- (i+1),QE r (QB _),2,r,q],λx H2 y=> ?_];obtain⟨e1,e2⟩:=y;subst e1;have N:=e2 xs w;refine hs i x vs _ (λy p l=>∃s,l D=some (.lst s)/\s.length<sizeLine/\∃(vs:St)(c:List V),vs.length=k/\p=vs++(fr.map λj=>(o[j]?).join)/\Same H (upd l D (.lst (s++[y])))/\upd l D (.lst (s++[y])) D=some (.lst c)/\c.length=i+1/\(∀(j:Nat)(x z:V),xs[j]?=some x->c[j]?=some z->f x z (upd l D (.lst (s++[y]))))) _ N hv t (λy u d pz bb B=> ?_);have L:=B D _ J;refine#[_,L,by rw[hl];exact OW r hn,u,c++[y],bb,2,(t.trans B).upd v,ak,by rw[Pl,hl];rfl,λj x' z A h=> ?_];refine M _ _ _ _ (qz.upd L) ?_;by_cases hj:j<c.length
  .rw[PL hj]at h;exact M _ _ _ _ (qz.of B) (O j x' z A h)
  .rw[PM ()]at h;have a3:j-c.length=0:=by
    cases e:j-c.length with
    |zero=>rfl
    |succ n=>rw[e]at h;simp at h
   rw[a3]at h;cases h;have ej:j=i:=()
   subst ej;rw[N]at A;cases A;exact pz
 .have e:i=xs.length:=Qz hi (QC r);subst e;exact .inl #[#[xs,w,O4 _],hd D H' c v t J hl O]
end L2
namespace L2
open PySem PySem.Spec PyProof.Rows
def Itz(K:Frag)(a b:Addr):It:=
 #[λi H=>∃xs c x y,SqL K H a xs/\SqL K H b c/\xs[i]?=some x/\c[i]?=some y,
  λi H x H'=>∃t,x= .ref t/\H t=none/\∃v u,(∀xs,SqL K H a xs->xs[i]?=some v)/\(∀c,SqL K H b c->c[i]?=some u)/\H'=upd H t (.tup [v,u]),
  λi H=>∃xs c,SqL K H a xs/\SqL K H b c/\(xs.length<=i\/c.length<=i)]
def Dz{z TI TO a c b:Addr}(h:b∈[z,TO,a,c]):b∈[z,TI,TO,a,c]:=by
 rcases OT.mp h with h|h
 .exact OT.mpr (.inl h)
 .exact OZ _ (OZ _ h)
def iL{z TO c d b:Addr}(a:b∉ [z,TO,c,d]):b≠z/\b≠TO/\b≠c/\b≠d:=by simp only[OT,Pe,Qa,RA]at a;exact a
def GN{P:Program}{w:World}{K:Frag}{a6:List Expr}{x1:Nat}{tp:Pos}(l1 l2 z TI TO g j:Addr)(D:ZipApart z TI TO g j l1 l2):
  Turn P w K (.Tuple a6 x1 tp) (Itz K l1 l2) [z,TI,TO,g,j] z (λi h=>IsZip h z TI TO .none/\IsPair h TI (.ref g) (.ref j)/\(∃a b,IsPair h TO a b)/\h.IsListIter g l1 i/\h.IsListIter j l2 i) where
 mem:=#[5]
 obj:=λi h st b f=>by
  obtain⟨hz,l,⟨B,G,p⟩,m,n⟩:=st;simp only[OT,Pe,Qa]at f;rcases f with rfl|rfl|rfl|rfl|rfl
  .exact#[_,hz,λv q=>by have A:Data.fields _=Data.cell v:=q;cases A]
  .exact#[_,l,λv q=>by have A:Data.seq _ _=Data.cell v:=q;cases A]
  .exact#[_,p,λv q=>by have A:Data.seq _ _=Data.cell v:=q;cases A]
  .obtain⟨o,e,c,d⟩:=m;exact#[o,e,λv q=>by rw[d]at q;cases q]
  .obtain⟨o,e,c,d⟩:=n;exact#[o,e,λv q=>by rw[d]at q;cases q]
 keep:=λi h h' st k=>by obtain⟨hz,l,⟨B,G,p⟩,m,n⟩:=st;exact#[k z #[5] _ hz,k TI #[5] _ l,#[B,G,k TO #[5] _ p],m.at λo e=>k g #[5] o e,n.at λo e=>k j #[5] o e]
 item:=by
  intro X Q hw O hc i ai s σ H E I J st U;subst Q hw O;obtain⟨xs,ys,x,y,L,M,hx,hy⟩:=U;obtain⟨hz,l,⟨B,G,p⟩,m,n⟩:=st;obtain⟨cb,rv,p1,b5⟩:=I.list L;obtain⟨cg,ax,p2,b6⟩:=I.list M;obtain⟨u,hu,ru⟩:=rv.get hx;obtain⟨v,hv,cm⟩:=ax.get hy;refine wpAny_pyNext_zip_item D hz l p m n p1.isList p2.isList (x:=u) (y:=v) #[5,hu] #[5,hv] λb9 b7 bx bc bp b2 cv b0=> ?_;refine#[7,wpAny_letOwnedTupleGo_zip b7 λt b8 r=> ?_];replace r:Heap.SameBut z b9 t:=r;have aC:z<s.heap.objs.size:=PB hz;have bt:TI<s.heap.objs.size:=PB l;have bu:TO<s.heap.objs.size:=PB p;have bb:g<s.heap.objs.size:=by obtain⟨o,e,_⟩:=m;exact PB e
  have bk:j<s.heap.objs.size:=by obtain⟨o,e,_⟩:=n;exact PB e
  have bS:H s.heap.objs.size=none:=I.fresh;have b3:t.get? s.heap.objs.size=some {cls:= .type "tuple",data:= .seq #v[u,v]}:=(r.2 _ (TJ aC)).trans b2;have N:∀c o,c≠z->c≠TO->c≠g->c≠j->s.heap.get? c=some o->t.get? c=some o:=λc o c1 c2 c3 c4 e=>(r.2 c c1).trans (b0 c o c1 c2 c3 c4 e);have I1:Inv X ai σ H {s with heap:=t,gens:=s.gens,drawn:=s.drawn,toks:=s.toks}:=I.own [z,TO,g,j] (λb f=>J b (Dz f)) λb o f e=>N b o (iL f).1 (iL f).2.1 (iL f).2.2.1 (iL f).2.2.2 e;have I2:Inv X ai σ (upd H s.heap.objs.size (.tup [x,y])) {s with heap:=t}:=I.pairIn I1 ru cm b3;refine#[.ref s.heap.objs.size,_,I2,2,#[7,bS,x,y,λzs hy=>by rw[I.list_inj hy L];exact hx,λzs hz=>by rw[I.list_inj hz M];exact hy,2],#[b8,6,#[11,(r.2 TO D.TOz).trans bx],66],λb f=> ?_]
  .exact N TI _ D.TIz D.TITO D.TIi1 D.TIi2 l
  .obtain⟨o,e,c,d⟩:=bc;exact#[o,(r.2 g D.i1z).trans e,c,d]
  .obtain⟨o,e,c,d⟩:=bp;exact#[o,(r.2 j D.i2z).trans e,c,d]
  .have bB:=(J b f).1;have bN:b≠s.heap.objs.size:=by
    simp only[OT,Pe,Qa]at f;rcases f with rfl|rfl|rfl|rfl|rfl
    .exact Qf aC
    .exact Qf bt
    .exact Qf bu
    .exact Qf bb
    .exact Qf bk
   rw[aE bN];exact bB
 done:=by
  intro X Q hw O hc i ai s σ H E I J st U;subst Q hw O;obtain⟨xs,ys,L,M,b1⟩:=U;obtain⟨hz,l,⟨B,G,p⟩,m,n⟩:=st;obtain⟨cb,rv,p1,b5⟩:=I.list L;obtain⟨cg,ax,p2,b6⟩:=I.list M;have e1:=rv.length;have e2:=ax.length;refine wpAny_pyNext_zip_end (I.ok.hd hc) D hz l p m n p1.isList p2.isList (by
   rcases b1 with h|h
   .exact .inl (by simp;lia)
   .exact .inr (by simp;lia)) λt N=>#[26]
  exact I.own [z,TO,g,j] (λb f=>J b (Dz f)) λb o f e=>N b o (iL f).1 (iL f).2.1 (iL f).2.2.1 (iL f).2.2.2 e
 self:=λ_ _ _ _ _ st h=>wpAny_pyIter_zip st.1 h
section
variable{X:Cx}{elts:List Expr}{x1:Nat}{tp:Pos}
def Ob(K:Frag)(d:TA):TI:=λf H R=>d f H λvs c=>∃a b,vs=[.ref a, .ref b]/\(∃xs,SqL K c a xs)/\(∃e,SqL K c b e)/\R (Itz K a b) c
def MJ{a b:Expr}{k:TA}{p pos:Pos}(x:Gl X "zip")(z:X.mg "zip"=none)(w:PA X [a,b] k)(B:starEach [a,b] X.env=(false,eval a X.env)::starEach [b] X.env:=by rfl)(A:(backTo pos (starEach [b] X.env)).any (·.1)=false:=by rfl):PI X (.Tuple elts x1 tp) (.Call (.Name "zip" p) [a,b] [] pos) (Ob X.K k):=by
 intro N s σ H R I h;refine RV (ko I x z boot_zip ?_);refine QK (thn (w pos N s σ H _ I h) λus d ⟨vs,l,f,Q,O⟩=> ?_) B A;obtain⟨a,b,e,⟨xs,G⟩,⟨ys,J⟩,q⟩:=O;subst e;obtain⟨u,v,rfl,U,rv⟩:=LM Q;cases U;cases rv;obtain⟨ax,r2,p2,ai⟩:=f.list G;obtain⟨ay,r3,p3,ar⟩:=f.list J;have L:a<d.heap.objs.size:=by obtain⟨o,e,_⟩:=p2.isList;exact PB e
 have M:b<d.heap.objs.size:=by obtain⟨o,e,_⟩:=p3.isList;exact PB e
 refine call_zip_2 p2.isList p3.isList λh' j r t m n hsz y=> ?_;refine wpAny_pyIter_zip j #[d.heap.objs.size+4,[d.heap.objs.size+4,d.heap.objs.size+2,d.heap.objs.size+3,d.heap.objs.size,d.heap.objs.size+1],_,Itz X.K a b,l,2,f.kept (t':=d.toks) y,GN a b _ _ _ _ _ (zipApart_new L M),#[j,r,#[11,t],m,n],λc g=> ?_,q];have i:d.heap.objs.size<=c:=by
  simp only[OT,Pe,Qa]at g;rcases g with e|e|e|e|e<;>rw[e]
  .exact Sb _ _
  .exact Sb _ _
  .exact Sb _ _
  .exact O4 _
  .exact Sb _ _
 exact f.fpOk i (f.hok.fresh i)
def KJ{K:Frag}{a b:Expr}{c:TA}{p pos:Pos}(h:X.K=K)(e:Gl X "zip")(f:X.mg "zip"=none)(d:PA X [a,b] c)(i:starEach [a,b] X.env=(false,eval a X.env)::starEach [b] X.env:=by rfl)(g:(backTo pos (starEach [b] X.env)).any (·.1)=false:=by rfl):PI X (.Tuple elts x1 tp) (.Call (.Name "zip" p) [a,b] [] pos) (Ob K c):=by subst h;exact MJ e f d i g
end
def hide(H:Hp)(D:Addr):Hp:=λb=>if b=D then none else H b
def eU(h:b≠D):hide H D b=H b:=by unfold hide;rw[OO h]
def mN:hide (upd H D o) D=hide H D:=by
 funext b;unfold hide;split
 .rfl
 .rename_i h;exact aE h
def fS:Same (hide H D) H:=λb o e=>by
 unfold hide at e;split at e
 .cases e
 .exact e
def kK(h:Same H H'):Same (hide H D) (hide H' D):=λb o e=>by
 unfold hide at e⊢;split at e
 .cases e
 .rename_i a;rw[OO a];exact h b o e
def uL{K:Frag}{a:Addr}{xs:List V}{g:TG}{O:TT}{U:TE}{k:Nat}{fr:List Nat}{p:St}{H:Hp}{Q:VK}(f:V->V->Hp->Prop)(aB:∀x y H H',Same H H'->f x y H->f x y H')(ha:SqL K H a xs)(hn:xs.length<=sizeLine)
  (hs:∀(i:Nat)(x:V)(vs:St)(D:Addr)(H':Hp)(R:V->St->Hp->Prop)(S:St->Hp->Prop),xs[i]?=some x->vs.length=k->Same H H'->(∃l,H' D=some (.lst l))->
   (∀y v d,f x y (hide d D)->v.length=k->Same H' d->R y (v++fr.map λj=>(p[j]?).join) d)->
    g x (vs++fr.map λj=>(p[j]?).join) H' λr H3=>O r H3 λb L=>if b=true then U r L λy o=>R y r o else S r L)
  (hd:∀D H' (c:List V),H D=none->Same H H'->H' D=some (.lst c)->c.length=xs.length->(∀(j:Nat)(x y:V),xs[j]?=some x->c[j]?=some y->f x y (hide H' D))->Q (.ref D) H'):LCW (Itl K a) g O U k fr p H Q:=by
 intro D w;refine#[λi m ab H'=>m=xs.length-i/\i<=xs.length/\∃(vs:St)(c:List V),vs.length=k/\ab=vs++(fr.map λj=>(p[j]?).join)/\Same H H'/\H' D=some (.lst c)/\c.length=i/\(∀(j:Nat)(x y:V),xs[j]?=some x->c[j]?=some y->f x y (hide H' D)),#[xs.length,#[5],Qj _,List.replicate k none,[],#[5],2,Same.new w,ak,2,#[5]],6];rintro i m ab H' ⟨rfl,hi,vs,c,hv,rfl,u,A,hl,N⟩;have B:SqL K H' a xs:=u.seq ha;by_cases s:i<xs.length
 .refine .inr #[#[xs,xs[i],B,by simp[s]],λag d=>∃(vs:St)(c:List V),vs.length=k/\ag=vs++(fr.map λj=>(p[j]?).join)/\Same H d/\d D=some (.lst c)/\c.length=i+1/\(∀(j:Nat)(x y:V),xs[j]?=some x->c[j]?=some y->f x y (hide d D)),λag d q=>#[xs.length- (i+1),QE s (QB _),2,s,q],λx H2 y=> ?_];obtain⟨e1,e2⟩:=y;subst e1;have M:=e2 xs B;refine hs i x vs D _ (λy r o=>∃t,o D=some (.lst t)/\t.length<sizeLine/\∃(vs:St)(c:List V),vs.length=k/\r=vs++(fr.map λj=>(p[j]?).join)/\Same H (upd o D (.lst (t++[y])))/\upd o D (.lst (t++[y])) D=some (.lst c)/\c.length=i+1/\(∀(j:Nat)(x z:V),xs[j]?=some x->c[j]?=some z->f x z (hide (upd o D (.lst (t++[y]))) D))) _ M hv u #[_,A] (λy v d pz bc J=> ?_);have aA:=J D _ A;refine#[_,aA,by rw[hl];exact OW s hn,v,c++[y],bc,2,(u.trans J).upd w,ak,by rw[Pl,hl];rfl,λj x' z G h=> ?_];rw[mN];by_cases hj:j<c.length
  .rw[PL hj]at h;exact aB _ _ _ _ (kK J) (N j x' z G h)
  .rw[PM ()]at h;have a4:j-c.length=0:=by
    cases e:j-c.length with
    |zero=>rfl
    |succ n=>rw[e]at h;simp at h
   rw[a4]at h;cases h;have ej:j=i:=()
   subst ej;rw[M]at G;cases G;exact pz
 .have e:i=xs.length:=Qz hi (QC s);subst e;exact .inl #[#[xs,B,O4 _],hd D H' c w u A hl N]
def FY{J:Int}{n:Nat}{g:TG}{K:TT}{L:TE}{h:Nat}{fr:List Nat}{p:St}{H:Hp}{Q:VK}(d:Nat->V->Hp->Prop)(ar:∀i y H H',Same H H'->d i y H->d i y H')(hn:n<=sizeLine)
  (hs:∀(i:Nat)(vs:St)(D:Addr)(H':Hp)(R:V->St->Hp->Prop)(S:St->Hp->Prop),i<n->vs.length=h->Same H H'->(∃l,H' D=some (.lst l))->
   (∀y t c,d i y (hide c D)->t.length=h->Same H' c->R y (t++fr.map λj=>(p[j]?).join) c)->
   g (.int (J+i)) (vs++fr.map λj=>(p[j]?).join) H' λr O=>K r O λb B=>if b=true then L r B λy k=>R y r k else S r B)
  (hd:∀D H' (a:List V),H D=none->Same H H'->H' D=some (.lst a)->a.length=n->(∀(j:Nat)(y:V),a[j]?=some y->d j y (hide H' D))->Q (.ref D) H'):LCW (Itr J n) g K L h fr p H Q:=by
 intro D u;refine#[λi m M H'=>m=n-i/\i<=n/\∃(vs:St)(a:List V),vs.length=h/\M=vs++(fr.map λj=>(p[j]?).join)/\Same H H'/\H' D=some (.lst a)/\a.length=i/\(∀(j:Nat)(y:V),a[j]?=some y->d j y (hide H' D)),#[n,#[5],Qj _,List.replicate h none,[],#[5],2,Same.new u,ak,2,#[5]],6];rintro i m M H' ⟨rfl,hi,vs,a,hv,rfl,w,v,hl,G⟩;by_cases o:i<n
 .refine .inr #[o,λN c=>∃(vs:St)(a:List V),vs.length=h/\N=vs++(fr.map λj=>(p[j]?).join)/\Same H c/\c D=some (.lst a)/\a.length=i+1/\(∀(j:Nat)(y:V),a[j]?=some y->d j y (hide c D)),λN c q=>#[n- (i+1),QE o (QB _),2,o,q],λx H2 y=> ?_];obtain⟨U,e2⟩:=y;subst U e2;refine hs i vs D _ (λy r k=>∃s,k D=some (.lst s)/\s.length<sizeLine/\∃(vs:St)(a:List V),vs.length=h/\r=vs++(fr.map λj=>(p[j]?).join)/\Same H (upd k D (.lst (s++[y])))/\upd k D (.lst (s++[y])) D=some (.lst a)/\a.length=i+1/\(∀(j:Nat)(z:V),a[j]?=some z->d j z (hide (upd k D (.lst (s++[y]))) D))) _ o hv w #[_,v] (λy t c pz a3 A=> ?_);have ai:=A D _ v;refine#[_,ai,by rw[hl];exact OW o hn,t,a++[y],a3,2,(w.trans A).upd u,ak,by rw[Pl,hl];rfl,λj z f=> ?_];rw[mN];by_cases hj:j<a.length
  .rw[PL hj]at f;exact ar _ _ _ _ (kK A) (G j z f)
  .rw[PM ()]at f;have aB:j-a.length=0:=by
    cases e:j-a.length with
    |zero=>rfl
    |succ n=>rw[e]at f;simp at f
   rw[aB]at f;cases f;have ej:j=i:=()
   subst ej;exact pz
 .have e:i=n:=Qz hi (QC o);subst e;exact .inl #[O4 _,hd D H' a u w v hl G]
def Lf{K:Frag}{a b:Addr}{xs c:List V}{n:Nat}{g:TG}{O:TT}{U:TE}{h:Nat}{fr:List Nat}{k:St}{H:Hp}{Q:VK}(f:Nat->V)(ha:SqL K H a xs)(hb:SqL K H b c)(bu:xs.length=n)(bx:c.length=n)(hn:n<=sizeLine)
  (hs:∀(i:Nat)(x y:V)(vs:St)(H':Hp)(t:Addr)(R:V->St->Hp->Prop)(S:St->Hp->Prop),xs[i]?=some x->c[i]?=some y->vs.length=h->Same H H'->H' t=none->
   (∀s d,s.length=h->Same (upd H' t (.tup [x,y])) d->R (f i) (s++fr.map λj=>(k[j]?).join) d)->
   g (.ref t) (vs++fr.map λj=>(k[j]?).join) (upd H' t (.tup [x,y])) λl H3=>O l H3 λb G=>if b=true then U l G λy o=>R y l o else S l G)
  (hd:∀D H',H D=none->Same H H'->H' D=some (.lst ((List.range n).map f))->Q (.ref D) H'):LCW (Itz K a b) g O U h fr k H Q:=by
 intro D z;refine#[λi m ab H'=>m=n-i/\i<=n/\∃vs:St,vs.length=h/\ab=vs++(fr.map λj=>(k[j]?).join)/\Same H H'/\H' D=some (.lst ((List.range i).map f)),#[n,#[5],Qj _,List.replicate h none,#[5],2,Same.new z,ak],6];rintro i m ab H' ⟨rfl,hi,vs,hv,rfl,p,J⟩;have A:SqL K H' a xs:=p.seq ha;have B:SqL K H' b c:=p.seq hb;by_cases r:i<n
 .have lx:i<xs.length:=()
  have ly:i<c.length:=()
  refine .inr #[#[xs,c,xs[i],c[i],A,B,by simp[lx],by simp[ly]],λag d=>∃vs:St,vs.length=h/\ag=vs++(fr.map λj=>(k[j]?).join)/\Same H d/\d D=some (.lst ((List.range (i+1)).map f)),λag d q=>#[n- (i+1),QE r (QB _),2,r,q],λx H2 y=> ?_];obtain⟨t,e1,L,v,u,e2,e3,e4⟩:=y;subst e1 e4;have hx:=e2 xs A;have hy:=e3 c B;refine hs i v u vs H' t (λy l o=>∃w,o D=some (.lst w)/\w.length<sizeLine/\∃vs:St,vs.length=h/\l=vs++(fr.map λj=>(k[j]?).join)/\Same H (upd o D (.lst (w++[y])))/\upd o D (.lst (w++[y])) D=some (.lst ((List.range (i+1)).map f))) _ hx hy hv p L λs d a6 M=> ?_;have N:Same H' (upd H' t (.tup [v,u])):=Same.new L;refine#[_,M D _ (N D _ J),by rw[My,O8];exact OW r hn,s,a6,2,((p.trans N).trans M).upd z,6];rw[ak,QO,PC];rfl
 .have e:i=n:=Qz hi (QC r);subst e;exact .inl #[#[xs,c,A,B, .inl ()],hd D H' z p J]
def a9(H:Hp)(xs:List V)(M:List (List Int)):Prop:=xs.length=M.length/\∀(i:Nat)(r:List Int),M[i]?=some r->∃a,xs[i]?=some (.ref a)/\H a=some (.lst (r.map V.int))
def a9.same(h:a9 H xs M)(e:Same H H'):a9 H' xs M:=
 #[h.1,λi r d=>by obtain⟨a,b,c⟩:=h.2 i r d;exact#[a,b,e.at c]]
def a9.at{H:Hp}{xs:List V}{M:List (List Int)}(h:a9 H xs M){i:Nat}{y:V}(d:xs[i]?=some y):∃a r,M[i]?=some r/\y= .ref a/\H a=some (.lst (r.map V.int)):=by
 have c:i<M.length:=by rw[<-h.1];exact(O1.mp d).1
 obtain⟨a,b,e⟩:=h.2 i (M[i]) (Po c);rw[d]at b;exact#[a,M[i],Po c,Qd b,e]
def a9.of{b:List V}{M:List (List Int)}(hl:b.length=M.length)(h:∀(j:Nat)(r:List Int)(y:V),M[j]?=some r->b[j]?=some y->∃a,y= .ref a/\H a=some (.lst (r.map V.int))):a9 H b M:=by
 refine#[hl,λi r d=> ?_];have c:i<b.length:=by rw[hl];exact(O1.mp d).1
 obtain⟨a,e,f⟩:=h i r _ d (Po c);exact#[a,by rw[Po c,e],f]
def Bq{K:Frag}{a:Addr}{xs:List V}{g:TG}{l:TS}{D:Ends}{b:St}{H:Hp}(Pv:Nat->St->Hp->Prop)(s:Pv 0 b H)(hl:∀i b H,i<=xs.length->Pv i b H->SqL K H a xs)
  (w:∀(i:Nat) x t b H,xs[i]?=some x->H t=none->Pv i b H->g (.ref t) b (upd H t (.tup [.int (i:Nat),x])) λh d=>l {D with nx:=Pv (i+1),ct:=Pv (i+1),bk:=D.nx} h d) (u:∀b H,Pv xs.length b H->D.nx b H):
  ∃W:Nat->Nat->St->Hp->Prop,(∃m,W 0 m b H)/\∀i m b H,W i m b H->
   ((Ite K a).stop i H/\D.nx b H)\/((Ite K a).go i H/\∃N:St->Hp->Prop,(∀f H',N f H'->∃k,k<m/\W (i+1) k f H')/\∀x H',(Ite K a).yld i H x H'->g x b H' λh d=>l {D with nx:=N,ct:=N,bk:=D.nx} h d):=by
 refine#[λi m b H=>m=xs.length-i/\i<=xs.length/\Pv i b H,#[xs.length,#[5],Qj _,s],6];rintro i m b H ⟨rfl,j,p⟩;have q:=hl i b H j p;by_cases c:i<xs.length
 .refine .inr #[#[xs,xs[i],q,by simp[c]],Pv (i+1),λf H' A=>#[xs.length- (i+1),QE c (QB _),2,c,A],λx H' y=> ?_];obtain⟨t,n,z,v,o,r⟩:=y;subst n r;exact w i v t b H (o xs q) z p
 .have e:i=xs.length:=Qz j (QC c);subst e;exact .inl #[#[xs,q,O4 _],u b H p]
def LA(xs:List V)(i:Nat):sA xs none (some (i:Int))=xs.take i:=by
 unfold sA;show(xs.drop (HT.sIx _ 0 none)).take (HT.sIx _ _ (some (i:Int)) -HT.sIx _ 0 none)=_;rw[HT.yh,HT.t6,List.drop_zero,Nat.sub_zero];by_cases a:i<=xs.length
 .rw[Tc a]
 .rw[TL (),Qo,Ro ()]
def Gh(xs:List V)(i:Nat):sA xs (some (i:Int)) none=xs.drop i:=by
 unfold sA;show(xs.drop (HT.sIx _ 0 (some (i:Int)))).take (HT.sIx _ _ none-HT.sIx _ 0 (some (i:Int)))=_;rw[HT.yh,HT.t6,Ro (by rw[Ri];lia)];by_cases a:i<=xs.length
 .rw[Tc a]
 .rw[TL (),List.drop_length,List.drop_of_length_le ()]
def Bl:∀ {a b:List Int},a.map V.int=b.map V.int->a=b
 | [],[],_=>rfl
 | [],_::_,h=>by simp at h
 |_::_,[],h=>by simp at h
 |x::a,y::b,h=>by
  rw[PF,PF]at h;injection h with c d
  rw[V.int.inj c,Bl d]
def yQ{H:Hp}{a:Addr}{r s:List Int}(h:H a=some (.lst (r.map V.int)))(g:H a=some (.lst (s.map V.int))):r=s:=by
 rw[h]at g;injection g with g
 injection g with g
 exact Bl g
def a9.cut{xs:List V}{M:List (List Int)}(h:a9 H xs M)(i:Nat):a9 H (xs.take i++xs.drop (i+1)) (M.take i++M.drop (i+1)):=by
 have hl:=h.1;refine#[by rw[Pl,Pl,Pz,Pz,Ri,Ri,hl],λj r b=> ?_];by_cases f:j<(M.take i).length
 .rw[PL f]at b;rw[Pz]at f;rw[Rh ()]at b;obtain⟨a,c,d⟩:=h.2 j r b;exact#[a,by rw[PL (by rw[Pz,hl];exact f),Rh ()];exact c,d]
 .rw[PM ()]at b;have e:(xs.take i).length=(M.take i).length:=by rw[Pz,Pz,hl]
  rw[List.getElem?_drop]at b;obtain⟨a,c,d⟩:=h.2 _ r b;exact#[a,by rw[PM (),List.getElem?_drop,e];exact c,d]
end L2
namespace L2
open PySem PySem.Spec PySem.W PyProof.Rows
def jV(i j:Int):Prop:=Builtin.Int.intBits i+Builtin.Int.intBits j<=2^26
def jV.ok(h:jV i j):IntMulOk i j:=by
 unfold IntMulOk;have h':Builtin.Int.intTooBig ((Builtin.Int.intBits i:Int)+(Builtin.Int.intBits j:Int))=false:=by unfold Builtin.Int.intTooBig;have a:bitsLine=2^27:=rfl;unfold jV at h;simp only[a,SE];lia
 simp[h']
def sP:OpR X (binaryOp .Mult) (rI jV λi j=> .int (i*j)):=opI λ_ _ _ _ _ _ _ a q=>mul_int q a.ok
end L2
namespace L2
open PySem PySem.Spec PySem.W PyProof.Rows PySem.SeqAt
def Es{z:Int}(h:z.natAbs<2^k):Builtin.Int.intBits z<=k:=by
 unfold Builtin.Int.intBits;by_cases a:z=0
 .subst a;exact Qj _
 .have e:(z==0)=false:=#[5,a]
  rw[e];show z.natAbs.log2+1<=k;have:z.natAbs.log2<k:=(Nat.log2_lt ()).mpr h;lia
def jV.of{i j:Int}(a:i.natAbs<2^k)(b:j.natAbs<2^m)(h:k+m<=2^26):jV i j:=by unfold jV;have:=Es a;have:=Es b;lia
def zL{i j:Int}(a:i.natAbs<2^k)(b:j.natAbs<2^m):(i*j).natAbs<2^(k+m):=by rw[Tp,Nat.pow_add];exact Nat.mul_lt_mul'' a b
end L2
namespace L2
open PySem PySem.Spec PySem.W PyProof.Rows
end L2
namespace L2
open PySem PySem.Spec PySem.W PyProof.Rows PySem.SeqAt
end L2
namespace L2
section
variable{t u:TS}{σ:St}{H:Hp}{n:St->Hp->Prop}{r:VK}{b c:St->Hp->Prop}
def j3(h:∀N:St->Hp->Prop,(∀a H',u #[n,r,b,c] a H'->N a H')->t #[N,r,b,c] σ H):EW t u #[n,r,b,c] σ H:=h _ λ_ _ x=>x
end
def Nj{b:Type}{p:List b->Prop}(h:p [])(us:List b)(e:us.length=0):p us:=by
 cases us with
 |nil=>exact h
 |cons a r=>cases e
def Jj{b:Type}{p:List b->Prop}{n:Nat}(h:∀(a:b)(r:List b),r.length=n->p (a::r))(us:List b)(e:us.length=n+1):p us:=by
 cases us with
 |nil=>cases e
 |cons a r=>exact h a r (Nat.succ.inj e)
def Ni{b:Type}{p:List b->Prop}(h:∀a,p [a])(us:List b)(e:us.length=1):p us:=Jj (p:=p) (λa r=>Nj (p:=λr=>p (a::r)) (h a) r) us e
def Nh{c:Type}{p:List c->Prop}(h:∀a b,p [a,b])(us:List c)(e:us.length=2):p us:=Jj (p:=p) (λa r=>Ni (p:=λr=>p (a::r)) (h a) r) us e
def Ng{d:Type}{p:List d->Prop}(h:∀a b c,p [a,b,c])(us:List d)(e:us.length=3):p us:=Jj (p:=p) (λa r=>Nh (p:=λr=>p (a::r)) (h a) r) us e
def Nf{f:Type}{p:List f->Prop}(h:∀a b c d,p [a,b,c,d])(us:List f)(e:us.length=4):p us:=Jj (p:=p) (λa r=>Ng (p:=λr=>p (a::r)) (h a) r) us e
def Oa{g:Type}{p:List g->Prop}(h:∀a b c d f,p [a,b,c,d,f])(us:List g)(e:us.length=5):p us:=Jj (p:=p) (λa r=>Nf (p:=λr=>p (a::r)) (h a) r) us e
end L2
namespace L2
open PySem PySem.Spec PyProof.Rows
section
variable{κ:Type}[DecidableEq κ]
def qD(kvs:List (κ×V))(k:κ):Option V:=(kvs.find? λa=>decide (a.1=k)).map (·.2)
def qN(kvs:List (κ×V))(k:κ)(v:V):List (κ×V):=
 if(kvs.any λa=>decide (a.1=k))=true then kvs.map (λa=>if a.1=k then(a.1,v)else a)else kvs++[(k,v)]
def tu{p:κ×V}{r:List (κ×V)}{k:κ}(e:p.1=k):qD (p::r) k=some p.2:=by simp[qD,RH,e]
def tx{p:κ×V}{r:List (κ×V)}{k:κ}(e:¬p.1=k):qD (p::r) k=qD r k:=by simp[qD,RH,e]
def z4(k:κ):∀kvs:List (κ×V),(kvs.any λa=>decide (a.1=k))=(qD kvs k).isSome
 | []=>rfl
 |p::r=>by
  rw[Sf];by_cases e:p.1=k
  .simp only[tu e,OQ e,Bool.true_or,Option.isSome_some]
  .rw[tx e,OR e,Bool.false_or];exact z4 k r
def rX(kvs:List (κ×V))(k:κ)(v:V):(qN kvs k v).length<=kvs.length+1:=by
 unfold qN;split
 .rw[My];lia
 .rw[Pl,Pa,QP];lia
def oo.isSome_eq{o:Option V}{u:Option Value}(r:oo o u):o.isSome=u.isSome:=by
 cases o with
 |none=>cases u with
  |none=>rfl
  |some _=>exact(show False from r).elim
 |some _=>cases u with
  |none=>exact(show False from r).elim
  |some _=>rfl
def KV.val(r:KV kvs vs)(k:κ):oo (qD kvs k) (valueAt vs k):=by
 unfold KV at r
 induction r with
 |nil=>exact Rq
 | @cons p q ps c h t g=>
  obtain⟨d,f⟩:=h;by_cases e:p.1=k
  .have a:q.1=k:=d.symm.trans e;have b:valueAt (q::c) k=some q.2:=by simp[valueAt,RH,a]
   rw[tu e,b];exact f
  .have a:¬q.1=k:=λz=>e (d.trans z);have b:valueAt (q::c) k=valueAt c k:=by simp[valueAt,RH,a]
   rw[tx e,b];exact g
def KV.any{kvs:List (κ×V)}{vs:List (κ×Value)}(r:KV kvs vs)(k:κ):(kvs.any λa=>decide (a.1=k))=vs.any λa=>decide (a.1=k):=by
 unfold KV at r
 induction r with
 |nil=>rfl
 |cons h t b=>rw[Sf,Sf,b,h.1]
def KV.repl{kvs:List (κ×V)}{vs:List (κ×Value)}(r:KV kvs vs)(k:κ)(f:cC y u):
  KV (kvs.map λa=>if a.1=k then(a.1,y)else a) (vs.map λa=>if a.1=k then(a.1,u)else a):=by
 unfold KV at r⊢
 induction r with
 |nil=>exact .nil
 | @cons p q ps g h t d=>
  rw[PF,PF];refine .cons ?_ d;obtain⟨b,c⟩:=h;by_cases e:p.1=k
  .rw[OP e,OP (b.symm.trans e)];exact#[b,f]
  .rw[OO e,OO (λz=>e (b.trans z))];exact#[b,c]
def KV.put(r:KV kvs vs)(k:κ)(a:cC y u):KV (qN kvs k y) (stored vs k u):=by
 unfold qN stored;rw[r.any k];by_cases e:(vs.any λb=>decide (b.1=k))=true
 .rw[OP e,OP e];exact r.repl k a
 .rw[OO e,OO e];exact Paired.snoc r #[2,a]
def KV.length{kvs:List (κ×V)}{vs:List (κ×Value)}(r:KV kvs vs):kvs.length=vs.length:=SS r
end
def Jt(r:cC (kV k) u):(eT P w).is k u=true:=by
 cases k with
 |inl i=>obtain⟨t,e⟩:=(show∃t,u=Value.int i t from r);subst e;exact Ba P w i t
 |inr x=>obtain⟨t,e⟩:=(show∃t,u=Value.str x t from r);subst e;exact A9 P w x t
def wL:∀ {a:List Key} {us:List Value},Vals (a.map kV) us->ItemsAre (eT P w) a us
 | [],_,r=>by rw[RN]at r;cases r;exact .nil
 |k::a,_,r=>by
  rw[PF]at r;cases r with
  |cons h t=>exact .cons (Jt h) (wL t)
abbrev KT(H:Hp):List (List Key×V)->List (List Key×Addr×Value)->Prop:=Paired λp q=>p.1=q.1/\H q.2.1=some (.tup (p.1.map kV))/\cC p.2 q.2.2
def KT.val(r:KT H kvs xs)(k:List Key):oo (qD kvs k) ((atKey xs k).map (·.2)):=by
 induction r with
 |nil=>exact Rq
 | @cons p q ps c h t g=>
  obtain⟨d,_,f⟩:=h;by_cases e:p.1=k
  .have a:q.1=k:=d.symm.trans e;have b:atKey (q::c) k=some q.2:=by simp[atKey,RH,a]
   rw[tu e,b];exact f
  .have a:¬q.1=k:=λz=>e (d.trans z);have b:atKey (q::c) k=atKey c k:=by simp[atKey,RH,a]
   rw[tx e,b];exact g
def KT.repl{kvs:List (List Key×V)}{xs:List (List Key×Addr×Value)}(r:KT H kvs xs)(k:List Key)(g:cC y u):
  KT H (kvs.map λb=>if b.1=k then(b.1,y)else b) (xs.map (putAt k u)):=by
 induction r with
 |nil=>exact .nil
 | @cons p q ps i h t f=>
  rw[PF,PF];refine .cons ?_ f;obtain⟨a,c,d⟩:=h;unfold putAt;by_cases e:p.1=k
  .rw[OP e,OP (a.symm.trans e)];exact#[a,c,g]
  .rw[OO e,OO (λz=>e (a.trans z))];exact#[a,c,d]
def KT.put(r:KT H kvs xs)(k:List Key)(c:H b=some (.tup (k.map kV)))(a:cC y u):
  KT H (qN kvs k y) (storedH xs k b u):=by
 have e:(kvs.any λd=>decide (d.1=k))=(atKey xs k).isSome:=by rw[z4,(r.val k).isSome_eq,Option.isSome_map]
 unfold qN storedH;rw[e];by_cases q:(atKey xs k).isSome=true
 .rw[OP q,OP q];exact r.repl k a
 .rw[OO q,OO q];exact Paired.snoc r #[2,c,a]
def KT.keeps(r:KT H kvs xs)(c:∀b a,H b=some (.tup a)->H' b=some (.tup a)):KT H' kvs xs:=
 Paired.mapP r λ_ _ z=>#[z.1,c _ _ z.2.1,z.2.2]
section
variable{P:Program}{w:World}{H:Hp}{h:Heap}{a:Addr}
def LV(ok:HOk P w H h)(e:Rd H a u):c7 P w H h a u:=e.ok ok
def JI{kvs:List (Key×V)}(ok:HOk P w H h)(e:Rd H a (.dK kvs)):kvs.length<=sizeLine/\(a==sysModules)=false/\∃vs,KV kvs vs/\h.DictOf (eT P w) a vs:=
 show c7 P w H h a (.dK kvs)from LV ok e
def Mf{kvs:List (Key×V)}(ok:HOk P w H h)(e:H a=some (.dK kvs)):kvs.length<=sizeLine/\(a==sysModules)=false/\∃vs,KV kvs vs/\h.DictOf (eT P w) a vs:=JI ok (.inl e)
def CV{b:List Key}(ok:HOk P w H h)(e:H a=some (.tup (b.map kV))):(tupleKind (eT P w)).is h b a:=by obtain⟨_,g,r,o,c,d,n,f⟩:=(show c7 P w H h a (.tup (b.map kV))from ok a _ e);exact#[o,g.toArray,n,c,d,f,#[5,wL r]]
def JH{kvs:List (List Key×V)}(ok:HOk P w H h)(e:Rd H a (.dT kvs)):kvs.length<=sizeLine/\(a==sysModules)=false/\
  ∃xs,KT H kvs xs/\h.DictOfH (tupleKind (eT P w)) a xs:=by
 obtain⟨z,y,xs,r,o,d,ep,f,g,i,j,k⟩:=(show c7 P w H h a (.dT kvs)from LV ok e);refine#[z,y,xs,r,o,d,ep,f,g,i,j,λx b=> ?_,k];have all:∀ {l:List (List Key×V)} {m:List (List Key×Addr×Value)},KT H l m->∀x∈m,(tupleKind (eT P w)).is h x.1 x.2.1:=by
  intro l m q
  induction q with
  |nil=>intro x b;exact nomatch b
  | @cons p q ps s c t n=>
   intro x b;rcases OT.mp b with e|b
   .subst e;exact CV ok (by rw[<-c.1];exact c.2.1)
   .exact n x b
 exact all r x b
def Oi{kvs:List (List Key×V)}(ok:HOk P w H h)(e:H a=some (.dT kvs)):kvs.length<=sizeLine/\(a==sysModules)=false/\
  ∃xs,KT H kvs xs/\h.DictOfH (tupleKind (eT P w)) a xs:=JH ok (.inl e)
end
def Dy(H:Hp)(a:Addr)(y:V)(r:Option V):Prop:=
 (∃kvs k,Rd H a (.dK kvs)/\y=kV k/\r=qD kvs k)\/∃kvs k b,Rd H a (.dT kvs)/\y= .ref b/\H b=some (.tup (k.map kV))/\r=qD kvs k
def GD(H:Hp)(a:Addr)(y v:V)(H':Hp):Prop:=
 (∃kvs k,H a=some (.dK kvs)/\y=kV k/\kvs.length<sizeLine/\H'=upd H a (.dK (qN kvs k v)))\/
 ∃kvs k b,H a=some (.dT kvs)/\y= .ref b/\H b=some (.tup (k.map kV))/\kvs.length<sizeLine/\H'=upd H a (.dT (qN kvs k v))
def Dy.k{H:Hp}{a:Addr}{kvs:List (Key×V)}{k:Key}(e:H a=some (.dK kvs)):Dy H a (kV k) (qD kvs k):= .inl #[kvs,k, .inl e,22]
def GD.k{H:Hp}{a:Addr}{kvs:List (Key×V)}{k:Key}{v:V}(e:H a=some (.dK kvs))(hl:kvs.length<sizeLine):GD H a (kV k) v (upd H a (.dK (qN kvs k v))):= .inl #[kvs,k,e,2,hl,2]
section
variable{X:Cx}{pins:List (Addr×Obj)}{σ:St}{H:Hp}{s:Shared}{a:Addr}{y v:V}{u r:Value}{o:Option V}{A:Around}{E:Value->Shared->Prop}
def Inv.big(I:Inv X pins σ H s):sysModules<s.heap.objs.size:=by have h:mainGlobals<s.heap.objs.size:=(I.mod.glob.keeps I.bk).lt;exact Tf ∅ h
def Gg(J:A.units+1<cLine)(I:Inv X pins σ H s)(g:Dy H a y (some v))(n:cC y u)(h:∀c q,Inv X pins σ H q->cC v c->Q c q):
  wpAny (model X.prog X.w) A (getItem (.ref a) u) Q E s:=by
 rcases g with ⟨kvs,k,e,f,l⟩|⟨kvs,k,b,e,f,t,l⟩
 .subst f;obtain⟨z,x,vs,j,d⟩:=JI I.hok e;obtain⟨c,i,m⟩:=oo.some_of (v:=v) (o:=valueAt vs k) (by rw[l];exact j.val k);exact wpAny_getItem_of (Jt n) d.mapOf i (h c _ (I.tok _) m)
 .subst f;cases (show u=Value.ref b from n);obtain⟨z,x,xs,j,d⟩:=JH I.hok e;obtain⟨c,i,m⟩:=oo.some_of (v:=v) (o:=(atKey xs k).map (·.2)) (by rw[l];exact j.val k);obtain⟨p,B,G⟩:=SQ.mp i;refine wpAny_getItem_heap (tupleKind_room_in1 J) (CV I.hok t) d B ?_;rw[G];exact h c _ (I.tok _) m
def Er{h':Heap}(I:Inv X pins σ H s)(g:Mut (H a))(f:Heap.SameBut a s.heap h')(d:∃q,h'.get? a=some q)(new:c7 X.prog X.w (upd H a ob) h' a ob):
  Inv X pins σ (upd H a ob) {s with heap:=h',toks:=t'}:=
 I.write (x:=a) (e:=a) g (.inl rfl) (λb q c z=>(f.2 b c).trans z) d new
def Nw{h':Heap}{kvs:List (Key×V)}(z:kvs.length<=sizeLine)(c:(a==sysModules)=false)(d:KV kvs vs)(b:h'.DictOf (eT P w) a vs):
  c7 P w H' h' a (.dK kvs):=#[z,c,vs,d,b]
def Gf(hu:A.units+1<cLine)(I:Inv X pins σ H s)(g:GD H a y v H')(K:cC y u)(J:cC v r)(h:∀L,Inv X pins σ H' L->Q Unit.unit L):
  wpAny (model X.prog X.w) A (setItem (.ref a) u r) Q E s:=by
 rcases g with ⟨kvs,k,e,n,l,m⟩|⟨kvs,k,b,e,n,B,l,m⟩
 .subst n m;obtain⟨z,p,vs,d,j⟩:=Mf I.hok e;have x:vs.length<=sizeLine:=by rw[<-d.length];exact z
  have hl:(qN kvs k v).length<=sizeLine:=by have:=rX kvs k v;lia
  refine wpAny_setItem_pairs (hsz:=x) (Jt K) j λh' f t=>h _ ?_;have he:∃q,h'.get? a=some q:=let⟨q,_,_,i,_⟩:=f;#[q,i];exact Er I (by rw[e];exact Rq) t he (Nw hl p (d.put k J) f)
 .subst n m;cases (show u=Value.ref b from K);obtain⟨z,p,xs,d,j⟩:=Oi I.hok e;have x:xs.length<=sizeLine:=by rw[<-SS d];exact z
  have hl:(qN kvs k v).length<=sizeLine:=by have:=rX kvs k v;lia
  refine wpAny_setItem_heap (hsz:=x) (tupleKind_room_in1 hu) (CV I.hok B) j λh' f t=>h _ ?_;obtain⟨q,M,ep,i,N,O,U,_,h5⟩:=f;refine Er I (by rw[e];exact Rq) t #[q,i] #[hl,p,_,(d.put k B J).keeps λc ys G=> ?_,q,M,ep,i,N,O,U,h5];rw[aE (kJ G e (λz=>nomatch z))];exact G
end
def Oq(i:Expr):Prop:=∀ov a,subscripted i false ov a=operate [ov,a] (getItem ov a)
def Kl{prog:Program}{w:World}{A:Around}{E:Value->Shared->Prop}{s:Shared}{env:Env}{d slice:Expr}{pos:Pos}{T id:String}{Q:Value->Shared->Prop}
  (hl:typeLookup (.type T) "__getitem__"=pure (some (.builtin id))) (j:Oq slice)
  (h:wpAny (model prog w) A (eval d env) (λo f=>wpAny (model prog w) A (eval slice env) (λi a=>a.TypeIs o T/\wpAny (model prog w) A (getItem o i) Q E a) E f) E s):
  wpAny (model prog w) A (eval (.Subscript d slice pos) env) Q E s:=by
 refine Subscript_ (S6 h (λo f k=>S6 k (λi a c=> ?_) λ_ _ x=>x) λ_ _ x=>x);obtain⟨e,c⟩:=c;unfold subscriptTail;refine P1 ?_;rw[getitemInPython_of_ne e.not_modules];refine P1 (wpAny_specialOf e hl ?_);have b:wpAny (model prog w) A (subscripted slice false o i) (λr g=>wpAny (model prog w) A (letTemporaryGo d o r>>=λ_=>pure r) Q E g) E a:=by rw[j o i];exact wpAny_operating (S6 c (λr g l=>P1 (wpAny_letTemporaryGo (QA l))) λ_ _ x=>x)
 first
  |exact QA (P1 b)
  |exact P1 (QA (P1 b))
  |exact P1 b
def Bv{X:Cx}{d:List (Addr×Obj)}{f:St}{H:Hp}{s:Shared}{a:Addr}{y:V}{o:Option V}(I:Inv X d f H s)(g:Dy H a y o):s.TypeIs (.ref a) "dict":=by
 rcases g with ⟨kvs,k,e,_,_⟩|⟨kvs,k,b,e,_,_,_⟩
 .obtain⟨_,_,vs,_,c⟩:=JI I.hok e;exact c.typeIs
 .obtain⟨_,_,xs,_,c⟩:=JH I.hok e;exact c.typeIs
def NN(e ty:TE):TE:=λc H Q=>e c H λx d=>ty c d λy b=>∃a v,x= .ref a/\Dy b a y (some v)/\Q v b
def NS(g ty tv:TE):TS:=λD b H=>tv b H λv d=>g b d λx e=>ty b e λy f=>∃a c,x= .ref a/\GD f a y v c/\D.nx b c
section
variable{X:Cx}{o i e value:Expr}{pos pos' tpos:Pos}{td ty tv:TE}
def Ea(r:X.A.units+1<cLine)(n:PE X o td)(m:PE X i ty)(q:Oq i):PE X (.Subscript o i pos) (NN td ty):=by intro c s d H Q I h;refine Kl PySem.F.slot_dict_getitem.lookup q (thn (n c s d H _ I h) λu J ⟨x,f,k,B,t⟩=>thn (m c J d f _ k t) λK L p=> ?_);obtain⟨y,j,b,G,a,v,ex,g,w⟩:=p;subst ex;obtain rfl:u=Value.ref a:=B;exact#[Bv b g,Gg r b g G λN M l z=>#[v,j,l,z,w]]
def D1(z:X.A.units+1<cLine)(q:PE X o td)(p:PE X i ty)(B:PE X value tv)(w:swapsWith value (some (.Subscript o i pos')) pos.line X.env=pure false):
  PS X (.Assign [.Subscript o i pos'] value pos) (NS td ty tv):=by
 intro c s b H D I h;refine wpAny_Assign_Subscript (thn (B c s b H _ I h) λr O ⟨v,d,k,L,G⟩=>thn (q c O b d _ k G) λu Q ⟨x,f,l,M,J⟩=>thn (p c Q b f _ l J) λiv s3 t=> ?_) w;obtain⟨y,U,m,N,a,j,ex,g,K⟩:=t;subst ex;obtain rfl:u=Value.ref a:=M;exact Gf z m g N L λs4 n=>#[b,j,n,K]
end
def JJ(h:Heap)(a:sysModules<h.objs.size):c7 P w H (h.push {cls:= .type "dict",data:= .dict #v[]}) h.objs.size (.dK []):=
 #[Qj _,RQ.mpr (Pk (Qf a)),[], .nil,Heap.DictOf.new h]
def Mt:TE:=λ_ H Q=>∀p,H p=none->Q (.ref p) (upd H p (.dK []))
section
variable{X:Cx}{pos:Pos}
def Ip:PE X (.Dict [] [] pos) Mt:=λb s c H Q I h=>
 wpAny_Dict_empty #[.ref s.heap.objs.size,_,I.laid (a:=s.heap.objs.size) (o:= .dK []) (t':=s.toks) (λ_ _ q=>PH _ q) (O4 _) (JJ s.heap I.big),2,h _ (I.hok.fresh (O4 _))]
end
end L2
namespace PySem
open Sem (wp)
end PySem
namespace L2
open PySem PySem.Spec PyProof.Rows
end L2
namespace L2
open PySem PySem.Spec PyProof.Rows PySem.W
def wD:∀ {c:List e} {d:List β},Paired F c d->∀ {i:Nat} {a:e},c[i]?=some a->∃b,d[i]?=some b/\F a b
 |_,_, .nil,i,a,h=>by simp at h
 |_,_, .cons r t,0,a,h=>by simp only[List.getElem?_cons_zero,Option.some.injEq]at h;subst h;exact#[7,r]
 |_,_, .cons r t,i+1,a,h=>by simp only[SF]at h⊢;exact wD t h
end L2
namespace L2
open PySem PySem.Spec PyProof.Rows
end L2
namespace L2
open PySem PySem.Spec PySem.W PyProof.Rows
end L2
namespace L2
open PySem PySem.Spec PyProof.Rows PySem.W
def oa(ps:List (Int×V)):List (Key×V):=ps.map λp=>(Sum.inl p.1,p.2)
def KC:List V->Hp->VK->Prop:=λxs H Q=>∃(d:Addr) (ps:List (Int×V)),xs=[.ref d]/\H d=some (.dK (oa ps))/\∀l,H l=none->Q (.ref l) (upd H l (.lst ((ps.map (·.1)).map V.int)))
def BH{X:Cx}(J:X.calm=true):gs X (.type "list") KC:=by
 intro aC s σ H xs us Q I rv h;obtain⟨d,ps,rfl,K,q⟩:=h;obtain⟨u,rfl,ru⟩:=rF rv;cases ru;obtain⟨z,L,vs,v,y⟩:=Mf I.hok K;obtain⟨ep,G⟩:=y.dictAt;have ay:(oa ps).length=vs.length:=SS v;have aA:(oa ps).length=ps.length:=by unfold oa;rw[My]
 refine kdl_call (kdl_dict (knd:=eT X.prog X.w) (kvs:=vs) (ep:=ep) L) (I.ok.hd J) G () λh' tk b c M B o=> ?_;have O:Vals ((ps.map (·.1)).map V.int) b.toList:=by
  have A:∀(l:List Int)(us:List Value),l.length=us.length->(∀(i:Nat)(z:Int)(u:Value),l[i]?=some z->us[i]?=some u->∃t,u= .int z t)->Vals (l.map V.int) us:=λl=>by
   induction l with
   |nil=>intro us hl _;have:us=[]:=R4 hl.symm;subst this;exact .nil
   |cons z l U=>
    intro us hl r;cases us with
    |nil=>cases hl
    |cons u us=>
     obtain⟨t,e⟩:=r 0 z u rfl rfl;exact .cons #[t,e] (U us (Nat.succ.inj hl) λi z' u' a g=>r (i+1) z' u' #[5,a] #[5,g])
  refine A _ _ (by have a:b.toList.length=b.size:=RR;rw[My,a,o.1];lia) λi z u a g=> ?_;obtain⟨k,x,g1,g2⟩:=o.2 i u (by rw[<-R6];exact g);rw[Ph]at a;cases m:ps[i]? with
  |none=>rw[m]at a;cases a
  |some p=>
   rw[m]at a;cases a;have N:(oa ps)[i]?=some (Sum.inl p.1,p.2):=by unfold oa;rw[Ph,m];rfl
   obtain⟨aB,g3,g4⟩:=wD v N;rw[g1]at g3;cases g3;have g5:uN k u=true:=g2;have g6:(Sum.inl p.1:Key)=k:=g4.1;rw[<-g6]at g5;rcases du g5 with ⟨j,t,f,n⟩|⟨j,t,f,n⟩
   .cases f;exact#[t,n]
   .cases f
 refine#[.ref s.heap.objs.size,_,I.laid (t':=tk) M (O4 _) (show c7 X.prog X.w _ _ _ (.lst _)from#[6,b.toList,c,O,6]),2,q _ (I.hok.fresh (O4 _))]
 .rw[My,My];lia
 .rw[Te];exact B
def Mi(ps:List (Int×V))(z:Int):qD (oa ps) (Sum.inl z)=(ps.find? λp=>decide (p.1=z)).map (·.2):=by
 unfold qD oa;rw[List.find?_map];have:(λa:Key×V=>decide (a.1=Sum.inl z))∘(λp:Int×V=>((Sum.inl p.1:Key),p.2))=λp=>decide (p.1=z):=by funext p;show decide ((Sum.inl p.1:Key)=Sum.inl z)=_;rw[CW];by_cases e:p.1=z<;>simp[e]
 rw[this];cases ps.find? λp=>decide (p.1=z)<;>rfl
def KH(ps:List (Int×V))(z:Int)(v:V):List (Int×V):=if(ps.any λp=>decide (p.1=z))=true then ps.map (λp=>if p.1=z then(p.1,v)else p)else ps++[(z,v)]
def MG(ps:List (Int×V))(z:Int)(v:V):qN (oa ps) (Sum.inl z) v=oa (KH ps z v):=by
 unfold qN KH;have a:((oa ps).any λb=>decide (b.1=Sum.inl z))=ps.any λp=>decide (p.1=z):=by unfold oa;rw[List.any_map];congr 1;funext p;show decide ((Sum.inl p.1:Key)=Sum.inl z)=_;rw[CW];by_cases e:p.1=z<;>simp[e]
 rw[a];split
 .unfold oa;rw[PJ,PJ];refine P4 λp _=> ?_;show(if(Sum.inl p.1:Key)=Sum.inl z then((Sum.inl p.1:Key),v)else(Sum.inl p.1,p.2))=((Sum.inl (if p.1=z then(p.1,v)else p).1:Key),(if p.1=z then(p.1,v)else p).2);by_cases e:p.1=z
  .rw[OP e,OP (by rw[e])]
  .rw[OO e,OO λq=>e (Sum.inl.inj q)]
 .unfold oa;rw[PC];rfl
def Bi{K:Frag}{a:Addr}{xs:List V}{g:TG}{M:TT}{N:TE}{k:Nat}{fr:List Nat}{p:St}{H:Hp}{Q:VK}(f:Nat->V->Hp->Prop)(ay:∀i y H H',Same H H'->f i y H->f i y H')(ha:SqL K H a xs)(hn:xs.length<=sizeLine)
  (hs:∀(i:Nat)(x:V)(vs:St)(D:Addr)(H':Hp)(R:V->St->Hp->Prop)(S:St->Hp->Prop),xs[i]?=some x->vs.length=k->Same H H'->(∃l,H' D=some (.lst l))->
   (∀y v d,f i y (hide d D)->v.length=k->Same H' d->R y (v++fr.map λj=>(p[j]?).join) d)->
    g x (vs++fr.map λj=>(p[j]?).join) H' λr H3=>M r H3 λb J=>if b=true then N r J λy o=>R y r o else S r J)
  (hd:∀D H' (c:List V),H D=none->Same H H'->H' D=some (.lst c)->c.length=xs.length->(∀(j:Nat)(y:V),c[j]?=some y->f j y (hide H' D))->Q (.ref D) H'):LCW (Itl K a) g M N k fr p H Q:=by
 intro D w;refine#[λi m O H'=>m=xs.length-i/\i<=xs.length/\∃(vs:St)(c:List V),vs.length=k/\O=vs++(fr.map λj=>(p[j]?).join)/\Same H H'/\H' D=some (.lst c)/\c.length=i/\(∀(j:Nat)(y:V),c[j]?=some y->f j y (hide H' D)),#[xs.length,#[5],Qj _,List.replicate k none,[],#[5],2,Same.new w,ak,2,#[5]],6];rintro i m O H' ⟨rfl,hi,vs,c,hv,rfl,u,A,hl,L⟩;have B:SqL K H' a xs:=u.seq ha;by_cases s:i<xs.length
 .refine .inr #[#[xs,xs[i],B,by simp[s]],λU d=>∃(vs:St)(c:List V),vs.length=k/\U=vs++(fr.map λj=>(p[j]?).join)/\Same H d/\d D=some (.lst c)/\c.length=i+1/\(∀(j:Nat)(y:V),c[j]?=some y->f j y (hide d D)),λU d q=>#[xs.length- (i+1),QE s (QB _),2,s,q],λx H2 y=> ?_];obtain⟨e1,e2⟩:=y;subst e1;have hx:=e2 xs B;refine hs i x vs D _ (λy r o=>∃t,o D=some (.lst t)/\t.length<sizeLine/\∃(vs:St)(c:List V),vs.length=k/\r=vs++(fr.map λj=>(p[j]?).join)/\Same H (upd o D (.lst (t++[y])))/\upd o D (.lst (t++[y])) D=some (.lst c)/\c.length=i+1/\(∀(j:Nat)(z:V),c[j]?=some z->f j z (hide (upd o D (.lst (t++[y]))) D))) _ hx hv u #[_,A] (λy v d pz a6 G=> ?_);have ax:=G D _ A;refine#[_,ax,by rw[hl];exact OW s hn,v,c++[y],a6,2,(u.trans G).upd w,ak,by rw[Pl,hl];rfl,λj z h=> ?_];rw[mN];by_cases hj:j<c.length
  .rw[PL hj]at h;exact ay _ _ _ _ (kK G) (L j z h)
  .rw[PM ()]at h;have a0:j-c.length=0:=by
    cases e:j-c.length with
    |zero=>rfl
    |succ n=>rw[e]at h;simp at h
   rw[a0]at h;cases h;have ej:j=i:=()
   subst ej;exact pz
 .have e:i=xs.length:=Qz hi (QC s);subst e;exact .inl #[#[xs,B,O4 _],hd D H' c w u A hl L]
end L2
namespace L2
open PySem PySem.Spec PySem.W PyProof.Rows PySem.SeqAt
def CFd(_ j:Int):Prop:=j≠0/\j.natAbs.log2<9000
def IB:OpR X (binaryOp .FloorDiv) (rI CFd λi j=> .int (i.fdiv j)):=opI λ_ _ _ _ _ _ _ a q=>floordiv_int a.1 q (.inl (PyProof.noPylong_of_log2 a.2))
end L2
namespace L2
open PySem PySem.Spec PyProof.Rows
def aZ{N P:List Str}{h:Scope}(a:h.kind= .function:=by rfl)(b:h.isCoroutine=false:=by rfl)(c:h.isGenerator=false:=by rfl)(d:N.Nodup:=by decide+kernel)(e:N.take P.length=P:=by rfl)(f:∀x∈P,h.names.lookup x=some .local\/h.names.lookup x=some .cell:=by decide+kernel)(g:∀y∈h.names,y.2≠ .free:=by decide+kernel):aH N P h:=#[a,b,c,d,e,f,g]
section
variable{X:Cx}{x:Str}{ps:List Str}{j k:Nat}{sp:Sp}{e a b tg:Expr}{es:List Expr}{t:TA}{p pos:Pos}{ta tb te:TE}
def wcal(C:Cal X.prog X.w X.K X.mg X.base j x ps sp)(l:Room k X.A)(c:PA X (e::es) t)(h:j<=k:=by first|decide|lia)(g:Gl X x:=by rfl)(d:(x==("__debug__":Str))=false:=by decide)
  (f:starEach (e::es) X.env=(false,eval e X.env)::starEach es X.env:=by rfl) (i:(backTo pos (starEach es X.env)).any (·.1)=false:=by rfl):PE X (.Call (.Name x p) (e::es) [] pos) (GX sp [] E0 t):=MS C l h g c d f i
def wset(i:Nat){pos':Pos}(c:X.N.Nodup)(d:PE X e te)(g:X.N[i]?=some x:=by rfl)(l:Loc X.env.scope x:=by first|exact Ta rfl|exact Or.inr rfl)(h:swapsWith e (some (.Name x pos')) pos.line X.env=pure false:=by rfl)(f:X.fn x=true\/X.env.scope.names.lookup x=some .local:=by first|exact .inl rfl|exact .inr rfl|assumption):PS X (.Assign [.Name x pos'] e pos) (Cj te (br i)):=Ij c g l d h f
def wname(i:Nat)(c:X.N.Nodup)(f:X.N[i]?=some x:=by rfl)(g:Loc X.env.scope x:=by first|exact Ta rfl|exact Or.inr rfl)(d:X.fn x=true\/X.env.scope.names.lookup x=some .local:=by first|exact .inl rfl|exact .inr rfl|assumption):PG X (.Name x pos) (br i):=D7 c f g d
def dg(K:Frag)(c:PE X a ta)(d:PE X b tb)(h:X.K=K:=by rfl)(f:zP b:=by intro _ _;rfl):PE X (.Subscript a b pos) (tOp (Ig K) ta tb):=D9 (uO h) c d f
def i6(K:Frag)(c:PE X a ta)(d:PE X b tb)(h:X.K=K:=by rfl)(f:zP b:=by intro _ _;rfl):PE X (.Subscript a b pos) (tOp (MF K) ta tb):=D9 (Li h) c d f
def wlen(K:Frag)(g:X.mg "len"=none)(d:PE X e te)(h:X.K=K:=by rfl)(f:Gl X "len":=by rfl)(c:starEach [e] X.env=(false,eval e X.env)::starEach [] X.env:=by rfl)(i:(backTo pos (starEach [] X.env)).any (·.1)=false:=by rfl):PE X (.Call (.Name "len" p) [e] [] pos) (tCB (LX K) (GW te Ki)):=
 eh (wg h) f g T6 (aa d ah c) ∅ ∅ c i
def wrng(g:X.mg "range"=none)(c:PE X a ta)(f:Gl X "range":=by rfl)(h:starEach [a] X.env=[(false,eval a X.env)]:=by rfl)(d:starEach [a] X.env=(false,eval a X.env)::starEach [] X.env:=by rfl):PI X tg (.Call (.Name "range" p) [a] [] pos) (Mb (GW ta Ki)):=Fu f g (aa c ah d) h
def wil(K:Frag)(hl:PE X e te)(h:X.K=K:=by rfl):PI X tg e (Ju K te):=Im h hl
def wit(K:Frag)(hl:PE X e te)(h:X.K=K:=by rfl):PI X tg e (Np K te):=KL h hl
def wfor{c:List Stmt}{d:TI}{g:TG}{tb:TS}(l:PI X tg e d)(i:PG X tg g)(f:PSs X c tb)(m:PassesOwn (model X.prog X.w) X.A X.env X.xe:=by exact PassesOwn.never)(h:X.calm=true:=by rfl)(n:∀x,foldedSetIterable e X.env x=pure x:=by intro _;rfl):PS X (.For tg e c [] pos) (NL d g tb):=MH m h l i f n
def wpt{c:CmpOp}{r:R2}(h:OpR X (compareOp c) r)(d:PE X a ta)(f:PE X b tb)(g:behindInMarks c b=false:=by exact nomark _):PT X (.Compare a [c] [b] pos) (LN (tOp r ta tb)):=sM h d f g
def wpe{c:CmpOp}{r:R2}(h:OpR X (compareOp c) r)(d:PE X a ta)(f:PE X b tb)(g:behindInMarks c b=false:=by exact nomark _):PE X (.Compare a [c] [b] pos) (tOp r ta tb):=Eb h d f g
def wfld(K:Frag){f:Str}(d:PE X e ta)(h:X.K=K:=by rfl)(c:attributeBase e f X.env (eval e X.env)=eval e X.env:=by rfl):PE X (.Attribute e f pos) (Ms K ta f):=KS h d c
def wsf(K:Frag){f:Str}{pos':Pos}(c:PE X a ta)(g:PE X b tb)(h:X.K=K:=by rfl)(d:swapsWith b (some (.Attribute a f pos')) pos.line X.env=pure false:=by rfl):PS X (.Assign [.Attribute a f pos'] b pos) (Mw K ta tb f):=KI h c g d
end
section
variable{X:Cx}{elt target iter:Expr}{ifs:List Expr}{sc:Scope}{pos:Pos}{wi:TI}{g:TG}{tc:TT}{te:TE}
def wnC(i:Nat){x:Str}{N a:List Str}{e:Shared}{b:Hp}{c:List Addr}{d:List (Addr×Obj)}(f:(N++a).Nodup:=by decide+kernel)(j:(N++a)[i]?=some x:=by rfl)(k:Loc (cV X (N++a) sc e b c d).env.scope x:=by first|exact Ta rfl|exact Or.inr rfl)(h:(cV X (N++a) sc e b c d).fn x=true\/(cV X (N++a) sc e b c d).env.scope.names.lookup x=some .local:=by first|exact .inl rfl|exact .inr rfl|assumption):PG (cV X (N++a) sc e b c d) (.Name x pos) (br i):=D7 f j k h
def wlc(f c:List Str)(fr:List Nat)(m:PI X target iter wi)(l:∀ {e a b d},PG (cV X (f++c) sc e a b d) target g)(r:∀ {e a b d},PTs (cV X (f++c) sc e a b d) ifs tc)(i:∀ {e a b d},PE (cV X (f++c) sc e a b d) elt te)(h:X.calm=true:=by rfl)
  (j:sc.names.all (λy=> !(y.2== .free)||(X.env.kindOf y.1==some .cell||X.env.kindOf y.1==some .free))=true:=by rfl) (p:sc.names.all (λy=> !(y.2== .cell)|| !(c.contains y.1))=true:=by rfl) (n:sc.kind= .function:=by rfl) (o:sc.names.all (λy=> !(y.2== .local)||(sc.names.lookup y.1==some .local))=true:=by rfl)
  (k:sD X sc fr c:=by repeat (first|exact Rq|refine⟨⟨⋯,Ta ⋯,Ta ⋯⟩,?_⟩)) (q:∀x,foldedSetIterable iter X.env x=pure x:=by intro _;rfl):PE X (.ListComp elt [#[target,iter,ifs,0]] sc pos) (tLC wi g tc te f.length fr):=MQ h j p n o k m (λ_ _ _ _=>l) (λ_ _ _ _=>r) (λ_ _ _ _=>i) q
def wls(i:Nat){x:Str}{h j:Pos}(k:X.N.Nodup)(f c:List Str)(fr:List Nat)(q:PI X target iter wi)(p:∀ {e a b d},PG (cV X (f++c) sc e a b d) target g)(z:∀ {e a b d},PTs (cV X (f++c) sc e a b d) ifs tc)(m:∀ {e a b d},PE (cV X (f++c) sc e a b d) elt te)(r:X.N[i]?=some x:=by rfl)(A:X.env.kindOf x=some .local:=by rfl)(l:X.calm=true:=by rfl)
  (n:sc.names.all (λy=> !(y.2== .free)||(X.env.kindOf y.1==some .cell||X.env.kindOf y.1==some .free))=true:=by rfl) (u:sc.names.all (λy=> !(y.2== .cell)|| !(c.contains y.1))=true:=by rfl) (s:sc.kind= .function:=by rfl) (t:sc.names.all (λy=> !(y.2== .local)||(sc.names.lookup y.1==some .local))=true:=by rfl)
  (o:sD X sc fr c:=by repeat (first|exact Rq|refine⟨⟨⋯,Ta ⋯,Ta ⋯⟩,?_⟩)) (w:swapsWith (.ListComp elt [#[target,iter,ifs,0]] sc pos) (some (.Name x h)) j.line X.env=pure true:=by rfl)
  (v:∀x,foldedSetIterable iter X.env x=pure x:=by intro _;rfl):PS X (.Assign [.Name x h] (.ListComp elt [#[target,iter,ifs,0]] sc pos) j) (Cj (tLC wi g tc te f.length fr) (br i)):=Fm k r A l n u s t o q (λ_ _ _ _=>p) (λ_ _ _ _=>z) (λ_ _ _ _=>m) w v
end
end L2
namespace L2
open PySem PyProof PyProof.Rows
section
variable{X:Cx}{tg:Expr}
def NG(b:TA):TE:=λc H Q=>b c H λvs a=>∃i j:Int,vs=[.int i, .int j]/\∀p,a p=none->Q (.ref p) (upd a p (.rng i j))
def KP{a b:Expr}{g:TA}{p pos:Pos}(l:Gl X "range")(m:X.mg "range"=none)(k:PA X [a,b] g)(n:starEach [a,b] X.env=[(false,eval a X.env),(false,eval b X.env)]:=by rfl)(f:starEach [b] X.env=[(false,eval b X.env)]:=by rfl):
  PE X (.Call (.Name "range" p) [a,b] [] pos) (NG g):=by
 intro u s A H Q I h;refine Call_ (ko I l m boot_range (QK (thn (k pos u s A H _ I h) λus z ⟨vs,B,d,y,v⟩=> ?_) (by rw[n,f]) (by rw[f];rfl)));obtain⟨i,j,e,q⟩:=v;subst e;cases y with
 |cons r c=>
  cases c with
  |cons x c=>
   cases c;obtain⟨t,rfl⟩:=r;obtain⟨t',rfl⟩:=x;refine call_range_2 ?_;exact#[.ref z.heap.objs.size,_,d.laid (λb o e=>PH _ e) (O4 _) (show c7 X.prog X.w _ _ _ (.rng i j)from#[111,Qn _ rfl]),2,q _ (d.hok.fresh (O4 _))]
end
def Kz:List V->Hp->VK->Prop:=λxs H Q=>∃(p:Addr)(n:Nat),xs=[.ref p]/\H p=some (.rng 1 ((n+1:Nat):Int))/\n<=1000/\∀l,H l=none->Q (.ref l) (upd H l (.lst (((List.range' 1 n).map λi:Nat=>(i:Int)).map V.int)))
def BG{X:Cx}(g:X.calm=true):gs X (.type "list") Kz:=by
 intro A s B H vs us Q I y h;obtain⟨p,n,rfl,l,k,q⟩:=h;obtain⟨u,rfl,x⟩:=rF y;cases x;obtain⟨t,u,v,e⟩:=I.hok p _ l;have m:IsRange s.heap p 1 ((n+1:Nat):Int) 1 t u v:=e;refine call_list_range (n:=n) (I.ok.hd g) m (small_one ∅ ∅ () ()) (by rw[rangeSize_one];split<;>lia) () λh' z a c j f b=> ?_;have o:Vals (((List.range' 1 n).map λi:Nat=>(i:Int)).map V.int) a.toList:=by refine oF a.toList n 1 (by rw[RR];exact b.1) λi w r=> ?_;obtain⟨t',d⟩:=b.2 i w (by rw[<-r,R6]);exact#[t',by rw[d];congr 1;lia]
 refine#[.ref s.heap.objs.size,_,I.laid (t':=z) j (O4 _) (show c7 X.prog X.w _ _ _ (.lst _)from#[6,a.toList,c,o,6]),2,q _ (I.hok.fresh (O4 _))]
 .rw[My,My,List.length_range'];exact OY k ∅
 .rw[Te];exact f
end L2
namespace Bh
def bits(n:Nat):List Int:=((List.range 8).filter n.testBit).map λ(k:Nat)=>(k:Int)
def cX{n:Nat}:z∈bits n↔∃k:Nat,k<8/\n.testBit k=true/\z=k:=by
 unfold bits;simp only[OX,Pn,OS];constructor
 .rintro⟨k,⟨a,b⟩,rfl⟩;exact#[k,a,b,2]
 .rintro⟨k,a,b,rfl⟩;exact#[k,#[a,b],2]
def qg{n k:Nat}(h:k<8):(k:Int)∈bits n↔n.testBit k=true:=by
 rw[cX];constructor
 .rintro⟨j,_,a,e⟩;have:k=j:=()
  rw[this];exact a
 .intro a;exact#[k,h,a,2]
def k6(h:z∈bits n):0<=z/\z<8:=by obtain⟨k,a,_,rfl⟩:=cX.mp h;lia
def bj(n:Nat):(bits n).length<=8:=by unfold bits;rw[My];exact OY (Qy _ _) #[5]
def N6(b:n<256)(a:m<256):n|||m<256:=PV (n:=8) b a
def J2(a:n<256):n&&&m<256:=Pd Sq a
def yd(ns:List Int):Nat:=ns.foldl (λs t=>s|||2^t.toNat) 0
def sH:∀(ns:List Int)(s k:Nat),(∀z∈ns,0<=z)->((ns.foldl (λs (t:Int)=>s|||2^t.toNat) s).testBit k=true↔s.testBit k=true\/(k:Int)∈ns)
 | [],s,k,_=>by simp
 |z::r,s,k,h=>by
  rw[QY,sH r _ k (λy a=>h y (OZ _ a)),O7,Px,O0,OT,decide_eq_true_eq];have b:=h z O6;have:z.toNat=k↔(k:Int)=z:=()
  rw[this,T8]
def vd{n m:Nat}(e:n<256)(d:m<256)(h:∀k,k<8->(n.testBit k=true↔m.testBit k=true)):n=m:=by
 refine O2 λk=> ?_;by_cases c:k<8
 .have:=h k c;cases a:n.testBit k with
  |true=>exact(this.mp a).symm
  |false=>
   cases b:m.testBit k with
   |true=>exact absurd (this.mpr b) (by rw[a];simp)
   |false=>rfl
 .have f:2^8<=2^k:=Pr () ();rw[PY (),PY ()]
def DU:∀(ns:List Int)(s:Nat),s<256->(∀z∈ns,0<=z/\z<8)->ns.foldl (λs (t:Int)=>s|||2^t.toNat) s<256
 | [],s,a,_=>a
 |z::r,s,a,h=>by rw[QY];refine DU r _ (N6 a ?_) λy b=>h y (OZ _ b);have c:=h z O6;exact OW (QZ () (show z.toNat<8 by lia)) ()
def Kq(c:n<256)(a:∀z∈ns,0<=z/\z<8)(h:∀z,z∈ns↔z∈bits n):yd ns=n:=by refine vd (DU ns 0 () a) c λk b=> ?_;unfold yd;rw[sH ns 0 k (λz d=>(a z d).1),h,qg b,Pw];simp
def gG{n k:Nat}:n.testBit k=decide (n/2^k % 2=1):=SW
def JW:∀n:Nat,n<256->(List.range (if n=0 then 0 else n.log2+1)).filter n.testBit=(List.range 8).filter n.testBit:=#[9]
def vp(n:Nat):(bits n).Nodup:=by unfold bits;refine List.Pairwise.map _ (λa b h=> ?_) (List.Pairwise.filter _ Py);intro e;exact h ()
def idxs(p:Nat->Int->Bool):Nat->List Int->List Int
 |_,[]=>[]
 |i,z::r=>if p i z=true then(i:Int)::idxs p (i+1) r else idxs p (i+1) r
def picks(p:Nat->Int->Bool):Nat->List Int->List Int
 |_,[]=>[]
 |i,z::r=>if p i z=true then z::picks p (i+1) r else picks p (i+1) r
def mF{p:Nat->Int->Bool}:∀ {e:List Int} {i:Nat} {y:Int},y∈idxs p i e↔∃(j:Nat)(z:Int),e[j]?=some z/\p (i+j) z=true/\y=(i+j:Nat)
 | [],i,y=>by simp[idxs]
 |x::r,i,y=>by
  have f:= @mF p r (i+1) y;have g:(∃(j:Nat)(z:Int),(x::r)[j]?=some z/\p (i+j) z=true/\y=(i+j:Nat))↔(p i x=true/\y=(i:Nat))\/∃(j:Nat)(z:Int),r[j]?=some z/\p (i+1+j) z=true/\y=(i+1+j:Nat):=by
   constructor
   .rintro⟨j,z,a,b,c⟩;cases j with
    |zero=>
     have:x=z:=#[5,a]
     subst this;exact .inl #[b,c]
    |succ j=>exact .inr #[j,z,#[5,a],by rw[show i+1+j=i+(j+1) by lia];exact b,by rw[c];lia]
   .rintro(⟨a,b⟩|⟨j,z,a,b,c⟩)
    .exact#[0,x,2,a,b]
    .exact#[j+1,z,#[5,a],by rw[show i+(j+1)=i+1+j by lia];exact b,by rw[c];lia]
  rw[g,idxs];split
  .rename_i d;rw[OT,f];constructor
   .rintro(h|h)
    .exact .inl #[d,h]
    .exact .inr h
   .rintro(⟨_,h⟩|h)
    .exact .inl h
    .exact .inr h
  .rename_i d;rw[f];constructor
   .intro h;exact .inr h
   .rintro(⟨h,_⟩|h)
    .exact absurd h d
    .exact h
def nU{p:Nat->Int->Bool}:∀ {d:List Int} {i:Nat} {y:Int},y∈picks p i d↔∃(j:Nat),d[j]?=some y/\p (i+j) y=true
 | [],i,y=>by simp[picks]
 |x::r,i,y=>by
  have e:= @nU p r (i+1) y;have f:(∃(j:Nat),(x::r)[j]?=some y/\p (i+j) y=true)↔(p i x=true/\y=x)\/∃(j:Nat),r[j]?=some y/\p (i+1+j) y=true:=by
   constructor
   .rintro⟨j,a,b⟩;cases j with
    |zero=>
     have:x=y:=#[5,a]
     subst this;exact .inl #[b,2]
    |succ j=>exact .inr #[j,#[5,a],by rw[show i+1+j=i+(j+1) by lia];exact b]
   .rintro(⟨a,b⟩|⟨j,a,b⟩)
    .subst b;exact#[0,2,a]
    .exact#[j+1,#[5,a],by rw[show i+(j+1)=i+1+j by lia];exact b]
  rw[f,picks];split
  .rename_i c;rw[OT,e];constructor
   .rintro(h|h)
    .exact .inl #[c,h]
    .exact .inr h
   .rintro(⟨_,h⟩|h)
    .exact .inl h
    .exact .inr h
  .rename_i c;rw[e];constructor
   .intro h;exact .inr h
   .rintro(⟨h,_⟩|h)
    .exact absurd h c
    .exact h
def qO:∀(a:List Int)(i:Nat),(picks p i a).Sublist a
 | [],_=>List.Sublist.slnil
 |x::r,i=>by
  rw[picks];split
  .exact(qO r (i+1)).cons_cons x
  .exact(qO r (i+1)).cons x
def oT{a:List Int}(hl:a.length<=8):∀z∈idxs p 0 a,0<=z/\z<8:=λz c=>by obtain⟨j,y,b,_,e⟩:=mF.mp c;have:=(O1.mp b).1;lia
def ic(s h:Nat):Nat:=yd (idxs (λ_ z=>s.testBit z.toNat) 0 (bits h))
def aO(s h:Nat):Nat:=yd (picks (λi _=>s.testBit i) 0 (bits h))
def j6:∀z∈picks p 0 (bits h),0<=z/\z<8:=λz a=>k6 ((qO _ _).mem a)
def lR(h:∀z∈ns,0<=z)(k:Nat):(yd ns).testBit k=true↔(k:Int)∈ns:=by unfold yd;rw[sH ns 0 k h,Pw];simp
def qv{h i j:Nat}{z:Int}(c:(bits h)[i]?=some z)(d:(bits h)[j]?=some z):i=j:=by obtain⟨e,a⟩:=O1.mp c;obtain⟨f,b⟩:=O1.mp d;exact(SV (vp h)).mp (a.trans b.symm)
def yr(o:s<2^(bits h).length):ic (aO s h) h=s:=by
 have m:(bits h).length<=8:=bj h;have p:s<256:=OW o (Pr () m);refine Kq p (oT m) λz=> ?_;rw[mF,cX];constructor
 .rintro⟨j,y,c,a,rfl⟩;have q:=k6 (O5 c);have r:=(O1.mp c).1;have e:(aO s h).testBit y.toNat=true:=a;unfold aO at e;rw[lR (λz f=>(j6 z f).1),nU]at e;obtain⟨i,l,n⟩:=e;have d:((y.toNat:Nat):Int)=y:=()
  rw[d]at l;have:=qv c l;subst this;exact#[0+j,9,n,2]
 .rintro⟨k,c,a,rfl⟩;have b:k<(bits h).length:=by
   by_cases b:k<(bits h).length
   .exact b
   .have t:2^(bits h).length<=2^k:=Pr () ();rw[PY ()]at a;cases a
  have g:(bits h)[k]?=some ((bits h)[k]'b):=#[5]
  have q:=k6 (O5 g);refine#[k,_,g,6,#[5]];show(aO s h).testBit _=true;unfold aO;rw[lR (λz f=>(j6 z f).1),nU];have d:((((bits h)[k]'b).toNat:Nat):Int)=(bits h)[k]'b:=()
  rw[d];exact#[k,g,#[5,a]]
def Fp{s h j:Nat}{z:Int}(a:(bits h)[j]?=some z):(ic s h).testBit j=s.testBit z.toNat:=by
 have g:(ic s h).testBit j=true↔s.testBit z.toNat=true:=by
  unfold ic;rw[lR (λz a=>(oT (bj h) z a).1),mF];constructor
  .rintro⟨i,y,b,c,e⟩;have:i=j:=()
   subst this;rw[a]at b;cases b;exact c
  .intro q;exact#[j,z,a,q,#[5]]
 cases d:(ic s h).testBit j<;>cases f:s.testBit z.toNat<;>simp_all
def Bm{b:List Int}{q:Int->Bool}:∀(i:Nat),idxs (λ_ z=>q z) i b=((List.range b.length).filter λj=>q (b.getD j 0)).map λ(j:Nat)=>((i+j:Nat):Int):=by
 induction b with
 |nil=>intro i;rfl
 |cons x r d=>
  intro i;rw[idxs,d (i+1),Pa,List.range_succ_eq_map,QD];have e:List.map (λ(j:Nat)=>((i+j:Nat):Int)) (List.filter (λj=>q ((x::r).getD j 0)) (List.map Nat.succ (List.range r.length)))=List.map (λ(j:Nat)=>((i+1+j:Nat):Int)) (List.filter (λj=>q (r.getD j 0)) (List.range r.length)):=by
   rw[RI,PJ];have c:((λj=>q ((x::r).getD j 0))∘Nat.succ)=λj=>q (r.getD j 0):=by funext j;simp
   rw[c];refine P4 λj _=> ?_;show((i+(j+1):Nat):Int)=_;rw[show i+(j+1)=i+1+j by lia]
  by_cases a:q x=true
  .rw[OP a,OP #[5,a],PF,e];rfl
  .rw[OO a,OO #[5,a],e]
def jY(f:List Int)(t:Int):List Int:=f++f.map λp=>((p.toNat|||2^t.toNat:Nat):Int)
def kh(n:Nat):List Int:=(bits n).foldl jY [0]
def fM(n:Nat)(k:Int):List Int:=(kh n).filter λp=>decide ((((bits p.toNat).length:Nat):Int)=k)
def Jf(n:Nat)(made:List (Int×Int))(k:Nat):List (Int×Int):=if n.testBit k=true then made++made.map λq=>(q.1+2^k,q.2+1)else made
def yP(n i:Nat):List (Int×Int):=(List.range i).foldl (Jf n) [(0,0)]
def oV(n:Nat):Bool:=decide ((yP n 8).map Prod.fst=kh n)&&(yP n 8).all (λq=>decide (0<=q.1/\q.1<256/\q.2=(((bits q.1.toNat).length:Nat):Int)))
def mZ:∀n:Nat,n<256->oV n=true:=#[9]
def AS(h:n<256):(yP n 8).map Prod.fst=kh n:=by have:=mZ n h;unfold oV at this;rw[Pc]at this;exact O9 this.1
def uI(h:n<256):∀q∈yP n 8,0<=q.1/\q.1<256/\q.2=(((bits q.1.toNat).length:Nat):Int):=λq a=>by have:=mZ n h;unfold oV at this;rw[Pc]at this;exact O9 (PR.mp this.2 q a)
def AR(h:n<256):∀p∈kh n,0<=p/\p<256:=λp a=>by rw[<-AS h]at a;obtain⟨q,b,rfl⟩:=OX.mp a;exact#[(uI h q b).1,(uI h q b).2.1]
def E1(f:List Int)(t:Int):(jY f t).length=2*f.length:=by unfold jY;rw[Pl,My];lia
def qZ:∀(ts:List Int)(f:List Int),(ts.foldl jY f).length=2^ts.length*f.length
 | [],f=>by simp
 |t::r,f=>by rw[QY,qZ r,E1,Pa,R7,Ua]
def Fw(n:Nat):(kh n).length<=256:=by unfold kh;rw[qZ];have:=bj n;have a:2^(bits n).length<=2^8:=Pr () this;simp;lia
def Hg(h:∀p∈f,0<=p):∀p∈jY f t,0<=p:=λp a=>by
 rcases Pg.mp a with q|q
 .exact h p q
 .obtain⟨x,_,rfl⟩:=OX.mp q;lia
def Br:∀(ts:List Int)(f:List Int),(∀p∈f,0<=p)->∀p∈ts.foldl jY f,0<=p
 | [],_,h=>h
 |t::r,f,h=>by rw[QY];exact Br r _ (Hg h)
def E2:∀n:Nat,n<256->(bits n).length=n % 2+(bits (n/2)).length:=#[9]
def oP(h:n<=8):2^n<=256:=Pr (n:=2) () h
abbrev sz(n:Nat):Nat:=(bits n).length
def ju(n:Nat):sz n=((List.range 8).filter n.testBit).length:=by show(bits n).length=_;unfold bits;rw[My]
def rh:∀(l:List Nat),(∀x∈l,p x=true->q x=true)->(l.filter p).length<=(l.filter q).length
 | [],_=>O4 _
 |x::l,h=>by
  have d:=rh l λy e=>h y (OZ _ e);have c:=h x O6;cases b:p x<;>cases a:q x
  .simp only[QD,b,a];exact d
  .simp only[QD,b,a,OP,Pa];exact Nat.le_succ_of_le d
  .rw[b]at c;rw[c rfl]at a;cases a
  .simp only[QD,b,a,OP,Pa];lia
def ri:∀(l:List Nat),(∀x∈l,p x=true->q x=true)->(l.filter p).length=(l.filter q).length->∀x∈l,p x=q x
 | [],_,_=>λx d=>by cases d
 |x::l,h,e=>λy c=>by
  have h':∀z∈l,p z=true->q z=true:=λz f=>h z (OZ _ f);have le:=rh l h';have d:=h x O6;cases b:p x<;>cases a:q x
  .simp only[QD,b,a]at e;rcases OT.mp c with rfl|c
   .rw[b,a]
   .exact ri l h' e y c
  .simp only[QD,b,a,OP,Pa]at e;have g:(l.filter p).length=(l.filter q).length+1:=e;lia
  .rw[b]at d;rw[d rfl]at a;cases a
  .simp only[QD,b,a,OP,Pa]at e;rcases OT.mp c with rfl|c
   .rw[b,a]
   .exact ri l h' () y c
def kR{a b:Nat}(h:∀k,k<8->a.testBit k=true->b.testBit k=true):sz a<=sz b:=by rw[ju,ju];exact rh _ λk c=>h k (OS.mp c)
def tF{a b:Nat}(d:a<256)(f:b<256)(h:∀k,k<8->a.testBit k=true->b.testBit k=true)(e:sz a=sz b):a=b:=by rw[ju,ju]at e;refine vd d f λk c=> ?_;rw[ri _ (λk c=>h k (OS.mp c)) e k (OS.mpr c)]
def EX(a b:Nat):sz (a&&&b)<=sz a:=kR λk _ h=>by rw[PD,Pc]at h;exact h.1
def cI(ms:List Int)(s:Nat):Nat:=ms.foldl (λr m=>max r (sz (s&&&m.toNat))) 0
def yq:∀(ms:List Int)(s r:Nat),r<=ms.foldl (λr (m:Int)=>max r (sz (s&&&m.toNat))) r/\(∀m∈ms,sz (s&&&m.toNat)<=ms.foldl (λr (m:Int)=>max r (sz (s&&&m.toNat))) r)/\
  (ms.foldl (λr (m:Int)=>max r (sz (s&&&m.toNat))) r=r\/∃m∈ms,sz (s&&&m.toNat)=ms.foldl (λr (m:Int)=>max r (sz (s&&&m.toNat))) r)
 | [],s,r=>#[O4 _,λm hm=>(by cases hm), .inl rfl]
 |x::ms,s,r=>by
  obtain⟨b,c,a⟩:=yq ms s (max r (sz (s&&&x.toNat)));rw[QY];refine#[OY (Nat.le_max_left _ _) b,λm hm=> ?_,6]
  .rcases OT.mp hm with rfl|hm
   .exact OY (Nat.le_max_right _ _) b
   .exact c m hm
  .rcases a with a|⟨m,hm,e⟩
   .rw[a];rcases Nat.le_total r (sz (s&&&x.toNat))with h|h
    .rw[Nat.max_eq_right h];exact .inr #[x,O6,2]
    .rw[Nat.max_eq_left h];exact .inl rfl
   .exact .inr #[m,OZ _ hm,e]
def pS{m:Int}(h:m∈ms):sz (s&&&m.toNat)<=cI ms s:=(yq ms s 0).2.1 m h
def DY(h:ms≠[]):∃m∈ms,sz (s&&&m.toNat)=cI ms s:=by
 rcases(yq ms s 0).2.2 with e|e
 .cases ms with
  |nil=>exact absurd rfl h
  |cons m r=>
   have:=pS (s:=s) (m:=m) (ms:=m::r) O6;have a:cI (m::r) s=0:=e;exact#[m,O6,9]
 .exact e
def yo(h:ms≠[])(a:∀m∈ms,sz (s&&&m.toNat)<=b):cI ms s<=b:=by obtain⟨m,c,e⟩:=DY (s:=s) h;rw[<-e];exact a m c
def rL(d:∃m∈ms,sz (s&&&m.toNat)=r)(f:∀m∈ms,sz (s&&&m.toNat)<=r):cI ms s=r:=by obtain⟨m,c,e⟩:=d;have a:=pS (s:=s) c;have b:=yo (s:=s) (ms:=ms) (by rintro rfl;cases c) f;lia
def Fi(ms:List Int)(s:Nat):cI ms s<=sz s:=by
 cases ms with
 |nil=>exact Qj _
 |cons m r=>exact yo #[5] λm _=>EX _ _
def cG{s k j:Nat}(a:s.testBit k=true):(s^^^2^k).testBit j=(s.testBit j&& !decide (k=j)):=by
 rw[Qe,O0];by_cases e:k=j
 .subst e;simp[a]
 .simp[e]
def gv:∀s:Nat,s<256->∀k:Nat,k<8->s.testBit k=true->s^^^2^k<s:=#[9]
def Fj{s:Nat}(f:ms≠[])(q:s<256)(p:∀m∈ms,¬(m.toNat&&&s=s)):
  (∃k,k<8/\s.testBit k=true/\cI ms (s^^^2^k)=cI ms s)/\∀k,s.testBit k=true->cI ms (s^^^2^k)<=cI ms s:=by
 have mono:∀k,s.testBit k=true->cI ms (s^^^2^k)<=cI ms s:=λk b=>yo f λm c=>by refine OY (kR λj _ a=> ?_) (pS c);rw[PD,cG b,Pc,Pc]at a;rw[PD,Pc];exact#[a.1.1,a.2]
 refine#[6,mono];obtain⟨m,c,e⟩:=DY (s:=s) f;have r:∃k,k<8/\s.testBit k=true/\m.toNat.testBit k=false:=by
  refine Pb λg=>p m c ?_;refine O2 λj=> ?_;rw[PD];cases a:s.testBit j with
  |false=>simp
  |true=>
   have i:j<8:=by refine Rj λh=> ?_;rw[PY (OW q (Pr () h:2^8<=2^j))]at a;cases a
   cases n:m.toNat.testBit j with
   |true=>rfl
   |false=>exact absurd #[j,i,a,n] g
 obtain⟨k,l,b,o⟩:=r;refine#[k,l,b,Qz (mono k b) ?_];rw[<-e];refine OY (kR λj _ a=> ?_) (pS c);rw[PD,Pc]at a;rw[PD,cG b,Pc,Pc];refine#[#[a.1,6],a.2];by_cases d:k=j
 .subst d;rw[o]at a;exact absurd a.2 Pf
 .simp[d]
def Ky{m:Int}(a:m∈ms)(h:m.toNat&&&s=s):cI ms s=sz s:=by refine Qz (Fi ms s) ?_;have:=pS (s:=s) a;rwa[Nat.and_comm,h]at this
def qQ:∀n:Nat,n<9->kh (2^n-1)=(List.range (2^n)).map λk:Nat=>(k:Int):=#[9]
def ie(a:List Int)(s i:Nat):Int:=(List.range i).foldl (λr k=>if s.testBit k=true then(if a.getD (s^^^2^k) 0>r then a.getD (s^^^2^k) 0 else r)else r) 0
def rQ(a:List Int)(s i:Nat):ie a s (i+1)=if s.testBit i=true then(if a.getD (s^^^2^i) 0>ie a s i then a.getD (s^^^2^i) 0 else ie a s i)else ie a s i:=by unfold ie;rw[QO,Q8];rfl
def rV(c:List Int)(s:Nat):∀i,0<=ie c s i/\(∀k,k<i->s.testBit k=true->c.getD (s^^^2^k) 0<=ie c s i)/\(ie c s i=0\/∃k,k<i/\s.testBit k=true/\ie c s i=c.getD (s^^^2^k) 0)
 |0=>#[Int.le_refl 0,λk f=>absurd f (), .inl rfl]
 |i+1=>by
  obtain⟨l,h,j⟩:=rV c s i;rw[rQ];have lift:ie c s i=0\/∃k,k<i+1/\s.testBit k=true/\ie c s i=c.getD (s^^^2^k) 0:=by
   rcases j with j|⟨k,f,a,b⟩
   .exact .inl j
   .exact .inr #[k,9,a,b]
  by_cases g:s.testBit i=true
  .rw[OP g];by_cases m:c.getD (s^^^2^i) 0>ie c s i
   .rw[OP m];refine#[9,λk f d=> ?_, .inr #[i,9,g,2]];by_cases e:k=i
    .subst e;exact Int.le_refl _
    .have:=h k () d;lia
   .rw[OO m];refine#[l,λk f d=> ?_,lift];by_cases e:k=i
    .subst e;lia
    .exact h k () d
  .rw[OO g];refine#[l,λk f d=> ?_,lift];by_cases e:k=i
   .subst e;exact absurd d g
   .exact h k () d
def aU{s n k:Nat}(b:s<2^n)(a:s.testBit k=true):k<n:=by refine Rj λh=> ?_;rw[PY (OW b (Pr () h))]at a;cases a
def Lc{d:List Int}(q:n<=8)(i:s<2^n)(r:ms≠[])(u:∀m∈ms,¬(m.toNat&&&s=s))(h:∀t,t<s->d.getD t 0=(cI ms t:Int)):ie d s n=(cI ms s:Int):=by
 have b:s<256:=OW i (oP q);obtain⟨⟨k,p,c,l⟩,le⟩:=Fj r b u;obtain⟨v,o,f⟩:=rV d s n;have a:=o k (aU i c) c;rw[h _ (gv s b k p c),l]at a;rcases f with f|⟨j,w,g,e⟩
 .lia
 .rw[h _ (gv s b j () g)]at e;have:=le j g;lia
def N9(h:∃m∈ms,m.toNat&&&s=s):(sz s:Int)=(cI ms s:Int):=by obtain⟨m,a,e⟩:=h;rw[Ky a e]
def Far(r:Int)(ps:List Int):Prop:=∀a∈ps,∀b∈ps,a≠b->(sz (a.toNat&&&b.toNat):Int)<=r-2
def Lp(r:Int):Far r []:=λa b=>by cases b
def JA{z:Int}(h:Far r ps)(e:∀a∈ps,¬((sz (a.toNat&&&z.toNat):Int)>r-2)):Far r (ps++[z]):=by
 intro a i b j ne;rcases Pg.mp i with c|c<;>rcases Pg.mp j with d|d
 .exact h a c b d ne
 .have:b=z:=#[5,d]
  subst this;have:=e a c;lia
 .have:a=z:=#[5,c]
  subst this;have:=e b d;rw[Nat.and_comm];lia
 .have f:a=z:=#[5,c]
  have g:b=z:=#[5,d]
  exact absurd (f.trans g.symm) ne
def GK:∀r:Nat,0<r->r<8->sz (2^r-1)=r/\sz (2^r-1-2^(r-1)+2^r)=r/\sz ((2^r-1)&&& (2^r-1-2^(r-1)+2^r))+1=r/\2^r-1≠2^r-1-2^(r-1)+2^r/\2^r-1-2^(r-1)+2^r<2^(r+1):=by
 intro r b a
 match r,b,a with
 |1,_,_=>decide+kernel
 |2,_,_=>decide+kernel
 |3,_,_=>decide+kernel
 |4,_,_=>decide+kernel
 |5,_,_=>decide+kernel
 |6,_,_=>decide+kernel
 |7,_,_=>decide+kernel
 |r+8,_,a=>lia
def Ck:∀r:Nat,r<9->sz (2^r-1)=r:=#[9]
def DB{n r:Nat}{ps:List Int}(p:n<=8)(i:r<=n)(h:ps=[]\/(0<r/\r<n/\Far r ps)):∃s,s<2^n/\sz s=r/\(s:Int)∉ps:=by
 have b:2^r-1<2^n:=by have m:2^r<=2^n:=Pr () i;have o:0<2^r:=QU ();lia
 rcases h with rfl|⟨j,q,g⟩
 .exact#[2^r-1,b,Ck r (),#[5]]
 .obtain⟨c,d,k,l,e⟩:=GK r j ();by_cases a:((2^r-1:Nat):Int)∈ps
  .refine#[2^r-1-2^(r-1)+2^r,OW e (Pr () ()),d,λf=> ?_];have:=g _ a _ f ();rw[OU,OU]at this;lia
  .exact#[2^r-1,b,c,a]
def o9(r:Nat)(ps:List Int)(s:Nat):Bool:=decide (sz s=r)&&decide ((s:Int)∉ps)
def dY(n r:Nat)(ps:List Int):List Int:=((List.range (2^n)).filter (o9 r ps)).map λs:Nat=>(s:Int)
def qU:z∈dY n r ps↔∃s:Nat,s<2^n/\sz s=r/\(s:Int)∉ps/\z=s:=by
 unfold dY;rw[OX];constructor
 .rintro⟨s,b,rfl⟩;rw[Pn,OS]at b;have a:=b.2;unfold o9 at a;rw[Pc,O3,O3]at a;exact#[s,b.1,a.1,a.2,2]
 .rintro⟨s,c,a,d,rfl⟩;refine#[s,Pn.mpr #[OS.mpr c,6],2];unfold o9;rw[OQ a,OQ d];rfl
def rN:∀x:Nat,x<256->∀k:Nat,k<8->(x|||2^k) - (x&&&2^k)=x^^^2^k/\(x&&&2^k)<=(x|||2^k):=#[9]
def r8:∀(n x y:Nat),x<=n->(x&&&y)+(x^^^ (x&&&y))=x:=by
 intro n
 induction n with
 |zero=>
  intro x y h;have:x=0:=()
  subst this;simp
 |succ n j=>
  intro x y h;by_cases g:x=0
  .subst g;simp
  have i:=j (x/2) (y/2) ();rw[<-Nat.and_div_two,<-Nat.xor_div_two]at i;have d:(x&&&y) % 2=1↔x % 2=1/\y % 2=1:=Nat.and_mod_two_eq_one;have e:(x^^^ (x&&&y)) % 2=1↔¬((x % 2=1)↔((x&&&y) % 2=1)):=Nat.xor_mod_two_eq_one;by_cases c:x % 2=1<;>by_cases f:y % 2=1
  .have a:=d.mpr #[c,f];have b:¬(x^^^ (x&&&y)) % 2=1:=λz=>(e.mp z) #[λ_=>a,λ_=>c];lia
  .have a:¬(x&&&y) % 2=1:=λz=>f (d.mp z).2;have b:=e.mpr λz=>a (z.mp c);lia
  .have a:¬(x&&&y) % 2=1:=λz=>c (d.mp z).1;have b:¬(x^^^ (x&&&y)) % 2=1:=λz=>(e.mp z) #[λq=>absurd q c,λq=>absurd q a];lia
  .have a:¬(x&&&y) % 2=1:=λz=>c (d.mp z).1;have b:¬(x^^^ (x&&&y)) % 2=1:=λz=>(e.mp z) #[λq=>absurd q c,λq=>absurd q a];lia
def ao(s t:Nat):Nat:=s^^^ (s&&&t)
def Ld(s t:Nat):(s||| (s&&&t)) - (s&&& (s&&&t))=ao s t:=by
 have h:=r8 s s t (O4 _);have a:s||| (s&&&t)=s:=O2 λj=>by rw[O7,PD];cases s.testBit j<;>simp
 have b:s&&& (s&&&t)=s&&&t:=O2 λj=>by rw[PD,PD];cases s.testBit j<;>simp
 rw[a,b];unfold ao;lia
def aG(s t j:Nat):(ao s t).testBit j=(s.testBit j&& !t.testBit j):=by unfold ao;rw[Qe,PD];cases s.testBit j<;>cases t.testBit j<;>rfl
def iK(s t:Nat):ao s t<=s:=by have:=r8 s s t (O4 _);unfold ao;lia
def fo:∀s:Nat,s<256->∀k:Nat,k<8->s.testBit k=true->sz (s^^^2^k)+1=sz s:=#[9]
def IA(s k j:Nat):(s|||2^k).testBit j=(s.testBit j||decide (k=j)):=by rw[O7,O0]
def qr(s t y:Nat):Nat:=ao s (2^t)|||2^y
def mrg(ms:List Int)(x y:Nat):List Int:=ms.map λm=>if m=ms.getD x 0 then ms.getD y 0 else m
def kW(ms:List Int)(x y:Nat):(mrg ms x y).length=ms.length:=My ..
def nR{ms:List Int}(a:z<ms.length):(mrg ms x y).getD z 0=if ms.getD z 0=ms.getD x 0 then ms.getD y 0 else ms.getD z 0:=by
 have e:ms.getD z 0=ms[z]:=by simp[a]
 have b:(mrg ms x y).getD z 0=(mrg ms x y)[z]'(by rw[kW];exact a):=by simp[kW,a]
 rw[b,e];unfold mrg;rw[TN]
structure Mks(p:Nat)(ts:List (Nat×Nat))(S:Nat->Prop)(ms:List Int):Prop where
 len:ms.length=p
 eq:∀k t,ts[k]?=some t->S k->ms.getD t.1 0=ms.getD t.2 0
 cl:∀P:Nat->Prop,(∀k t,ts[k]?=some t->S k->(P t.1↔P t.2))->∀x y,x<p->y<p->ms.getD x 0=ms.getD y 0->(P x↔P y)
def start(p:Nat):List Int:=(List.range p).map λi:Nat=>(i:Int)
def Mks.start(p:Nat)(ts:List (Nat×Nat)):Mks p ts (λ_=>False) (start p):=by
 refine#[by simp[Bh.start],λ_ _ _ h=>h.elim,λP _ x y b c e=> ?_];have ex:(Bh.start p).getD x 0=(x:Int):=by simp[Bh.start,b]
 have a:(Bh.start p).getD y 0=(y:Int):=by simp[Bh.start,c]
 rw[ex,a]at e;have:x=y:=()
 rw[this]
def Mks.step(h:Mks p ts S ms)(q:∀t∈ts,t.1<p/\t.2<p)(m:ts[k]?=some t):
  Mks p ts (λj=>S j\/j=k) (mrg ms t.1 t.2):=by
 have b:=q t (O5 m);refine#[by rw[kW];exact h.len,λj u d g=> ?_,λP o x y i l e=> ?_]
 .have n:=q u (O5 d);rw[nR (by rw[h.len];exact n.1),nR (by rw[h.len];exact n.2)];rcases g with g|rfl
  .rw[h.eq j u d g]
  .rw[m]at d;cases d;rw[OP rfl];split<;>rfl
 .have c:=h.cl P λj u d g=>o j u d (.inl g);have r:=o k t m (.inr rfl);rw[nR (by rw[h.len];exact i),nR (by rw[h.len];exact l)]at e;by_cases f:ms.getD x 0=ms.getD t.1 0
  .by_cases a:ms.getD y 0=ms.getD t.1 0
   .exact c x y i l (f.trans a.symm)
   .rw[OP f,OO a]at e;exact(c x t.1 i b.1 f).trans (r.trans (c t.2 y b.2 l e))
  .by_cases a:ms.getD y 0=ms.getD t.1 0
   .rw[OO f,OP a]at e;exact(c x t.2 i b.2 e).trans (r.symm.trans (c t.1 y b.1 l a.symm))
   .rw[OO f,OO a]at e;exact c x y i l e
def Mks.congr(h:Mks p ts S ms)(e:∀j t,ts[j]?=some t->(S j↔S' j)):Mks p ts S' ms:=
 #[h.len,λk t a b=>h.eq k t a ((e k t a).mpr b),λP c x y d f=>h.cl P (λk t a b=>c k t a ((e k t a).mp b)) x y d f]
def yO(p:Nat)(ts:List (Nat×Nat))(l:List Int):List Int:=l.foldl (λms k=>mrg ms (ts.getD k.toNat (0,0)).1 (ts.getD k.toNat (0,0)).2) (start p)
def wJ(p:Nat)(ts:List (Nat×Nat))(l:List Int)(k:Int):yO p ts (l++[k])=mrg (yO p ts l) (ts.getD k.toNat (0,0)).1 (ts.getD k.toNat (0,0)).2:=by unfold yO;rw[Q8];rfl
def mE(p:Nat)(ts:List (Nat×Nat)):∀l:List Int,(yO p ts l).length=p:=by
 intro l;unfold yO;have:∀(l:List Int)(ms:List Int),ms.length=p->(l.foldl (λms k=>mrg ms (ts.getD k.toNat (0,0)).1 (ts.getD k.toNat (0,0)).2) ms).length=p:=by
  intro l
  induction l with
  |nil=>intro ms h;exact h
  |cons k r a=>intro ms h;rw[QY];exact a _ (by rw[kW];exact h)
 exact this l _ (by simp[start])
def wI(p:Nat)(ts:List (Nat×Nat))(s:Nat):List Int:=yO p ts (bits s)
def oW(c:s<2^n){k:Int}(h:k∈bits s):0<=k/\k.toNat<n:=by obtain⟨j,d,a,rfl⟩:=cX.mp h;refine#[Qg _,6];rw[OU];refine Rj λb=> ?_;have:s.testBit j=false:=PY (OW c (Pr () b));rw[this]at a;cases a
def og(val:Nat->Int):Nat->Nat
 |0=>0
 |i+1=>if(List.range i).any (λj=>val j==val i)=true then og val i else og val i+1
def JS(h:∃j,j<i/\val j=val i):og val (i+1)=og val i:=by obtain⟨j,a,e⟩:=h;show(if _ then _ else _)=_;rw[OP];rw[Sd];exact#[j,OS.mpr a,by rw[e];simp]
def BE(h:¬∃j,j<i/\val j=val i):og val (i+1)=og val i+1:=by show(if _ then _ else _)=_;rw[OO];rw[Sd];rintro⟨j,a,e⟩;exact h #[j,OS.mp a,#[5,e]]
def pcs(p:Nat)(ts:List (Nat×Nat))(s:Nat):Nat:=og (λi=>(wI p ts s).getD i 0) p
def JP(i l:Nat):min i l+(l- (i+1))<=l:=()
def mn(l st:Nat):Nat:=if l^^^st<l then l^^^st else l
def uJ{x y i:Nat}(a:x.testBit i=false)(b:y.testBit i=true)(h:∀j,i<j->x.testBit j=y.testBit j):x<y:=by
 have e:x/2^(i+1)=y/2^(i+1):=O2 λj=>by rw[RS,RS];exact h _ ()
 rw[SW]at a b;have f:=Ss a;have g:=O9 b;rw[R7,<-Nat.div_div_eq_div_mul,<-Nat.div_div_eq_div_mul]at e;refine Rj λd=> ?_;have:=Nat.div_le_div_right (c:=2^i) d;lia
def uK{st:Nat}(h:0<st):st.testBit st.log2=true:=Nat.testBit_log2 ()
def xg{st j:Nat}(h:st.log2<j):st.testBit j=false:=
 PY (OW (Nat.lt_log2_self (n:=st)) (Pr () h))
def Ef{l st:Nat}(h:0<st):mn l st=if l.testBit st.log2=true then l^^^st else l:=by
 unfold mn;cases a:l.testBit st.log2 with
 |true=>
  rw[OP rfl,OP];refine uJ (i:=st.log2) ?_ a λj b=> ?_
  .rw[Qe,a,uK h];rfl
  .rw[Qe,xg b,SD]
 |false=>
  rw[OO Pf,OO];refine Nat.not_lt_of_le (S5 (uJ (i:=st.log2) a ?_ λj b=> ?_))
  .rw[Qe,a,uK h];rfl
  .rw[Qe,xg b,SD]
def Ow(u v w:Nat):(u^^^w)^^^ (v^^^w)=u^^^v:=by rw[RE v w,Qb,<-Qb w w v,Ra,Su]
def Na(h:0<st):mn (u^^^v) st=mn u st^^^mn v st:=by
 rw[Ef h,Ef h,Ef h,Qe];cases u.testBit st.log2<;>cases v.testBit st.log2
 .rfl
 .show(u^^^v)^^^st=u^^^ (v^^^st);rw[Qb]
 .show(u^^^v)^^^st=(u^^^st)^^^v;rw[Qb,RE v st,<-Qb]
 .show u^^^v=(u^^^st)^^^ (v^^^st);rw[Ow]
def Ee(st:Nat):mn 0 st=0:=by unfold mn;rw[OO ()]
def La(h:0<w):mn w w=0:=by rw[Ef h,uK h,OP rfl,Ra]
def red(ss:List Nat)(v:Nat):Nat:=ss.foldl mn v
def Ie(ss:List Nat)(w v:Nat):red (ss++[w]) v=mn (red ss v) w:=by unfold red;rw[Q8];rfl
def Ic(ss:List Nat):red ss 0=0:=by
 induction ss with
 |nil=>rfl
 |cons s r a=>show red r (mn 0 s)=0;rw[Ee];exact a
def DX(h:∀s∈ss,0<s)(u v:Nat):red ss (u^^^v)=red ss u^^^red ss v:=by
 induction ss generalizing u v with
 |nil=>rfl
 |cons s r b=>
  show red r (mn (u^^^v) s)=red r (mn u s)^^^red r (mn v s);rw[Na (h s O6),b λz a=>h z (OZ _ a)]
inductive di(vs:List Nat):Nat->Prop
 |zero:di vs 0
 |add {x v:Nat}:di vs x->v∈vs->di vs (x^^^v)
def di.of_mem(h:v∈vs):di vs v:=by
 have:=di.add di.zero h
 rwa [Su]at this
def di.xor(b:di vs x)(c:di vs y):di vs (x^^^y):=by
 induction c with
 |zero=>rw[RO];exact b
 |add _ a d=>rw[<-Qb];exact d.add a
def di.sub(h:∀v∈vs,di ws v)(b:di vs x):di ws x:=by
 induction b with
 |zero=>exact .zero
 |add _ a c=>exact c.xor (h _ a)
def di.snoc:di (vs++[w]) x↔di vs x\/di vs (x^^^w):=by
 constructor
 .intro h
  induction h with
  |zero=>exact .inl .zero
  | @add x v _ a b=>
   rcases Pg.mp a with a|a
   .rcases b with b|b
    .exact .inl (b.add a)
    .refine .inr ?_;rw[Qb,RE v w,<-Qb];exact b.add a
   .rw[Pu.mp a];rcases b with b|b
    .refine .inr ?_;rw[Qb,Ra,RO];exact b
    .exact .inl b
 .rintro(h|h)
  .exact h.sub λv a=> .of_mem (QW _ a)
  .have c:=(h.sub (ws:=vs++[w]) λv a=> .of_mem (QW _ a)).add (v:=w) (P9 _ (Pu.mpr rfl));rwa[Qb,Ra,RO]at c
def Cv(v:Nat):di ss (red ss v^^^v):=by
 have b:∀(r ss:List Nat)(u v:Nat),(∀s∈r,s∈ss)->di ss (u^^^v)->di ss (red r u^^^v):=by
  intro r
  induction r with
  |nil=>intro ss u v _ h;exact h
  |cons s r d=>
   intro ss u v a h;show di ss (red r (mn u s)^^^v);refine d ss _ v (λz c=>a z (OZ _ c)) ?_;unfold mn;split
   .rw[Qb,RE s v,<-Qb];exact h.add (a s O6)
   .exact h
 refine b ss ss v v (λ_ h=>h) ?_;rw[Ra];exact .zero
def stp(ss:List Nat)(v:Nat):List Nat:=if 0<red ss v then ss++[red ss v]else ss
def pk(vs:List Nat):List Nat:=vs.foldl stp []
def pj(vs:List Nat)(v:Nat):pk (vs++[v])=stp (pk vs) v:=by unfold pk;rw[Q8];rfl
structure Ech(vs ss:List Nat):Prop where
 pos:∀s∈ss,0<s
 kill:∀s∈ss,red ss s=0
 span:∀x,di ss x↔di vs x
def AL(b:∀s∈ss,0<s)(a:∀s∈ss,red ss s=0)(h:di ss x):red ss x=0:=by
 induction h with
 |zero=>exact Ic ss
 |add _ c d=>rw[DX b,d,a _ c];rfl
def Ech.red{vs ss:List Nat}(h:Ech vs ss)(v:Nat):red ss v=0↔di vs v:=by
 rw[<-h.span v];constructor
 .intro e;have:=Cv (ss:=ss) v;rwa[e,Su]at this
 .exact AL h.pos h.kill
def Ech.step(h:Ech vs ss)(v:Nat):Ech (vs++[v]) (stp ss v):=by
 unfold stp;by_cases c:0<Bh.red ss v
 .rw[OP c];have idem:Bh.red ss (Bh.red ss v)=Bh.red ss v:=by have e:=AL h.pos h.kill (Cv (ss:=ss) v);rw[DX h.pos]at e;have:=PN (· ^^^Bh.red ss v) e;simpa [Qb]using this
  refine#[λs a=> ?_,λs a=> ?_,λx=> ?_]
  .rcases Pg.mp a with a|a
   .exact h.pos s a
   .rw[Pu.mp a];exact c
  .rw[Ie];rcases Pg.mp a with a|a
   .rw[h.kill s a,Ee]
   .rw[Pu.mp a,idem,La c]
  .have f:=(h.span _).mp (Cv (ss:=ss) v);rw[di.snoc,di.snoc,h.span,h.span];have i:∀y,di vs (y^^^Bh.red ss v)↔di vs (y^^^v):=λy=>by
    constructor
    .intro d;have:=d.xor f;rwa[Qb,<-Qb (Bh.red ss v),Ra,Su]at this
    .intro d;have:=d.xor f;rwa[RE (Bh.red ss v) v,Qb,<-Qb v,Ra,Su]at this
   rw[i]
 .rw[OO c];have g:di vs v:=(h.red v).mp ();refine#[h.pos,h.kill,λx=> ?_];rw[h.span,di.snoc];constructor
  .exact λb=> .inl b
  .rintro(b|b)
   .exact b
   .have:=b.xor g;rwa[Qb,Ra,RO]at this
def wR(vs:List Nat):Ech vs (pk vs):=by
 have a:∀(r vs ss:List Nat),Ech vs ss->Ech (vs++r) (r.foldl stp ss):=by
  intro r
  induction r with
  |nil=>intro vs ss h;rw[Qx];exact h
  |cons v r b=>
   intro vs ss h;have:=b _ _ (h.step v);rwa[QI]at this
 exact a vs [] [] #[#[5],#[5],λx=>Iff.rfl]
def rkX(vs:List Nat):Nat:=(pk vs).length
def qM(h:di vs v):rkX (vs++[v])=rkX vs:=by unfold rkX;rw[pj,stp,OO];have:=((wR vs).red v).mpr h;lia
def kU(h:¬di vs v):rkX (vs++[v])=rkX vs+1:=by
 unfold rkX;rw[pj,stp,OP]
 .rw[Pl];rfl
 .refine Sv λe=>h (((wR vs).red v).mp e)
def jw(vs:List Nat):List Nat:=vs.foldl (λa v=>if v∈a then a else a++a.map (· ^^^v)) [0]
def tO(vs:List Nat)(v:Nat):jw (vs++[v])=if v∈jw vs then jw vs else jw vs++(jw vs).map (· ^^^v):=by unfold jw;rw[Q8];rfl
def pQ{b:Type}{P:List b->Prop}(c:P [])(d:∀l a,P l->P (l++[a])):∀l,P l:=by
 have:∀l:List b,P l.reverse:=by
  intro l
  induction l with
  |nil=>exact c
  |cons a r e=>rw[TC];exact d _ _ e
 intro l;have:=this l.reverse
 rwa [List.reverse_reverse]at this
def jo(vs:List Nat):∀x,x∈jw vs↔di vs x:=by
 refine pQ (P:=λvs=>∀x,x∈jw vs↔di vs x) ?_ ?_ vs
 .intro x;constructor
  .intro h;rw[Pu.mp h];exact .zero
  .intro h;cases h with
   |zero=>exact Pu.mpr rfl
   |add _ a=>cases a
 .intro vs v b x;rw[tO,di.snoc];by_cases a:v∈jw vs
  .rw[OP a,b x];have c:=(b v).mp a;constructor
   .exact λh=> .inl h
   .rintro(h|h)
    .exact h
    .have:=h.xor c;rwa[Qb,Ra,RO]at this
  .rw[OO a,Pg,b x,OX];constructor
   .rintro(h|⟨y,d,rfl⟩)
    .exact .inl h
    .refine .inr ?_;rw[Qb,Ra,RO];exact(b y).mp d
   .rintro(h|h)
    .exact .inl h
    .refine .inr #[x^^^v,(b _).mpr h,6];rw[Qb,Ra,RO]
def rP(vs:List Nat):(jw vs).Nodup/\(jw vs).length=2^rkX vs:=by
 refine pQ (P:=λvs=>(jw vs).Nodup/\(jw vs).length=2^rkX vs) #[by simp[jw],2] ?_ vs;rintro vs v ⟨d,f⟩;rw[tO];by_cases c:v∈jw vs
 .rw[OP c,qM ((jo vs v).mp c)];exact#[d,f]
 .have g:¬di vs v:=λh=>c ((jo vs v).mpr h);rw[OO c,kU g,Pl,My,f,R7,Nat.mul_two];refine#[Rn.mpr #[d,66],2]
  .rw[List.Nodup,SJ];refine d.imp λ{a b} j e=>j ?_;have:=PN (· ^^^v) e;simpa [Qb]using this
  .intro a i b k e;obtain⟨y,l,rfl⟩:=OX.mp k;subst e;have:=((jo vs _).mp i).xor ((jo vs _).mp l);rw[RE y v,Qb,Ra,RO]at this;exact g this
def dW:∀ {a b:List Nat},a.Nodup->(∀x∈a,x∈b)->a.length<=b.length
 | [],_,_,_=>Qj _
 |x::r,b,d,h=>by have f:=h x O6;rw[PX]at d;have g:=dW (a:=r) (b:=b.erase x) d.2 λy c=>(List.mem_erase_of_ne (λe=>by rw[e]at c;exact d.1 c)).mpr (h y (OZ _ c));rw[RP f]at g;have:0<b.length:=RD f;rw[Pa];lia
def Il(h:2^a<=2^b):a<=b:=(Nat.pow_le_pow_iff_right ()).mp h
def HP(h:∀v∈vs,di ws v):rkX vs<=rkX ws:=by have a:=rP vs;have b:=rP ws;have:=dW a.1 λx c=>(jo ws x).mpr (((jo vs x).mp c).sub h);rw[a.2,b.2]at this;exact Il this
def Ku(vs:List Nat):rkX vs<=vs.length:=by
 refine pQ (P:=λvs=>rkX vs<=vs.length) (O4 _) (λvs v a=> ?_) vs;rw[Pl];show _<=vs.length+1;by_cases h:di vs v
 .rw[qM h];lia
 .rw[kU h];lia
def par(p:Nat)(ms:List Int)(c:Int)(z:Nat):Bool:=(List.range p).foldl (λb i=>b^^ (z.testBit i&&decide (ms.getD i 0=c))) false
def MU(ms:List Int)(c:Int):∀(l:List Nat)(z w:Nat)(a b:Bool),
  l.foldl (λb i=>b^^ ((z^^^w).testBit i&&decide (ms.getD i 0=c))) (a^^b)=(l.foldl (λb i=>b^^ (z.testBit i&&decide (ms.getD i 0=c))) a^^l.foldl (λb i=>b^^ (w.testBit i&&decide (ms.getD i 0=c))) b):=by
 intro l
 induction l with
 |nil=>intros;rfl
 |cons i r d=>
  intro z w a b;rw[QY,QY,QY,<-d,Qe];congr 1;cases a<;>cases b<;>cases z.testBit i<;>cases w.testBit i<;>cases decide (ms.getD i 0=c)<;>rfl
def yu(p:Nat)(ms:List Int)(c:Int)(z w:Nat):par p ms c (z^^^w)=(par p ms c z^^par p ms c w):=MU ms c (List.range p) z w false false
def Ir(p:Nat)(ms:List Int)(c:Int):par p ms c 0=false:=by
 unfold par
 induction (List.range p)with
 |nil=>rfl
 |cons i r a=>rw[QY,Pw];exact a
def sO(ms:List Int)(c:Int)(g:x<p):par p ms c (2^x)=decide (ms.getD x 0=c):=by
 unfold par;have a:∀n,(List.range n).foldl (λb i=>b^^ ((2^x).testBit i&&decide (ms.getD i 0=c))) false=(decide (x<n)&&decide (ms.getD x 0=c)):=by
  intro n
  induction n with
  |zero=>rfl
  |succ n j=>
   rw[QO,Q8,j];show((decide (x<n)&&decide (ms.getD x 0=c))^^ ((2^x).testBit n&&decide (ms.getD n 0=c)))=_;rw[O0];by_cases e:x=n
   .subst e;simp
   .have d:decide (x=n)=false:=OR e;have f:decide (x<n+1)=decide (x<n):=by
     by_cases h:x<n
     .rw[OQ h,OQ ()]
     .rw[OR h,OR ()]
    rw[d,f];simp
 rw[a,OQ g,P7]
def cR(t:Nat×Nat):Nat:=2^t.1^^^2^t.2
def rY{ts:List (Nat×Nat)}{ms:List Int}(h:Mks p ts (λ_=>True) ms)(q:∀t∈ts,t.1<p/\t.2<p)(n:x<p)(o:y<p):di (ts.map cR) (2^x^^^2^y)↔ms.getD x 0=ms.getD y 0:=by
 constructor
 .intro r;have g:∀c z,di (ts.map cR) z->par p ms c z=false:=by
   intro c z g
   induction g with
   |zero=>exact Ir p ms c
   |add _ s u=>
    obtain⟨t,m,rfl⟩:=OX.mp s;obtain⟨k,f⟩:=P2 m;have e:=h.eq k t f trivial;have i:=q t m;rw[yu,u,cR,yu,sO ms c i.1,sO ms c i.2,e];simp
  have d:=g (ms.getD x 0) _ r;rw[yu,sO _ _ n,sO _ _ o,OQ rfl]at d;have:decide (ms.getD y 0=ms.getD x 0)=true:=#[5,d]
  exact(O9 this).symm
 .intro e;have:=h.cl (λz=>di (ts.map cR) (2^x^^^2^z)) (λk t f _=> ?_) x y n o e
  .refine this.mp ?_;rw[Ra];exact .zero
  .have l:cR t∈ts.map cR:=OX.mpr #[t,O5 f,2];have j:∀a b c:Nat,a^^^b^^^ (b^^^c)=a^^^c:=λa b c=>by rw[Qb,<-Qb b b c,Ra,Su]
   constructor
   .intro d;have:=d.add l;rwa[cR,j]at this
   .intro d;have:=d.add l;rwa[cR,RE (2^t.1),j]at this
def jP:∀ {a b:List Int},a.Nodup->(∀x∈a,x∈b)->a.length<=b.length
 | [],_,_,_=>Qj _
 |x::r,b,d,h=>by have f:=h x O6;rw[PX]at d;have g:=jP (a:=r) (b:=b.erase x) d.2 λy c=>(List.mem_erase_of_ne (λe=>by rw[e]at c;exact d.1 c)).mpr (h y (OZ _ c));rw[RP f]at g;have:0<b.length:=RD f;rw[Pa];lia
def rp(val:Nat->Int):∀p,∃L:List Int,L.Nodup/\(∀v,v∈L↔∃i,i<p/\val i=v)/\L.length=og val p
 |0=>#[[],#[5],λv=>#[5],2]
 |p+1=>by
  obtain⟨L,l,g,hl⟩:=rp val p;by_cases h:∃j,j<p/\val j=val p
  .refine#[L,l,λv=> ?_,by rw[JS h];exact hl];rw[g v];obtain⟨j,n,e⟩:=h;constructor
   .rintro⟨i,d,c⟩;exact#[i,9,c]
   .rintro⟨i,d,c⟩;by_cases f:i=p
    .subst f;exact#[j,n,e.trans c]
    .exact#[i,9,c]
  .refine#[L++[val p],6,λv=> ?_,by rw[BE h,Pl,hl];rfl]
   .rw[Rn];refine#[l,#[5],λa k b m e=> ?_];rw[Pu.mp m]at e;rw[e]at k;exact h ((g _).mp k)
   .rw[Pg,g v,Pu];constructor
    .rintro(⟨i,d,e⟩|e)
     .exact#[i,9,e]
     .exact#[p,9,e.symm]
    .rintro⟨i,d,e⟩;by_cases f:i=p
     .subst f;exact .inr e.symm
     .exact .inl #[i,9,e]
def Gm{ms:List Int}(hl:ms.length=p)(r:x<p)(s:y<p)(q:¬ms.getD x 0=ms.getD y 0):og (λi=>(mrg ms x y).getD i 0) p+1=og (λi=>ms.getD i 0) p:=by
 obtain⟨L,h,d,u⟩:=rp (λi=>ms.getD i 0) p;obtain⟨j,t,o,w⟩:=rp (λi=>(mrg ms x y).getD i 0) p;have f:ms.getD x 0∈L:=(d _).mpr #[x,r,2];have g:∀v,v∈j↔v∈L.erase (ms.getD x 0):=by
  intro v;rw[h.mem_erase_iff,o v,d v];constructor
  .rintro⟨i,b,e⟩;have a:(mrg ms x y).getD i 0=v:=e;rw[nR (by rw[hl];exact b)]at a;split at a
   .rw[<-a];exact#[λk=>q k.symm,y,s,2]
   .rename_i n;rw[<-a];exact#[n,i,b,2]
  .rintro⟨c,i,b,e⟩;refine#[i,b,6];show(mrg ms x y).getD i 0=v;have a:ms.getD i 0=v:=e;rw[nR (by rw[hl];exact b),OO (by rw[a];exact c)];exact a
 have l:=jP t λv c=>(g v).mp c;have m:=jP (h.erase _) λv c=>(g v).mpr c;rw[RP f]at l m;have:0<L.length:=RD f;lia
def IX{ms:List Int}(hl:ms.length=p)(e:ms.getD x 0=ms.getD y 0):mrg ms x y=ms:=by
 unfold mrg;rw[<-e]
 conv=>rhs;rw[<-Ru ms]
 refine P4 λm _=> ?_;show(if m=_ then _ else m)=m;split
 .rename_i h;exact h.symm
 .rfl
def mkA(p:Nat)(ts:List (Nat×Nat)):List Int:=ts.foldl (λms t=>mrg ms t.1 t.2) (start p)
def A8(p:Nat)(ts:List (Nat×Nat))(t:Nat×Nat):mkA p (ts++[t])=mrg (mkA p ts) t.1 t.2:=by unfold mkA;rw[Q8];rfl
def I0(ts:List (Nat×Nat))(a:∀t∈ts,t.1<p/\t.2<p):Mks p ts (λ_=>True) (mkA p ts):=by
 revert a
 refine pQ (P:=λts=>(∀t∈ts,t.1<p/\t.2<p)->Mks p ts (λ_=>True) (mkA p ts)) ?_ ?_ ts
 .intro _;exact#[by simp[mkA,start],λk t b=>by simp at b,λP _=>(Mks.start p []).cl P λk t b=>by simp at b]
 .intro ts t l a;have h:=l λu i=>a u (QW _ i);have m:=a t (P9 _ (Pu.mpr rfl));rw[A8];have b:(ts++[t])[ts.length]?=some t:=#[5]
  have h':Mks p (ts++[t]) (λj=>j<ts.length) (mkA p ts):=by refine#[h.len,λk u c g=>h.eq k u (by rwa[PL g]at c) trivial,λP e=>h.cl P λk u c _=> ?_];have d:k<ts.length:=(O1.mp c).1;exact e k u (by rw[PL d];exact c) d
  refine(h'.step a b).congr λj u f=> ?_;have:=(O1.mp f).1;rw[Pl]at this;have:j<ts.length+1:=this;constructor
  .intro _;trivial
  .intro _;lia
def Gk(p:Nat):og (λi=>(start p).getD i 0) p=p:=by
 have d:∀n,n<=p->og (λi=>(start p).getD i 0) n=n:=by
  intro n
  induction n with
  |zero=>intro _;rfl
  |succ n f=>
   intro h;rw[BE,f ()];rintro⟨j,g,e⟩;have a:(start p).getD j 0=(start p).getD n 0:=e;have b:(start p).getD j 0=(j:Int):=by
    have:j<p:=()
    simp[start,this]
   have c:(start p).getD n 0=(n:Int):=by
    have:n<p:=()
    simp[start,this]
   rw[b,c]at a;lia
 exact d p (O4 _)
def IQ(ts:List (Nat×Nat))(a:∀t∈ts,t.1<p/\t.2<p):og (λi=>(mkA p ts).getD i 0) p+rkX (ts.map cR)=p:=by
 revert a
 refine pQ (P:=λts=>(∀t∈ts,t.1<p/\t.2<p)->og (λi=>(mkA p ts).getD i 0) p+rkX (ts.map cR)=p) ?_ ?_ ts
 .intro _;exact Gk p
 .intro ts t j a;have d:∀u∈ts,u.1<p/\u.2<p:=λu g=>a u (QW _ g);have h:=j d;have c:=I0 ts d;have b:=a t (P9 _ (Pu.mpr rfl));have f:di (ts.map cR) (cR t)↔_:=rY c d b.1 b.2;rw[A8,PC];show _+rkX (ts.map cR++[cR t])=p;by_cases e:(mkA p ts).getD t.1 0=(mkA p ts).getD t.2 0
  .rw[IX c.len e,qM (f.mpr e)];exact h
  .rw[kU λz=>e (f.mp z)];have:=Gm c.len b.1 b.2 e;lia
structure Mat(n:Nat)(r:Nat->Nat):Prop where
 n8:n<=8
 zero:r 0=0
 step:∀s k,s<2^n->k<n->r s<=r (s|||2^k)/\r (s|||2^k)<=r s+1
 sub:∀s j k,s<2^n->j<n->k<n->r (s|||2^j)=r s->r (s|||2^k)=r s->r (s|||2^j|||2^k)=r s
def Sub(a b:Nat):Prop:=∀k,a.testBit k=true->b.testBit k=true
def Sub.refl(a:Nat):Sub a a:=λ_ h=>h
def Sub.trans(h:Sub a b)(g:Sub b c):Sub a c:=λk d=>g k (h k d)
def Sub.lt(h:Sub a b)(c:b<2^n):a<2^n:=Q7 _ λi d=>by
 cases e:a.testBit i with
 |false=>rfl
 |true=>
  have:=h i e;rw[PY (OW c (Pr () d))]at this;cases this
def aP(b:s<2^n)(a:k<n):s|||2^k<2^n:=PV b (QZ () a)
def aW(s k j:Nat):(s|||2^k).testBit j=(s.testBit j||decide (k=j)):=by rw[O7,O0]
def fH{s k:Nat}(h:s.testBit k=true):s|||2^k=s:=O2 λj=>by
 rw[aW];by_cases e:k=j
 .subst e;rw[h];rfl
 .rw[OR e,QQ]
def upto(s t:Nat):Nat->Nat
 |0=>s
 |i+1=>if t.testBit i=true then upto s t i|||2^i else upto s t i
def iw(s t i:Nat):upto s t (i+1)=if t.testBit i=true then upto s t i|||2^i else upto s t i:=rfl
def lI(s t j:Nat):∀i,(upto s t i).testBit j=(s.testBit j||(decide (j<i)&&t.testBit j))
 |0=>by simp[upto]
 |i+1=>by
  rw[iw];by_cases a:t.testBit i=true
  .rw[OP a,aW,lI s t j i];by_cases e:i=j
   .subst e;simp[a]
   .have b:decide (j<i+1)=decide (j<i):=by
     by_cases h:j<i
     .rw[OQ h,OQ ()]
     .rw[OR h,OR ()]
    rw[OR e,b,QQ]
  .rw[OO a,lI s t j i];by_cases e:i=j
   .subst e;simp[a]
   .have b:decide (j<i+1)=decide (j<i):=by
     by_cases h:j<i
     .rw[OQ h,OQ ()]
     .rw[OR h,OR ()]
    rw[b]
def lJ(a:t<2^n):upto s t n=s|||t:=O2 λj=>by
 rw[lI,O7];by_cases h:j<n
 .rw[OQ h,P7]
 .rw[PY (OW a (Pr () ())),Qc]
def kO(a:s<2^n):∀i,i<=n->upto s t i<2^n
 |0,_=>a
 |i+1,b=>by
  rw[iw];split
  .exact aP (kO a i ()) ()
  .exact kO a i ()
def yz(h:Sub s t):s|||t=t:=O2 λj=>by
 rw[O7];cases e:s.testBit j with
 |false=>rfl
 |true=>rw[h j e];rfl
namespace Mat
variable{n:Nat}{r:Nat->Nat}(M:Mat n r)
include M
theorem mono(h:Sub s t)(a:t<2^n):r s<=r t:=by
 have d:=h.lt a;have c:∀i,i<=n->r s<=r (upto s t i):=by
  intro i
  induction i with
  |zero=>intro _;exact O4 _
  |succ i b=>
   intro e;rw[iw];split
   .exact OY (b ()) (M.step _ i (kO d i ()) ()).1
   .exact b ()
 have:=c n (O4 _);rwa[lJ a,yz h]at this
theorem keep(h:Sub s t)(c:t<2^n)(b:k<n)(e:r (s|||2^k)=r s):r (t|||2^k)=r t:=by
 have j:=h.lt c;have g:∀i,i<=n->r (upto s t i|||2^k)=r (upto s t i):=by
  intro i
  induction i with
  |zero=>intro _;exact e
  |succ i a=>
   intro m;have a:=a ();rw[iw];split
   .have hl:=kO (t:=t) j i ();generalize upto s t i=u at*;have o:=M.step u i hl ();have p:=M.step (u|||2^i) k (aP hl ()) b;have l:=M.step (u|||2^k) i (aP hl b) ();have f:u|||2^k|||2^i=u|||2^i|||2^k:=by rw[Q0,RZ (2^k),<-Q0]
    rw[f]at l;by_cases d:r (u|||2^i)=r u
    .have:=M.sub u i k hl () b d a;lia
    .lia
   .exact a
 have:=g n (O4 _);rwa[lJ c,yz h]at this
theorem closed{s t:Nat}(e:s<2^n)(g:t<2^n)(h:∀k,t.testBit k=true->r (s|||2^k)=r s):r (s|||t)=r s:=by
 have b:∀i,i<=n->r (upto s t i)=r s:=by
  intro i
  induction i with
  |zero=>intro _;rfl
  |succ i a=>
   intro l;have a:=a ();rw[iw];split
   .rename_i c;have f:Sub s (upto s t i):=λj d=>by rw[lI,d];rfl
    rw[M.keep f (kO e i ()) () (h i c)];exact a
   .exact a
 have:=b n (O4 _)
 rwa [lJ g]at this
end Mat
def grow(r:Nat->Nat)(s t:Nat):Nat->Nat
 |0=>s
 |i+1=>if t.testBit i=true/\r (grow r s t i)<r (grow r s t i|||2^i)then grow r s t i|||2^i else grow r s t i
def Ga(r:Nat->Nat)(s t i:Nat):grow r s t (i+1)=if t.testBit i=true/\r (grow r s t i)<r (grow r s t i|||2^i)then grow r s t i|||2^i else grow r s t i:=rfl
def fh:∀s:Nat,s<256->∀k:Nat,k<8->s.testBit k=false->sz (s|||2^k)=sz s+1:=#[9]
def LZ(h:n<=8):2^n<=256:=Pr (n:=2) () h
namespace Mat
variable{n:Nat}{r:Nat->Nat}(M:Mat n r)
include M
theorem aX(a:s<2^n):s<256:=OW a (LZ M.n8)
theorem jQ:∀s,s<2^n->r s<=sz s:=by
 intro s d;have b:∀i,i<=n->r (upto 0 s i)<=sz (upto 0 s i):=by
  intro i
  induction i with
  |zero=>intro _;show r 0<=_;rw[M.zero];exact Qj _
  |succ i a=>
   intro e;have a:=a ();rw[iw];have hl:upto 0 s i<2^n:=kO (QU ()) i ();split
   .have c:(upto 0 s i).testBit i=false:=by rw[lI];simp
    rw[fh _ (M.aX hl) i (by have:=M.n8;lia) c];have:=(M.step _ i hl ()).2;lia
   .exact a
 have:=b n (O4 _);rwa[lJ d,R0]at this
theorem C3{s t:Nat}(v:Sub s t)(w:t<2^n)(q:r s=sz s):∀i,i<=n->Sub s (grow r s t i)/\Sub (grow r s t i) t/\r (grow r s t i)=sz (grow r s t i)/\
  ∀k,k<i->t.testBit k=true->r (grow r s t i|||2^k)=r (grow r s t i):=by
 intro i
 induction i with
 |zero=>intro _;exact#[Sub.refl _,v,q,λk f=>absurd f (RW _)]
 |succ i x=>
  intro y;obtain⟨h,d,o,l⟩:=x ();rw[Ga];have hl:=d.lt w;generalize grow r s t i=g at*;have A:=M.n8;by_cases c:t.testBit i=true/\r g<r (g|||2^i)
  .rw[OP c];have p:g.testBit i=false:=by
    cases e:g.testBit i with
    |false=>rfl
    |true=>rw[fH e]at c;exact absurd c.2 (QN _)
   have st:=M.step g i hl ();have u:=aP (k:=i) hl ();have m:Sub g (g|||2^i):=λj a=>by rw[aW,a];rfl
   refine#[h.trans m,λj a=> ?_,6,λk f b=> ?_]
   .rw[aW]at a;by_cases e:i=j
    .subst e;exact c.1
    .rw[OR e,QQ]at a;exact d j a
   .rw[fh g (M.aX hl) i () p];lia
   .by_cases e:k=i
    .subst e;rw[fH];rw[aW];simp
    .exact M.keep m u () (l k () b)
  .rw[OO c];refine#[h,d,o,λk f b=> ?_];by_cases e:k=i
   .subst e;have st:=M.step g k hl ();have:¬r g<r (g|||2^k):=λz=>c #[b,z];lia
   .exact l k () b
theorem extend(j:Sub s t)(a:t<2^n)(h:r s=sz s):∃g,Sub s g/\Sub g t/\r g=sz g/\r g=r t:=by
 obtain⟨d,b,e,f⟩:=M.C3 j a h n (O4 _);refine#[grow r s t n,d,b,e,6];have hl:=b.lt a;have:=M.closed hl a λk c=>f k (by
  refine Rj λi=> ?_;rw[PY (OW a (Pr () i))]at c;cases c) c
 rw[yz b]at this;exact this.symm
end Mat
end Bh
namespace Bh
def EZ(a b:Nat):Sub (a&&&b) a:=λk h=>by rw[PD,Pc]at h;exact h.1
def EY(a b:Nat):Sub (a&&&b) b:=λk h=>by rw[PD,Pc]at h;exact h.2
def ph(h:Sub a b)(g:Sub a c):Sub a (b&&&c):=λk d=>by rw[PD,h k d,g k d];rfl
def bO(b:s<2^n):Sub s (2^n-1):=λk a=>by rw[Pq];refine OQ (Rj λh=> ?_);rw[PY (OW b (Pr () h))]at a;cases a
def aJ(n:Nat):2^n-1<2^n:=by have:0<2^n:=QU ();lia
def dh:sz 0=0:=∅
namespace Mat
variable{n:Nat}{r:Nat->Nat}(M:Mat n r)
include M
theorem yW(h:Sub x b)(c:b<2^n):r b+sz x<=r x+sz b:=by
 have f:=h.lt c;have d:∀i,i<=n->r (upto x b i)+sz x<=r x+sz (upto x b i):=by
  intro i
  induction i with
  |zero=>intro _;exact O4 _
  |succ i a=>
   intro g;have a:=a ();rw[iw];have hl:=kO (t:=b) f i ();split
   .generalize upto x b i=u at*;cases e:u.testBit i with
    |true=>rw[fH e];exact a
    |false=>
     rw[fh u (M.aX hl) i (by have:=M.n8;lia) e];have:=(M.step u i hl ()).2;lia
   .exact a
 have:=d n (O4 _);rwa[lJ c,yz h]at this
theorem jR(h:Sub x b)(a:b<2^n)(e:r b=sz b):r x=sz x:=by have c:=M.yW h a;have d:=M.jQ x (h.lt a);lia
theorem qu(f:∀z,z∈ms↔∃b:Nat,b<2^n/\z=(b:Int)/\r b=sz b/\r b=r (2^n-1))(a:s<2^n):cI ms s=r s:=by
 obtain⟨g,_,e,x,H⟩:=M.extend (s:=0) (t:=s) (λk h=>by rw[Pw]at h;cases h) a (by rw[M.zero,dh]);obtain⟨b,w,p,d,q⟩:=M.extend (t:=2^n-1) (bO (e.lt a)) (aJ n) x;have c:b<2^n:=p.lt (aJ n);have i:∀b:Nat,b<2^n->r b=sz b->sz (s&&&b)<=r s:=λb l u=>by rw[<-M.jR (EY s b) l u];exact M.mono (EZ s b) a
 refine rL #[(b:Int),(f _).mpr #[b,c,2,d,q],6] λm A=> ?_
 .rw[OU];have B:=i b c d;have G:sz g<=sz (s&&&b):=kR λk _ y=>ph e w k y;lia
 .obtain⟨j,o,rfl,v,_⟩:=(f m).mp A;rw[OU];exact i j o v
end Mat
def av(a:List Nat)(s:Nat):List Nat:=(bits s).map λz:Int=>a.getD z.toNat 0
def gC{c:List Nat}{s v:Nat}:v∈av c s↔∃k,k<8/\s.testBit k=true/\v=c.getD k 0:=by
 unfold av;rw[OX];constructor
 .rintro⟨z,d,rfl⟩;obtain⟨k,b,a,rfl⟩:=cX.mp d;exact#[k,b,a,by rw[OU]]
 .rintro⟨k,b,a,rfl⟩;exact#[(k:Int),cX.mpr #[k,b,a,2],by rw[OU]]
def rkC(a:List Nat)(s:Nat):Nat:=rkX (av a s)
def yk(c:List Nat)(f:k<8):rkC c (s|||2^k)=rkX (av c s++[c.getD k 0]):=by
 refine Qz (HP λv a=> ?_) (HP λv a=> ?_)
 .obtain⟨j,d,b,rfl⟩:=gC.mp a;rw[aW]at b;by_cases e:k=j
  .subst e;exact .of_mem (P9 _ (Pu.mpr rfl))
  .rw[OR e,QQ]at b;exact .of_mem (QW _ (gC.mpr #[j,d,b,2]))
 .rcases Pg.mp a with a|a
  .obtain⟨j,d,b,rfl⟩:=gC.mp a;exact .of_mem (gC.mpr #[j,d,by rw[aW,b];rfl,2])
  .rw[Pu.mp a];exact .of_mem (gC.mpr #[k,f,by rw[aW];simp,2])
def qi(a:List Nat)(e:n<=8):Mat n (rkC a):=by
 refine#[e,6,λs k m l=> ?_,λs j k m p l b c=> ?_]
 .show rkX (av a 0)=0;have:bits 0=[]:=∅
  have:av a 0=[]:=by unfold av;rw[this];rfl
  rw[this];rfl
 .rw[yk a ()];show rkX _<=_/\_<=rkX _+1;by_cases h:di (av a s) (a.getD k 0)
  .rw[qM h];lia
  .rw[kU h];lia
 .rw[yk a ()]at b c⊢;have q:di (av a s) (a.getD j 0):=by refine Pb λh=> ?_;rw[kU h]at b;have:rkX (av a s)+1=rkX (av a s):=b;lia
  have o:di (av a s) (a.getD k 0):=by refine Pb λh=> ?_;rw[kU h]at c;have:rkX (av a s)+1=rkX (av a s):=c;lia
  have sub:∀v∈av a s,v∈av a (s|||2^j):=λv d=>by obtain⟨i,g,f,rfl⟩:=gC.mp d;exact gC.mpr #[i,g,by rw[aW,f];rfl,2]
  rw[qM (o.sub λv d=> .of_mem (sub v d))];show rkC a (s|||2^j)=_;rw[yk a ()];exact b
def rkG(m:Nat)(gone:List Int)(s:Nat):Nat:=min (sz s) m- (if(s:Int)∈gone then 1 else 0)
structure vC(n m:Nat)(gone:List Int):Prop where
 size:∀z∈gone,∃s:Nat,s<2^n/\z=(s:Int)/\sz s=m
 far:Far (m:Int) gone
 mid:gone=[]\/(0<m/\m<n)
def vC.not(h:vC n m gone)(a:¬sz s=m):¬(s:Int)∈gone:=λb=>by
 obtain⟨t,_,e,c⟩:=h.size _ b;have:s=t:=()
 rw[this]at a;exact a c
def Ds{s j k:Nat}(c:s.testBit j=false)(e:s.testBit k=false)(d:j≠k):(s|||2^j)&&& (s|||2^k)=s:=O2 λi=>by
 rw[PD,aW,aW];by_cases a:j=i
 .subst a;rw[c,OR (Pk d)];simp
 .by_cases b:k=i
  .subst b;rw[e,OR a];simp
  .rw[OR a,OR b];simp
def Jd(r:n<=8)(h:vC n m gone):Mat n (rkG m gone):=by
 have c:∀ {s},s<2^n->s<256:=λa=>OW a (LZ r);have one:∀(s:Nat),(if(s:Int)∈gone then 1 else 0)<=1:=λs=>by split<;>lia
 have b:∀ {s:Nat},¬sz s=m->rkG m gone s=min (sz s) m:=λa=>by unfold rkG;rw[OO (h.not a)];rfl
 have t:∀(s:Nat),rkG m gone s<=min (sz s) m/\min (sz s) m<=rkG m gone s+1:=λs=>by unfold rkG;have:=one s;lia
 refine#[r,6,λs k a A=> ?_,λs j k a z A p w=> ?_]
 .unfold rkG;rw[dh];lia
 .cases e:s.testBit k with
  |true=>rw[fH e];lia
  |false=>
   have L:=fh s (c a) k () e;have M:=t s;have l2:=t (s|||2^k);by_cases f:sz s=m
   .have J:=b (s:=s|||2^k) ();lia
   .have H:=b f;by_cases g:sz (s|||2^k)=m
    .lia
    .have J:=b g;lia
 .cases i:s.testBit j with
  |true=>rw[fH i];exact w
  |false=>
   cases d:s.testBit k with
   |true=>
    have B:(s|||2^j).testBit k=true:=by rw[aW,d];rfl
    rw[fH B];exact p
   |false=>
    by_cases l:j=k
    .subst l;rw[fH (by rw[aW];simp)];exact p
    .have O:=fh s (c a) j () i;have U:=fh s (c a) k () d;have q:(s|||2^j).testBit k=false:=by rw[aW,d,OR l];rfl
     have Q:=fh (s|||2^j) (c (aP a z)) k () q;by_cases f:sz s=m
     .have K:=b (s:=s|||2^j) ();have N:=b (s:=s|||2^j|||2^k) ();lia
     .have H:=b f;by_cases g:sz (s|||2^j)=m
      .exfalso;have x:((s|||2^j:Nat):Int)∈gone:=by
        refine Pb λo=> ?_;have:rkG m gone (s|||2^j)=min (sz (s|||2^j)) m:=by unfold rkG;rw[OO o];rfl
        lia
       have y:((s|||2^k:Nat):Int)∈gone:=by
        refine Pb λo=> ?_;have:rkG m gone (s|||2^k)=min (sz (s|||2^k)) m:=by unfold rkG;rw[OO o];rfl
        lia
       have G:((s|||2^j:Nat):Int)≠((s|||2^k:Nat):Int):=λe=>by
        have v:s|||2^j=s|||2^k:=()
        have:(s|||2^j).testBit k=(s|||2^k).testBit k:=by rw[v]
        rw[q,aW]at this;simp at this
       have:=h.far _ x _ y G;rw[OU,OU,Ds i d l]at this;lia
      .have K:=b g;have ok:=b (s:=s|||2^k) ();by_cases u:sz (s|||2^j|||2^k)=m
       .lia
       .have:=b u;lia
end Bh
namespace Bh
def qo(p q:Nat->Bool):∀l:List Nat,(l.filter λk=>p k&&q k).length+(l.filter λk=>p k&& !q k).length=(l.filter p).length
 | []=>rfl
 |k::l=>by have c:=qo p q l;rw[QD,QD,QD];cases a:p k<;>cases b:q k<;>simp[a,b]<;>lia
def jt{s a b:Nat}(q:Nat->Bool)(f:∀k,k<8->a.testBit k=(s.testBit k&&q k))(g:∀k,k<8->b.testBit k=(s.testBit k&& !q k)):sz a+sz b=sz s:=by rw[ju,ju,ju,<-qo s.testBit q (List.range 8)];have d:(List.range 8).filter a.testBit=(List.range 8).filter λk=>s.testBit k&&q k:=Qi λk c=>f k (OS.mp c);have e:(List.range 8).filter b.testBit=(List.range 8).filter λk=>s.testBit k&& !q k:=Qi λk c=>g k (OS.mp c);rw[d,e]
def cD{n s:Nat}(k:Nat):(ao (2^n-1) s).testBit k=(decide (k<n)&& !s.testBit k):=by rw[aG,Pq]
def bD{n s k:Nat}(b:s<2^n)(h:s.testBit k=true):k<n:=by refine Rj λa=> ?_;rw[PY (OW b (Pr () a))]at h;cases h
def sF(e:n<=8)(d:s<2^n):sz s+sz (ao (2^n-1) s)=n:=by
 have h:=jt (s:=2^n-1) (a:=s) (b:=ao (2^n-1) s) s.testBit (λk _=> ?_) λk _=> ?_
 .rw[h];exact Ck n ()
 .rw[Pq];cases c:s.testBit k with
  |false=>rw[Qc]
  |true=>rw[OQ (bD d c)];rfl
 .rw[cD,Pq]
def ir(n:Nat)(r:Nat->Nat)(s:Nat):Nat:=sz s+r (ao (2^n-1) s) -r (2^n-1)
namespace Mat
variable{n:Nat}{r:Nat->Nat}(M:Mat n r)
include M
theorem Lx(a:s<2^n):r (2^n-1)<=sz s+r (ao (2^n-1) s):=by have hl:ao (2^n-1) s<2^n:=Pd (iK _ _) (aJ n);have h:=M.yW (bO hl) (aJ n);have b:=sF M.n8 a;have c:=Ck n (by have:=M.n8;lia);lia
theorem de(a:s<2^n):((ir n r s:Nat):Int)=(sz s:Int)+(r (ao (2^n-1) s):Nat) - (r (2^n-1):Nat):=by have:=M.Lx a;unfold ir;lia
end Mat
end Bh
namespace Bh
def bJ{s h t:Nat}:(aO s h).testBit t=true↔∃j,(bits h)[j]?=some (t:Int)/\s.testBit j=true:=by
 unfold aO;rw[lR λz c=>(j6 z c).1,nU];constructor
 .rintro⟨j,b,a⟩;exact#[j,b,by rwa[Rw]at a]
 .rintro⟨j,b,a⟩;exact#[j,b,by rw[Rw];exact a]
def Ew{h t:Nat}(b:h<256)(a:h.testBit t=true):∃j:Nat,(bits h)[j]?=some (t:Int):=by
 have d:t<8:=by refine Rj λc=> ?_;rw[PY (OW (show h<2^8 from b) (Pr () c))]at a;cases a
 exact P2 (cX.mpr #[t,d,a,2])
def JX{h j t:Nat}(b:(bits h)[j]?=some (t:Int)):h.testBit t=true:=by
 obtain⟨k,_,a,e⟩:=cX.mp (O5 b);have:t=k:=()
 rw[this];exact a
def cT(s h:Nat):Sub (aO s h) h:=λt b=>by obtain⟨j,a,_⟩:=bJ.mp b;exact JX a
def JV{k s:Nat}(h:Sub k s):bits k=(bits s).filter λz=>k.testBit z.toNat:=by
 unfold bits;rw[RI,Rm];congr 1;refine Qi λt _=> ?_;show k.testBit t=(k.testBit ((t:Nat):Int).toNat&&s.testBit t);rw[OU];cases a:k.testBit t with
 |false=>rfl
 |true=>rw[h t a];rfl
def Bg(s:Nat):(bits s).length=sz s:=rfl
def Fo(d:(bits h).length<=j):(ic s h).testBit j=false:=by
 cases e:(ic s h).testBit j with
 |false=>rfl
 |true=>
  unfold ic at e;rw[lR (λz b=>(oT (bj h) z b).1),mF]at e;obtain⟨i,y,a,_,c⟩:=e;have:=(O1.mp a).1;lia
def Dp(k s:Nat):bits (ic k s)=idxs (λ_ z=>k.testBit z.toNat) 0 (bits s):=by
 rw[Bm (q:=λz=>k.testBit z.toNat) 0];have hl:(bits s).length<=8:=bj s;unfold bits;have e:(List.range 8).filter (ic k s).testBit=(List.range (bits s).length).filter λj=>k.testBit ((bits s).getD j 0).toNat:=by
  have a:∀d,(bits s).length+d<=8->(List.range ((bits s).length+d)).filter (ic k s).testBit=(List.range (bits s).length).filter (ic k s).testBit:=by
   intro d
   induction d with
   |zero=>intro _;rfl
   |succ d h=>
    intro i;rw[show(bits s).length+(d+1)=(bits s).length+d+1 from rfl,QO,Rt,h (),TX (by rw[Fo ()];exact Pf)];simp
  have g:=a (8- (bits s).length) ();rw[show(bits s).length+(8- (bits s).length)=8 by lia]at g;rw[g];refine Qi λj b=> ?_;have c:=OS.mp b;have f:(bits s)[j]?=some ((bits s).getD j 0):=by simp[c]
  exact Fp f
 show((List.range 8).filter (ic k s).testBit).map _=_;rw[e];refine P4 λj _=> ?_;show(j:Int)=((0+j:Nat):Int);rw[Rw]
def uS:∀(a:List Int)(i:Nat),(idxs (λ_ z=>q z) i a).length=(a.filter q).length
 | [],_=>rfl
 |x::r,i=>by
  rw[idxs,QD];split
  .rw[Pa,Pa,uS r (i+1)]
  .exact uS r (i+1)
def GY(h:Sub k s):sz (ic k s)=sz k:=by rw[<-Bg,Dp,uS,<-Bg,JV h]
def Gx:∀n:Nat,n<9->bits (2^n-1)=(List.range n).map λj:Nat=>(j:Int):=#[9]
def cY(r:Nat->Nat)(k w:Nat)(s:Nat):Nat:=r (aO s k|||w) -r w
def Mat.min_int(M:Mat n r)(c:k<2^n)(d:w<2^n)(s:Nat):((cY r k w s:Nat):Int)=(r (aO s k|||w):Nat) - (r w:Nat):=by
 have a:aO s k|||w<2^n:=PV ((cT s k).lt c) d;have b:Sub w (aO s k|||w):=λt h=>by rw[O7,h,Sw]
 have:=M.mono b a;unfold cY;lia
def yA{s k:Nat}(h:s.testBit k=true):s|||2^k=s:=O2 λj=>by
 rw[aW];by_cases e:k=j
 .subst e;rw[h];rfl
 .rw[OR e,QQ]
def CD(s k:Nat):s|||2^k|||2^k=s|||2^k:=by rw[Q0,Nat.or_self]
def Ec(s j k:Nat):s|||2^j|||2^k=s|||2^k|||2^j:=by rw[Q0,RZ (2^j),<-Q0]
def kI(b:s<2^n)(a:k<n):s|||2^k<2^n:=PV b (QZ () a)
def sQ{n s k:Nat}(a:k<n)(h:s.testBit k=false):ao (2^n-1) (s|||2^k)|||2^k=ao (2^n-1) s:=O2 λj=>by
 rw[aW,cD,cD,aW];by_cases e:k=j
 .subst e;rw[h,OQ a,OQ rfl];rfl
 .rw[OR e,QQ,QQ]
def qV(n:Nat):ao (2^n-1) 0=2^n-1:=O2 λj=>by rw[cD,Pw,Pq];simp
def gc{s k:Nat}(b:s<256)(a:k<8)(h:s.testBit k=false):sz (s|||2^k)=sz s+1:=fh s b k a h
def qk:ao (2^n-1) s<2^n:=Pd (iK _ _) (by have:0<2^n:=QU ();lia)
def sz0:sz 0=0:=∅
def Mat.dual(M:Mat n r):Mat n (ir n r):=by
 have K:=M.n8;refine#[K,6,λs k b a=> ?_,λs j k b c a i B=> ?_]
 .unfold ir;rw[qV,sz0];lia
 .by_cases l:s.testBit k=true
  .rw[yA l];lia
  .have m:s.testBit k=false:=#[5,l]
   have N:=M.de b;have y:=M.de (kI b a);have z:=sQ a m;have A:=(M.step (ao (2^n-1) (s|||2^k)) k qk a);rw[z]at A;rw[gc (M.aX b) () m]at y;lia
 .by_cases o:s.testBit j=true
  .rw[yA o];exact B
  by_cases q:s.testBit k=true
  .rw[Ec,yA q];exact i
  by_cases f:j=k
  .subst f;rw[CD];exact i
  have g:s.testBit j=false:=#[5,o]
  have t:s.testBit k=false:=#[5,q]
  have G:(s|||2^k).testBit j=false:=by rw[aW,g,OR (λe=>f e.symm)];rfl
  have p:(s|||2^j).testBit k=false:=by rw[aW,t,OR f];rfl
  have h:=kI b c;have H:=kI b a;have J:=kI h a;have v:=M.de b;have w:=M.de h;have x:=M.de H;have L:=M.de J;have O:=gc (M.aX b) (show j<8 by lia) g;have Q:=gc (M.aX b) (show k<8 by lia) t;have U:=gc (M.aX h) (show k<8 by lia) p;have u1:=sQ (n:=n) a p;have u2:=sQ (n:=n) c G;rw[<-Ec s j k]at u2;have u3:=sQ (n:=n) c g;have d:ao (2^n-1) (s|||2^j|||2^k)<2^n:=qk;generalize ao (2^n-1) (s|||2^j|||2^k)=u at*;rw[<-u3,<-u1]at v;rw[<-u1]at w;rw[<-u2]at x;have sub:=M.sub u k j d a c;have ab:=M.step u j d c;have ag:=M.step u k d a;have ai:=M.step (u|||2^k) j (kI d a) c;lia
def nE{k i:Nat}(f:i<sz k):∃t,k.testBit t=true/\∀s,aO (s|||2^i) k=aO s k|||2^t:=by
 have g:i<(bits k).length:=f;have c:(bits k)[i]?=some (bits k)[i]:=Po g;generalize (bits k)[i]=z at c;obtain⟨t,_,d,rfl⟩:=cX.mp (O5 c);refine#[t,d,λs=>O2 λj=> ?_];rw[QX,bJ,aW,Px,bJ];constructor
 .rintro⟨m,b,a⟩;rw[aW,Px]at a;rcases a with a|a
  .exact .inl #[m,b,a]
  .have e:=O9 a;subst e;rw[c]at b;have:=Qd b;exact .inr (OQ ())
 .rintro(⟨m,b,a⟩|h)
  .exact#[m,b,by rw[aW,a];rfl]
  .have e:=O9 h;subst e;exact#[i,c,by rw[aW,OQ rfl,Sw]]
def jZ(k:Nat):aO 0 k=0:=O2 λt=>by
 rw[Pw];cases h:(aO 0 k).testBit t with
 |false=>rfl
 |true=>
  obtain⟨j,_,a⟩:=bJ.mp h;rw[Pw]at a;cases a
def uA(a b w:Nat):a|||b|||w=a|||w|||b:=by rw[Q0,RZ b w,<-Q0]
def Mat.minor(M:Mat n r)(a:k<2^n)(b:w<2^n):Mat (sz k) (cY r k w):=by
 have m:∀s,aO s k|||w<2^n:=λs=>PV ((cT s k).lt a) b;refine#[bj k,6,λs i v d=> ?_,λs i j v d q z A=> ?_]
 .unfold cY;rw[jZ,R0];lia
 .obtain⟨t,f,e⟩:=nE d;have g:=bD a f;have h:=M.min_int a b s;have c:=M.min_int a b (s|||2^i);rw[e,uA]at c;have:=M.step _ t (m s) g;lia
 .obtain⟨t,f,e⟩:=nE d;obtain⟨u,x,l⟩:=nE q;have g:=bD a f;have un:=bD a x;have y:=M.min_int a b s;have h:=M.min_int a b (s|||2^i);have c:=M.min_int a b (s|||2^j);have o:=M.min_int a b (s|||2^i|||2^j);rw[e,uA]at h;rw[l,uA]at c;have p:aO (s|||2^i|||2^j) k|||w=aO s k|||w|||2^t|||2^u:=by rw[l,e,uA _ (2^u) w,uA _ (2^t) w]
  rw[p]at o;have:=M.sub _ t u (m s) g un () ();lia
def rG(g:k<256):aO (ao (2^sz k-1) s) k=ao k (aO s k):=O2 λt=>by
 rw[QX,bJ,aG,Pc,Qm];constructor
 .rintro⟨j,b,a⟩;rw[cD,Pc,Qm]at a;refine#[JX b,6];cases h:(aO s k).testBit t with
  |false=>rfl
  |true=>
   obtain⟨m,e,d⟩:=bJ.mp h;rw[qv e b,a.2]at d;cases d
 .rintro⟨b,a⟩;obtain⟨j,c⟩:=Ew g b;refine#[j,c,6];have f:j<sz k:=(O1.mp c).1;rw[cD,OQ f,P7,Qm];cases h:s.testBit j with
  |false=>rfl
  |true=>rw[bJ.mpr #[j,c,h]]at a;cases a
def tH{a b:Nat}(h:∀t,a.testBit t=true->b.testBit t=true->False):sz (a|||b)=sz a+sz b:=by
 refine(jt (s:=a|||b) (a:=a) (b:=b) a.testBit (λk _=> ?_) λk _=> ?_).symm
 .rw[O7];cases a.testBit k<;>simp
 .rw[O7];have:=h k;cases c:a.testBit k<;>cases d:b.testBit k<;>simp_all
def kT(a:k<256):aO (2^sz k-1) k=k:=by have h:=rG (k:=k) (s:=0) a;rw[qV,jZ]at h;rw[h];exact O2 λt=>by rw[aG,Pw];simp
def qG(b:s<2^sz k):sz (aO s k)=sz s:=by have h:=yr (s:=s) (h:=k) b;have a:=GY (cT s k);rw[h]at a;exact a.symm
def Mat.turn(M:Mat n r){o w:Nat}(g:o<2^n)(b:w<2^n)(h:∀t,o.testBit t=true->w.testBit t=true->False)(i:s<2^sz (ao (2^n-1) (o|||w))):
  ir (sz (ao (2^n-1) (o|||w))) (cY r (ao (2^n-1) (o|||w)) w) s=cY (ir n r) (ao (2^n-1) (o|||w)) o s:=by
 have d:∀t,(ao (2^n-1) (o|||w)).testBit t=(decide (t<n)&& !(o.testBit t||w.testBit t)):=λt=>by rw[cD,O7]
 have a:ao (2^n-1) (o|||w)<2^n:=qk;generalize ao (2^n-1) (o|||w)=k at*;have j:=M.aX a;have Mk:=M.minor a b;have l:=M.dual;have A:aO s k<2^n:=(cT s k).lt a;have B:=Mk.de i;have J:ao (2^sz k-1) s<2^sz k:=qk;have m:=M.min_int a b (ao (2^sz k-1) s);have p:=M.min_int a b (2^sz k-1);rw[rG j]at m;rw[kT j]at p;have G:=l.min_int a g s;have x1:=M.de (s:=aO s k|||o) (PV A g);have x2:=M.de (s:=o) g;have q:ao (2^n-1) o=k|||w:=O2 λt=>by rw[cD,O7,d];have e:=h t;have f:w.testBit t=true->t<n:=bD b;cases y:o.testBit t<;>cases z:w.testBit t<;>simp_all
 have u:ao (2^n-1) (aO s k|||o)=ao k (aO s k)|||w:=O2 λt=>by rw[cD,O7,O7,aG,d];have e:=h t;have f:w.testBit t=true->t<n:=bD b;have c:(aO s k).testBit t=true->k.testBit t=true:=cT s k t;rw[d]at c;cases y:o.testBit t<;>cases z:w.testBit t<;>cases H:(aO s k).testBit t<;>simp_all
 have v:sz (aO s k|||o)=sz (aO s k)+sz o:=tH λt e f=>by have c:=cT s k t e;rw[d,f]at c;simp at c
 have x:=qG i;rw[u,v,x]at x1;rw[q]at x2;lia
def df{s k:Nat}(h:s.testBit k=true):Sub (s^^^2^k) s:=λj a=>by rw[cG h,Pc]at a;exact a.1
def fT{s k:Nat}(h:s.testBit k=true):(s^^^2^k)|||2^k=s:=O2 λj=>by
 rw[aW,cG h];by_cases e:k=j
 .subst e;rw[h];simp
 .rw[OR e];simp
def Hc(s t:Nat):Sub t (s|||t):=λj h=>by rw[O7,h,Sw]
def K7{s t:Nat}(h:¬Sub s t):∃k,s.testBit k=true/\t.testBit k=false:=by
 refine Pb λb=>h λk a=> ?_;cases e:t.testBit k with
 |true=>rfl
 |false=>exact absurd #[k,a,e] b
def He{s t k:Nat}(h:Sub s t)(b:s.testBit k=false)(c:t.testBit k=true):Sub s (t^^^2^k):=λj a=>by
 rw[cG c,h j a];by_cases e:k=j
 .subst e;rw[b]at a;cases a
 .rw[OR e];rfl
def Ce(n:Nat)(r:Nat->Nat)(b:Nat):Prop:=b<2^n/\r b=sz b/\r b=r (2^n-1)
namespace Mat
variable{n:Nat}{r:Nat->Nat}(M:Mat n r)
include M
theorem gv{s k:Nat}(b:s<2^n)(a:s.testBit k=true):s^^^2^k<2^n:=(df a).lt b
theorem iN{s k:Nat}(b:s<2^n)(a:s.testBit k=true):sz (s^^^2^k)+1=sz s:=
 fo s (M.aX b) k (OW (bD b a) M.n8) a
theorem exch{b c k:Nat}(a:Ce n r b)(g:Ce n r c)(h:b.testBit k=true)(m:c.testBit k=false):
  ∃y,c.testBit y=true/\b.testBit y=false/\Ce n r ((b^^^2^k)|||2^y):=by
 have d:=M.gv a.1 h;have v:r (b^^^2^k)=sz (b^^^2^k):=M.jR (df h) a.1 a.2.1;have w:=M.iN a.1 h;refine Pb λq=> ?_;have all:∀y,c.testBit y=true->r ((b^^^2^k)|||2^y)=r (b^^^2^k):=λy j=>by
  refine Pb λi=>q #[y,j,66]
  .cases e:b.testBit y with
   |false=>rfl
   |true=>
    refine absurd ?_ i;rw[fH];rw[cG h,e];by_cases f:k=y
    .subst f;rw[j]at m;cases m
    .rw[OR f];rfl
  .have l:=bD g.1 j;have st:=M.step _ y d l;have p:(b^^^2^k).testBit y=false:=by
    cases e:(b^^^2^k).testBit y with
    |false=>rfl
    |true=>rw[fH e]at i;exact absurd rfl i
   have x:=fh _ (M.aX d) y (OW l M.n8) p;have o:=a.2.1;have f:=a.2.2;exact#[aP d l,99]
 have t:=M.closed d g.1 all;have u:=M.mono (Hc (b^^^2^k) c) (PV d g.1);have o:=a.2.1;have f:=a.2.2;have s:=g.2.2;lia
end Mat
end Bh
namespace Bh
def eF(n k:Nat):List Nat:=(List.range (2^n)).filter λs=>decide (sz s=k)
def dX(n:Nat)(r:Nat->Nat)(m k:Nat):Bool:=decide (n=m)&&decide (r (2^n-1)=k)&&(eF n k).all λs=>decide (r s=k)
def gD(n:Nat)(r:Nat->Nat):List Nat:=(eF n 3).filter λs=>decide (r s<sz s)
def bP(n:Nat)(r:Nat->Nat):Bool:=decide (n=7)&&decide (r (2^n-1)=3)&&(eF n 2).all λp=>decide (((gD n r).filter λt=>decide (p&&&t=p)).length=1)
def iu(n:Nat)(r:Nat->Nat)(s:Nat):Nat:=sz s+r (ao (2^n-1) s) -r (2^n-1)
def cE(n:Nat)(r:Nat->Nat):List Nat:=(List.range (2^n)).filter λs=>decide (r s=sz s)&&decide (r s=r (2^n-1))
def i9(a:List Nat):List Nat:=(List.range 128).filter λs=>decide (sz s=3)&& !decide (s∈a)
def fz(a:List Nat):Bool:=decide (a.length=28)&&(decide ((i9 a).length=7)&&(List.range 7).all λj=>(List.range j).all λk=>decide (((i9 a).filter λt=>t.testBit j&&t.testBit k).length=1))
structure Dt(n:Nat)(r:Nat->Nat):Prop where
 le:∀s,s<2^n->r s<=sz s
 mono:∀s t,s<2^n->t<2^n->s&&&t=s->r s<=r t
 unit:∀s,s<2^n->r (2^n-1)<=r (ao (2^n-1) s)+sz s
def mR{b:Type}{p:b->Bool}:∀l:List b,(l.filter p).length=l.length↔l.all p=true
 | []=>by simp
 |a::l=>by
  have c:=mR (p:=p) l;have hl:=Qy p l;rw[QD,Tw];by_cases h:p a=true
  .rw[OP h,Pa,Pa,h,P7,<-c];lia
  .rw[OO h,Pa,QV.mpr h,P6];constructor
   .intro e;lia
   .intro e;cases e
def qE(h:r (2^n-1)=k):cE n r=(eF n k).filter λs=>decide (r s=k):=by
 unfold cE eF;rw[Rm];refine Qi λs _=> ?_;rw[h];by_cases a:r s=k
 .rw[a];simp only[decide_true,Bool.and_true,P7];exact QG.mpr #[λe=>e.symm,λe=>e.symm]
 .rw[OR a,Qc,P6]
def zb(r:Nat->Nat):dX n r m k=(decide (n=m)&&(decide (r (2^n-1)=k)&&decide ((cE n r).length=(eF m k).length))):=by
 unfold dX;rw[Bool.and_assoc];by_cases b:n=m
 .subst b;by_cases c:r (2^n-1)=k
  .rw[qE c];congr 2;have:=mR (p:=λs=>decide (r s=k)) (eF n k);by_cases a:(eF n k).all (λs=>decide (r s=k))=true
   .rw[a,OQ (this.mpr a)]
   .rw[QV.mpr a,OR λe=>a (this.mp e)]
  .rw[OR c,P6,P6]
 .rw[OR b,P6,P6]
def wX(R:Nat->Bool):∀L:List Nat,(L.map λl=>if R l=true then 1 else 0).sum=(L.filter R).length
 | []=>rfl
 |a::L=>by
  rw[PF,RU,wX R L,QD];by_cases h:R a=true
  .rw[OP h,OP h,Pa];lia
  .rw[OO h,OO h];lia
def DF(f g:Nat->Nat):∀L:List Nat,(L.map λl=>f l+g l).sum=(L.map f).sum+(L.map g).sum
 | []=>rfl
 |a::L=>by rw[PF,RU,PF,RU,PF,RU,DF f g L];lia
def Ab(R:Nat->Nat->Bool)(L:List Nat):∀P:List Nat,(P.map λp=>(L.filter (R p)).length).sum=(L.map λl=>(P.filter λp=>R p l).length).sum
 | []=>by
  have:∀L:List Nat,(L.map λl=>(([]:List Nat).filter λp=>R p l).length).sum=0:=λL=>by
   induction L with
   |nil=>rfl
   |cons a L b=>rw[PF,RU,b];rfl
  rw[this];rfl
 |p::P=>by
  rw[PF,RU,Ab R L P,<-wX (R p) L,<-DF];congr 1;refine P4 λl _=> ?_;rw[QD];by_cases h:R p l=true
  .rw[OP h,OP h,Pa];lia
  .rw[OO h,OO h];lia
def qH(f:Nat->Nat):∀L:List Nat,(∀l∈L,f l=c)->(L.map f).sum=c*L.length
 | [],_=>rfl
 |a::L,h=>by rw[PF,RU,h a O6,qH f L (λl hl=>h l (OZ _ hl)),Pa,Nat.mul_succ];lia
def Fy:((List.range 128).all λp=> !(decide (sz p=2))||(List.range 7).any λj=>(List.range j).any λk=>decide (p=2^j|||2^k))=true:=#[9]
def KY:((List.range 7).all λj=>(List.range j).all λk=>decide (2^j|||2^k<128)&&decide (sz (2^j|||2^k)=2))=true:=#[9]
def AU:((List.range 7).all λj=>(List.range j).all λk=>(List.range 128).all λt=>decide ((2^j|||2^k)&&&t=2^j|||2^k)==(t.testBit j&&t.testBit k))=true:=#[9]
def CT:((List.range 128).all λt=> !(decide (sz t=3))||decide (((eF 7 2).filter λp=>decide (p&&&t=p)).length=3))=true:=#[9]
def mX:(eF 4 2).length=6/\(eF 5 2).length=10/\(eF 5 3).length=10/\(eF 7 3).length=35/\(eF 7 2).length=21:=#[9]
def iJ:s∈eF n k↔s<2^n/\sz s=k:=by unfold eF;rw[Pn,OS,O3]
def mQ{b:Type}(p:b->Bool):∀l:List b,(l.filter p).length+(l.filter λx=> !p x).length=l.length
 | []=>rfl
 |a::l=>by
  have c:=mQ p l;rw[QD,QD,Pa];by_cases h:p a=true
  .rw[OP h,OO (by rw[h];decide),Pa];lia
  .rw[OO h,OP (by rw[QV.mpr h];rfl),Pa];lia
def AD{d:List Nat}(r:∀s,s<128->(s∈d↔sz s=3/\f s=true))(hl:d.length=((eF 7 3).filter f).length):
  fz d=(eF 7 2).all λp=>decide (((((eF 7 3).filter λs=> !f s)).filter λt=>decide (p&&&t=p)).length=1):=by
 have w:i9 d=(eF 7 3).filter λs=> !f s:=by
  unfold i9 eF;rw[Rm];refine Qi λs H=> ?_;have u:=OS.mp H;by_cases i:sz s=3
  .rw[OQ i,P7,Bool.and_true];by_cases g:f s=true
   .rw[g,OQ ((r s u).mpr #[i,g])]
   .rw[QV.mpr g,OR λz=>g ((r s u).mp z).2]
  .rw[OR i,P6,Qc]
 unfold fz;rw[w];generalize q:((eF 7 3).filter λs=> !f s)=L;have v:∀t∈L,t<128/\sz t=3:=λt c=>by rw[<-q]at c;exact iJ.mp (Pn.mp c).1
 have J:d.length+L.length=35:=by rw[hl,<-q,mQ,mX.2.2.2.1]
 have M:=Ab (λp t=>decide (p&&&t=p)) L (eF 7 2);have K:(L.map λl=>((eF 7 2).filter λp=>decide (p&&&l=p)).length).sum=3*L.length:=qH _ L λt c=>by obtain⟨x,y⟩:=v t c;have:=PR.mp CT t (OS.mpr x);rw[OQ y]at this;simpa using this
 have flt:∀j,j<7->∀k,k<j->(L.filter λt=>t.testBit j&&t.testBit k)=L.filter λt=>decide ((2^j|||2^k)&&&t=2^j|||2^k):=λj a k b=>Qi λt c=>by have:=PR.mp (PR.mp (PR.mp AU j (OS.mpr a)) k (OS.mpr b)) t (OS.mpr (v t c).1);exact(by simpa using this:decide ((2^j|||2^k)&&&t=2^j|||2^k)=(t.testBit j&&t.testBit k)).symm
 rw[QX];constructor
 .intro h;rw[Pc,Pc]at h;refine PR.mpr λp o=> ?_;obtain⟨p1,p2⟩:=iJ.mp o;have:=PR.mp Fy p (OS.mpr p1);rw[OQ p2]at this;obtain⟨j,a,B⟩:=Sd.mp (by simpa using this:((List.range 7).any λj=>(List.range j).any λk=>decide (p=2^j|||2^k))=true);obtain⟨k,b,G⟩:=Sd.mp B;have e:=O9 G;have m:=OS.mp a;have n:=OS.mp b;have:=PR.mp (PR.mp h.2.2 j a) k b;rwa[flt j m k n,<-e]at this
 .intro h;have one:((eF 7 2).map λp=>(L.filter λt=>decide (p&&&t=p)).length).sum=1*(eF 7 2).length:=qH _ _ λp o=>O9 (PR.mp h p o);rw[mX.2.2.2.2]at one;have A:L.length=7:=()
  rw[OQ (show d.length=28 by lia),OQ A,P7,P7];refine PR.mpr λj a=>PR.mpr λk b=> ?_;have m:=OS.mp a;have n:=OS.mp b;have:=PR.mp (PR.mp KY j a) k b;rw[Pc,O3,O3]at this;rw[flt j m k n];exact PR.mp h _ (iJ.mpr this)
def E5(h:Dt 7 r)(b:r 127=3):fz (cE 7 r)=bP 7 r:=by
 have e:=qE (n:=7) (r:=r) (k:=3) b;rw[AD (f:=λs=>decide (r s=3)) (λs a=> ?_) (by rw[e])]
 .unfold bP;rw[OQ rfl,OQ (show r (2^7-1)=3 from b),P7,P7];have d:((eF 7 3).filter λs=> !decide (r s=3))=gD 7 r:=by
   unfold gD;refine Qi λs a=> ?_;obtain⟨g,i⟩:=iJ.mp a;have:=h.le s g;rw[i]at this⊢;by_cases c:r s=3
   .rw[c];rfl
   .rw[OR c,OQ (show r s<3 by lia)];rfl
  rw[d]
 .rw[e,Pn,iJ,O3];exact#[λz=>#[z.1.2,z.2],λz=>#[#[a,z.1],z.2]]
def sR:∀s:Nat,s<128->ao 127 s=127-s/\sz (127-s)+sz s=7:=#[9]
def MB:(List.range 128).map (127- ·)=(List.range 128).reverse:=#[9]
def E3(h:Dt 7 r)(b:r 127=4):fz ((cE 7 r).map (127- ·))=bP 7 (iu 7 r):=by
 have e:=qE (n:=7) (r:=r) (k:=4) b;have v:∀s,s<128->(s∈(cE 7 r).map (127- ·)↔sz s=3/\decide (r (127-s)=4)=true):=λs a=>by
  rw[OX,O3];have G:=(sR s a).2;constructor
  .rintro⟨t,d,rfl⟩;rw[e,Pn,iJ,O3]at d;have x:t<128:=d.1.1;have l2:=(sR t x).2;rw[show 127- (127-t)=t by lia];exact#[9,d.2]
  .rintro⟨g,c⟩;refine#[127-s,69];rw[e,Pn,iJ,O3];exact#[#[by show 127-s<128;lia,9],c]
 have q:((cE 7 r).map (127- ·)).length=((eF 7 3).filter λs=>decide (r (127-s)=4)).length:=by
  have l:cE 7 r=(List.range 128).filter ((λs=>decide (sz s=3)&&decide (r (127-s)=4))∘(127- ·)):=by rw[e];unfold eF;rw[Rm];refine Qi λs a=> ?_;have w:s<128:=OS.mp a;have l2:=(sR s w).2;show _=(decide (sz (127-s)=3)&&decide (r (127- (127-s))=4));rw[show 127- (127-s)=s by lia,Sg];congr 1;exact QG.mpr #[λz=>(),λz=>()]
  rw[l,<-RI,MB,List.filter_reverse,Sj];unfold eF;rw[Rm];congr 1;exact Qi λs _=>Sg _ _
 rw[AD (f:=λs=>decide (r (127-s)=4)) v q];unfold bP;have A:ao 127 127=0:=∅
 have y:r 0=0:=by have:=h.le 0 ∅;have B:sz 0=0:=∅;lia
 have j:iu 7 r (2^7-1)=3:=by
  unfold iu;show sz 127+r (ao 127 127) -r 127=3;have:sz 127=7:=∅
  rw[A,y,this,b]
 rw[OQ rfl,OQ j,P7,P7];have o:((eF 7 3).filter λs=> !decide (r (127-s)=4))=gD 7 (iu 7 r):=by
  unfold gD;refine Qi λs a=> ?_;obtain⟨g,c⟩:=iJ.mp a;have p:s<128:=g;have hl:=sR s p;have u:=h.mono (127-s) 127 (by show 127-s<128;lia) ∅ (by
   have:∀t:Nat,t<128->t&&&127=t:=#[9]
   exact this _ ())
  have m:iu 7 r s=sz s+r (127-s) -r 127:=by unfold iu;show sz s+r (ao 127 s) -r 127=_;rw[hl.1]
  rw[m,c,b];rw[b]at u;by_cases i:r (127-s)=4
  .rw[i];rfl
  .rw[OR i,OQ (show 3+r (127-s) -4<3 by lia)];rfl
 rw[o]
def E4(h:Dt 7 r):bP 7 (iu 7 r)=true->r 127=4:=λe=>by
 unfold bP at e;rw[Pc,Pc,O3,O3]at e;have a:=e.1.2;unfold iu at a;have b:sz 127+r (ao 127 127) -r 127=3:=a;have d:ao 127 127=0:=∅
 have c:r 0=0:=by have:=h.le 0 ∅;have f:sz 0=0:=∅;lia
 have s7:sz 127=7:=∅
 have:=h.le 127 ∅;rw[d,c,s7]at b;lia
def kinds(n:Nat)(r:Nat->Nat):List Bool:=[decide (n=4)&&(decide (r (2^n-1)=2)&&decide ((cE n r).length=6)),decide (n=5)&&(decide (r (2^n-1)=2)&&decide ((cE n r).length=10)),decide (n=5)&&(decide (r (2^n-1)=3)&&decide ((cE n r).length=10)),
 decide (n=7)&&(decide (r (2^n-1)=3)&&fz (cE n r)),decide (n=7)&&(decide (r (2^n-1)=4)&&fz ((cE n r).map (127- ·)))]
def Jr(h:Dt n r):kinds n r=[dX n r 4 2,dX n r 5 2,dX n r 5 3,bP n r,bP n (iu n r)]:=by
 unfold kinds;rw[zb,zb,zb,mX.1,mX.2.1,mX.2.2.1];by_cases b:n=7
 .subst b;have c:(decide (7=7)&&(decide (r (2^7-1)=3)&&fz (cE 7 r)))=bP 7 r:=by
   by_cases e:r (2^7-1)=3
   .rw[E5 h e,OQ e];simp
   .unfold bP;rw[OR e];simp
  have d:(decide (7=7)&&(decide (r (2^7-1)=4)&&fz ((cE 7 r).map (127- ·))))=bP 7 (iu 7 r):=by
   by_cases a:r (2^7-1)=4
   .rw[E3 h a,OQ a];simp
   .rw[OR a];have:bP 7 (iu 7 r)=false:=QV.mpr λz=>a (E4 h z);rw[this];simp
  rw[c,d]
 .have c:bP n r=false:=by unfold bP;rw[OR b];simp
  have d:bP n (iu n r)=false:=by unfold bP;rw[OR b];simp
  rw[c,d,OR b];simp
def um(a:n<=8):decide (2^n=16)=decide (n=4)/\decide (2^n=32)=decide (n=5)/\decide (2^n=128)=decide (n=7):=by
 have:∀n:Nat,n<9->decide (2^n=16)=decide (n=4)/\decide (2^n=32)=decide (n=5)/\decide (2^n=128)=decide (n=7):=∅
 exact this n ()
abbrev Row:=Nat->Int
def sgn(i:Nat):Int:=if i % 2=0 then 1 else-1
def lQ(i:Nat):sgn (i+1)= -sgn i:=by
 unfold sgn;rcases Nat.mod_two_eq_zero_or_one i with h|h
 .rw[OO (),OP h]
 .rw[OP (),OO ()];rfl
def Mv(i:Nat):sgn i*sgn i=1:=by unfold sgn;split<;>rfl
def bw:Nat->(Nat->Int)->Int
 |0,_=>0
 |n+1,f=>bw n f+f n
def bh:∀ {n:Nat},(∀i,i<n->f i=g i)->bw n f=bw n g
 |0,_=>rfl
 |n+1,h=>by rw[bw,bw,bh λi a=>h i (),h n ()]
def lM(f g:Nat->Int):∀n,bw n (λi=>f i+g i)=bw n f+bw n g
 |0=>rfl
 |n+1=>by rw[bw,bw,bw,lM f g n];lia
def eY(a:Int)(f:Nat->Int):∀n,bw n (λi=>a*f i)=a*bw n f
 |0=>by show(0:Int)=a*0;lia
 |n+1=>by rw[bw,bw,eY a f n,Rv]
def qI:∀ {n:Nat},(∀i,i<n->f i=0)->bw n f=0
 |0,_=>rfl
 |n+1,h=>by rw[bw,qI λi a=>h i (),h n ()];rfl
def oI(f:Nat->Int)(m:Nat):∀n,bw (m+n) f=bw m f+bw n λk=>f (m+k)
 |0=>by show bw m f=bw m f+0;lia
 |n+1=>by rw[<-Nat.add_assoc,bw,bw,oI f m n];lia
def kS(f:Nat->Int)(n:Nat):bw (n+1) f=f 0+bw n λk=>f (k+1):=by
 rw[Nat.add_comm,oI];have a:bw 1 f=f 0:=by show 0+f 0=f 0;lia
 rw[a];refine PN (f 0+ ·) (bh λi _=>by rw[Nat.add_comm])
def qJ(f:Nat->Nat->Int)(n:Nat):∀m,bw m (λi=>bw n (f i))=bw n λj=>bw m λi=>f i j
 |0=>(qI λ_ _=>rfl).symm
 |m+1=>by rw[bw,qJ f n m,<-lM];rfl
def rw0:Row:=λ_=>0
def aN:List Row->List Nat->Int
 |_,[]=>1
 |R,c::cs=>bw R.length λi=>sgn i*(R.getD i rw0 c*aN (R.eraseIdx i) cs)
def kq{a:Type}{A B:List a}{d:a}{i:Nat}(h:i<A.length):(A++B).getD i d=A.getD i d:=by rw[OV,OV,PL h]
def fK{a:Type}{A B:List a}{d:a}(k:Nat):(A++B).getD (A.length+k) d=B.getD k d:=by rw[OV,OV,PM (),TY]
def vc{a:Type}{A B:List a}{i:Nat}(h:i<A.length):(A++B).eraseIdx i=A.eraseIdx i++B:=List.eraseIdx_append_of_lt_length h B
def ja{a:Type}{A B:List a}(k:Nat):(A++B).eraseIdx (A.length+k)=A++B.eraseIdx k:=by rw[List.eraseIdx_append_of_length_le (),TY]
def gL(A:List Row)(x:Row)(B:List Row)(c:Nat)(cs:List Nat):aN (A++x::B) (c::cs)=bw A.length (λi=>sgn i*(A.getD i rw0 c*aN (A.eraseIdx i++x::B) cs))+sgn A.length*(x c*aN (A++B) cs)+
  bw B.length λk=>sgn (A.length+1+k)*(B.getD k rw0 c*aN (A++x::B.eraseIdx k) cs):=by
 show bw (A++x::B).length _=_;rw[Pl,Pa,oI,kS,<-Int.add_assoc];refine congr (PN _ (congr (PN _ (bh λi a=> ?_)) ?_)) (bh λk b=> ?_)
 .rw[kq a,vc a]
 .show sgn (A.length+0)*((A++x::B).getD (A.length+0) rw0 c*aN ((A++x::B).eraseIdx (A.length+0)) cs)=_;rw[fK,ja];rfl
 .rw[fK,ja,show A.length+1+k=A.length+(k+1) by lia];rfl
def qt(a b:Int)(r p:Row):∀(e:List Nat)(A B:List Row),e≠[]->A.length+1+B.length=e.length->aN (A++(λj=>a*r j+b*p j)::B) e=a*aN (A++r::B) e+b*aN (A++p::B) e
 | [],_,_,h,_=>absurd rfl h
 |c::cs,A,B,_,hl=>by
  rw[gL,gL,gL];have f:bw A.length (λi=>sgn i*(A.getD i rw0 c*aN (A.eraseIdx i++(λj=>a*r j+b*p j)::B) cs))=a*bw A.length (λi=>sgn i*(A.getD i rw0 c*aN (A.eraseIdx i++r::B) cs))+b*bw A.length (λi=>sgn i*(A.getD i rw0 c*aN (A.eraseIdx i++p::B) cs)):=by
   rw[<-eY,<-eY,<-lM];refine bh λi m=> ?_;have d:(A.eraseIdx i).length+1+B.length=cs.length:=by rw[P8 m];simp at hl;lia
   rw[qt a b r p cs (A.eraseIdx i) B (λz=>by rw[z]at d;simp at d) d];generalize aN (A.eraseIdx i++r::B) cs=u;generalize aN (A.eraseIdx i++p::B) cs=v;generalize A.getD i rw0 c=w;generalize sgn i=s;simp only[Rv,QJ]
  have g:bw B.length (λk=>sgn (A.length+1+k)*(B.getD k rw0 c*aN (A++(λj=>a*r j+b*p j)::B.eraseIdx k) cs))=a*bw B.length (λk=>sgn (A.length+1+k)*(B.getD k rw0 c*aN (A++r::B.eraseIdx k) cs))+b*bw B.length (λk=>sgn (A.length+1+k)*(B.getD k rw0 c*aN (A++p::B.eraseIdx k) cs)):=by
   rw[<-eY,<-eY,<-lM];refine bh λk n=> ?_;have d:A.length+1+(B.eraseIdx k).length=cs.length:=by rw[P8 n];simp at hl;lia
   rw[qt a b r p cs A (B.eraseIdx k) (λz=>by rw[z]at d;simp at d) d];generalize aN (A++r::B.eraseIdx k) cs=u;generalize aN (A++p::B.eraseIdx k) cs=v;generalize B.getD k rw0 c=w;generalize sgn (A.length+1+k)=s;simp only[Rv,QJ]
  have l:sgn A.length*((λj=>a*r j+b*p j) c*aN (A++B) cs)=a*(sgn A.length*(r c*aN (A++B) cs))+b*(sgn A.length*(p c*aN (A++B) cs)):=by show sgn A.length*((a*r c+b*p c)*aN (A++B) cs)=_;generalize aN (A++B) cs=u;generalize sgn A.length=s;rw[Int.add_mul,Rv];simp only[PZ,QJ]
  rw[f,g,l];simp only[Rv];lia
def wU(a:Int)(r:Row)(b:List Nat)(A B:List Row)(hl:A.length+1+B.length=b.length):aN (A++(λj=>a*r j)::B) b=a*aN (A++r::B) b:=by have h:=qt a 0 r r b A B (λz=>by rw[z]at hl;simp at hl) hl;rw[Q1,Rx]at h;rw[<-h];refine PN (λz=>aN (A++z::B) b) (funext λj=> ?_);rw[Q1,Rx]
def mU(x y:Row):∀(a:List Nat)(A B:List Row),A.length+2+B.length=a.length->aN (A++x::y::B) a= -aN (A++y::x::B) a
 | [],A,B,hl=>by simp at hl
 |c::cs,A,B,hl=>by
  rw[gL A x (y::B),gL A y (x::B)];have f:bw A.length (λi=>sgn i*(A.getD i rw0 c*aN (A.eraseIdx i++x::y::B) cs))= -bw A.length (λi=>sgn i*(A.getD i rw0 c*aN (A.eraseIdx i++y::x::B) cs)):=by
   have:∀z:Int,-z=(-1)*z:=λz=>()
   rw[this,<-eY];refine bh λi b=> ?_;have d:(A.eraseIdx i).length+2+B.length=cs.length:=by rw[P8 b];simp at hl;lia
   rw[mU x y cs (A.eraseIdx i) B d,Sh,Sh,<-this]
  have e:∀u v:Row,bw (v::B).length (λk=>sgn (A.length+1+k)*((v::B).getD k rw0 c*aN (A++u::(v::B).eraseIdx k) cs))=sgn (A.length+1)*(v c*aN (A++u::B) cs)+bw B.length (λk=>sgn (A.length+2+k)*(B.getD k rw0 c*aN (A++u::v::B.eraseIdx k) cs)):=λu v=>by rw[Pa,kS];refine PN (λz=>sgn (A.length+1)*(v c*aN (A++u::B) cs)+z) (bh λk _=> ?_);rw[show A.length+1+(k+1)=A.length+2+k by lia];rfl
  have g:bw B.length (λk=>sgn (A.length+2+k)*(B.getD k rw0 c*aN (A++x::y::B.eraseIdx k) cs))= -bw B.length (λk=>sgn (A.length+2+k)*(B.getD k rw0 c*aN (A++y::x::B.eraseIdx k) cs)):=by
   have:∀z:Int,-z=(-1)*z:=λz=>()
   rw[this,<-eY];refine bh λi b=> ?_;have d:A.length+2+(B.eraseIdx i).length=cs.length:=by rw[P8 b];simp at hl;lia
   rw[mU x y cs A (B.eraseIdx i) d,Sh,Sh,<-this]
  rw[f,e,e,g,lQ,Q3,Q3];lia
def mV(x:Row)(c:List Nat):∀(A b B:List Row),b.length+A.length+1+B.length=c.length->aN (b++(A++x::B)) c=sgn A.length*aN (b++x::(A++B)) c
 | [],b,B,_=>by show _=1*_;rw[Qs];rfl
 |a::A,b,B,hl=>by have h:=mV x c A (b++[a]) B (by simp at hl⊢;lia);rw[QI,QI]at h;have d:=mU a x c b (A++B) (by simp at hl⊢;lia);show aN (b++([a]++(A++x::B))) c=_;rw[h];show sgn A.length*aN (b++a::x::(A++B)) c=_;rw[d,Pa,lQ,Sh,Q3];rfl
def Bx(p:Row)(a:List Nat)(A B:List Row)(hl:A.length+2+B.length=a.length):aN (p::(A++p::B)) a=0:=by
 have h:=mV p a A [p] B (by simp;lia);have b:=mU p p a [] (A++B) (by simp;lia);have c:aN (p::p::(A++B)) a=0:=by have:aN (p::p::(A++B)) a= -aN (p::p::(A++B)) a:=b;lia
 have d:aN (p::(A++p::B)) a=sgn A.length*aN (p::p::(A++B)) a:=h;rw[d,c,Q2]
def wW(p:Row)(a:Int)(b:Row->Int)(d:List Nat):∀(S c:List Row),c.length+1+S.length=d.length->
  aN (p::(c++S.map λr j=>a*r j+b r*p j)) d=a^S.length*aN (p::(c++S)) d
 | [],c,_=>by rw[RN,QP,TQ,Qs]
 |r::S,c,hl=>by have h:=wW p a b d S (c++[λj=>a*r j+b r*p j]) (by simp at hl⊢;lia);rw[QI,QI]at h;rw[PF];show aN (p::(c++([λj=>a*r j+b r*p j]++S.map λr j=>a*r j+b r*p j))) d=_;rw[h];show a^S.length*aN ((p::c)++(λj=>a*r j+b r*p j)::S) d=_;rw[qt a (b r) r p d (p::c) S (λz=>by rw[z]at hl;simp at hl) (by simp at hl⊢;lia)];have e:aN ((p::c)++p::S) d=0:=Bx p d c S (by simp at hl;lia);rw[e,Q2,Rx,Pa,Tg,PZ];rfl
def ve(p:Row)(d:Int)(g:Row->Row)(b:List Nat):∀(S a:List Row),a.length+1+S.length=b.length->
  aN (p::(a++S.map λr j=>d*g r j)) b=d^S.length*aN (p::(a++S.map g)) b
 | [],a,_=>by rw[RN,RN,QP,TQ,Qs]
 |r::S,a,hl=>by have h:=ve p d g b S (a++[λj=>d*g r j]) (by simp at hl⊢;lia);rw[QI,QI]at h;rw[PF,PF];show aN (p::(a++([λj=>d*g r j]++S.map λr j=>d*g r j))) b=_;rw[h];show d^S.length*aN ((p::a)++(λj=>d*g r j)::S.map g) b=_;rw[wU d (g r) b (p::a) (S.map g) (by simp at hl⊢;lia),Pa,Tg,PZ];rfl
def wV(p:Row)(B:List Row)(c:Nat)(cs:List Nat)(h:∀r∈B,r c=0):aN (p::B) (c::cs)=p c*aN B cs:=by
 have e:=gL [] p B c cs;have b:bw B.length (λk=>sgn (([]:List Row).length+1+k)*(B.getD k rw0 c*aN ([]++p::B.eraseIdx k) cs))=0:=qI λk a=>by
  have:B.getD k rw0 c=0:=by
   have d:B.getD k rw0=B[k]:=by simp[a]
   rw[d];exact h _ (Qt a)
  rw[this,Q1,Q2]
 rw[b]at e;show aN ([]++p::B) (c::cs)=_;rw[e];show(0:Int)+1*(p c*aN B cs)+0=_;lia
def iB:∀(d:List Nat)(R a:List Row),R.length=a.length->(∀i j,j∈d->R.getD i rw0 j=a.getD i rw0 j)->aN R d=aN a d
 | [],_,_,_,_=>rfl
 |c::cs,R,a,hl,h=>by
  show bw R.length _=bw a.length _;rw[<-hl];refine bh λi f=> ?_;rw[h i c O6,iB cs (R.eraseIdx i) (a.eraseIdx i) (by rw[P8 f,P8 (),hl]) λk j e=> ?_];rw[OV,OV,R1,R1];by_cases b:k<i
  .rw[OP b,OP b,<-OV,<-OV];exact h k j (OZ _ e)
  .rw[OO b,OO b,<-OV,<-OV];exact h (k+1) j (OZ _ e)
def wc(p:Row)(g h:Row->Row)(a:List Nat)(S:List Row)(e:∀r∈S,∀j∈a,g r j=h r j):aN (p::S.map g) a=aN (p::S.map h) a:=by
 refine iB a _ _ #[5] λi j b=> ?_;cases i with
 |zero=>rfl
 |succ i=>
  rw[OV,OV,SF,SF,Ph,Ph];cases c:S[i]? with
  |none=>rfl
  |some r=>exact e r (O5 c) j b
def sX(p r:Row)(c j:Nat):aN [p,r] [c,j]=p c*r j-r c*p j:=by simp[aN,bw,sgn];lia
def se(d:Int)(R:List Row)(cs:List Nat):Prop:=∀(S:List Row)(T:List Nat)(k:Nat),(∀r∈S,r∈R)->(∀t∈T,t∈cs)->S.length=k+1->T.length=k+1->d^k∣aN S T
def kL(R:List Row)(cs:List Nat):se 1 R cs:=λS T k _ _ _ _=>by rw[Int.one_pow];exact Int.one_dvd _
def cx(d:Int)(p:Row)(c:Nat)(r:Row):Row:=λj=>(r j*p c-p j*r c).fdiv d
section
variable{d:Int}{R:List Row}{c:Nat}{cs:List Nat}{p:Row}
def jv(h:se d R (c::cs))(f:d≠0)(i:p∈R)(l:r∈R)(g:j∈c::cs):d*cx d p c r j=r j*p c-p j*r c:=by
 have b:=h [p,r] [c,j] 1 (λx a=>by
  rcases OT.mp a with rfl|a
  .exact i
  .rw[Pu.mp a];exact l) (λx a=>by
  rcases OT.mp a with rfl|a
  .exact O6
  .rw[Pu.mp a];exact g) rfl rfl
 rw[sX,Tg,TQ,Qs]at b;obtain⟨q,k⟩:=b;have e:r j*p c-p j*r c=d*q:=by rw[<-k,P5 (r j),P5 (p j)]
 unfold cx;rw[e,Int.mul_fdiv_cancel_left _ f]
def Ag(h:se d R (c::cs))(b:d≠0)(m:p∈R){S:List Row}{T:List Nat}(l:∀r∈S,r∈R)(o:∀t∈T,t∈cs)(hl:S.length=T.length):d^S.length*(p c*aN (S.map (cx d p c)) T)=p c^S.length*aN (p::S) (c::T):=by
 have a:=wW p (p c) (λr=> -r c) (c::T) S [] (by simp;lia);have k:=ve p d (cx d p c) (c::T) S [] (by simp;lia);have n:=wc p (λr j=>d*cx d p c r j) (λr j=>p c*r j+(-r c)*p j) (c::T) S λr i j g=>by
  have q:j∈c::cs:=by
   rcases OT.mp g with rfl|g
   .exact O6
   .exact OZ _ (o j g)
  rw[jv h b m (l r i) q,Q3,P5 (r j),P5 (p j)];lia
 have z:∀r∈S.map (cx d p c),r c=0:=λx s=>by
  obtain⟨r,i,rfl⟩:=OX.mp s;have e:=jv h b m (l r i) O6;rw[P5 (p c),Qu]at e;rcases Th.mp e with e|e
  .exact absurd e b
  .exact e
 have f:=wV p (S.map (cx d p c)) c T z;rw[QR]at a k;rw[QR]at a k;rw[<-f,<-k,n,a]
def unmap{i β:Type}(f:i->β)(L:List i):∀S:List β,(∀x∈S,x∈L.map f)->∃g:List i,(∀x∈g,x∈L)/\S=g.map f
 | [],_=>#[[],(λ_ b=>nomatch b),2]
 |y::S,h=>by
  obtain⟨a,l,e⟩:=OX.mp (h y O6);obtain⟨g,k,j⟩:=unmap f L S λx b=>h x (OZ _ b);refine#[a::g,λx b=> ?_,by rw[PF,e,j]];rcases OT.mp b with rfl|b
  .exact l
  .exact k x b
def Gb(h:se d R (c::cs))(i:d≠0)(j:p∈R)(t:p c≠0){L:List Row}(f:∀r∈L,r∈R):se (p c) (L.map (cx d p c)) cs:=by
 intro S T k s g l z;obtain⟨b,e,rfl⟩:=unmap _ L S s;rw[My]at l;have m:=Ag h i j (λr y=>f r (e r y)) g (show b.length=T.length by lia);obtain⟨q,w⟩:=h (p::b) (c::T) (k+1) (λx a=>by
  rcases OT.mp a with rfl|a
  .exact j
  .exact f x (e x a)) (λx a=>by
  rcases OT.mp a with rfl|a
  .exact O6
  .exact OZ _ (g x a)) (by simp;lia) (by simp;lia)
 rw[w,l]at m;refine#[q,6];have n:d^(k+1)≠0:=Int.pow_ne_zero i;have o:d^(k+1)*(p c*aN (b.map (cx d p c)) T)=d^(k+1)*(p c*(p c^k*q)):=by rw[m,Tg (p c)];generalize p c^k=u;generalize d^(k+1)=v;simp only[PZ,QJ,P5]
 exact TH t (TH n o)
end
def Bz(r:Row):∀(a:List Nat)(R:List Row),R.length+1=a.length->aN (R++[r]) a=bw a.length λj=>sgn (a.length-1-j)*(r (a.getD j 0)*aN R (a.eraseIdx j))
 | [],R,hl=>by simp at hl
 |c::cs,R,hl=>by
  have f:R.length=cs.length:=#[5,hl]
  rw[gL R r [] c cs,Pa,kS,Qx];have b:bw ([]:List Row).length (λk=>sgn (R.length+1+k)*(([]:List Row).getD k rw0 c*aN (R++r::([]:List Row).eraseIdx k) cs))=0:=rfl;rw[b,Rx,Int.add_comm];refine congr (PN _ ?_) ?_
  .rw[f];rfl
  .have d:∀j,j<cs.length->sgn (cs.length+1-1- (j+1))*(r ((c::cs).getD (j+1) 0)*aN R ((c::cs).eraseIdx (j+1)))=bw R.length λi=>sgn i*(R.getD i rw0 c*(sgn (cs.length-1-j)*(r (cs.getD j 0)*aN (R.eraseIdx i) (cs.eraseIdx j)))):=λj g=>by show sgn (cs.length+1-1- (j+1))*(r (cs.getD j 0)*bw R.length λi=>sgn i*(R.getD i rw0 c*aN (R.eraseIdx i) (cs.eraseIdx j)))=_;rw[show cs.length+1-1- (j+1)=cs.length-1-j by lia,<-PZ,<-eY];refine bh λi _=> ?_;simp only[PZ,QJ]
   rw[bh d,<-qJ (λi j=>sgn i*(R.getD i rw0 c*(sgn (cs.length-1-j)*(r (cs.getD j 0)*aN (R.eraseIdx i) (cs.eraseIdx j))))) cs.length R.length];refine bh λi e=> ?_;rw[Bz r cs (R.eraseIdx i) (by rw[P8 e];lia),<-PZ,<-eY];refine bh λj _=> ?_;rw[PZ]
def sY(r:Row):∀(d:List Nat)(R:List Row),R.length+1=d.length->aN (r::R) d=bw d.length λj=>sgn j*(r (d.getD j 0)*aN R (d.eraseIdx j))
 | [],R,hl=>by simp at hl
 |c::cs,R,hl=>by
  have k:R.length=cs.length:=#[5,hl]
  have sp:=gL [] r R c cs;rw[QR]at sp;rw[sp,Pa,kS];have e:bw ([]:List Row).length (λi=>sgn i*(([]:List Row).getD i rw0 c*aN (([]:List Row).eraseIdx i++r::R) cs))=0:=rfl;rw[e,Qk];refine congr (PN _ rfl) ?_;have f:∀j,j<cs.length->sgn (j+1)*(r ((c::cs).getD (j+1) 0)*aN R ((c::cs).eraseIdx (j+1)))=bw R.length λi=>sgn (i+1)*(R.getD i rw0 c*(sgn j*(r (cs.getD j 0)*aN (R.eraseIdx i) (cs.eraseIdx j)))):=λj h=>by show sgn (j+1)*(r (cs.getD j 0)*bw R.length λi=>sgn i*(R.getD i rw0 c*aN (R.eraseIdx i) (cs.eraseIdx j)))=_;rw[<-PZ,<-eY];refine bh λi _=> ?_;rw[lQ,lQ,Q3,Q3,Q3];refine PN (λz:Int=> -z) ?_;generalize aN (R.eraseIdx i) (cs.eraseIdx j)=z;generalize R.getD i rw0 c=y;generalize sgn i=b;generalize sgn j=a;simp only[PZ,QJ,P5]
  rw[bh f,<-qJ (λi j=>sgn (i+1)*(R.getD i rw0 c*(sgn j*(r (cs.getD j 0)*aN (R.eraseIdx i) (cs.eraseIdx j))))) cs.length R.length];refine bh λi g=> ?_;show sgn (([]:List Row).length+1+i)*(R.getD i rw0 c*aN ([]++r::R.eraseIdx i) cs)=_;rw[QR,sY r cs (R.eraseIdx i) (by rw[P8 g];lia),<-PZ,<-eY,show([]:List Row).length+1+i=i+1 by simp;lia];refine bh λj _=> ?_;rw[PZ]
def va{b β:Type}(f:b->β)(l:List b)(j:Nat):(l.map f).eraseIdx j=(l.eraseIdx j).map f:=by
 induction l generalizing j with
 |nil=>rfl
 |cons a l c=>
  cases j with
  |zero=>rfl
  |succ j=>show f a::(l.map f).eraseIdx j=f a::(l.eraseIdx j).map f;rw[c]
def kN(M:Nat->Nat->Int):∀(J I:List Nat),I.length=J.length->aN (I.map λi j=>M i j) J=aN (J.map λj i=>M i j) I
 | [],I,hl=>by have:I=[]:=SG.mp hl;subst this;rfl
 |c::cs,I,hl=>by
  rw[PF,sY (λi=>M i c) I (cs.map λj i=>M i j) (by rw[My];simpa using hl.symm)];show bw (I.map _).length _=_;rw[My];refine bh λk a=> ?_;rw[va,kN M cs (I.eraseIdx k) (by rw[P8 a];simp at hl;lia)];have e:(I.map λi j=>M i j).getD k rw0 c=M (I.getD k 0) c:=by rw[OV,OV,Ph,Po a];rfl
  rw[e]
def kM:∀ {n:Nat},(∀i,i<n->m∣f i)->m∣bw n f
 |0,_=>PK m
 |n+1,h=>Q4 (kM λi a=>h i ()) (h n ())
def Van(m:Int)(k:Nat)(R:List Row)(cs:List Nat):Prop:=∀(S:List Row)(T:List Nat),(∀r∈S,r∈R)->(∀t∈T,t∈cs)->S.length=k->T.length=k->m∣aN S T
def Mnr(m:Int)(k:Nat)(R:List Row)(cs:List Nat):Prop:=∃(S:List Row)(T:List Nat),S.Sublist R/\T.Sublist cs/\S.length=k/\T.length=k/\¬m∣aN S T
def km{a:Type}{l:List a}{i:Nat}{x:a}(h:x∈l.eraseIdx i):x∈l:=(List.eraseIdx_sublist l i).subset h
def Van.up(h:Van m k R cs):Van m (k+1) R cs:=by
 intro S T a b f lt
 match T,lt with
 |t::T,lt=>
  refine kM λi c=> ?_;refine Pj (Pj (h (S.eraseIdx i) T (λr d=>a r (km d)) (λt e=>b t (OZ _ e)) ?_ ?_))
  .rw[P8 c];lia
  .simpa using lt
def Van.le(h:Van m k R cs):∀ {l:Nat},k<=l->Van m l R cs
 |0,hl=>by rw[show 0=k by lia];exact h
 |l+1,hl=>by
  by_cases e:k=l+1
  .rw[<-e];exact h
  .exact(Van.le h ()).up
def Mnr.not_van(h:Mnr m k R cs):¬Van m k R cs:=by obtain⟨S,T,a,b,e,lt,n⟩:=h;exact λv=>n (v S T (λr c=>a.subset c) (λt d=>b.subset d) e lt)
def o5(h:¬Van m k R cs)(v:Van m (l+1) R cs):k<=l:=by
 by_cases e:k<=l
 .exact e
 .exact absurd (v.le (show l+1<=k by lia)) h
def EK(h:¬Van m k R cs)(v:Van m (k+1) R cs)(h':¬Van m l R cs)(a:Van m (l+1) R cs):k=l:=by have:=o5 h a;have:=o5 h' v;lia
def xW(a:¬m∣1)(R:List Row)(cs:List Nat):Mnr m 0 R cs:=#[[],[],List.nil_sublist _,List.nil_sublist _,22,a]
def xQ(m:Int)(R:List Row):Van m 1 R []:=λS T _ a _ lt=>by
 match T,lt with
 |t::T,_=>exact absurd (a t O6) (λh=>nomatch h)
def Em:∀(T:List Nat)(S:List Row),c∈T->(∀r∈S,m∣r c)->m∣aN S T
 |t::T,S,d,h=>by
  refine kM λi a=> ?_;by_cases e:t=c
  .subst e;have b:S.getD i rw0=S[i]:=by simp[a]
   rw[b];exact Pj (PQ (h _ (Qt a)))
  .have:c∈T:=by
    rcases OT.mp d with rfl|h
    .exact absurd rfl e
    .exact h
   exact Pj (Pj (Em T (S.eraseIdx i) this λr f=>h r (km f)))
def Lw{S:List Row}{T:List Nat}(c:r∈S)(hl:S.length=T.length)(h:∀t∈T,m∣r t):m∣aN S T:=by
 obtain⟨A,B,rfl⟩:=Sx c;have b:=mV r T A [] B (by simp at hl⊢;lia);rw[QR,QR]at b;rw[b,sY r T (A++B) (by simp at hl⊢;lia)];refine Pj (kM λj a=>Pj (PQ ?_));have e:T.getD j 0=T[j]:=by simp[a]
 rw[e];exact h _ (Qt a)
def lH(f:∀r∈R,m∣r c)(h:Van m k R cs):Van m k R (c::cs):=by
 intro S T a d i lt;by_cases e:c∈T
 .exact Em T S e λr g=>f r (a r g)
 .refine h S T a (λt b=> ?_) i lt;rcases OT.mp (d t b)with rfl|h
  .exact absurd b e
  .exact h
def Ad(h:Mnr m k R cs):Mnr m k R (c::cs):=by obtain⟨S,T,a,b,d,lt,n⟩:=h;exact#[S,T,a,b.trans (List.sublist_cons_self c cs),d,lt,n]
def yj{T:List Nat}{A B:List Row}(hl:A.length+1+B.length=T.length)(h:∀j∈T,a*r j=d*s j+b*p j):a*aN (A++r::B) T=d*aN (A++s::B) T+b*aN (A++p::B) T:=by
 rw[<-wU a r T A B hl,<-qt d b s p T A B (λz=>by rw[z]at hl;simp at hl) hl];refine iB T _ _ #[5] λi j e=> ?_;by_cases c:i<A.length
 .rw[kq c,kq c]
 .obtain⟨k,rfl⟩:∃k,i=A.length+k:=#[i-A.length,9];rw[fK,fK];cases k with
  |zero=>exact h j e
  |succ k=>rfl
def rO(d:∀x y:Int,m∣x*y->m∣x\/m∣y)(b:¬m∣1)(c:¬m∣a):∀k:Nat,¬m∣a^k
 |0=>by rw[TQ];exact b
 |k+1=>λh=>by
  rw[Tg]at h;rcases d _ _ h with h|h
  .exact rO d b c k h
  .exact c h
section
variable{m d:Int}{R:List Row}{c:Nat}{cs:List Nat}{p:Row}
def tm(hm:∀x y:Int,m∣x*y->m∣x\/m∣y)(h:se d R (c::cs))(q:d≠0)(K:R=A++p::B)(ha:¬m∣p c)(v:Van m k ((A++B).map (cx d p c)) cs):Van m (k+1) R (c::cs):=by
 have u:p∈R:=by rw[K];simp
 have ex:∀r∈R,∀j∈c::cs,p c*r j=d*cx d p c r j+r c*p j:=λr n j i=>by rw[jv h q u n i,P5 (r c),P5 (r j)];lia
 have zc:∀r∈R,cx d p c r c=0:=λr n=>by
  have e:=jv h q u n O6;rw[P5 (p c),Qu]at e;rcases Th.mp e with e|e
  .exact absurd e q
  .exact e
 have zp:∀j∈c::cs,cx d p c p j=0:=λj i=>by
  have e:=jv h q u u i;rw[Qu]at e;rcases Th.mp e with e|e
  .exact absurd e q
  .exact e
 have N:Van m k (R.map (cx d p c)) (c::cs):=by
  refine lH (λr n=> ?_) λS T g f H lt=> ?_
  .obtain⟨x,a,rfl⟩:=OX.mp n;rw[zc x a];exact PK m
  .by_cases z:∃s∈S,∀j∈T,m∣s j
   .obtain⟨s,w,hz⟩:=z;exact Lw w () hz
   .refine v S T (λs w=> ?_) f H lt;obtain⟨x,a,rfl⟩:=OX.mp (g s w);refine OX.mpr #[x,62];have L:=a;rw[K]at L;rcases Pg.mp L with o|o
    .exact Pg.mpr (.inl o)
    .rcases OT.mp o with e|o
     .refine absurd #[_,w,λj i=> ?_] z;rw[e,zp j (OZ _ (f j i))];exact PK m
     .exact Pg.mpr (.inr o)
 have pull:∀x:Int,m∣p c*x->m∣x:=λx a=>(hm _ _ a).resolve_left ha;have J:∀ {r:Row} {T:List Nat},r∈R->(∀t∈T,t∈c::cs)->∀j∈T,p c*r j=d*cx d p c r j+r c*p j:=λn f j i=>ex _ n j (f j i);have Q:∀(S b:List Row)(T:List Nat),(∀r∈b,r∈R.map (cx d p c))->(∀r∈S,r∈R)->(∀t∈T,t∈c::cs)->b.length+S.length=k->T.length=k+1->m∣aN (p::(b++S)) T:=by
  intro S
  induction S with
  |nil=>
   intro b T l _ f hl lt;rw[Qx,sY p T b (by simp at hl;lia)];refine kM λj i=>Pj (Pj (N b (T.eraseIdx j) l (λt ht=>f t (km ht)) #[5,hl] ?_));rw[P8 i];lia
  |cons r S G=>
   intro b T l g f hl lt;simp only[Pa]at hl;have e:=yj (A:=p::b) (B:=S) (by simp only[Pa];lia) (J (g r O6) f);have U:aN ((p::b)++p::S) T=0:=Bx p T b S ();rw[U,Q2,Rx]at e;refine pull _ ?_;show m∣p c*aN ((p::b)++r::S) T;rw[e];refine Pj ?_;have:=G (b++[cx d p c r]) T (λx a=>by
    rcases Pg.mp a with a|a
    .exact l x a
    .rw[Pu.mp a];exact Sl (g r O6)) (λx a=>g x (OZ _ a)) f (by simp;lia) lt
   rwa[QI]at this
 have O:∀(S b:List Row)(T:List Nat),(∀r∈b,r∈R.map (cx d p c))->(∀r∈S,r∈R)->(∀t∈T,t∈c::cs)->b.length+S.length=k+1->T.length=k+1->m∣aN (b++S) T:=by
  intro S
  induction S with
  |nil=>
   intro b T l _ f hl lt;rw[Qx];exact N.up b T l f #[5,hl] lt
  |cons r S G=>
   intro b T l g f hl lt;simp only[Pa]at hl;have e:=yj (A:=b) (B:=S) () (J (g r O6) f);refine pull _ ?_;rw[e];refine Q4 (Pj ?_) (Pj ?_)
   .have:=G (b++[cx d p c r]) T (λx a=>by
     rcases Pg.mp a with a|a
     .exact l x a
     .rw[Pu.mp a];exact Sl (g r O6)) (λx a=>g x (OZ _ a)) f (by simp;lia) lt
    rwa[QI]at this
   .have M:=mV p T b [] S (by simp;lia);rw[QR,QR]at M;rw[M];exact Pj (Q S b T l (λx a=>g x (OZ _ a)) f () lt)
 intro S T g f H lt;have:=O S [] T (λx a=>nomatch a) g f #[5,H] lt
 rwa [QR]at this
def tJ(g:∀x y:Int,m∣x*y->m∣x\/m∣y)(u:¬m∣1)(h:se d R (c::cs))(K:d≠0)(L:¬m∣d)(f:R=A++p::B)(J:¬m∣p c)(v:Mnr m k ((A++B).map (cx d p c)) cs):Mnr m (k+1) R (c::cs):=by
 have M:p∈R:=by rw[f];simp
 obtain⟨S,T,w,o,i,lt,n⟩:=v;obtain⟨S0,G,rfl⟩:=List.sublist_map_iff.mp w;obtain⟨a,b,rfl,j,l⟩:=List.sublist_append_iff.mp G;rw[My]at i;have H:∀r∈a++b,r∈R:=λr e=>by
  rw[f];rcases Pg.mp e with e|e
  .exact Pg.mpr (.inl (j.subset e))
  .exact Pg.mpr (.inr (OZ _ (l.subset e)))
 have O:=Ag h K M H (λt N=>o.subset N) (show(a++b).length=T.length by lia);refine#[a++p::b,c::T,6,o.cons_cons c,by simp at i⊢;lia,by simp;lia,λz=> ?_]
 .rw[f];exact j.append (l.cons_cons p)
 .have s:=mV p (c::T) a [] b (by simp at i⊢;lia);rw[QR,QR]at s;rw[s]at z;have Q:m∣aN (p::(a++b)) (c::T):=by
   have:m∣sgn a.length*(sgn a.length*aN (p::(a++b)) (c::T)):=Pj z
   rwa [<-PZ,Mv,Qs]at this
  have U:m∣d^(a++b).length*(p c*aN ((a++b).map (cx d p c)) T):=by rw[O];exact Pj Q
  rcases g _ _ U with q|q
  .exact rO g u L _ q
  .rcases g _ _ q with q|q
   .exact J q
   .exact n q
end
def zd:∀(n:List Nat)(R a:List Row),R.length=a.length->(∀i j,j∈n->m∣R.getD i rw0 j-a.getD i rw0 j)->m∣aN R n-aN a n
 | [],_,_,_,_=>by show m∣(1:Int) -1;exact PK m
 |c::cs,R,a,hl,h=>by
  show m∣bw R.length _-bw a.length _;rw[<-hl];have e:∀f g:Nat->Int,bw R.length f-bw R.length g=bw R.length λi=>f i+(-1)*g i:=λf g=>by rw[lM,eY];lia
  rw[e];refine kM λi r=> ?_;have p:=h i c O6;have q:m∣aN (R.eraseIdx i) cs-aN (a.eraseIdx i) cs:=zd cs (R.eraseIdx i) (a.eraseIdx i) (by rw[P8 r,P8 (),hl]) λk j o=>by
   rw[OV,OV,R1,R1];by_cases d:k<i
   .rw[OP d,OP d,<-OV,<-OV];exact h k j (OZ _ o)
   .rw[OO d,OO d,<-OV,<-OV];exact h (k+1) j (OZ _ o)
  generalize R.getD i rw0 c=x at*;generalize a.getD i rw0 c=b at*;generalize aN (R.eraseIdx i) cs=y at*;generalize aN (a.eraseIdx i) cs=l at*;have:sgn i*(x*y)+ -1*(sgn i*(b*l))=sgn i*((x-b)*y+b*(y-l)):=by rw[Si,Q5,show x*y-b*y+(b*y-b*l)=x*y-b*l by lia,Q5];lia
  rw[this];exact Pj (Q4 (PQ p) (Pj q))
def Bc{S:List Row}(h:∀r∈S,m∣f r j-r j):m∣(S.map f).getD i rw0 j-S.getD i rw0 j:=by
 rw[OV,OV,Ph];cases e:S[i]? with
 |none=>show m∣rw0 j-rw0 j;rw[Qu];exact PK m
 |some r=>exact h r (O5 e)
def Df{m a b:Int}(h:m∣a-b)(c:m∣b):m∣a:=by
 have:=Q4 h c
 rwa [Rf]at this
def Bu{m a b:Int}(h:m∣a-b)(c:m∣a):m∣b:=by
 have:=Q6 c h
 rwa [show a- (a-b)=b by lia]at this
section
variable{m:Int}{k:Nat}{R:List Row}{cs:List Nat}{f:Row->Row}
def Kd(h:∀r∈R,∀j∈cs,m∣f r j-r j)(v:Van m k (R.map f) cs):Van m k R cs:=by
 intro S T b c g lt;have:=v (S.map f) T (λr a=>by obtain⟨x,e,rfl⟩:=OX.mp a;exact Sl (b x e)) c (by rw[My];exact g) lt
 exact Bu (zd T (S.map f) S (My _) λi j d=>Bc λr a=>h r (b r a) j (c j d)) this
def Kj(h:∀r∈R,∀j∈cs,m∣f r j-r j)(v:Mnr m k (R.map f) cs):Mnr m k R cs:=by obtain⟨S,T,e,c,d,lt,n⟩:=v;obtain⟨a,b,rfl⟩:=List.sublist_map_iff.mp e;rw[My]at d;refine#[a,T,b,c,d,lt,λz=>n ?_];exact Df (zd T (a.map f) a (My _) λi j g=>Bc λr l=>h r (b.subset l) j (c.subset g)) z
end
def vf(f:Nat->Nat):∀(T:List Nat)(S:List Row),aN (S.map λr j=>r (f j)) T=aN S (T.map f)
 | [],_=>rfl
 |t::T,S=>by
  show bw (S.map _).length _=bw S.length _;rw[My];refine bh λi a=> ?_;rw[va,vf f T];have e:(S.map λr j=>r (f j)).getD i rw0 t=S.getD i rw0 (f t):=by rw[OV,OV,Ph,Po a];rfl
  rw[e]
def wC{R d:List Row}{f:Nat->Nat}{T:List Nat}:∀(S:List Row),(∀r∈S,r∈d)->(∀r∈d,∃c∈R,∀j∈T,r j=c (f j))->∃a:List Row,(∀r∈a,r∈R)/\a.length=S.length/\∀i j,j∈T->S.getD i rw0 j=(a.map λr j=>r (f j)).getD i rw0 j
 | [],_,_=>#[[],(λ_ h=>nomatch h),2,λ_ _ _=>rfl]
 |r::S,e,h=>by
  obtain⟨a,k,l,m⟩:=wC S (λx b=>e x (OZ _ b)) h;obtain⟨c,g1,g2⟩:=h r (e r O6);refine#[c::a,λx b=> ?_,by simp[l],λi j g=> ?_]
  .rcases OT.mp b with rfl|b
   .exact g1
   .exact k x b
  .cases i with
   |zero=>exact g2 j g
   |succ i=>exact m i j g
def jr{m:Int}{k:Nat}{R d:List Row}{cs a:List Nat}{f:Nat->Nat}(p:∀j∈a,f j∈cs)(q:∀r∈d,∃c∈R,∀j∈a,r j=c (f j))(v:Van m k R cs):Van m k d a:=by
 intro S T o g u lt;obtain⟨e,i,l,n⟩:=wC (T:=T) S o λr h=>by obtain⟨c,g1,g2⟩:=q r h;exact#[c,g1,λj b=>g2 j (g j b)]
 rw[iB T S (e.map λr j=>r (f j)) (by rw[My,l]) n,vf];refine v e (T.map f) i (λt s=> ?_) () (by rw[My];exact lt);obtain⟨j,b,rfl⟩:=OX.mp s;exact p j (g j b)
structure bZ(m:Int):Prop where
 nn:0<=m
 lt:m<128
 one:¬m∣1
 mul:∀x y:Int,m∣x*y->m∣x\/m∣y
def ui:bZ 0:=#[444,λx y h=>by
 have h:=Sy.mp h;rcases Th.mp h with h|h
 .exact .inl (Sy.mpr h)
 .exact .inr (Sy.mpr h)]
def Fn{p:Nat}(c:2<=p)(hl:p<128)(b:∀d,d<p+1->d∣p->d=1\/d=p):bZ (p:Int):=#[99,λh=>by
 have:=Int.le_of_dvd ∅ h;lia,λx y h=>by
 have a:p∣x.natAbs*y.natAbs:=by rw[<-Tp];exact Tr.mp h
 by_cases e:p∣x.natAbs
 .exact .inl (Tr.mpr e)
 .refine .inr (Tr.mpr ?_);have g:Nat.gcd p x.natAbs=1:=by
   rcases b _ (Nat.lt_succ_of_le (Nat.le_of_dvd () (Nat.gcd_dvd_left p x.natAbs))) (Nat.gcd_dvd_left p x.natAbs)with g|g
   .exact g
   .exact absurd (g▸Nat.gcd_dvd_right p x.natAbs) e
  exact Nat.Coprime.dvd_of_dvd_mul_left g a]
def D4:List Nat:=[2,3,5,7,11,13,17,19,23,29,31,37,41,43,47,53,59,61,67,71,73,79,83,89,97]
def uj:∀p∈D4,bZ (p:Int):=by
 have h:∀p∈D4,2<=p/\p<128/\∀d,d<p+1->d∣p->d=1\/d=p:=#[9]
 exact λp a=>Fn (h p a).1 (h p a).2.1 (h p a).2.2
def RkV(m:Int)(R:List Row)(cs:List Nat)(r:Nat):Prop:=Van m (r+1) R cs/\¬Van m r R cs
def o6(h:∀j∈a,j∈cs)(v:Van m k R cs):Van m k R a:=
 jr (f:=id) h (λr b=>#[r,b,λ_ _=>rfl]) v
def RkV.mem(h:∀j,j∈cs↔j∈cs')(v:RkV m R cs r):RkV m R cs' r:=
 #[o6 (λj a=>(h j).mpr a) v.1,λz=>v.2 (o6 (λj a=>(h j).mp a) z)]
def RkV.one(h:RkV m R cs r)(h':RkV m R cs r'):r=r':=EK h.2 h.1 h'.2 h'.1
def RkV.zeroC(a:∀x∈R,m∣x c)(h:RkV m R cs r):RkV m R (c::cs) r:=
 #[lH a h.1,λz=>h.2 (o6 (λj b=>OZ _ b) z)]
def nW(m:Int)(c:Nat)(R:List Row):(∀x∈R,m∣x c)\/∃p A B,R=A++p::B/\¬m∣p c:=by
 by_cases h:∀x∈R,m∣x c
 .exact .inl h
 .obtain⟨p,a⟩:=Se.mp h;obtain⟨a,b⟩:=Classical.not_imp.mp a;obtain⟨A,B,e⟩:=Sx a;exact .inr #[p,A,B,e,b]
def jq(a:bZ m):∀(cs:List Nat)(R:List Row),∃r,Van m (r+1) R cs/\Mnr m r R cs
 | [],R=>#[0,xQ m R,xW a.one R []]
 |c::cs,R=>by
  rcases nW m c R with h|⟨p,A,B,e,f⟩
  .obtain⟨r,b,d⟩:=jq a cs R;exact#[r,lH h b,Ad d]
  .obtain⟨r,b,d⟩:=jq a cs ((A++B).map (cx 1 p c));exact#[r+1,tm a.mul (kL R (c::cs)) ∅ e f b,tJ a.mul a.one (kL R (c::cs)) ∅ a.one e f d]
def RkV.pivot(a:bZ m)(e:R=A++p::B)(f:¬m∣p c)(h:RkV m ((A++B).map (cx 1 p c)) cs r):RkV m R (c::cs) (r+1):=by obtain⟨g,b,d⟩:=jq a cs ((A++B).map (cx 1 p c));have:r=g:=h.one #[b,d.not_van];subst this;exact#[tm a.mul (kL R (c::cs)) ∅ e f b,(tJ a.mul a.one (kL R (c::cs)) ∅ a.one e f d).not_van]
open Classical in
noncomputable def rho(m:Int)(R:List Row)(cs:List Nat):Nat:=if h:∃r,RkV m R cs r then Classical.choose h else 0
def gx(c:bZ m)(R:List Row)(cs:List Nat):RkV m R cs (rho m R cs):=by
 have h:∃r,RkV m R cs r:=by obtain⟨r,a,b⟩:=jq c cs R;exact#[r,a,b.not_van]
 unfold rho;rw[dif_pos h];exact RJ h
def fG(a:bZ m)(h:RkV m R cs r):rho m R cs=r:=(gx a R cs).one h
def fO(a:bZ m)(h:∀j,j∈cs↔j∈cs'):rho m R cs=rho m R cs':=fG a ((gx a R cs').mem λj=>(h j).symm)
def MA(a:bZ m)(h:∀j∈cs,j∈cs'):rho m R cs<=rho m R cs':=
 o5 (λz=>(gx a R cs).2 (o6 h z)) (gx a R cs').1
def pO(a:bZ m)(c:Nat)(R:List Row):(∀cs,rho m R (c::cs)=rho m R cs)\/∃b,∀cs,rho m R (c::cs)=rho m b cs+1:=by
 rcases nW m c R with h|⟨p,A,B,e,d⟩
 .exact .inl λcs=>fG a ((gx a R cs).zeroC h)
 .exact .inr #[(A++B).map (cx 1 p c),λcs=>fG a ((gx a _ cs).pivot a e d)]
def iH(a:bZ m)(R:List Row):rho m R []=0:=fG a #[xQ m R,λz=>a.one (z [] [] #[5] #[5] rfl rfl)]
def AJ(a:bZ m)(R:List Row)(j c:Nat)(cs:List Nat):rho m R (j::c::cs)=rho m R (c::j::cs):=fO a λx=>by rw[OT,OT,OT,OT];exact#[λh=>by rcases h with h|h|h;exact .inr (.inl h);exact .inl h;exact .inr (.inr h),λh=>by rcases h with h|h|h;exact .inr (.inl h);exact .inl h;exact .inr (.inr h)]
def pM(a:bZ m)(k:Nat):∀(cs:List Nat)(R:List Row),rho m R (k::cs)<=rho m R cs+1
 | [],R=>by
  rcases pO a k R with h|⟨b,h⟩
  .rw[h];lia
  .rw[h,iH a,iH a];lia
 |c::cs,R=>by
  rw[AJ a];rcases pO a c R with h|⟨b,h⟩
  .rw[h,h];exact pM a k cs R
  .rw[h,h];have:=pM a k cs b;lia
def ym(a:bZ m)(j k:Nat):∀(cs:List Nat)(R:List Row),rho m R (j::cs)=rho m R cs->rho m R (k::cs)=rho m R cs->rho m R (k::j::cs)=rho m R cs
 | [],R,d,b=>by
  rcases pO a k R with h|⟨f,h⟩
  .rw[h];exact d
  .rw[h,iH a,iH a]at b;cases b
 |c::cs,R,d,b=>by
  rw[AJ a]at d b;have e:rho m R (k::j::c::cs)=rho m R (c::k::j::cs):=fO a λx=>by rw[OT,OT,OT,OT,OT,OT];exact#[λh=>by rcases h with h|h|h|h;exact .inr (.inl h);exact .inr (.inr (.inl h));exact .inl h;exact .inr (.inr (.inr h)),λh=>by rcases h with h|h|h|h;exact .inr (.inr (.inl h));exact .inl h;exact .inr (.inl h);exact .inr (.inr (.inr h))]
  rw[e];rcases pO a c R with h|⟨f,h⟩
  .rw[h,h]at d b;rw[h,h];exact ym a j k cs R d b
  .rw[h,h]at d b;rw[h,h,ym a j k cs f () ()]
def aq(s:Nat):List Nat:=(List.range 8).filter s.testBit
def aK{s k:Nat}:k∈aq s↔k<8/\s.testBit k=true:=by unfold aq;rw[Pn,OS]
def ig(c:k<8)(j:Nat):j∈aq (s|||2^k)↔j∈k::aq s:=by
 rw[OT,aK,aK,O7,O0,Px,O3];constructor
 .rintro⟨b,a|a⟩
  .exact .inr #[b,a]
  .exact .inl a.symm
 .rintro(rfl|⟨b,a⟩)
  .exact#[c, .inr rfl]
  .exact#[b, .inl a]
noncomputable def bQ(m:Int)(R:List Row)(s:Nat):Nat:=rho m R (aq s)
def pP(b:bZ m)(a:k<8):bQ m R (s|||2^k)=rho m R (k::aq s):=fO b (ig a)
def jI(hm:bZ m)(R:List Row)(n8:n<=8):Mat n (bQ m R) where
 n8:=n8
 zero:=by
  have e:aq 0=[]:=List.filter_eq_nil_iff.mpr λk _=>by rw[Pw];exact Pf
  unfold bQ;rw[e];exact iH hm R
 step:=λs k _ d=>by rw[pP hm ()];exact#[MA hm λj c=>OZ _ c,pM hm k _ R]
 sub:=λs j k _ c d a b=>by
  rw[pP hm ()]at a b;have e:bQ m R (s|||2^j|||2^k)=rho m R (k::j::aq s):=(pP hm ()).trans (fO hm λx=>by rw[OT,ig (),OT,OT,OT])
  rw[e];exact ym hm j k _ R a b
def uG(p:Nat)(ts:List (Nat×Nat))(s i:Nat):List Int:=yO p ts (((List.range i).filter s.testBit).map λk:Nat=>(k:Int))
def FO(p:Nat)(ts:List (Nat×Nat))(s i:Nat):uG p ts s (i+1)=if s.testBit i=true then mrg (uG p ts s i) (ts.getD i (0,0)).1 (ts.getD i (0,0)).2 else uG p ts s i:=by
 unfold uG;rw[QO,Rt,PC];by_cases c:s.testBit i=true
 .rw[OP c,List.filter_cons_of_pos c,List.filter_nil];exact(wJ p ts _ _).trans (by rw[OU])
 .rw[OO c,TX c,List.filter_nil,RN,Qx]
def ue{s n:Nat}(a:n<=8)(c:s<2^n):(List.range n).filter s.testBit=(List.range 8).filter s.testBit:=by
 have e:List.range 8=List.range n++(List.range (8-n)).map (n+ ·):=by rw[<-List.range_add,Nat.add_sub_cancel' a]
 rw[e,Rt];have z:((List.range (8-n)).map (n+ ·)).filter s.testBit=[]:=List.filter_eq_nil_iff.mpr λk b=>by obtain⟨j,_,rfl⟩:=OX.mp b;rw[PY (OW c (Pr () (Sb n j)))];exact Pf
 rw[z,Qx]
def IZ{ts:List (Nat×Nat)}(a:ts.length<=8)(b:s<2^ts.length):uG p ts s ts.length=wI p ts s:=by unfold uG wI;rw[ue a b];rfl
def nj(m:Int)(R:List Row)(cs:List Nat):Prop:=∃S,S.Sublist R/\S.length=cs.length/\¬m∣aN S cs
def kH(f:bZ m)(R:List Row)(cs:List Nat):rho m R cs=cs.length↔nj m R cs:=by
 obtain⟨r,c,S,T,d,a,h,i,b⟩:=jq f cs R;have e:rho m R cs=r:=fG f #[c,Mnr.not_van #[S,T,d,a,h,i,b]];have lt:=a.length_le;rw[e];constructor
 .intro z;have:T=cs:=a.eq_of_length ();rw[this]at b;exact#[S,d,9,b]
 .rintro⟨g,g1,g2,g3⟩;have:=o5 (m:=m) (k:=cs.length) (R:=R) (cs:=cs) (λv=>g3 (v g cs (λx l=>g1.subset l) (λt j=>j) g2 rfl)) c;lia
def aT(s:Nat):(aq s).length=sz s:=by unfold sz bits;rw[My];rfl
def uY:nj m R [j]↔∃x∈R,¬m∣x j:=by
 have e:∀x:Row,aN [x] [j]=x j:=λx=>by simp[aN,bw,sgn]
 constructor
 .rintro⟨S,a,b,c⟩
  match S,b with
  | [x],_=>exact#[x,a.subset #[5],by rw[<-e x];exact c]
 .rintro⟨x,a,b⟩;exact#[[x],SR.mpr a,2,by rw[e x];exact b]
def sE{c:Type}{x y:c}:∀ {l:List c},[x,y].Sublist l↔∃p q:Nat,p<q/\l[p]?=some x/\l[q]?=some y
 | []=>#[λh=>(nomatch h),λ⟨p,q,_,h,_⟩=>by simp at h]
 |z::l=>by
  constructor
  .intro h;cases h with
   |cons _ h=>
    obtain⟨p,q,d,a,b⟩:=sE.mp h;exact#[p+1,q+1,9,#[5,a],#[5,b]]
   |cons_cons _ h=>
    obtain⟨q,e⟩:=P2 (SR.mp h);exact#[0,q+1,92,#[5,e]]
  .rintro⟨p,q,d,a,b⟩;cases p with
   |zero=>
    cases q with
    |zero=>lia
    |succ q=>
     cases a;exact .cons_cons _ (SR.mpr (O5 (i:=q) #[5,b]))
   |succ p=>
    cases q with
    |zero=>lia
    |succ q=>exact .cons _ (sE.mpr #[p,q,9,#[5,a],#[5,b]])
def uX:nj m R [j,k]↔∃(p q:Nat)(x y:Row),p<q/\R[p]?=some x/\R[q]?=some y/\¬m∣aN [x,y] [j,k]:=by
 constructor
 .rintro⟨S,a,b,c⟩
  match S,b with
  | [x,y],_=>
   obtain⟨p,q,g1,g2,g3⟩:=sE.mp a;exact#[p,q,x,y,g1,g2,g3,c]
 .rintro⟨p,q,x,y,g1,g2,g3,g4⟩;exact#[[x,y],sE.mpr #[p,q,g1,g2,g3],2,g4]
def exB(b x y:Nat):Nat:=(b^^^2^x)|||2^y
def bW(b x y j:Nat):(exB b x y).testBit j=((b.testBit j^^decide (x=j))||decide (y=j)):=by unfold exB;rw[O7,Qe,O0,O0]
namespace Mat
variable{n:Nat}{r:Nat->Nat}(M:Mat n r)
include M
theorem Iv(a:C<2^n)(b:u<n)(d:v<n)(f:r C=c)(h:r (C|||2^u|||2^v)=c+2):r (C|||2^u)=c+1/\r (C|||2^v)=c+1:=by have g:=M.step C u a b;have i:=M.step (C|||2^u) v (aP a b) d;have j:=M.step C v a d;have e:=M.step (C|||2^v) u (aP a d) b;rw[show C|||2^v|||2^u=C|||2^u|||2^v by rw[Q0,RZ (2^v),<-Q0]]at e;lia
theorem Iu(f:C<2^n)(g:u<n)(b:v<n)(d:w<n)(i:r (C|||2^u)=c+1)(j:¬r (C|||2^u|||2^v)=c+2)(l:¬r (C|||2^u|||2^w)=c+2):¬r (C|||2^v|||2^w)=c+2:=by
 have a:=aP f g;have p:=M.step (C|||2^u) v a b;have q:=M.step (C|||2^u) w a d;have m:=M.sub (C|||2^u) v w a b d () ();have o:=M.mono (s:=C|||2^v|||2^w) (t:=C|||2^u|||2^v|||2^w) (λk e=>by simp only[O7,Px]at e⊢;rcases e with (h|h)|h<;>simp[h]) (aP (aP a b) d)
 lia
end Mat
structure Six(n:Nat)(r:Nat->Nat)(C c x z y v:Nat):Prop where
 M:Mat n r
 hC:C<2^n
 hx:x<n
 hz:z<n
 hy:y<n
 hv:v<n
 h0:r C=c
def bM(r:Nat->Nat)(C c u v:Nat):Prop:=r (C|||2^u|||2^v)=c+2
def gz:bM r C c u v↔bM r C c v u:=by unfold bM;rw[show C|||2^v|||2^u=C|||2^u|||2^v by rw[Q0,RZ (2^v),<-Q0]]
def C8(e:xz->X/\Z)(f:b->X/\Y)(g:a->X/\V)(h:zy->Z/\Y)(i:c->Z/\V)(j:d->Y/\V)
  (k:X->¬xz->¬b->¬zy) (o:X->¬xz->¬a->¬c) (p:X->¬b->¬a->¬d)
  (q:Z->¬xz->¬zy->¬b) (r:Z->¬xz->¬c->¬a) (s:Z->¬zy->¬c->¬d)
  (t:Y->¬b->¬zy->¬xz) (u:Y->¬b->¬d->¬a) (v:Y->¬zy->¬d->¬c)
  (l:V->¬a->¬c->¬xz) (m:V->¬a->¬d->¬b) (n:V->¬c->¬d->¬zy)
  (A:xz) (B:zy) (G:b->a->c->d->False):d↔((a/\¬(c/\b))\/(¬a/\c/\b)):=by
 by_cases w:b<;>by_cases x:a<;>by_cases y:c<;>by_cases z:d<;>simp_all
def Six.iff(S:Six n r C c x z y v)(q:bM r C c x z)(s:bM r C c z y)(B:bM r C c x y->bM r C c x v->bM r C c z v->bM r C c y v->False):
  bM r C c y v↔((bM r C c x v/\¬(bM r C c z v/\bM r C c x y))\/(¬bM r C c x v/\bM r C c z v/\bM r C c x y)):=by
 obtain⟨M,o,i,k,j,g,p⟩:=S;have non:∀ {u w},u<n->w<n->bM r C c u w->r (C|||2^u)=c+1/\r (C|||2^w)=c+1:=λl m h=>M.Iv o l m p h;have par:∀ {u w t},u<n->w<n->t<n->r (C|||2^u)=c+1->¬bM r C c u w->¬bM r C c u t->¬bM r C c w t:=λl m A h a b=>M.Iu o l m A h a b;have f:∀ {u w},¬bM r C c u w->¬bM r C c w u:=λh e=>h (gz.mp e);refine C8 (non i k) (non i j) (non i g) (non k j) (non k g) (non j g) (par i k j) (par i k g) (par i j g)
  (λa b d=>par k i j a (f b) d) (λa b d=>par k i g a (f b) d) (λa b d=>par k j g a b d)
  (λa b d=>par j i k a (f b) (f d)) (λa b d=>par j i g a (f b) d) (λa b d=>par j k g a (f b) d)
  (λa b d=>par g i k a (f b) (f d)) (λa b d=>par g i j a (f b) (f d)) (λa b d=>par g k j a (f b) (f d)) q s B
def kr(r:Nat->Nat)(G R:Nat):Prop:=∀C x z y v,Sub C G->sz C+2=R->(∀t∈[x,z,y,v],G.testBit t=true/\C.testBit t=false)->[x,z,y,v].Nodup->r C+2=R->
 bM r C (r C) x z->bM r C (r C) x y->bM r C (r C) x v->bM r C (r C) z y->bM r C (r C) z v->bM r C (r C) y v->False
def Og{B x y a b:Nat}(h:B.testBit x=true)(f:B.testBit a=true)(i:x≠a)(c:B.testBit y=false)(k:B.testBit b=false)(l:y≠b):exB (exB B x y) a b=(B^^^2^x^^^2^a)|||2^y|||2^b:=O2 λj=>by
 have g:y≠a:=λe=>by rw[e,f]at c;cases c
 rw[bW,bW,O7,O7,Qe,Qe,O0,O0,O0,O0];by_cases e:y=j
 .have d:¬a=j:=λz=>g (e.trans z.symm);simp[e,d]
 .simp[e]
def El{B x a y:Nat}(d:B.testBit x=true)(b:B.testBit a=true)(c:x≠a):(B^^^2^x^^^2^a)|||2^a|||2^y=exB B x y:=O2 λj=>by
 rw[bW,O7,O7,Qe,Qe,O0,O0,O0];by_cases e:a=j
 .subst e;simp[b,c]
 .simp[e]
def Lu{B x a:Nat}(c:B.testBit x=true)(d:B.testBit a=true)(f:x≠a):(B^^^2^x^^^2^a)|||2^x|||2^a=B:=O2 λj=>by
 rw[O7,O7,Qe,Qe,O0,O0];by_cases e:a=j
 .subst e;simp[d]
 .by_cases b:x=j
  .subst b;simp[c]
  .simp[e,b]
def Aa{n B x y:Nat}(M:Mat n r)(c:B<2^n)(a:B.testBit x=true)(d:B.testBit y=false)(f:y<n):exB B x y<2^n/\sz (exB B x y)=sz B:=by
 have b:=M.gv c a;have h:=M.iN c a;refine#[aP b f,6];have g:(B^^^2^x).testBit y=false:=by
  rw[Qe,d,O0];have:¬x=y:=λe=>by rw[e,d]at a;cases a
  simp[this]
 have i:=gc (M.aX b) (OW f M.n8) g;unfold exB;lia
def J3(M1:Mat n q)(M2:Mat n s){G R B x y:Nat}(hG:G<2^n)(bN:kr q G R)(bS:kr s G R)(l:Sub B G)(zB:sz B=R)(N:q B=R)(O:s B=R)
  (H:∀x y,B.testBit x=true->G.testBit y=true->B.testBit y=false->(q (exB B x y)=R↔s (exB B x y)=R)) (g:B.testBit x=true) (K:G.testBit y=true) (p:B.testBit y=false) (e1:q (exB B x y)=R) (e2:s (exB B x y)=R):
  ∀c f,(exB B x y).testBit c=true->G.testBit f=true->(exB B x y).testBit f=false->(q (exB (exB B x y) c f)=R↔s (exB (exB B x y) c f)=R):=by
 intro c f U w z;have L:x≠y:=λe=>by rw[e,p]at g;cases g
 rw[bW]at U z;have ab:y≠f:=λe=>by simp[e]at z
 by_cases J:c=y
 .subst J;by_cases o:x=f
  .subst o;have e:exB (exB B x c) c x=B:=O2 λj=>by
    rw[bW,bW];by_cases k:c=j
    .subst k;simp[p,L]
    .by_cases A:x=j
     .subst A;simp[g,k]
     .simp[k,A]
   rw[e,N,O]
  .have m:B.testBit f=false:=by have:¬c=f:=ab;simp[o,this]at z;exact z
   have e:exB (exB B x c) c f=exB B x f:=O2 λj=>by
    rw[bW,bW,bW];by_cases k:c=j
    .subst k;simp[p,L]
    .simp[k]
   rw[e];exact H x f g w m
 .have nx:¬x=c:=λe=>by subst e;have k:¬y=x:=λe=>L e.symm;simp[g,k]at U
  have i:B.testBit c=true:=by have k:¬y=c:=λe=>J e.symm;simp[nx,k]at U;exact U
  by_cases o:x=f
  .subst o;have e:exB (exB B x y) c x=exB B c y:=O2 λj=>by
    rw[bW,bW,bW];by_cases A:x=j
    .subst A;have:¬c=x:=λe=>nx e.symm;simp[g,this]
    .by_cases k3:c=j
     .subst k3;have:¬y=c:=λe=>J e.symm;simp[A,i,this]
     .simp[A,k3]
   rw[e];exact H c y i K p
  .have m:B.testBit f=false:=by have:¬y=f:=ab;simp[o,this]at z;exact z
   have Q:=l.lt hG;have C1:=M1.gv Q g;have ar:(B^^^2^x).testBit c=true:=by rw[Qe,i,O0];simp[nx]
   have C2:=M1.gv C1 ar;have z1:=M1.iN Q g;have z2:=M1.iN C1 ar;have sC:Sub (B^^^2^x^^^2^c) B:=(df ar).trans (df g);have f1:=M1.jR sC Q (N.trans zB.symm);have f2:=M2.jR sC Q (O.trans zB.symm);have lt:∀ {t},G.testBit t=true->t<n:=λh=>bD hG h;have cb:∀t,(B^^^2^x^^^2^c).testBit t=(B.testBit t^^decide (x=t)^^decide (c=t)):=λt=>by rw[Qe,Qe,O0,O0]
   have pr:∀(r:Nat->Nat),r (B^^^2^x^^^2^c)+2=R->∀u v,bM r (B^^^2^x^^^2^c) (r (B^^^2^x^^^2^c)) u v↔r ((B^^^2^x^^^2^c)|||2^u|||2^v)=R:=λr h u v=>by unfold bM;rw[h]
   have g1:q (B^^^2^x^^^2^c)+2=R:=()
   have g2:s (B^^^2^x^^^2^c)+2=R:=()
   have p1:=pr q g1;have p2:=pr s g2;have q1:(B^^^2^x^^^2^c)|||2^x|||2^c=B:=Lu g i nx;have M:∀t,(B^^^2^x^^^2^c)|||2^c|||2^t=exB B x t:=λt=>El g i nx;have q3:∀t,(B^^^2^x^^^2^c)|||2^x|||2^t=exB B c t:=λt=>by rw[show B^^^2^x^^^2^c=B^^^2^c^^^2^x by rw[Qb,RE (2^x),<-Qb]];exact El i g (λe=>nx e.symm)
   have mem:∀t∈[x,c,y,f],G.testBit t=true/\(B^^^2^x^^^2^c).testBit t=false:=λt ht=>by
    have n1:¬c=x:=λe=>nx e.symm;have n2:¬x=f:=o;have n3:¬c=f:=λe=>by rw[e,m]at i;cases i
    simp only[OT,Pe,Qa]at ht;rcases ht with rfl|rfl|rfl|rfl
    .exact#[l _ g,by rw[cb,g];simp[n1]]
    .exact#[l _ i,by rw[cb,i];simp[nx]]
    .exact#[K,by rw[cb,p];simp[L,J]]
    .exact#[w,by rw[cb,m];simp[n2,n3]]
   have nd:[x,c,y,f].Nodup:=by
    have n3:¬c=f:=λe=>by rw[e,m]at i;cases i
    simp[nx,L,o,J,n3,ab]
   have bb:=sC.trans l;have i1:=Six.iff #[M1,C2,lt (l _ g),lt (l _ i),lt K,lt w,2] ((p1 x c).mpr (by rw[q1,N])) ((p1 c y).mpr (by rw[M,e1])) λa b d e=>bN _ x c y f bb () mem nd g1 ((p1 x c).mpr (by rw[q1,N])) a b ((p1 c y).mpr (by rw[M,e1])) d e;have i2:=Six.iff #[M2,C2,lt (l _ g),lt (l _ i),lt K,lt w,2] ((p2 x c).mpr (by rw[q1,O])) ((p2 c y).mpr (by rw[M,e2])) λa b d e=>bS _ x c y f bb () mem nd g2 ((p2 x c).mpr (by rw[q1,O])) a b ((p2 c y).mpr (by rw[M,e2])) d e;rw[Og g i nx p m ab];have j1:=(p1 y f).symm.trans i1;have j2:=(p2 y f).symm.trans i2;rw[j1,j2,p1,p1,p1,p2,p2,p2,M,q3,q3,H x f g w m,H c f i w m,H c y i K p]
def wm(M1:Mat n g)(M2:Mat n i){G R:Nat}(d:G<2^n)(f1:g (2^n-1)=R)(f2:i (2^n-1)=R)(ai:kr g G R)(ar:kr i G R):
  ∀(k B:Nat),Sub B G->sz B=R->g B=R->i B=R->(∀x y,B.testBit x=true->G.testBit y=true->B.testBit y=false->(g (exB B x y)=R↔i (exB B x y)=R))->∀Z,Sub Z G->sz Z=R->sz (ao B Z)=k->(g Z=R↔i Z=R)
 |0,B,l,o,p,q,_,Z,f,s,K=>by
  have hs:Sub B Z:=λt ht=>by
   cases e:Z.testBit t with
   |true=>rfl
   |false=>
    have U:=bD (l.lt d) ht;have hb:(ao B Z).testBit t=true:=by rw[aG,ht,e];rfl
    have hl:=Pd (iK B Z) (l.lt d);have:=M1.iN hl hb;lia
  have e:B=Z:=tF (M1.aX (l.lt d)) (M1.aX (f.lt d)) (λk _ h=>hs k h) (o.trans s.symm);rw[<-e,p,q]
 |k+1,B,l,o,p,q,z,Z,f,s,K=>by
  by_cases L:g Z=R\/i Z=R
  .have v:=l.lt d;have Q:=f.lt d;obtain⟨x,w⟩:∃x,(ao B Z).testBit x=true:=by
    refine Pb λU=> ?_;have:ao B Z=0:=O2 λj=>by
     rw[Pw];cases e:(ao B Z).testBit j with
     |false=>rfl
     |true=>exact absurd #[j,e] U
    rw[this,dh]at K;cases K
   have a:B.testBit x=true/\Z.testBit x=false:=by rw[aG]at w;cases A:B.testBit x<;>cases H:Z.testBit x<;>rw[A,H]at w<;>simp at w⊢
   obtain⟨y,u,M,N,O⟩:∃y,Z.testBit y=true/\B.testBit y=false/\g (exB B x y)=R/\i (exB B x y)=R:=by
    rcases L with h|h
    .obtain⟨y,g1,g2,g3⟩:=M1.exch (b:=B) (c:=Z) #[v,p.trans o.symm,p.trans f1.symm] #[Q,h.trans s.symm,h.trans f1.symm] a.1 a.2;have:g (exB B x y)=R:=g3.2.2.trans f1;exact#[y,g1,g2,this,(z x y a.1 (f _ g1) g2).mp this]
    .obtain⟨y,g1,g2,g3⟩:=M2.exch (b:=B) (c:=Z) #[v,q.trans o.symm,q.trans f2.symm] #[Q,h.trans s.symm,h.trans f2.symm] a.1 a.2;have:i (exB B x y)=R:=g3.2.2.trans f2;exact#[y,g1,g2,(z x y a.1 (f _ g1) g2).mpr this,this]
   have ax:=J3 M1 M2 d ai ar l o p q z a.1 (f _ u) M N O;have zE:=Aa M1 v a.1 M (bD d (f _ u));have hE:Sub (exB B x y) G:=λj J=>by
    rw[bW]at J;by_cases m:y=j
    .subst m;exact f _ u
    .by_cases r:x=j
     .subst r;exact l _ a.1
     .simp[m,r]at J;exact l _ J
   refine wm M1 M2 d f1 f2 ai ar k (exB B x y) hE (zE.2.trans o) N O ax Z f s ?_;have ed:ao (exB B x y) Z=ao B Z^^^2^x:=O2 λj=>by
    rw[aG,bW,Qe,aG,O0];by_cases m:y=j
    .subst m;have:¬x=y:=λe=>by rw[e,u]at a;cases a.2
     simp[u,this]
    .by_cases r:x=j
     .subst r;simp[a.1,a.2,m]
     .simp[m,r]
   have:=M1.iN (Pd (iK B Z) v) w;rw[ed];lia
  .have A:¬g Z=R:=λh=>L (.inl h);have H:¬i Z=R:=λh=>L (.inr h);exact#[λh=>absurd h A,λh=>absurd h H]
def Mx{a:List Nat}(b:k<8):rkC a (s|||2^k)=rkC a s↔di (av a s) (a.getD k 0):=by
 rw[yk a b];show rkX _=rkX _↔_;constructor
 .intro h;refine Pb λc=> ?_;rw[kU c]at h;lia
 .exact qM
end Bh
namespace Bh
def cU:bZ 2:=uj 2 ∅
def t9(f:bZ m):∀(cs:List Nat)(R:List Row),∃(b:List Row)(d:Nat),∀a,rho m R (cs++a)=rho m b a+d
 | [],R=>#[R,0,λa=>rfl]
 |c::cs,R=>by
  rcases pO f c R with h|⟨b,h⟩
  .obtain⟨R2,d,e⟩:=t9 f cs R;exact#[R2,d,λa=>(h _).trans (e a)]
  .obtain⟨R2,d,e⟩:=t9 f cs b;exact#[R2,d+1,λa=>by rw[TM,h,e];lia]
def IJ(h:(2:Int)∣a*d-c*b)(f:¬(2:Int)∣a)(i:¬(2:Int)∣d):¬(2:Int)∣b:=λg=>by
 have e:(2:Int)∣a*d:=by have:=SU g (Int.dvd_mul_left c b);lia
 rcases cU.mul _ _ e with e|e
 .exact f e
 .exact i e
def K6(h:(2:Int)∣a*d-c*b)(i:¬(2:Int)∣a)(m:¬(2:Int)∣b):(2:Int)∣c-d:=by
 have e:a*(d-c)=a*d-a*c:=Q5 ..;have k:c*(a-b)=c*a-c*b:=Q5 ..;have l:(2:Int)∣c*(a-b):=SU (show(2:Int)∣a-b by lia) (Int.dvd_mul_left c _);have j:c*a=a*c:=P5 ..;have g:(2:Int)∣a*(d-c):=()
 rcases cU.mul _ _ g with f|f
 .exact absurd f i
 .lia
def GL(h:(2:Int)∣a-b)(f:(2:Int)∣c-d):(2:Int)∣a*d-c*b:=by have e:(a-b)*d=a*d-b*d:=Si ..;have i:(c-d)*b=c*b-d*b:=Si ..;have g:d*b=b*d:=P5 ..;have:=SU h (SK _ d);have:=SU f (SK _ b);lia
def vY(h:∀a∈R,(2:Int)∣a j-a k):¬nj 2 R [j,k]:=λf=>by obtain⟨p,q,x,y,_,g1,g2,g3⟩:=uX.mp f;rw[sX]at g3;exact g3 (GL (h x (O5 g1)) (h y (O5 g2)))
def vX(h:¬nj 2 R [j,k])(m:nj 2 R [j])(n:nj 2 R [k]):∀a∈R,(2:Int)∣a j-a k:=by
 obtain⟨x,f,g⟩:=uY.mp m;obtain⟨y,o,s⟩:=uY.mp n;have D:∀a∈R,∀b∈R,(2:Int)∣a j*b k-b j*a k:=λa c b i=>by
  obtain⟨p,d⟩:=P2 c;obtain⟨q,e⟩:=P2 i;rcases Nat.lt_trichotomy p q with l|l|l
  .cases Classical.em ((2:Int)∣a j*b k-b j*a k)with
   |inl z=>exact z
   |inr z=>exact absurd (uX.mpr #[p,q,a,b,l,d,e,by rw[sX];exact z]) h
  .subst l;have:a=b:=Qd (d.symm.trans e);subst this;lia
  .cases Classical.em ((2:Int)∣b j*a k-a j*b k)with
   |inl z=>lia
   |inr z=>exact absurd (uX.mpr #[q,p,b,a,l,e,d,by rw[sX];exact z]) h
 have r:=IJ (D x f y o) g s;exact λa c=>K6 (D x f a c) g r
def Ge(t:rho 2 R [x,z]=2)(s:rho 2 R [x,y]=2)(r:rho 2 R [x,v]=2)(zy:rho 2 R [z,y]=2)(zv:rho 2 R [z,v]=2)(U:rho 2 R [y,v]=2)
  (N:rho 2 R [x,z,y]<=2) (O:rho 2 R [x,z,v]<=2) (Q:rho 2 R [x,y,v]<=2):False:=by
 have b:=cU;rcases nW 2 x R with h|⟨p,A,B,e,o⟩
 .have u:rho 2 R (x::[z])=rho 2 R [z]:=fG b ((gx b R [z]).zeroC h);have m:=pM b z [] R;rw[iH b]at m;lia
 .have pv:∀cs,rho 2 R (x::cs)=rho 2 ((A++B).map (cx 1 p x)) cs+1:=λcs=>fG b ((gx b _ cs).pivot b e o);have l:∀j k,rho 2 R [x,j]=2->rho 2 R [x,k]=2->rho 2 R [j,k]=2->rho 2 R [x,j,k]<=2->¬(2:Int)∣p j-p k:=λj k J K L M n=>by
   rw[pv]at J K M;have f1:nj 2 ((A++B).map (cx 1 p x)) [j]:=(kH b _ _).mp (by show _=1;lia);have f2:nj 2 ((A++B).map (cx 1 p x)) [k]:=(kH b _ _).mp (by show _=1;lia);have G:¬nj 2 ((A++B).map (cx 1 p x)) [j,k]:=λz=>by have:=(kH b _ _).mpr z;have:rho 2 ((A++B).map (cx 1 p x)) [j,k]=2:=this;lia
   have H:=vX G f1 f2;refine vY (R:=R) (j:=j) (k:=k) (λa c=> ?_) ((kH b _ _).mp L);rw[e]at c;have f:a=p\/a∈A++B:=by
    rw[Pg,OT]at c;rw[Pg];rcases c with c|c|c
    .exact .inr (.inl c)
    .exact .inl c
    .exact .inr (.inr c)
   rcases f with rfl|f
   .exact n
   .have g:=H _ (Sl f);have q:∀i,cx 1 p x a i=a i*p x-p i*a x:=λi=>Int.fdiv_one _;rw[q,q]at g;have u:(a j-a k)*p x=a j*p x-a k*p x:=Si ..;have m:(p j-p k)*a x=p j*a x-p k*a x:=Si ..;have e3:=SU n (SK _ (a x));have w:(2:Int)∣(a j-a k)*p x:=()
    rcases b.mul _ _ w with d|d
    .exact d
    .exact absurd d o
  have k1:=l z y t s zy N;have k2:=l z v t r zv O;have k3:=l y v s r U Q;lia
def Bp(L:List Row)(lt:∀t∈[x,z,y,v],t<8)(p1:bM (bQ 2 L) C (bQ 2 L C) x z)(p2:bM (bQ 2 L) C (bQ 2 L C) x y)(p3:bM (bQ 2 L) C (bQ 2 L C) x v)(p4:bM (bQ 2 L) C (bQ 2 L C) z y)(p5:bM (bQ 2 L) C (bQ 2 L C) z v)(p6:bM (bQ 2 L) C (bQ 2 L C) y v)
  (top:∀s∈[x,z,y,v],∀t∈[x,z,y,v],∀u∈[x,z,y,v],bQ 2 L (C|||2^s|||2^t|||2^u)<=bQ 2 L C+2):False:=by
 have i:=cU;obtain⟨o,d,m⟩:=t9 i (aq C) L;have p:bQ 2 L C=d:=by have:=m [];rwa[Qx,iH i,Rw]at this
 have b:∀s∈[x,z,y,v],∀t∈[x,z,y,v],bM (bQ 2 L) C (bQ 2 L C) s t->rho 2 o [s,t]=2:=λs k t l w=>by
  have e:bQ 2 L (C|||2^s|||2^t)=rho 2 L (aq C++[s,t]):=fO i λj=>by rw[ig (lt t l),OT,ig (lt s k),OT,Pg,OT,OT];simp only[Pe,Qa];exact#[λh=>by rcases h with h|h|h;exact .inr (.inr h);exact .inr (.inl h);exact .inl h,λh=>by rcases h with h|h|h;exact .inr (.inr h);exact .inr (.inl h);exact .inl h]
  have r:bQ 2 L (C|||2^s|||2^t)=bQ 2 L C+2:=w;rw[e,m,p]at r;lia
 have n:∀s∈[x,z,y,v],∀t∈[x,z,y,v],∀u∈[x,z,y,v],rho 2 o [s,t,u]<=2:=λs k t l u q=>by
  have e:bQ 2 L (C|||2^s|||2^t|||2^u)=rho 2 L (aq C++[s,t,u]):=fO i λj=>by rw[ig (lt u q),OT,ig (lt t l),OT,ig (lt s k),OT,Pg,OT,OT,OT];simp only[Pe,Qa];exact#[λh=>by rcases h with h|h|h|h;exact .inr (.inr (.inr h));exact .inr (.inr (.inl h));exact .inr (.inl h);exact .inl h,λh=>by rcases h with h|h|h|h;exact .inr (.inr (.inr h));exact .inr (.inr (.inl h));exact .inr (.inl h);exact .inl h]
  have:=top s k t l u q;rw[e,m,p]at this;lia
 have a:x∈[x,z,y,v]:=#[5]
 have g:z∈[x,z,y,v]:=#[5]
 have f:y∈[x,z,y,v]:=#[5]
 have c:v∈[x,z,y,v]:=#[5]
 exact Ge (b x a z g p1) (b x a y f p2) (b x a v c p3) (b z g y f p4) (b z g v c p5) (b y f v c p6) (n x a z g y f) (n x a z g v c) (n x a y f v c)
def CN(L:List Row)(a:n<=8)(b:G<2^n)(i:bQ 2 L (2^n-1)=R):kr (bQ 2 L) G R:=by intro C x z y v c l e j k p1 p2 p3 p4 p5 p6;have lt:∀t∈[x,z,y,v],t<n:=λt h=>aU b (e t h).1;have M:=jI cU L a;refine Bp L (λt h=>OW (lt t h) a) p1 p2 p3 p4 p5 p6 λs d t f u g=> ?_;have:=M.mono (bO (aP (aP (aP (c.lt b) (lt s d)) (lt t f)) (lt u g))) (aJ n);lia
def bU(f:Nat->Nat->Int)(J:List Nat):List Row:=J.map λi t=>f t i
def Bo{L:List Row}{cs:List Nat}(h:L.length=cs.length):nj m L cs↔¬m∣aN L cs:=by
 constructor
 .rintro⟨S,a,b,c⟩;have:S=L:=a.eq_of_length (b.trans h.symm);rw[<-this];exact c
 .exact λz=>#[L,List.Sublist.refl _,h,z]
def dF(b:bZ m){L:List Row}{cs:List Nat}(h:L.length=R)(a:cs.length=R):rho m L cs=R↔¬m∣aN L cs:=by rw[<-Bo (h.trans a.symm),<-kH b,a]
def Ah(a:bZ m)(f:Nat->Nat->Int){cs:List Nat}(hl:cs.length=R)(b:Van m (k+1) (cs.map λt j=>f t j) (List.range R))(c:Mnr m k (cs.map λt j=>f t j) (List.range R)):
  k=R↔rho m (bU f (List.range R)) cs=R:=by
 have e:rho m (cs.map λt j=>f t j) (List.range R)=k:=fG a #[b,c.not_van];rw[<-e,dF a (by rw[My,hl]) (O8 ..),dF a (by unfold bU;rw[My,O8]) hl,kN f (List.range R) cs (by rw[O8,hl])];rfl
def pN(c:bZ m)(L:List Row)(cs:List Nat):rho m L cs<=L.length:=by obtain⟨r,d,S,T,a,e,b,f,g⟩:=jq c cs L;rw[fG c #[d,Mnr.not_van #[S,T,a,e,b,f,g]],<-b];exact a.length_le
def nC(n:bZ m)(f:Nat->Nat->Int)(g:Nat->Nat):∀(I J:List Nat),I.Nodup->J.Nodup->(∀i∈I,i∈J)->(∀i∈I,∀j∈J,f (g i) j=if j=i then 1 else 0)->
  ∃d:List Nat,d.Nodup/\(∀j,j∈d↔j∈J/\j∉I)/\∀l,rho m (bU f J) (I.map g++l)=rho m (bU f d) l+I.length
 | [],J,_,q,_,_=>#[J,q,λj=>#[5],λl=>rfl]
 |i::I,J,L,q,r,s=>by
  obtain⟨A,B,e⟩:=Sx (r i O6);subst e;have u:=PX.mp L;have K:(A++B).Nodup:=(List.Sublist.append (List.Sublist.refl A) (List.sublist_cons_self i B)).nodup q;have v:i∉A++B:=λz=>by
   have o:=Rn.mp q;rw[Pg]at z;rcases z with z|z
   .exact o.2.2 i z i O6 rfl
   .exact(PX.mp o.2.1).1 z
  have p:∀j,j∈A++i::B↔j=i\/j∈A++B:=λj=>by rw[Pg,OT,Pg];exact#[λh=>by rcases h with h|h|h;exact .inr (.inl h);exact .inl h;exact .inr (.inr h),λh=>by rcases h with h|h|h;exact .inr (.inl h);exact .inl h;exact .inr (.inr h)]
  obtain⟨d,o,y,G⟩:=nC n f g I (A++B) u.2 K (λj c=>by
   rcases(p j).mp (r j (OZ _ c))with z|z
   .exact absurd (z▸c) u.1
   .exact z) λj c k H=>s j (OZ _ c) k ((p k).mpr (.inr H))
  refine#[d,o,λj=> ?_,λl=> ?_]
  .rw[y,p,OT];constructor
   .rintro⟨a,b⟩;exact#[.inr a,λz=>by rcases z with z|z;exact v (z▸a);exact b z]
   .rintro⟨a,b⟩;exact#[by rcases a with a|a;exact absurd (.inl a) b;exact a,λz=>b (.inr z)]
  .have w:bU f (A++i::B)=(A.map λi t=>f t i)++(λt=>f t i)::(B.map λi t=>f t i):=by unfold bU;rw[PC,PF]
   have u1:f (g i) i=1:=by rw[s i O6 i (r i O6),OP rfl]
   have x:((A.map λi t=>f t i)++(B.map λi t=>f t i)).map (cx 1 (λt=>f t i) (g i))=bU f (A++B):=by unfold bU;rw[<-PC,PJ];refine P4 λj c=> ?_;funext t;show(f t j*f (g i) i-f t i*f (g i) j).fdiv 1=f t j;rw[Int.fdiv_one,u1,s i O6 j ((p j).mpr (.inr c)),OO (show¬j=i from λz=>v (z▸c))];lia
   have pv:=fG n ((gx n _ (I.map g++l)).pivot n w (by show¬m∣f (g i) i;rw[u1];exact n.one));rw[x,G]at pv;rw[PF,TM,pv,Pa];lia
structure zQ(B R:Nat)(g:Nat->Nat):Prop where
 bit:∀i,i<R->B.testBit (g i)=true
 inj:∀i j,i<R->j<R->g i=g j->i=j
 all:∀t,B.testBit t=true->∃i,i<R/\g i=t
structure LJ(r:Nat->Nat)(G B R:Nat)(g:Nat->Nat)(f:Nat->Nat->Int):Prop where
 unit:∀i j,i<R->j<R->f (g i) j=if j=i then 1 else 0
 fill:∀y i,G.testBit y=true->B.testBit y=false->i<R->f y i=if r (exB B (g i) y)=R then 1 else 0
def EM(t:n<=8)(p:B<2^n)(P:zQ B R g)(T:LJ r G B R g f):bQ 2 (bU f (List.range R)) B=R:=by
 have d:=cU;obtain⟨k,s,m,o⟩:=nC d f g (List.range R) (List.range R) Py Py (λi h=>h) λi c j q=>T.unit i j (OS.mp c) (OS.mp q);have e:k=[]:=by
  cases k with
  |nil=>rfl
  |cons a l=>
   have:=(m a).mp O6;exact absurd this.1 this.2
 have:=o [];rw[e,iH d,Qx,O8,Rw]at this;refine(fO d λj=> ?_).trans this;rw[aK,OX];constructor
 .rintro⟨_,b⟩;obtain⟨i,c,e⟩:=P.all j b;exact#[i,OS.mpr c,e]
 .rintro⟨i,c,rfl⟩;have b:=P.bit i (OS.mp c);have:=aU p b;exact#[9,b]
def Ke{n B R:Nat}{G:Nat}(n8:n<=8)(M:B<2^n)(N:G<2^n)(P:zQ B R g)(T:LJ r G B R g f)(m:p<R)(H:G.testBit y=true)(Q:B.testBit y=false):
  bQ 2 (bU f (List.range R)) (exB B (g p) y)=R↔r (exB B (g p) y)=R:=by
 have d:=cU;have s:∀i,i∈(List.range R).erase p↔i≠p/\i∈List.range R:=λi=>Py.mem_erase_iff;obtain⟨t,v,K,L⟩:=nC d f g ((List.range R).erase p) (List.range R) (Py.erase p) Py (λi h=>(s i).mp h|>.2) λi c j O=>T.unit i j (OS.mp ((s i).mp c).2) (OS.mp O);have m1:∀j,j∈t↔j=p:=λj=>by
  rw[K,s,OS];constructor
  .rintro⟨a,b⟩;exact Pb λz=>b #[z,a]
  .rintro rfl;exact#[m,λz=>z.1 rfl]
 have e:t=[p]:=by
  match t,v,m1 with
  | [],_,m1=>exact absurd ((m1 p).mpr rfl) Pe
  | [a],_,m1=>rw[(m1 a).mp O6]
  |a::b::l,v,m1=>
   have:=(m1 a).mp O6;have:=(m1 b).mp (OZ _ O6);have q:=(PX.mp v).1;exact absurd (by subst_vars;exact O6) q
 have ln:((List.range R).erase p).length+1=R:=by rw[RP (OS.mpr m),O8];lia
 have k:=L [y];rw[e]at k;have J:bQ 2 (bU f (List.range R)) (exB B (g p) y)=rho 2 (bU f [p]) [y]+((List.range R).erase p).length:=by
  refine(fO d λj=> ?_).trans k;rw[aK,bW,Pg,OX,Pu,Px,O3];constructor
  .rintro⟨U,b|b⟩
   .by_cases z:g p=j
    .rw[OQ z,<-z,P.bit p m]at b;cases b
    .rw[OR z,SD]at b;obtain⟨i,c,A⟩:=P.all j b;exact .inl #[i,(s i).mpr #[λq=>z (q▸A),OS.mpr c],A]
   .exact .inr b.symm
  .rintro(⟨i,c,rfl⟩|rfl)
   .have c:=(s i).mp c;have lt:=OS.mp c.2;have b:=P.bit i lt;have:=aU M b;refine#[9, .inl ?_];rw[b,OR λq=>c.1 (P.inj p i m lt q).symm];rfl
   .have:=aU N H;exact#[9, .inr rfl]
 have one:rho 2 (bU f [p]) [y]=1↔¬(2:Int)∣f y p:=by have:=(kH d (bU f [p]) [y]).trans uY;refine this.trans #[λ⟨x,w,h⟩=> ?_,λh=>#[_,Pu.mpr rfl,h]];have w:=Pu.mp w;subst w;exact h
 rw[J];have u:=T.fill y p H Q m;have:rho 2 (bU f [p]) [y]<=1:=pN d _ _;constructor
 .intro h;have o:=one.mp ();rw[u]at o;cases Classical.em (r (exB B (g p) y)=R)with
  |inl z=>exact z
  |inr z=>rw[OO z]at o;exact absurd (PK _) o
 .intro h;rw[OP h]at u;have:=one.mpr (by rw[u];exact d.one);lia
def wq(M:Mat n r)(m:r (2^n-1)=R)(a:G<2^n)(c:Sub B G)(z:sz B=R)(w:r B=R)(P:zQ B R g)(T:LJ r G B R g f)(v:kr r G R)
   (l:Sub Z G) (A:sz Z=R):r Z=R↔bQ 2 (bU f (List.range R)) Z=R:=by
 have b:=M.n8;have e:=cU;have M2:=jI e (bU f (List.range R)) b;have h:=EM b (c.lt a) P T;have lt:=c.lt a;have i:Sub B (2^n-1):=λj o=>by rw[Pq];exact OQ (aU lt o)
 have f2:bQ 2 (bU f (List.range R)) (2^n-1)=R:=by
  have H:=M2.mono i (by have:=Nat.two_pow_pos n;lia);have d:=pN e (bU f (List.range R)) (aq (2^n-1));have k:(bU f (List.range R)).length=R:=by unfold bU;rw[My,O8]
  have J:bQ 2 (bU f (List.range R)) (2^n-1)<=R:=by rwa[k]at d
  lia
 exact wm M M2 a m f2 v (CN _ b a f2) _ B c z w h (λx y s t u=>by obtain⟨p,q,rfl⟩:=P.all x s;exact(Ke b lt a P T q t u).symm) Z l A rfl
def gf{S:Nat}(h:sz S≠0):∃a,S.testBit a=true:=Pb λz=>h (by
 have:S=0:=O2 λj=>by
  rw[Pw];cases e:S.testBit j with
  |false=>rfl
  |true=>exact absurd #[j,e] z
 rw[this];exact dh)
def o8{n S:Nat}(p:n<=8)(f:S<2^n)(h:sz S=2):∃a b,a≠b/\S.testBit a=true/\S.testBit b=true/\S=2^a|||2^b:=by
 have j:S<256:=OW f (Pr ∅ p);obtain⟨a,c⟩:=gf (S:=S) ();have s:=aU f c;have q:=fo S j a () c;obtain⟨b,d⟩:=gf (S:=S^^^2^a) ();have e:=d;rw[cG c,Pc]at e;have ne:a≠b:=λz=>by have:=e.2;rw[OQ z]at this;cases this
 have t:=aU f e.1;have m:S^^^2^a<256:=(df c).lt (n:=8) j;have r:=fo (S^^^2^a) m b () d;have o:S^^^2^a^^^2^b=0:=(tF (a:=0) ∅ ((df d).lt (n:=8) m) (λk _ l=>by rw[Pw]at l;cases l) (by rw[dh];lia)).symm;have g:=fT d;rw[o,R0]at g;have i:=fT c;rw[<-g,RZ]at i;exact#[a,b,ne,c,e.1,i.symm]
def Gd(M:Mat n r)(J:G<2^n)(hf:r (2^n-1)=R)(p:¬kr r G R):
  ∃k w,k<2^n/\w<2^n/\sz k=4/\(∀t,k.testBit t=true->w.testBit t=false)/\sz w+2=R/\dX 4 (cY r k w) 4 2=true:=by
 unfold kr at p;simp only[Se]at p;obtain⟨C,x,z,y,v,hC,zC,K,Q,rC,p1,p2,p3,p4,p5,p6,_⟩:=p;have O:=M.n8;have o:=hC.lt J;have lt:∀t∈[x,z,y,v],t<n:=λt h=>aU J (K t h).1;have bk:∀t,(2^x|||2^z|||2^y|||2^v).testBit t=true↔t∈[x,z,y,v]:=λt=>by
  simp only[O7,O0,Px,O3,OT,Pe,Qa];constructor
  .rintro(((h|h)|h)|h)<;>simp[h]
  .rintro(h|h|h|h)<;>simp[h]
 have g:2^x|||2^z|||2^y|||2^v<2^n:=Q7 _ λi hi=>by
  cases e:(2^x|||2^z|||2^y|||2^v).testBit i with
  |false=>rfl
  |true=>have:=lt i ((bk i).mp e);lia
 have L:=lt x #[5];have lz:=lt z #[5];have ly:=lt y #[5];have lv:=lt v #[5];simp only[PX,OT,Pe,Qa,RA,T7,and_true,not_false_eq_true]at Q;obtain⟨⟨N,n2,n3⟩,⟨n4,n5⟩,n6⟩:=Q;have H:(2:Nat)^n<=256:=Pr ∅ O;have m:∀t,t<n->(2:Nat)^t<256:=λt h=>OW (QZ ∅ h) H;have s1:sz (2^x)=1:=by have:=gc (s:=0) ∅ (show x<8 by lia) (Pw x);rwa[R0,dh]at this
 have s2:sz (2^x|||2^z)=2:=by rw[gc (m x L) () (by rw[O0];exact OR N),s1]
 have q:2^x|||2^z<256:=PV (n:=8) (m x L) (m z lz);have s3:sz (2^x|||2^z|||2^y)=3:=by rw[gc q () (by rw[O7,O0,O0,OR n2,OR n4];rfl),s2]
 have u:sz (2^x|||2^z|||2^y|||2^v)=4:=by rw[gc (PV (n:=8) q (m y ly)) () (by rw[O7,O7,O0,O0,O0,OR n3,OR n5,OR n6];rfl),s3]
 have B:∀a∈[x,z,y,v],∀b∈[x,z,y,v],a≠b->r (C|||2^a|||2^b)=r C+2:=by have q1:=gz.mp p1;have q:=gz.mp p2;have q3:=gz.mp p3;have q4:=gz.mp p4;have q5:=gz.mp p5;have q6:=gz.mp p6;intro a c b d ne;simp only[OT,Pe,Qa]at c d;rcases c with c|c|c|c<;>rcases d with d|d|d|d<;>rw[c,d]<;>first|exact absurd (c.trans d.symm) ne|assumption
 have kl:2^x|||2^z|||2^y|||2^v<256:=OW g H;have full:∀s,s<2^n->Sub s (2^n-1):=λs f j l=>by rw[Pq];exact OQ (aU f l)
 have top:cY r (2^x|||2^z|||2^y|||2^v) C (2^4-1)=2:=by
  unfold cY;have e:=kT kl;rw[u]at e;rw[e];have a1:=M.mono (full _ (PV g o)) (by have:=Nat.two_pow_pos n;lia);have a2:r (C|||2^x|||2^z)<=r (2^x|||2^z|||2^y|||2^v|||C):=M.mono (λj l=>by
   rw[O7,O7,Px,Px]at l;rw[O7,Px];rcases l with (h|h)|h
   .exact .inr h
   .exact .inl ((bk j).mpr (by rw[O0,O3]at h;simp[h]))
   .exact .inl ((bk j).mpr (by rw[O0,O3]at h;simp[h]))) (PV g o)
  have a3:=B x #[5] z #[5] (λe=>N e);lia
 refine#[2^x|||2^z|||2^y|||2^v,C,g,o,u,λt h=>(K t ((bk t).mp h)).2,zC,6];unfold dX;rw[top];simp only[decide_true,P7,PR,O3];intro s f;unfold eF at f;have f:=Pn.mp f;have ar:=OS.mp f.1;have U:=O9 f.2;have zs:sz (aO s (2^x|||2^z|||2^y|||2^v))=2:=by rw[qG (by rw[u];exact ar)];exact U
 have A:=cT s (2^x|||2^z|||2^y|||2^v);obtain⟨a,b,ne,c,d,e3⟩:=o8 O (A.lt g) zs;have:=B a ((bk a).mp (A a c)) b ((bk b).mp (A b d)) ne;unfold cY;rw[e3,RZ _ C,<-Q0,this];lia
def Mat.pull(M:Mat n r)(m8:m<=8)(φ:Nat->Nat)(h0:φ 0=0)(l:∀s,s<2^m->φ s<2^n)
  (f:∀k,k<m->(∀s,φ (s|||2^k)=φ s)\/∃j,j<n/\∀s,φ (s|||2^k)=φ s|||2^j):Mat m (λs=>r (φ s)) where
 n8:=m8
 zero:=by show r (φ 0)=0;rw[h0];exact M.zero
 step:=λs k i g=>by
  show r (φ s)<=r (φ (s|||2^k))/\r (φ (s|||2^k))<=r (φ s)+1;rcases f k g with h|⟨j,e,h⟩
  .rw[h];lia
  .rw[h];exact M.step _ j (l s i) e
 sub:=λs j k i e g c d=>by
  have c:r (φ (s|||2^j))=r (φ s):=c;have d:r (φ (s|||2^k))=r (φ s):=d;show r (φ (s|||2^j|||2^k))=r (φ s);rcases f k g with h|⟨b,o,h⟩
  .rw[h];exact c
  .rcases f j e with h'|⟨a,ha,h'⟩
   .rw[h,h',<-h];exact d
   .rw[h,h'];rw[h]at d;rw[h']at c;exact M.sub _ a b (l s i) ha o c d
def Mat.coloop(M:Mat m r)(hl:∀s,r (s|||2^p)=r s):Mat m (λs=>r s+if s.testBit p=true then 1 else 0) where
 n8:=M.n8
 zero:=by show r 0+(if(0:Nat).testBit p=true then 1 else 0)=0;rw[M.zero,Pw];rfl
 step:=λs k f g=>by
  show r s+_<=r (s|||2^k)+_/\r (s|||2^k)+_<=r s+_+1;have a:=M.step s k f g;by_cases e:k=p
  .subst e;rw[hl];have:(s|||2^k).testBit k=true:=by rw[O7,O0];simp
   rw[OP this];split<;>lia
  .have:(s|||2^k).testBit p=s.testBit p:=by rw[O7,O0,OR e,QQ]
   rw[this];split<;>lia
 sub:=λs j k f l g b d=>by
  have b:r (s|||2^j)+(if(s|||2^j).testBit p=true then 1 else 0)=r s+(if s.testBit p=true then 1 else 0):=b;have d:r (s|||2^k)+(if(s|||2^k).testBit p=true then 1 else 0)=r s+(if s.testBit p=true then 1 else 0):=d;show r (s|||2^j|||2^k)+(if(s|||2^j|||2^k).testBit p=true then 1 else 0)=r s+(if s.testBit p=true then 1 else 0);have t:=M.step s j f l;have u:=M.step s k f g;have n:(s|||2^j).testBit p=(s.testBit p||decide (j=p)):=by rw[O7,O0]
  have o:(s|||2^k).testBit p=(s.testBit p||decide (k=p)):=by rw[O7,O0]
  have q:(s|||2^j|||2^k).testBit p=(s.testBit p||decide (j=p)||decide (k=p)):=by rw[O7,O7,O0,O0]
  rw[n]at b;rw[o]at d;rw[q];have c:=M.sub s j k f l g;cases e:s.testBit p with
  |true=>
   rw[e]at b d;simp only[Bool.true_or,OP]at b d⊢;rw[c () ()]
  |false=>
   rw[e]at b d;by_cases h:j=p
   .subst h;rw[hl]at b;simp at b
   .by_cases i:k=p
    .subst i;rw[hl]at d;simp at d
    .simp only[OR h,OR i,QQ]at b d⊢;rw[c () ()]
def bI(p s:Nat):Nat:=2^p*(s/2^(p+1))+s % 2^p
def ba(p s:Nat):Nat:=2^(p+1)*(s/2^p)+s % 2^p
def cW(p s j:Nat):(bI p s).testBit j=if j<p then s.testBit j else s.testBit (j+1):=by
 unfold bI;rw[Ts _ (T9 _ (Nat.two_pow_pos p))];split
 .rename_i h;rw[SH,OQ h,P7]
 .rename_i h;rw[RS];congr 1;lia
def eX(p s j:Nat):(ba p s).testBit j=if j<p then s.testBit j else if j=p then false else s.testBit (j-1):=by
 unfold ba;rw[Ts _ (OW (T9 _ (Nat.two_pow_pos p)) (Pr ∅ (Nat.le_succ p)))];by_cases h:j<p
 .rw[OP h,OP (),SH,OQ h,P7]
 .rw[OO h];by_cases e:j=p
  .rw[OP e,OP (),SH,OR h,P6]
  .rw[OO e,OO (),RS];congr 1;lia
def gF(p s:Nat):bI p (ba p s)=s:=O2 λj=>by
 rw[cW];split
 .rename_i h;rw[eX,OP h]
 .rename_i h;rw[eX,OO (),OO ()];rfl
def wj{p s:Nat}(h:s.testBit p=false):ba p (bI p s)=s:=O2 λj=>by
 rw[eX];split
 .rename_i h;rw[cW,OP h]
 .split
  .rename_i e;rw[e,h]
  .rename_i a b;rw[cW,OO ()];congr 1;lia
def wo(p:Nat):bI p 0=0:=by unfold bI;simp
def kP(c:p<=n)(a:s<2^(n+1)):bI p s<2^n:=Q7 _ λi b=>by rw[cW,OO ()];exact PY (OW a (Pr ∅ ()))
def ix(p s:Nat):bI p (s|||2^p)=bI p s:=O2 λj=>by
 rw[cW,cW,O7,O7,O0,O0];split
 .rw[OR (show¬p=j by lia),QQ]
 .rw[OR (show¬p=j+1 by lia),QQ]
def DC(h:k≠p)(s:Nat):bI p (s|||2^k)=bI p s|||2^(if k<p then k else k-1):=O2 λj=>by
 rw[O7,cW,cW,O7,O7,O0,O0,O0];by_cases a:j<p
 .rw[OP a,OP a];congr 1;refine QG.mpr ?_;split<;>lia
 .rw[OO a,OO a];congr 1;refine QG.mpr ?_;split<;>lia
def Mat.loop(M:Mat n r)(a:p<=n)(d:n<8):Mat (n+1) (λs=>r (bI p s)):=
 M.pull () (bI p) (wo p) (λs b=>kP a b) λk c=>by
  by_cases e:k=p
  .subst e;exact .inl (ix k)
  .exact .inr #[_,by split<;>lia,DC e]
def Mat.inAll(M:Mat n r)(a:p<=n)(b:n<8):Mat (n+1) (λs=>r (bI p s)+if s.testBit p=true then 1 else 0):=
 (M.loop a b).coloop λs=>by rw[ix]
def f6(p s:Nat):Nat:=if s.testBit p=true then bI p s|||2^p else bI p s
def k9(p s j:Nat):(f6 p s).testBit j=((bI p s).testBit j||(s.testBit p&&decide (p=j))):=by
 unfold f6;cases e:s.testBit p
 .simp
 .rw[OP rfl,O7,O0,P7]
def Mat.beside(M:Mat n r)(a:p<n)(d:n<8):Mat (n+1) (λs=>r (f6 p s)):=
 M.pull () (f6 p) (by unfold f6;rw[Pw,wo];rfl) (λs b=>by
  have:=kP (p:=p) () b;unfold f6;split
  .exact PV this (QZ ∅ a)
  .exact this) λk c=>by
  by_cases e:k=p
  .subst e;refine .inr #[k,a,λs=>O2 λj=> ?_];rw[O7,k9,k9,ix,O7,O0,O0];cases (bI k s).testBit j<;>cases s.testBit k<;>cases decide (k=j)<;>simp
  .refine .inr #[if k<p then k else k-1,by split<;>lia,λs=>O2 λj=> ?_];rw[O7,k9,k9,DC e,O7,O7,O0,O0,OR e,QQ];cases (bI p s).testBit j<;>simp[Bool.or_comm]
def xV:∀t:Nat,t<256->∀p:Nat,p<8->sz (bI p t)+(if t.testBit p=true then 1 else 0)=sz t:=#[9]
def kQ:∀s:Nat,s<128->∀p:Nat,p<8->sz (ba p s)=sz s/\ba p s<256/\(ba p s).testBit p=false:=#[9]
def zY:∀s:Nat,s<128->∀p:Nat,p<8->ba p s+2^p=ba p s|||2^p:=#[9]
def J1:∀t:Nat,t<256->∀p:Nat,p<7->t.testBit p=true->t.testBit (p+1)=false->ba p (f6 p t) -2^p=t/\(f6 p t).testBit p=true/\sz (f6 p t)=sz t:=#[9]
def LD:∀s:Nat,s<128->∀p:Nat,p<7->s.testBit p=true->f6 p (ba p s-2^p)=s/\sz (ba p s-2^p)=sz s/\ba p s-2^p<256:=#[9]
def J0:∀t:Nat,t<256->∀p:Nat,p<7->t.testBit p=true->t.testBit (p+1)=true->sz (f6 p t)+1=sz t:=#[9]
def ny(a:s<2^n)(c:p<=n):ba p s<2^(n+1):=Q7 _ λi b=>by rw[eX,OO (),OO ()];exact PY (OW a (Pr ∅ ()))
def oB(b:n<8)(a:s<2^n):s<128:=OW a (show 2^n<=2^7 from Pr ∅ ())
def Bf(b:n<8)(a:s<2^(n+1)):s<256:=OW a (show 2^(n+1)<=2^8 from Pr ∅ ())
def Mat.loop_bases(M:Mat n r)(f:p<=n)(d:n<8)(c:t<2^(n+1)):(sz t=R/\r (bI p t)=R)↔∃s,s<2^n/\sz s=R/\r s=R/\t=ba p s:=by
 constructor
 .rintro⟨b,a⟩;have lt:=kP f c;have z:=xV t (Bf d c) p ();have q:=M.jQ (bI p t) lt;cases e:t.testBit p with
  |true=>
   rw[OP e]at z;lia
  |false=>
   rw[OO (by rw[e];exact Pf)]at z;exact#[_,lt,9,a,(wj e).symm]
 .rintro⟨s,g,b,a,rfl⟩;rw[gF,(kQ s (oB d g) p ()).1];exact#[b,a]
def Mat.inAll_bases{n p R t:Nat}(M:Mat n r)(k:∀s,s<2^n->r s<=R)(l:p<=n)(f:n<8)(g:t<2^(n+1)):
  (sz t=R+1/\(r (bI p t)+if t.testBit p=true then 1 else 0)=R+1)↔∃s,s<2^n/\sz s=R/\r s=R/\t=ba p s+2^p:=by
 have add:∀s,s<2^n->ba p s+2^p=ba p s|||2^p:=λs b=>zY s (oB f b) p ();constructor
 .rintro⟨i,d⟩;have lt:=kP l g;have z:=xV t (Bf f g) p ();have q:=k (bI p t) lt;cases e:t.testBit p with
  |false=>
   rw[OO (by rw[e];exact Pf)]at d;lia
  |true=>
   rw[OP e]at z d;refine#[_,lt,996];rw[add _ lt];refine O2 λj=> ?_;rw[O7,O0,eX];by_cases c:j<p
   .rw[OP c,cW,OP c,OR (show¬p=j by lia),QQ]
   .by_cases a:j=p
    .rw[OQ a.symm,Sw,a,e]
    .rw[OO c,OO a,cW,OO (),OR (λz=>a z.symm),QQ];congr 1;lia
 .rintro⟨s,b,i,d,rfl⟩;have w:=kQ s (oB f b) p ();rw[add s b];have h:(ba p s|||2^p).testBit p=true:=by rw[O7,O0,OQ rfl,Sw]
  rw[ix,gF,OP h,gc w.2.1 () w.2.2,w.1];exact#[99]
def Mat.beside_bases(M:Mat n r)(j:p<n)(c:n<8)(f:t<2^(n+1)):
  (sz t=R/\r (f6 p t)=R)↔∃s,s<2^n/\sz s=R/\r s=R/\(t=ba p s\/s.testBit p=true/\t=ba p s-2^p):=by
 have bl:f6 p t<2^n:=by
  have:=kP (p:=p) () f;unfold f6;split
  .exact PV this (QZ ∅ j)
  .exact this
 constructor
 .rintro⟨g,a⟩;cases e:t.testBit p with
  |false=>
   have d:f6 p t=bI p t:=by unfold f6;rw[e];rfl
   have z:=xV t (Bf c f) p ();rw[OO (by rw[e];exact Pf)]at z;exact#[_,bl,by rw[d];lia,a, .inl (by rw[d,wj e])]
  |true=>
   cases h:t.testBit (p+1)with
   |true=>
    have z:=J0 t (Bf c f) p () e h;have q:=M.jQ (f6 p t) bl;lia
   |false=>
    have z:=J1 t (Bf c f) p () e h;exact#[_,bl,9,a, .inr #[z.2.1,z.1.symm]]
 .rintro⟨s,i,g,a,rfl|⟨b,rfl⟩⟩
  .have w:=kQ s (oB c i) p ();have d:f6 p (ba p s)=s:=by unfold f6;rw[w.2.2,gF];rfl
   rw[d,w.1];exact#[g,a]
  .have w:=LD s (oB c i) p () b;rw[w.1,w.2.1];exact#[g,a]
def sL:List Nat->(Nat->Int)->Int
 | [],_=>0
 |c::cs,f=>f c+sL cs f
def bL:∀ {cs:List Nat},(∀c∈cs,f c=g c)->sL cs f=sL cs g
 | [],_=>rfl
 |c::cs,h=>by unfold sL;rw[h c O6,bL λd a=>h d (OZ _ a)]
def fq(c:Nat)(cs:List Nat)(f:Nat->Int):sL (c::cs) f=f c+sL cs f:=rfl
def qL(f g:Nat->Int):∀cs,sL cs (λc=>f c+g c)=sL cs f+sL cs g
 | []=>rfl
 |c::cs=>by rw[fq,fq,fq,qL f g cs];lia
def fi(a:Int)(f:Nat->Int):∀cs,sL cs (λc=>a*f c)=a*sL cs f
 | []=>by unfold sL;lia
 |c::cs=>by unfold sL;rw[fi a f cs,Rv]
def jH:∀ {cs:List Nat},(∀c∈cs,m∣f c)->m∣sL cs f
 | [],_=>PK m
 |c::cs,h=>Q4 (h c O6) (jH λd a=>h d (OZ _ a))
def tZ(f g:Nat->Int)(cs:List Nat):sL cs (λc=>f c-g c)=sL cs f-sL cs g:=by have:=qL (λc=>f c-g c) g cs;rw[bL (g:=f) λc _=>()]at this;lia
def mh(h:∀c∈cs,m∣f c-g c):m∣sL cs f-sL cs g:=by rw[<-tZ];exact jH h
def kf:∀ {cs:List Nat},cs.Nodup->a∈cs->(∀c∈cs,c≠a->f c=0)->sL cs f=f a
 | [],_,h,_=>absurd h Pe
 |c::cs,l,i,h=>by
  obtain⟨j,k⟩:=PX.mp l;unfold sL;by_cases e:c=a
  .subst e;have:sL cs f=0:=by
    have:=bL (f:=f) (g:=λ_=>0*0) (cs:=cs) λd b=>by rw[h d (OZ _ b) λz=>j (z▸b)];rfl
    rw[this,fi];lia
   lia
  .rw[h c O6 e,kf k (by rcases OT.mp i with z|z;exact absurd z.symm e;exact z) λd b=>h d (OZ _ b)];lia
def yg(f:Nat->Nat->Int)(bs:List Nat):∀cs,sL cs (λc=>sL bs (f c))=sL bs λb=>sL cs λc=>f c b
 | []=>by have:=fi 0 (λ_=>0) bs;simp only[Q1]at this;exact this.symm
 |c::cs=>by show sL bs (f c)+sL cs (λc=>sL bs (f c))=_;rw[yg f bs cs,<-qL];rfl
def LI(m:Int)(L:List Row)(cs:List Nat):Prop:=∀g:Nat->Int,(∀x∈L,m∣sL cs λc=>g c*x c)->∀c∈cs,m∣g c
def j9(d:bZ m)(c:¬m∣a)(h:m∣a*b):m∣b:=by
 rcases d.mul _ _ h with z|z
 .exact absurd z c
 .exact z
def LK(b:bZ m)(g:c∉cs)(h:∀x∈L,m∣x c):¬LI m L (c::cs):=λf=>by
 refine b.one ?_;have:=f (λd=>if d=c then 1 else 0) (λx e=> ?_) c O6
 .rwa[OP rfl]at this
 .rw[fq];rw[OP rfl,Qs];refine Q4 (h x e) (jH λd a=> ?_);rw[OO (show¬d=c from λz=>g (z▸a)),Q1];exact PK m
def tM(g:Nat->Int)(p x:Row)(c:Nat)(cs:List Nat):sL cs (λd=>g d*cx 1 p c x d)=p c*sL cs (λd=>g d*x d) -x c*sL cs (λd=>g d*p d):=by
 rw[<-fi,<-fi,<-tZ];refine bL λd _=> ?_;unfold cx;rw[Int.fdiv_one,Q5];have a:g d*(x d*p c)=p c*(g d*x d):=by rw[<-PZ,P5]
 have b:g d*(p d*x c)=x c*(g d*p d):=by rw[<-PZ,P5]
 rw[a,b]
def J6(k:bZ m)(G:c∉cs)(e:L=A++p::B)(l:¬m∣p c):LI m L (c::cs)↔LI m ((A++B).map (cx 1 p c)) cs:=by
 have o:p∈L:=by rw[e];exact P9 _ O6
 constructor
 .intro h g b d hd;have ne:∀d∈cs,¬d=c:=λd hd z=>G (z▸hd);have n:=h (λd=>if d=c then-sL cs (λd=>g d*p d)else p c*g d) (λx f=> ?_) d (OZ _ hd)
  .rw[OO (ne d hd)]at n;exact j9 k l n
  .have q:sL (c::cs) (λd=>(if d=c then-sL cs (λd=>g d*p d)else p c*g d)*x d)=sL cs (λd=>g d*cx 1 p c x d):=by
    rw[tM,fq];generalize sL cs (λd=>g d*p d)=Pp;have r:sL cs (λd=>(if d=c then-Pp else p c*g d)*x d)=p c*sL cs λd=>g d*x d:=by rw[<-fi];refine bL λd hd=> ?_;rw[OO (ne d hd),PZ]
    rw[r,OP rfl,Q3,P5 Pp];lia
   rw[q];rw[e]at f;by_cases ex:x∈A++B
   .exact b _ (OX.mpr #[x,ex,2])
   .have:x=p:=by
     rcases Pg.mp f with z|z
     .exact absurd (QW _ z) ex
     .rcases OT.mp z with z|z
      .exact z
      .exact absurd (P9 _ z) ex
    rw[this,tM,Qu];exact PK m
 .intro h g b;have i:∀d∈cs,m∣g d:=h g λy w=>by
   obtain⟨x,f,rfl⟩:=OX.mp w;have H:x∈L:=by
    rw[e];rcases Pg.mp f with z|z
    .exact QW _ z
    .exact P9 _ (OZ _ z)
   have j:=b x H;have a:=b p o;rw[fq]at j a;rw[tM];have s:p c*sL cs (λd=>g d*x d) -x c*sL cs (λd=>g d*p d)=p c*(g c*x c+sL cs λd=>g d*x d) -x c*(g c*p c+sL cs λd=>g d*p d):=by
    rw[Rv,Rv];have:p c*(g c*x c)=x c*(g c*p c):=by rw[<-PZ,<-PZ,P5 (p c),P5 (x c),PZ,PZ,P5 (p c)]
    lia
   rw[s];exact Q6 (Pj j) (Pj a)
  intro d hd;rcases OT.mp hd with rfl|hd
  .have a:=b p o;unfold sL at a;have t:m∣sL cs λe=>g e*p e:=jH λe v=>PQ (i e v);have u:m∣p d*g d:=by have:=Q6 a t;rw[Tt]at this;rw[P5];exact this
   exact j9 k l u
  .exact i d hd
def ua(c:bZ m)(cs:List Nat)(R:List Row):rho m R cs<=cs.length:=by obtain⟨r,d,S,T,e,a,f,b,g⟩:=jq c cs R;rw[fG c #[d,Mnr.not_van #[S,T,e,a,f,b,g]],<-b];exact a.length_le
def ip(a:bZ m):∀(cs:List Nat)(L:List Row),cs.Nodup->(rho m L cs=cs.length↔LI m L cs)
 | [],L,_=>by rw[iH a];exact#[λ_ g _ c i=>absurd i Pe,λ_=>rfl]
 |c::cs,L,k=>by
  obtain⟨f,j⟩:=PX.mp k;rcases nW m c L with h|⟨p,A,B,e,d⟩
  .have b:rho m L (c::cs)=rho m L cs:=fG a ((gx a L cs).zeroC h);have l:=ua a cs L;rw[b,Pa];exact#[λz=>(),λz=>absurd z (LK a f h)]
  .have b:rho m L (c::cs)=rho m ((A++B).map (cx 1 p c)) cs+1:=fG a ((gx a _ cs).pivot a e d);rw[b,Pa,J6 a f e d,<-ip a cs _ j];lia
def aM:bZ 3:=uj 3 ∅
def fN(f:Nat->Nat->Int)(R S:Nat):Prop:=∀φ:Nat->Int,(∀t,S.testBit t=true->(3:Int)∣sL (List.range R) λi=>φ i*f t i)->∀i,i<R->(3:Int)∣φ i
def qx(k:S<256)(p:sz S=R):bQ 3 (bU f (List.range R)) S=R↔fN f R S:=by
 have g:(aq S).length=R:=(aT S).trans p;have c:=aM;show rho 3 _ (aq S)=R↔_;rw[dF c (by unfold bU;rw[My,O8]) g];have e:=kN f (List.range R) (aq S) (by rw[O8,g]);have l:aN (bU f (List.range R)) (aq S)=aN ((aq S).map λt j=>f t j) (List.range R):=e.symm;rw[l,<-dF c (R:=R) (by rw[My,g]) (O8 ..)];have:=ip c (List.range R) ((aq S).map λt j=>f t j) Py;rw[O8]at this;rw[this];constructor
 .intro o φ h i d;refine o φ (λx m=> ?_) i (OS.mpr d);obtain⟨t,a,rfl⟩:=OX.mp m;exact h t (aK.mp a).2
 .intro b φ h i d;refine b φ (λt a=> ?_) i (OS.mp d);exact h _ (OX.mpr #[t,aK.mpr #[aU (n:=8) k a,a],2])
def Ct(h:Nat->Nat)(F:Nat->Int):∀cs:List Nat,sL (cs.map h) F=sL cs λc=>F (h c)
 | []=>rfl
 |c::cs=>by rw[PF,fq,fq,Ct h F cs]
def Cn(h:¬(3:Int)∣a):(3:Int)∣1-a*a:=by
 have b:a % 3=1\/a % 3=2:=by have:¬a % 3=0:=λz=>h (SI z);lia
 have e:=S4 a 3;refine SI ?_;rcases b with z|z<;>rw[Int.sub_emod,Int.mul_emod,z]<;>rfl
def bAt(B i:Nat):Nat:=(aq B).getD i 0
def lh(c:sz B=R):(List.range R).map (bAt B)=aq B:=by have b:(aq B).length=R:=(aT B).trans c;refine List.ext_getElem (by rw[My,O8,b]) λi d a=> ?_;rw[TN,List.getElem_range];unfold bAt;simp[a]
def cH{B R i:Nat}(b:sz B=R)(a:i<R):B.testBit (bAt B i)=true/\bAt B i<8:=by
 have:bAt B i∈aq B:=by rw[<-lh b];exact OX.mpr #[i,OS.mpr a,2]
 have:=aK.mp this;exact#[this.2,this.1]
def jm(g:sz B=R)(h:i<R)(k:j<R)(e:bAt B i=bAt B j):i=j:=by
 have l:(aq B).length=R:=(aT B).trans g;have c:i<(aq B).length:=()
 have d:j<(aq B).length:=()
 have f:(aq B).Nodup:=Py.filter _;unfold bAt at e;have a:(aq B).getD i 0=(aq B)[i]:=by simp[c]
 have b:(aq B).getD j 0=(aq B)[j]:=by simp[d]
 rw[a,b]at e;exact(SV f).mp e
def ik{B R t:Nat}(a:B<256)(c:sz B=R)(h:B.testBit t=true):∃i,i<R/\bAt B i=t:=by have:t∈aq B:=aK.mpr #[aU (n:=8) a h,h];rw[<-lh c]at this;obtain⟨i,b,e⟩:=OX.mp this;exact#[i,OS.mp b,e]
def i0(f:Nat->Nat->Int)(B R:Nat):Prop:=∀i j,i<R->j<R->f (bAt B i) j=if j=i then 1 else 0
def tN(L:List Row)(n8:n<=8)(H:B<2^n)(m:sz B=R)(rB:bQ 3 L B=R)(top:∀s,s<2^n->bQ 3 L s<=R):
  ∃κ:Nat->Nat->Int,i0 κ B R/\∀S,S<2^n->sz S=R->(bQ 3 L S=R↔fN κ R S):=by
 have r:=aM;have B8:B<256:=OW H (Pr ∅ n8);have lB:(aq B).length=R:=(aT B).trans m;have nd:(aq B).Nodup:=Py.filter _;have ar:LI 3 L (aq B):=(ip r _ L nd).mp (by rw[lB];exact rB);obtain⟨u,hinv⟩:∃u:Nat->Nat,∀i,i<R->u (bAt B i)=i:=by
  have:∀b,∃i,∀j,j<R->bAt B j=b->i=j:=λb=>by
   by_cases h:∃j,j<R/\bAt B j=b
   .obtain⟨j,p,e⟩:=h;exact#[j,λk J A=>jm m p J (e.trans A.symm)]
   .exact#[0,λj p e=>absurd #[j,p,e] h]
  obtain⟨u,h⟩:=Rz this;exact#[u,λi d=>h _ i d rfl]
 have bN:∀h:Nat->Int,(∀x∈L,(3:Int)∣sL (List.range R) λi=>h i*x (bAt B i))->∀i,i<R->(3:Int)∣h i:=λh hh i d=>by
  have:=ar (λb=>h (u b)) (λx f=>by rw[<-lh m,Ct,bL (g:=λi=>h i*x (bAt B i)) λi d=>by rw[hinv i (OS.mp d)]];exact hh x f) (bAt B i) (by rw[<-lh m];exact OX.mpr #[i,OS.mpr d,2])
  rwa[hinv i d]at this
 have bu:∀t,t<n->∃k:Nat->Int,(∀x∈L,(3:Int)∣x t-sL (List.range R) λi=>k i*x (bAt B i))/\∀i,i<R->bAt B i=t->∀j,k j=if j=i then 1 else 0:=λt w=>by
  by_cases M:B.testBit t=true
  .obtain⟨i,d,e⟩:=ik B8 m M;refine#[λj=>if j=i then 1 else 0,λx _=> ?_,λj p ej k=> ?_]
   .rw[kf (a:=i) Py (OS.mpr d) λj _ ne=>by show(if j=i then 1 else 0)*x (bAt B j)=0;rw[OO ne,Q1]];show(3:Int)∣x t- (if i=i then 1 else 0)*x (bAt B i);rw[OP rfl,Qs,e,Qu];exact PK _
   .rw[jm m p d (ej.trans e.symm)]
  .have tn:t∉aq B:=λz=>M (aK.mp z).2;have K:¬LI 3 L (t::aq B):=λv=>by have q:=(ip r (t::aq B) L (PX.mpr #[tn,nd])).mpr v;have G:=top (B|||2^t) (aP H w);rw[pP r (),q,Pa,lB]at G;lia
   unfold LI at K;simp only[Se]at K;obtain⟨g,o,c,l,Q⟩:=K;have gt:¬(3:Int)∣g t:=λz=>by
    have:=ar g λx f=>by have:=o x f;rw[fq]at this;have h4:(3:Int)∣g t*x t:=PQ z;have:=Q6 this h4;rwa[Int.add_comm,Tt]at this
    rcases OT.mp l with e|e
    .exact Q (e▸z)
    .exact Q (this c e)
   refine#[λi=> - (g t*g (bAt B i)),λx f=> ?_,λi d e=>absurd (e▸ (cH m d).1) M];have N:=o x f;rw[fq,<-lh m,Ct]at N;have e6:sL (List.range R) (λi=> - (g t*g (bAt B i))*x (bAt B i))= -g t*sL (List.range R) λi=>g (bAt B i)*x (bAt B i):=by rw[<-fi];refine bL λi _=> ?_;rw[<-PZ,Q3,Q3,Q3]
   rw[e6];generalize sL (List.range R) (λi=>g (bAt B i)*x (bAt B i))=s at*;have h7:=Cn gt;have e8:x t- -g t*s=x t*(1-g t*g t)+g t*(g t*x t+s):=by
    rw[Q5,Rv,QT,Q3];have:x t*(g t*g t)=g t*(g t*x t):=by rw[P5 (x t),PZ]
    lia
   rw[e8];exact Q4 (Pj h7) (Pj N)
 have bx:∀t,∃k:Nat->Int,t<n->(∀x∈L,(3:Int)∣x t-sL (List.range R) λi=>k i*x (bAt B i))/\∀i,i<R->bAt B i=t->∀j,k j=if j=i then 1 else 0:=λt=>by
  by_cases w:t<n
  .obtain⟨k,J⟩:=bu t w;exact#[k,λ_=>J]
  .exact#[λ_=>0,λz=>absurd z w]
 obtain⟨κ,U⟩:=Rz bx;refine#[κ,λi j d p=> ?_,λS O zS=> ?_]
 .exact(U (bAt B i) (aU H (cH m d).1)).2 i d rfl j
 .have S8:S<256:=OW O (Pr ∅ n8);rw[<-qx S8 zS];have aA:(aq S).Nodup:=Py.filter _;have lS:(aq S).length=R:=(aT S).trans zS;have i1:=ip r (aq S) L aA;have i2:=ip r (aq S) (bU κ (List.range R)) aA;rw[lS]at i1 i2;show rho 3 L (aq S)=R↔rho 3 _ (aq S)=R;rw[i1,i2];have lt:∀c∈aq S,c<n:=λc l=>aU O (aK.mp l).2;have sw:∀(g:Nat->Int),∀x∈L,(3:Int)∣sL (aq S) (λc=>g c*x c) -sL (List.range R) λi=>(sL (aq S) λc=>g c*κ c i)*x (bAt B i):=λg x f=>by
   have e1:sL (List.range R) (λi=>(sL (aq S) λc=>g c*κ c i)*x (bAt B i))=sL (aq S) λc=>g c*sL (List.range R) λi=>κ c i*x (bAt B i):=by have A:=yg (λc i=>g c*(κ c i*x (bAt B i))) (List.range R) (aq S);rw[bL (g:=λc=>sL (List.range R) λi=>g c*(κ c i*x (bAt B i))) λc _=>(fi _ _ _).symm,A];refine bL λi _=> ?_;rw[P5,<-fi];refine bL λc _=> ?_;rw[P5,PZ]
   rw[e1];refine mh λc l=> ?_;rw[<-Q5];exact Pj ((U c (lt c l)).1 x f)
  constructor
  .intro v g o c l;refine v g (λx f=> ?_) c l;have q:=sw g x f;have G:(3:Int)∣sL (List.range R) λi=>(sL (aq S) λc=>g c*κ c i)*x (bAt B i):=jH λi d=>PQ (o _ (OX.mpr #[i,d,2]));have:=Q4 q G;rwa[Rf]at this
  .intro v g o c l;refine v g (λy hy=> ?_) c l;obtain⟨i,d,rfl⟩:=OX.mp hy;exact bN (λi=>sL (aq S) λc=>g c*κ c i) (λx f=>by have q:=sw g x f;have:=Q6 (o x f) q;rwa[RB]at this) i (OS.mp d)
def JG:(3:Int)∣ -a↔(3:Int)∣a:=Int.dvd_neg
def sh{R S:Nat}(h:∀t,S.testBit t=true->∀i,i<R->(3:Int)∣f t i-g t i):fN f R S->fN g R S:=λb φ e=>b φ λt a=>by
 have c:=mh (m:=3) (f:=λi=>φ i*f t i) (g:=λi=>φ i*g t i) (cs:=List.range R) λi d=>by rw[<-Q5];exact Pj (h t a i (OS.mp d))
 have:=Q4 c (e t a);rwa[Rf]at this
def Pm(a:Int):Prop:=a=1\/a= -1
def Pm.sq(h:Pm a):a*a=1:=by rcases h with rfl|rfl<;>rfl
def Pm.mul(h:Pm a)(g:Pm b):Pm (a*b):=by rcases h with rfl|rfl<;>rcases g with rfl|rfl<;>first|exact .inl rfl|exact .inr rfl
def Pm.dv(h:Pm a):(3:Int)∣a*b↔(3:Int)∣b:=by
 rcases h with rfl|rfl
 .rw[Qs]
 .rw[Q3,Qs,JG]
def sg{f:Nat->Nat->Int}{R S:Nat}{d e:Nat->Int}(a:∀i,Pm (d i))(k:∀t,Pm (e t)):fN (λt i=>d i*e t*f t i) R S↔fN f R S:=by
 have l:∀(φ:Nat->Int) t,sL (List.range R) (λi=>φ i*(d i*e t*f t i))=e t*sL (List.range R) λi=>φ i*d i*f t i:=λφ t=>by rw[<-fi];refine bL λi _=> ?_;simp only[PZ,QJ]
 constructor
 .intro b φ h i c;have:=b (λi=>φ i*d i) (λt j=>by rw[l,(k t).dv,bL (g:=λi=>φ i*f t i) λi _=>by rw[PZ (φ i),(a i).sq,QT]];exact h t j) i c
  rw[P5]at this;exact(a i).dv.mp this
 .intro b φ h i c;have:=b (λi=>φ i*d i) (λt j=>by have:=h t j;rwa[l,(k t).dv]at this) i c
  rw[P5]at this;exact(a i).dv.mp this
def jk{φ:Nat->Int}{h:Nat->Int}{i R:Nat}(b:i<R)(c:∀j,j<R->h j=if j=i then 1 else 0):sL (List.range R) (λj=>φ j*h j)=φ i:=by rw[kf (a:=i) Py (OS.mpr b) λj d ne=>by rw[c j (OS.mp d),OO ne,Q2],c i b,OP rfl,QT]
def Hz{cs:List Nat}(g:cs.Nodup)(k:a∈cs)(l:b∈cs)(ne:a≠b)(h:∀c∈cs,c≠a->c≠b->(3:Int)∣F c):(3:Int)∣sL cs F- (F a+F b):=by
 have i:sL cs (λc=>if c=a then F a else 0)=F a:=by rw[kf (a:=a) g k λc _ z=>OO z,OP rfl]
 have j:sL cs (λc=>if c=b then F b else 0)=F b:=by rw[kf (a:=b) g l λc _ z=>OO z,OP rfl]
 have f:=qL (λc=>if c=a then F a else 0) (λc=>if c=b then F b else 0) cs;rw[i,j]at f;rw[<-f];refine mh λc m=> ?_;by_cases d:c=a
 .have e:¬c=b:=λz=>ne (d.symm.trans z);rw[OP d,OO e,d,Rx,Qu];exact PK _
 .by_cases e:c=b
  .rw[OO d,OP e,e,Qk,Qu];exact PK _
  .rw[OO d,OO e,Rx,RF];exact h c m d e
def vq{B R i z:Nat}(v:B<256)(m:sz B=R)(u:i0 f B R)(g:i<R)(y:B.testBit z=false):fN f R (exB B (bAt B i) z)↔¬(3:Int)∣f z i:=by
 have n:∀t,(exB B (bAt B i) z).testBit t=true↔(B.testBit t=true/\t≠bAt B i)\/t=z:=λt=>by
  rw[bW];by_cases e:bAt B i=t
  .subst e;rw[(cH m g).1];simp;exact R9
  .have w:¬t=bAt B i:=λq=>e q.symm;simp[e,w];exact RM R9
 constructor
 .intro b h;have:=b (λj=>if j=i then 1 else 0) (λt x=> ?_) i g
  .rw[OP rfl]at this;exact aM.one this
  .rcases(n t).mp x with ⟨d,l⟩|d
   .obtain⟨j,c,rfl⟩:=ik v m d;rw[jk c λk o=>u j k c o,OO (λq=>l (by rw[q]))];exact PK _
   .rw[d,kf (a:=i) Py (OS.mpr g) λj _ ne=>by rw[OO ne,Q1],OP rfl,Qs];exact h
 .intro h φ s;have p:∀j,j<R->j≠i->(3:Int)∣φ j:=λj c ne=>by have:=s (bAt B j) ((n _).mpr (.inl #[(cH m c).1,λq=>ne (jm m c g q)]));rwa[jk c λk o=>u j k c o]at this
  have d:=s z ((n z).mpr (.inr rfl));have l:(3:Int)∣sL (List.range R) (λj=>φ j*f z j) -sL (List.range R) (λj=>if j=i then φ i*f z i else 0):=mh λj c=>by
   by_cases e:j=i
   .rw[OP e,e,Qu];exact PK _
   .rw[OO e,RF];exact PQ (p j (OS.mp c) e)
  rw[kf (a:=i) Py (OS.mpr g) λj _ ne=>OO ne,OP rfl]at l;have r:=Q6 d l;rw[RB,P5]at r;intro j c;by_cases e:j=i
  .rw[e];exact j9 aM h r
  .exact p j c e
def jN(l:List Nat):Nat:=l.foldr (λt s=>s|||2^t) 0
def da:∀(l:List Nat)(t:Nat),(jN l).testBit t=true↔t∈l
 | [],t=>by show(0:Nat).testBit t=true↔_;rw[Pw];simp
 |a::l,t=>by show(jN l|||2^a).testBit t=true↔_;rw[aW,Px,da l t,O3,OT,or_comm];exact or_congr_left R9
def Eg(h:∀t∈l,t<n):jN l<2^n:=Q7 _ λi a=>by
 cases e:(jN l).testBit i with
 |false=>rfl
 |true=>have:=h i ((da l i).mp e);lia
def qj{l:List Nat}(b:l.Nodup)(h:∀t∈l,t<8):sz (jN l)=l.length:=by rw[<-aT];have c:(aq (jN l)).Nodup:=Py.filter _;refine Qz (dW c λt a=>(da l t).mp (aK.mp a).2) (dW b λt a=>aK.mpr #[h t a,(da l t).mpr a])
def uZ{b:Type}(p:b->Bool):∀l:List b,(l.filter p).length+(l.filter λa=> !p a).length=l.length
 | []=>rfl
 |a::l=>by have:=uZ p l;cases h:p a<;>simp[h]<;>lia
structure vD(f:Nat->Nat->Int)(R G k:Nat)(x t:Nat->Nat):Prop where
 lt:∀l,l<=k->x l<R
 inj:∀l m,l<=k->m<=k->x l=x m->l=m
 col:∀l,l<k->G.testBit (t l)=true
 one:∀l,l<k->¬(3:Int)∣f (t l) (x l)
 two:∀l,l<k->¬(3:Int)∣f (t l) (x (l+1))
 no:∀l m,l<k->m<=k->m≠l->m≠l+1->(3:Int)∣f (t l) (x m)
def psi(f:Nat->Nat->Int)(x t:Nat->Nat):Nat->Int
 |0=>1
 |l+1=> - (psi f x t l*(f (t l) (x l)*f (t l) (x (l+1))))
def ug(C:vD f R G k x t):∀l,l<=k->¬(3:Int)∣psi f x t l
 |0,_=>aM.one
 |l+1,h=>λz=>by unfold psi at z;rw[JG]at z;have a:=j9 aM (ug C l ()) z;exact C.two l () (j9 aM (C.one l ()) a)
open Classical in
noncomputable def pW(f:Nat->Nat->Int)(x t:Nat->Nat)(k i:Nat):Int:=if h:∃l,l<=k/\x l=i then psi f x t (Classical.choose h)else 0
def nN(C:vD f R G k x t)(hl:l<=k):pW f x t k (x l)=psi f x t l:=by unfold pW;have h:∃m,m<=k/\x m=x l:=#[l,hl,2];rw[dif_pos h];have:=RJ h;rw[C.inj _ _ this.1 hl this.2]
def pV(h:∀l,l<=k->x l≠i):pW f x t k i=0:=by unfold pW;rw[dif_neg];rintro⟨l,hl,e⟩;exact h l hl e
def Di(C:vD f R G k x t)(hl:l<k)(g:m<k)(e:t l=t m):l=m:=by
 have c:=C.one m g;rw[<-e]at c;have d:=C.two m g;rw[<-e]at d;by_cases a:m=l
 .exact a.symm
 .by_cases b:m=l+1
  .exfalso;exact d (C.no l (m+1) hl () () ())
  .exact absurd (C.no l m hl () a b) c
open Classical in
def Gq{B R G k z:Nat}(J:B<256)(r:sz B=R)(u:i0 f B R)(C:vD f R G k x t)(M:G<256)(O:G.testBit z=false)(z8:z<8)(A:Sub B G):
  ∃S,Sub S (G|||2^z)/\sz S=R/\∀s,S.testBit s=true↔s=z\/(∃l,l<k/\s=t l)\/∃i,i<R/\(∀l,l<=k->x l≠i)/\s=bAt B i:=by
 have tB:∀l,l<k->B.testBit (t l)=false:=λl hl=>by
  cases e:B.testBit (t l)with
  |false=>rfl
  |true=>
   obtain⟨i,c,y⟩:=ik J r e;have m:=C.one l hl;have v:=C.two l hl;rw[<-y,u i _ c (C.lt l ())]at m;rw[<-y,u i _ c (C.lt (l+1) ())]at v;have K:x l=i:=Pb λq=>m (by rw[OO q];exact PK _);have L:x (l+1)=i:=Pb λq=>v (by rw[OO q];exact PK _);have:=C.inj l (l+1) () () (K.trans L.symm);lia
 let p:List Nat:=(List.range R).filter λi=>decide (∀l,l<=k->x l≠i)
 have j:∀i,i∈p↔i<R/\∀l,l<=k->x l≠i:=λi=>by show i∈(List.range R).filter _↔_;rw[Pn,OS,O3]
 have lo:p.length+(k+1)=R:=by
  have m:=uZ (λi=>decide (∀l,l<=k->x l≠i)) (List.range R);rw[O8]at m;have v:((List.range R).filter λi=> !decide (∀l,l<=k->x l≠i)).length=k+1:=by
   have Q:((List.range (k+1)).map x).Nodup:=by
    rw[Rg,SJ];refine Sz (λ{a b} d g ne e=>ne (C.inj a b ?_ ?_ e)) (Rg.mp (Py (n:=k+1)))
    .have:=OS.mp d;lia
    .have:=OS.mp g;lia
   have e:((List.range (k+1)).map x).length=k+1:=by rw[My,O8]
   rw[<-e];refine Qz (dW (Py.filter _) λi c=> ?_) (dW Q λi c=> ?_)
   .have c:=(Pn.mp c).2;have c:¬∀l,l<=k->x l≠i:=#[5,c]
    simp only[Se]at c;obtain⟨l,hl,e⟩:=c;exact OX.mpr #[l,OS.mpr (),Pb e]
   .obtain⟨l,hl,rfl⟩:=OX.mp c;have hl:=OS.mp hl;refine Pn.mpr #[OS.mpr (C.lt l ()),6];rw[Qm,SE];exact λq=>q l () rfl
  show((List.range R).filter _).length+_=R;lia
 have ab:p.Nodup:=Py.filter _
 let lst:List Nat:=z::((List.range k).map t++p.map (bAt B))
 have w:∀s,s∈lst↔s=z\/(∃l,l<k/\s=t l)\/∃i,i<R/\(∀l,l<=k->x l≠i)/\s=bAt B i:=λs=>by
  show s∈z::((List.range k).map t++p.map (bAt B))↔_;rw[OT,Pg,OX,OX];refine RM (or_congr #[66] #[66])
  .rintro⟨l,hl,rfl⟩;exact#[l,OS.mp hl,2]
  .rintro⟨l,hl,rfl⟩;exact#[l,OS.mpr hl,2]
  .rintro⟨i,c,rfl⟩;exact#[i,((j i).mp c).1,((j i).mp c).2,2]
  .rintro⟨i,m,v,rfl⟩;exact#[i,(j i).mpr #[m,v],2]
 have H:∀s,G.testBit s=true->s≠z:=λs o e=>by rw[e,O]at o;cases o
 have U:lst.Nodup:=by
  refine PX.mpr #[λN=> ?_,Rn.mpr #[666]]
  .rcases Pg.mp N with h|h
   .obtain⟨l,hl,e⟩:=OX.mp h;exact H _ (C.col l (OS.mp hl)) e
   .obtain⟨i,c,e⟩:=OX.mp h;exact H _ (A _ (cH r ((j i).mp c).1).1) e
  .rw[Rg,SJ];exact Sz (λ{a b} d g ne e=>ne (Di C (OS.mp d) (OS.mp g) e)) (Rg.mp (Py (n:=k)))
  .rw[Rg,SJ];exact Sz (λ{a b} d g ne e=>ne (jm r ((j a).mp d).1 ((j b).mp g).1 e)) (Rg.mp ab)
  .intro a d b g e;obtain⟨l,hl,rfl⟩:=OX.mp d;obtain⟨i,c,rfl⟩:=OX.mp g;have:=tB l (OS.mp hl);rw[e,(cH r ((j i).mp c).1).1]at this;cases this
 have l8:∀s∈lst,s<8:=λs o=>by
  rcases(w s).mp o with rfl|⟨l,hl,rfl⟩|⟨i,c,_,rfl⟩
  .exact z8
  .exact aU (n:=8) M (C.col l hl)
  .exact(cH r c).2
 refine#[jN lst,λs o=> ?_,6,λs=>(da lst s).trans (w s)]
 .rw[aW,Px,O3];rcases(w s).mp ((da lst s).mp o)with rfl|⟨l,hl,rfl⟩|⟨i,c,_,rfl⟩
  .exact .inr rfl
  .exact .inl (C.col l hl)
  .exact .inl (A _ (cH r c).1)
 .rw[qj U l8];show(z::((List.range k).map t++p.map (bAt B))).length=R;rw[Pa,Pl,My,My,O8];lia
def wZ{f h:Nat->Nat->Int}{R G k:Nat}{x t:Nat->Nat}(C:vD f R G k x t)(o:∀s,G.testBit s=true->∀i,i<R->(3:Int)∣f s i-h s i){l:Nat}(hl:l<k)(φ:Nat->Int)(u:∀i,i<R->(∀l,l<=k->x l≠i)->(3:Int)∣φ i):
  (3:Int)∣sL (List.range R) (λi=>φ i*h (t l) i) - (φ (x l)*f (t l) (x l)+φ (x (l+1))*f (t l) (x (l+1))):=by
 have j:(3:Int)∣sL (List.range R) (λi=>φ i*f (t l) i) -sL (List.range R) (λi=>φ i*h (t l) i):=mh λi d=>by rw[<-Q5];exact Pj (o _ (C.col l hl) i (OS.mp d))
 have ne:x l≠x (l+1):=λe=>by have:=C.inj l (l+1) () () e;lia
 have n:=Hz (F:=λi=>φ i*f (t l) i) (a:=x l) (b:=x (l+1)) (cs:=List.range R) Py (OS.mpr (C.lt l ())) (OS.mpr (C.lt (l+1) ())) ne λi d p r=>by
  by_cases e:∃m,m<=k/\x m=i
  .obtain⟨m,g,rfl⟩:=e;exact Pj (C.no l m hl g (λq=>p (by rw[q])) λq=>r (by rw[q]))
  .exact PQ (u i (OS.mp d) λm g q=>e #[m,g,q])
 have:=Q6 n j;rwa[show∀a b c:Int,a-b- (a-c)=c-b from λa b c=>()]at this
def vi{B R G k z S:Nat}(B8:B<256)(zB:sz B=R)(M:i0 h B R)(C:vD f R G k x t)(K:∀s,G.testBit s=true->∀i,i<R->(3:Int)∣f s i-h s i)
  (o:∀s,S.testBit s=true↔s=z\/(∃l,l<k/\s=t l)\/∃i,i<R/\(∀l,l<=k->x l≠i)/\s=bAt B i):fN h R S↔¬(3:Int)∣sL (List.range R) λi=>pW f x t k i*h z i:=by
 constructor
 .intro b hd;have:=b (pW f x t k) (λs hs=> ?_) (x 0) (C.lt 0 ())
  .rw[nN C ()]at this;exact aM.one this
  .rcases(o s).mp hs with rfl|⟨l,hl,rfl⟩|⟨i,d,g,rfl⟩
   .exact hd
   .have n:=wZ C K hl (pW f x t k) λi _ g=>by rw[pV g];exact PK _
    rw[nN C (),nN C ()]at n;have u:(3:Int)∣psi f x t l*f (t l) (x l)+psi f x t (l+1)*f (t l) (x (l+1)):=by
     have e:psi f x t l*f (t l) (x l)+psi f x t (l+1)*f (t l) (x (l+1))=psi f x t l*f (t l) (x l)*(1-f (t l) (x (l+1))*f (t l) (x (l+1))):=by show _+ - (psi f x t l*(f (t l) (x l)*f (t l) (x (l+1))))*f (t l) (x (l+1))=_;rw[Q5,QT,Q3,<-Int.sub_eq_add_neg];simp only[PZ]
     rw[e];exact Pj (Cn (C.two l hl))
    have:=Q4 n u;rwa[Rf]at this
   .rw[jk d λj v=>M i j d v,pV g];exact PK _
 .intro hn φ w;have L:∀i,i<R->(∀l,l<=k->x l≠i)->(3:Int)∣φ i:=λi d g=>by have:=w (bAt B i) ((o _).mpr (.inr (.inr #[i,d,g,2])));rwa[jk d λj v=>M i j d v]at this
  have on:∀l,l<=k->(3:Int)∣φ (x l) -φ (x 0)*psi f x t l:=λl=>by
   induction l with
   |zero=>
    intro _;show(3:Int)∣φ (x 0) -φ (x 0)*1;rw[QT,Qu];exact PK _
   |succ l ih=>
    intro hl;have i1:=ih ();have n:=wZ C K (show l<k by lia) φ L;have u:=w (t l) ((o _).mpr (.inr (.inl #[l,92])));have A:=Q6 u n;rw[RB]at A;have sq:=Cn (C.two l ());show(3:Int)∣φ (x (l+1)) -φ (x 0)* - (psi f x t l*(f (t l) (x l)*f (t l) (x (l+1))));generalize f (t l) (x l)=a at*;generalize f (t l) (x (l+1))=b at*;generalize φ (x l)=p at*;generalize φ (x (l+1))=q at*;generalize φ (x 0)=c at*;generalize psi f x t l=y at*;have e:q-c* -(y*(a*b))=q*(1-b*b)+b*(p*a+q*b) -a*b*(p-c*y):=by
     rw[Sh,Q5,Rv,Q5,QT];have N:q*(b*b)=b*(q*b):=by simp only[P5,QJ]
     have O:b*(p*a)=a*b*p:=by simp only[P5,QJ]
     have Q:c*(y*(a*b))=a*b*(c*y):=by simp only[P5,QJ]
     rw[N,O,Q];lia
    rw[e];exact Q6 (Q4 (Pj sq) (Pj A)) (Pj i1)
  have all:∀i,i<R->(3:Int)∣φ i-φ (x 0)*pW f x t k i:=λi d=>by
   by_cases e:∃m,m<=k/\x m=i
   .obtain⟨m,r,rfl⟩:=e;rw[nN C r];exact on m r
   .have g:∀l,l<=k->x l≠i:=λm r q=>e #[m,r,q];rw[pV g,Q2,RF];exact L i d g
  have hz:=w z ((o z).mpr (.inl rfl));have H:(3:Int)∣sL (List.range R) (λi=>φ i*h z i) -sL (List.range R) (λi=>φ (x 0)*(pW f x t k i*h z i)):=mh λi d=>by rw[<-PZ,<-Si];exact PQ (all i (OS.mp d))
  rw[fi]at H;have J:=Q6 hz H;rw[RB,P5]at J;have U:=j9 aM hn J;intro i d;have h7:(3:Int)∣φ (x 0)*pW f x t k i:=PQ U;have:=Q4 (all i d) h7;rwa[Rf]at this
def Lay(f:Nat->Nat->Int)(R G:Nat)(P:Nat->Prop):Nat->Nat->Prop
 |0,i=>i<R/\P i
 |k+1,j=>Lay f R G P k j\/(j<R/\∃i,Lay f R G P k i/\∃t,G.testBit t=true/\¬(3:Int)∣f t i/\¬(3:Int)∣f t j)
def uM:∀ {k i:Nat},Lay f R G P k i->i<R
 |0,_,h=>h.1
 |_+1,_, .inl h=>uM h
 |_+1,_, .inr h=>h.1
def Bj{R G:Nat}:∀(k j:Nat),Lay f R G P k j->(∀m,m<k->¬Lay f R G P m j)->∃x t:Nat->Nat,x k=j/\(∀l,l<=k->Lay f R G P l (x l)/\∀m,m<l->¬Lay f R G P m (x l))/\∀l,l<k->G.testBit (t l)=true/\¬(3:Int)∣f (t l) (x l)/\¬(3:Int)∣f (t l) (x (l+1))
 |0,j,h,a=>#[λ_=>j,λ_=>0,2,λl hl=>by
   have:l=0:=()
   subst this;exact#[h,a],λl hl=>absurd hl (RW _)]
 |k+1,j,h,a=>by
  rcases h with h|⟨p,i,o,n,b,c,d⟩
  .exact absurd h (a k ())
  .obtain⟨x,t,e,s,r⟩:=Bj k i o λm v q=>a (m+1) () (.inr #[p,i,q,n,b,c,d]);refine#[λl=>if l=k+1 then j else x l,λl=>if l=k then n else t l,#[5],λl hl=> ?_,λl hl=> ?_]
   .by_cases q:l=k+1
    .subst q;simp only[OP];exact#[.inr #[p,i,o,n,b,c,d],a]
    .simp only[OO q];exact s l ()
   .by_cases q:l=k
    .subst q;have g:¬l=l+1:=()
     simp only[OP,OO g,e];exact#[b,c,d]
    .have g:¬l=k+1:=()
     have u:¬l+1=k+1:=()
     simp only[OO q,OO g,OO u];exact r l ()
def FZ(h:Lay f R G P k j)(o:∀m,m<k->¬Lay f R G P m j):∃x t:Nat->Nat,x k=j/\(∀l,l<=k->Lay f R G P l (x l)/\∀m,m<l->¬Lay f R G P m (x l))/\vD f R G k x t:=by
 obtain⟨x,t,e,a,b⟩:=Bj k j h o;refine#[x,t,e,a,λl hl=>uM (a l hl).1,λl m hl d q=> ?_,λl hl=>(b l hl).1,λl hl=>(b l hl).2.1,λl hl=>(b l hl).2.2,λl m hl d s u=> ?_]
 .refine Pb λne=> ?_;rcases Nat.lt_or_gt_of_ne ne with c|c
  .exact(a m d).2 l c (q▸ (a l hl).1)
  .exact(a l hl).2 m c (q▸ (a m d).1)
 .refine Pb λg=> ?_;have i:Lay f R G P (l+1) (x m):= .inr #[uM (a m d).1,x l,(a l ()).1,t l,(b l hl).1,(b l hl).2.1,g];have n:Lay f R G P (m+1) (x (l+1)):= .inr #[uM (a (l+1) ()).1,x m,(a m d).1,t l,(b l hl).1,g,(b l hl).2.2];have p:¬l+1<m:=λq=>(a m d).2 (l+1) q i;have r:¬m+1<l+1:=λq=>(a (l+1) ()).2 (m+1) q n;lia
def three(a:Int):(3:Int)∣a\/(3:Int)∣a-1\/(3:Int)∣a+1:=()
def N8(d:¬(3:Int)∣p)(e:¬(3:Int)∣q):¬((3:Int)∣p+q↔(3:Int)∣p-q):=λh=>by
 by_cases c:(3:Int)∣p+q
 .have:=h.mp c;omega
 .have:¬(3:Int)∣p-q:=λz=>c (h.mpr z);rcases three p with a|a|a<;>rcases three q with b|b|b<;>lia
open Classical in
def EN{B R G z:Nat}(v:B<256)(o:sz B=R)(uf:i0 f B R)(uk:i0 κ B R)(hG:G<256)(M:Sub B G)(O:G.testBit z=false)(z8:z<8)
  (ag:∀t,G.testBit t=true->∀i,i<R->(3:Int)∣f t i-κ t i) (same:∀S,Sub S (G|||2^z)->sz S=R->(fN f R S↔fN κ R S)):
  ∃d e:Nat->Int,(∀i,Pm (d i))/\(∀t,Pm (e t))/\∀t,(G|||2^z).testBit t=true->∀i,i<R->(3:Int)∣f t i-d i*e t*κ t i:=by
 have K:B.testBit z=false:=by
  cases e:B.testBit z with
  |false=>rfl
  |true=>rw[M z e]at O;cases O
 have ai:∀i,i<R->((3:Int)∣f z i↔(3:Int)∣κ z i):=λi g=>by
  have hs:Sub (exB B (bAt B i) z) (G|||2^z):=λt A=>by
   rw[aW,Px,O3];by_cases e:z=t
   .exact .inr e
   .rw[bW]at A;by_cases L:bAt B i=t
    .subst L;exact .inl (M _ (cH o g).1)
    .simp[e,L]at A;exact .inl (M t A)
  have ne:bAt B i≠z:=λq=>by rw[<-q,(cH o g).1]at K;cases K
  have b1:sz (exB B (bAt B i) z)=R:=by have y:=fo B v (bAt B i) (cH o g).2 (cH o g).1;have H:=gc (s:=B^^^2^bAt B i) ((df (cH o g).1).lt (n:=8) v) z8 (by rw[cG (cH o g).1,K];rfl);unfold exB;lia
  have:=same _ hs b1;rw[vq v o uf g K,vq v o uk g K]at this;exact#[λq=>Pb λw=>this.mpr w q,λq=>Pb λw=>this.mp w q]
 let P:Nat->Prop:=λi=>¬(3:Int)∣f z i/\(3:Int)∣f z i-κ z i
 have aD:∀i,i<R->¬(3:Int)∣f z i->¬(3:Int)∣f z i-κ z i->(3:Int)∣f z i+κ z i:=λi g y H=>by have h3:¬(3:Int)∣κ z i:=λq=>y ((ai i g).mpr q);rcases three (f z i)with a|a|a<;>rcases three (κ z i)with b|b|b<;>lia
 by_cases aA:∃k j,Lay f R G P k j/\¬(3:Int)∣f z j/\¬(3:Int)∣f z j-κ z j
 .exfalso;obtain⟨k,⟨j,N,Q,U⟩,least⟩:∃k,(∃j,Lay f R G P k j/\¬(3:Int)∣f z j/\¬(3:Int)∣f z j-κ z j)/\∀m,m<k->¬∃j,Lay f R G P m j/\¬(3:Int)∣f z j/\¬(3:Int)∣f z j-κ z j:=by
   obtain⟨k,J⟩:=aA;have:∀k,(∃j,Lay f R G P k j/\¬(3:Int)∣f z j/\¬(3:Int)∣f z j-κ z j)->∃k,(∃j,Lay f R G P k j/\¬(3:Int)∣f z j/\¬(3:Int)∣f z j-κ z j)/\∀m,m<k->¬∃j,Lay f R G P m j/\¬(3:Int)∣f z j/\¬(3:Int)∣f z j-κ z j:=λk=>by
    induction k using Nat.strongRecOn with
    |ind k ih=>
     intro h;by_cases c:∃m,m<k/\∃j,Lay f R G P m j/\¬(3:Int)∣f z j/\¬(3:Int)∣f z j-κ z j
     .obtain⟨m,u,q⟩:=c;exact ih m u q
     .exact#[k,h,λm u q=>c #[m,u,q]]
   exact this k J
  obtain⟨x,t,ex,hx,C⟩:=FZ N λm u q=>least m u #[j,q,Q,U];have k0:0<k:=Sv λq=>by subst q;exact U N.2.2
  obtain⟨S,hS,zS,mS⟩:=Gq v o uf C hG O z8 M;have ab:=same S hS zS;rw[vi v o uf C (λs _ i _=>by rw[Qu];exact PK _) mS,vi v o uk C ag mS]at ab;have x0:=(hx 0 ()).1.2;have bx:∀l,0<l->l<k->(3:Int)∣f z (x l):=λl y H=>Pb λq=>by
   have hl:=hx l ();by_cases c:(3:Int)∣f z (x l) -κ z (x l)
   .exact hl.2 0 y #[C.lt l (),q,c]
   .exact least l H #[x l,hl.1,q,c]
  have two:∀h:Nat->Int,(∀i,i<R->(3:Int)∣f z i->(3:Int)∣h i)->(3:Int)∣sL (List.range R) (λi=>pW f x t k i*h i) - (psi f x t 0*h (x 0)+psi f x t k*h (x k)):=λh hh=>by
   have:=Hz (F:=λi=>pW f x t k i*h i) (a:=x 0) (b:=x k) (cs:=List.range R) Py (OS.mpr (C.lt 0 ())) (OS.mpr (C.lt k ())) (λq=>by have:=C.inj 0 k () () q;lia) λi g n1 n2=>by
    by_cases e:∃m,m<=k/\x m=i
    .obtain⟨m,u,rfl⟩:=e;have m0:m≠0:=λq=>n1 (by rw[q]);have mk:m≠k:=λq=>n2 (by rw[q]);exact Pj (hh _ (C.lt m u) (bx m () ()))
    .rw[pV λm u q=>e #[m,u,q],Q1];exact PK _
   rwa[nN C (),nN C ()]at this
  have t1:=two (f z) λi _ q=>q;have t2:=two (κ z) λi g q=>(ai i g).mp q;have xk:(3:Int)∣f z (x k)+κ z (x k):=by rw[ex];exact aD j (uM N) Q U
  have fk:¬(3:Int)∣f z (x k):=by rw[ex];exact Q
  have u0:=ug C 0 ();have b2:=ug C k ();have np:¬(3:Int)∣psi f x t 0*f z (x 0):=λq=>x0.1 (j9 aM u0 q);have nq:¬(3:Int)∣psi f x t k*f z (x k):=λq=>fk (j9 aM b2 q);refine N8 np nq ?_;have e1:(3:Int)∣sL (List.range R) (λi=>pW f x t k i*f z i)↔(3:Int)∣psi f x t 0*f z (x 0)+psi f x t k*f z (x k):=()
  have L:(3:Int)∣sL (List.range R) (λi=>pW f x t k i*κ z i)↔(3:Int)∣psi f x t 0*f z (x 0) -psi f x t k*f z (x k):=by
   have a1:(3:Int)∣psi f x t 0*f z (x 0) -psi f x t 0*κ z (x 0):=by rw[<-Q5];exact Pj x0.2
   have a2:(3:Int)∣psi f x t k*f z (x k)+psi f x t k*κ z (x k):=by rw[<-Rv];exact Pj xk
   omega
  rw[<-e1,<-L];exact#[λq=>Pb λw=>ab.mpr w q,λq=>Pb λw=>ab.mp w q]
 .have good:∀k j,Lay f R G P k j->¬(3:Int)∣f z j->(3:Int)∣f z j-κ z j:=λk j y H=>Pb λq=>aA #[k,j,y,H,q];refine#[λi=>if∃k,Lay f R G P k i then 1 else-1,λt=>if t=z then 1 else if∃i,(∃k,Lay f R G P k i)/\¬(3:Int)∣f t i then 1 else-1,λi=> ?_,λt=> ?_,λt A i g=> ?_]
  .dsimp only;split
   .exact .inl rfl
   .exact .inr rfl
  .dsimp only;split
   .exact .inl rfl
   .split
    .exact .inl rfl
    .exact .inr rfl
  .dsimp only;by_cases tz:t=z
   .subst tz;rw[OP rfl,QT];by_cases p:(3:Int)∣f t i
    .exact Q6 p (Pj ((ai i g).mp p))
    .by_cases r:∃k,Lay f R G P k i
     .rw[OP r,Qs];obtain⟨k,J⟩:=r;exact good k i J p
     .rw[OO r,Q3,Qs,Int.sub_neg];exact aD i g p λq=>r #[0,g,p,q]
   .have tG:G.testBit t=true:=by
     rw[aW,Px]at A;rcases A with q|q
     .exact q
     .exact absurd (O9 q).symm tz
    rw[OO tz];have a:=ag t tG i g;by_cases p:(3:Int)∣f t i
    .have:(3:Int)∣κ t i:=()
     exact Q6 p (Pj this)
    .by_cases r:∃k,Lay f R G P k i
     .rw[OP r,OP #[i,r,p],Qs,Qs];exact a
     .have c3:¬∃i,(∃k,Lay f R G P k i)/\¬(3:Int)∣f t i:=by rintro⟨i',⟨k,J⟩,h'⟩;exact r #[k+1, .inr #[g,i',J,t,tG,h',p]]
      rw[OO r,OO c3,show((-1:Int)* -1)=1 from rfl,Qs];exact a
def uniq(v:B<256)(u:sz B=R)(r:i0 f B R)(s:i0 κ B R):∀(m G:Nat),sz (ao G B)=m->G<256->Sub B G->(∀S,Sub S G->sz S=R->(fN f R S↔fN κ R S))->
  ∃d e:Nat->Int,(∀i,Pm (d i))/\(∀t,Pm (e t))/\∀t,G.testBit t=true->∀i,i<R->(3:Int)∣f t i-d i*e t*κ t i
 |0,G,hm,k,J,same=>by
  refine#[λ_=>1,λ_=>1,λ_=> .inl rfl,λ_=> .inl rfl,λt c i b=> ?_];have tB:B.testBit t=true:=by
   cases e:B.testBit t with
   |true=>rfl
   |false=>
    have U:(ao G B).testBit t=true:=by rw[aG,c,e];rfl
    have o:=fo (ao G B) (Pd (iK _ _) k) t (aU (n:=8) k c) U;lia
  obtain⟨j,a,rfl⟩:=ik v u tB;rw[r j i a b,s j i a b,Qs,Qs,Qu];exact PK _
 |m+1,G,hm,k,J,same=>by
  obtain⟨z,A⟩:=gf (S:=ao G B) ();have L:=A;rw[aG,Pc,Qm]at L;obtain⟨g,N⟩:=L;have M:=aU (n:=8) k g;have H:=fT g;have K:G^^^2^z<256:=(df g).lt (n:=8) k;have ax:(G^^^2^z).testBit z=false:=by rw[cG g];simp
  have w:Sub B (G^^^2^z):=λt c=>by
   rw[cG g,J t c];have:¬z=t:=λq=>by rw[q,c]at N;cases N
   simp[this]
  have ar:sz (ao (G^^^2^z) B)=m:=by
   have o:=fo (ao G B) (Pd (iK _ _) k) z M A;have h:ao (G^^^2^z) B=ao G B^^^2^z:=O2 λt=>by rw[cG A,aG,aG,cG g];cases G.testBit t<;>cases B.testBit t<;>simp
   rw[h];lia
  obtain⟨d,e,x,y,o⟩:=uniq v u r s m (G^^^2^z) ar K w λS p=>same S (p.trans (df g));have ub:∀j,j<R->d j*e (bAt B j)=1:=λj a=>by
   have:=o (bAt B j) (w _ (cH u a).1) j a;rw[r j j a a,s j j a a,OP rfl,QT]at this;rcases(x j).mul (y (bAt B j))with q|q
   .exact q
   .rw[q]at this;exact absurd this ∅
  have ay:i0 (λt i=>d i*e t*κ t i) B R:=λi j b a=>by
   show d j*e (bAt B i)*κ (bAt B i) j=_;rw[s i j b a];by_cases q:j=i
   .rw[OP q,QT,q];exact ub i b
   .rw[OO q,Q2]
  obtain⟨l,h,ab,ag,Q⟩:=EN (κ:=λt i=>d i*e t*κ t i) v u r ay K w ax M o (by
   intro S p zS;rw[sg x y];rw[H]at p;exact same S p zS)
  refine#[λi=>l i*d i,λt=>h t*e t,λi=>(ab i).mul (x i),λt=>(ag t).mul (y t),λt c i b=> ?_];have:=Q t (by rw[H];exact c) i b;have O:l i*d i*(h t*e t)*κ t i=l i*h t*(d i*e t*κ t i):=by simp only[PZ,QJ]
  show(3:Int)∣f t i-l i*d i*(h t*e t)*κ t i;rw[O];exact this
def Tern(n:Nat)(r:Nat->Nat):Prop:=∃L:List Row,∀s,s<2^n->r s=bQ 3 L s
def D0(f:Nat->Nat->Int)(y:Nat)(c:Nat->Int):Nat->Nat->Int:=λt=>if t=y then c else f t
def xO{R S:Nat}(h:∀t,S.testBit t=true->∀i,i<R->(3:Int)∣f t i-g t i):fN f R S↔fN g R S:=
 #[sh h,sh λt b i a=>by have:=h t b i a;lia]
def GQ{n B R G y:Nat}(M:Mat n r)(T:Tern n r)(K:r (2^n-1)=R)(h:B<2^n)(b:sz B=R)(rB:r B=R)(k:G<2^n)(u:Sub B G)(uf:i0 f B R)
  (good:∀S,Sub S G->sz S=R->(fN f R S↔r S=R)) (o:y<n) (l:G.testBit y=false):
  ∃c:Nat->Int,(∀i,i<R->0<=c i/\c i<3)/\(∀i,i<R->(¬c i=0↔r (exB B (bAt B i) y)=R))/\∀S,Sub S G->sz S+1=R->(fN (D0 f y c) R (S|||2^y)↔r (S|||2^y)=R):=by
 obtain⟨L,m⟩:=T;have n8:=M.n8;have p:B<256:=M.aX h;have G8:G<256:=M.aX k;have top:∀s,s<2^n->bQ 3 L s<=R:=λs w=>by rw[<-m s w,<-K];exact M.mono (bO w) (aJ n)
 obtain⟨κ,A,N⟩:=tN L n8 h b (by rw[<-m B h];exact rB) top;have bk:∀S,S<2^n->sz S=R->(fN κ R S↔r S=R):=λS a g=>by rw[<-N S a g,<-m S a]
 obtain⟨d,e,v,J,O⟩:=uniq p b uf A _ G rfl G8 u λS a g=>(good S a g).trans (bk S (a.lt k) g).symm;have H:B.testBit y=false:=by
  cases q:B.testBit y with
  |false=>rfl
  |true=>rw[u y q]at l;cases l
 refine#[λi=>d i*κ y i % 3,λi _=>#[QS _ ∅,QL _ ∅],λi j=> ?_,λS a g=> ?_]
 .have Q:exB B (bAt B i) y<2^n:=aP (M.gv h (cH b j).1) o;have zx:sz (exB B (bAt B i) y)=R:=(Aa M h (cH b j).1 H o).2.trans b;rw[<-bk _ Q zx,vq p b A j H,<-(v i).dv];exact#[λq z=>q (Int.emod_eq_zero_of_dvd z),λq z=>q (SI z)]
 .have U:S.testBit y=false:=by
   cases q:S.testBit y with
   |false=>rfl
   |true=>rw[a y q]at l;cases l
  have ax:sz (S|||2^y)=R:=by rw[gc (M.aX (a.lt k)) () U];exact g
  have sc:fN (λt i=>d i*(if t=y then 1 else e t)*κ t i) R (S|||2^y)↔fN κ R (S|||2^y):=sg (e:=λt=>if t=y then 1 else e t) v λt=>by
   by_cases q:t=y
   .rw[OP q];exact .inl rfl
   .rw[OO q];exact J t
  rw[<-bk _ (aP (a.lt k) o) ax,<-sc];refine xO λt x i j=> ?_;unfold D0;by_cases q:t=y
  .rw[OP q,OP q,q,QT];have:=S4 (d i*κ y i) 3;lia
  .rw[OO q,OO q];rw[aW,Px]at x;exact O t (a t (by rcases x with z|z;exact z;exact absurd (O9 z).symm q)) i j
def lG(E R:Nat)(β:Nat->Prop):Prop:=∃L:List Row,(∀s,bQ 3 L s<=R)/\∀S,Sub S E->sz S=R->(bQ 3 L S=R↔β S)
def HW(h:lG E R β)(b:E<256)(a:Sub B E)(e:sz B=R)(g:β B):∃κ:Nat->Nat->Int,i0 κ B R/\∀S,Sub S E->sz S=R->(fN κ R S↔β S):=by obtain⟨L,top,c⟩:=h;obtain⟨κ,j,i⟩:=tN (n:=8) L (O4 _) (a.lt (n:=8) b) e ((c B a e).mpr g) λs _=>top s;exact#[κ,j,λS d f=>by rw[<-i S (d.lt (n:=8) b) f,c S d f]]
def nL(c:E<256)(h:∀S,Sub S E->sz S=R->(fN κ R S↔β S)):lG E R β:=by
 refine#[bU κ (List.range R),λs=> ?_,λS a b=>by rw[qx (a.lt (n:=8) c) b,h S a b]];have:=pN aM (bU κ (List.range R)) (aq s);have e:(bU κ (List.range R)).length=R:=by unfold bU;rw[My,O8]
 rwa[e]at this
def uc(h:lG E R β)(e:∀S,Sub S E->sz S=R->(β S↔γ S)):lG E R γ:=by obtain⟨L,top,c⟩:=h;exact#[L,top,λS a b=>(c S a b).trans (e S a b)]
def DV{I:List Nat}(g:I.Nodup)(d:∀i∈I,i<R)(h:∀i,i<R->i∉I->(3:Int)∣F i):(3:Int)∣sL (List.range R) F-sL I F:=by
 have l:∀(I:List Nat),I.Nodup->(∀i∈I,i<R)->sL (List.range R) (λi=>if i∈I then F i else 0)=sL I F:=λI=>by
  induction I with
  |nil=>
   intro _ _;have:=fi 0 (λ_=>0) (List.range R);simp only[Q1]at this;simp only[Pe,if_false];exact this
  |cons a I f=>
   intro g d;obtain⟨m,n⟩:=PX.mp g;have f:=f n λi e=>d i (OZ _ e);have k:sL (List.range R) (λi=>if i=a then F i else 0)=F a:=by rw[kf (a:=a) Py (OS.mpr (d a O6)) λc _ z=>OO z,OP rfl]
   have j:=qL (λi=>if i=a then F i else 0) (λi=>if i∈I then F i else 0) (List.range R);rw[k,f]at j;rw[fq,<-j];refine bL λi _=> ?_;by_cases c:i=a
   .subst c;rw[OP O6,OP rfl,OO m,Rx]
   .by_cases b:i∈I
    .rw[OP (OZ _ b),OO c,OP b,Qk]
    .rw[OO (by rw[OT];exact λz=>z.elim c b),OO c,OO b,Rx]
 rw[<-l I g d];refine mh λi e=> ?_;by_cases c:i∈I
 .rw[OP c,Qu];exact PK _
 .rw[OO c,RF];exact h i (OS.mp e) c
def LL{M:Nat->Nat->Int}{I J:List Nat}(b:I.Nodup)(c:J.Nodup)(e:I.length=J.length):LI 3 (J.map λj i=>M i j) I↔LI 3 (I.map λi j=>M i j) J:=by have a:=aM;rw[<-ip a I _ b,<-ip a J _ c,dF a (R:=I.length) (by rw[My,e]) rfl,dF a (R:=J.length) (by rw[My,e]) rfl,kN M J I e]
def cB(s t:Nat):Sub (ao s t) s:=λk a=>by rw[aG,Pc]at a;exact a.1
def cj(d:E<256)(c:Sub S E):sz S+sz (ao E S)=sz E:=by
 have:=jt (s:=E) (a:=S) (b:=ao E S) (λk=>S.testBit k) (λk _=>by
  cases e:S.testBit k with
  |false=>rw[Qc]
  |true=>rw[c k e];rfl) (λk _=>by rw[aG])
 lia
def jO(a:Sub S E):ao E (ao E S)=S:=O2 λk=>by rw[aG,aG];have:=a k;cases b:E.testBit k<;>cases c:S.testBit k<;>simp_all
def Eu{h:Nat->Nat->Int}{B R T:Nat}(s:B<256)(K:sz B=R)(u:i0 h B R){I J:List Nat}{y:Nat->Nat}(m:∀i,i∈I↔i<R/\T.testBit (bAt B i)=false)(o:I.Nodup)
  (v:∀t,T.testBit t=true->B.testBit t=false->∃j∈J,y j=t) (w:∀j∈J,T.testBit (y j)=true):fN h R T↔LI 3 (J.map λj i=>h (y j) i) I:=by
 have lt:∀i∈I,i<R:=λi a=>((m i).mp a).1;constructor
 .intro b g z i a;have:=b (λi=>if i∈I then g i else 0) (λt l=> ?_) i (lt i a)
  .rwa[OP a]at this
  .cases r:B.testBit t with
   |true=>
    obtain⟨j,c,rfl⟩:=ik s K r;rw[jk c λk f=>u j k c f,OO (λq=>by rw[((m j).mp q).2]at l;cases l)];exact PK _
   |false=>
    obtain⟨j,c,rfl⟩:=v t l r;have e:=DV (F:=λi=>(if i∈I then g i else 0)*h (y j) i) o lt λi _ d=>by rw[OO d,Q1];exact PK _
    rw[bL (cs:=I) (g:=λi=>g i*h (y j) i) λi a=>by rw[OP a]]at e;have:=Q4 e (z _ (OX.mpr #[j,c,2]));rwa[Rf]at this
 .intro G φ n;have p:∀i,i<R->i∉I->(3:Int)∣φ i:=λi a d=>by
   have:T.testBit (bAt B i)=true:=by
    cases q:T.testBit (bAt B i)with
    |true=>rfl
    |false=>exact absurd ((m i).mpr #[a,q]) d
   have:=n _ this;rwa[jk a λk f=>u i k a f]at this
  have H:=G φ λx A=>by obtain⟨j,c,rfl⟩:=OX.mp A;have e:=DV (F:=λi=>φ i*h (y j) i) o lt λi a d=>PQ (p i a d);have:=Q6 (n _ (w j c)) e;rwa[RB]at this
  intro i a;by_cases q:i∈I
  .exact H i q
  .exact p i a q
def AI(a:sz B=R)(p:Nat->Bool):((List.range R).filter λi=>p (bAt B i)).length=((aq B).filter p).length:=by rw[<-lh a,RI,My];rfl
def Dh(B T:Nat):((aq B).filter λt=> !T.testBit t).length=sz (ao B T):=by rw[<-aT];unfold aq;rw[Rm];congr 1;refine Qi λt _=> ?_;rw[aG,Sg]
def wB(l:E<256)(h:lG E R β)(hb:∃B,Sub B E/\sz B=R/\β B):lG E (sz E-R) λS=>β (ao E S):=by
 obtain⟨B,w,p,bB⟩:=hb;obtain⟨κ,uk,A⟩:=HW h l w p bB;have K:B<256:=w.lt (n:=8) l;have L:ao E B<256:=(cB E B).lt (n:=8) l;have u:sz (ao E B)=sz E-R:=by have:=cj l w;lia
 obtain⟨o,hinv⟩:∃o:Nat->Nat,∀i,i<R->o (bAt B i)=i:=by
  have:∀b,∃i,∀j,j<R->bAt B j=b->i=j:=λb=>by
   by_cases h:∃j,j<R/\bAt B j=b
   .obtain⟨j,g,e⟩:=h;exact#[j,λk A O=>jm p g A (e.trans O.symm)]
   .exact#[0,λj g e=>absurd #[j,g,e] h]
  obtain⟨o,h⟩:=Rz this;exact#[o,λi c=>h _ i c rfl]
 generalize hD:ao E B=D at*;generalize hQ:sz E-R=Q at*;have v:∀t,D.testBit t=true↔E.testBit t=true/\B.testBit t=false:=λt=>by rw[<-hD,aG,Pc,Qm]
 let f:Nat->Nat->Int:=λt j=>if B.testBit t=true then κ (bAt D j) (o t)else if t=bAt D j then 1 else 0
 have uf:i0 f D Q:=λi j c g=>by
  show(if B.testBit (bAt D i)=true then κ (bAt D j) (o (bAt D i))else if bAt D i=bAt D j then 1 else 0)=_;rw[((v _).mp (cH u c).1).2,OO Pf];by_cases q:j=i
  .rw[q,OP rfl,OP rfl]
  .rw[OO q,OO λe=>q (jm u c g e).symm]
 refine nL (κ:=f) l λS hS zS=> ?_;have z:Sub (ao E S) E:=cB E S;have zT:sz (ao E S)=R:=by have U:=cj l hS;have h2:=cj l w;lia
 have H:∀t,E.testBit t=true->(S.testBit t=true↔(ao E S).testBit t=false):=λt m=>by rw[aG,m];cases S.testBit t<;>simp
 rw[<-A _ z zT];generalize ao E S=T at*
 let I:=(List.range R).filter λi=> !T.testBit (bAt B i)
 let J:=(List.range Q).filter λj=>T.testBit (bAt D j)
 have r:∀i,i∈I↔i<R/\T.testBit (bAt B i)=false:=λi=>by show i∈(List.range R).filter _↔_;rw[Pn,OS,Qm]
 have G:∀j,j∈J↔j<Q/\T.testBit (bAt D j)=true:=λj=>by show j∈(List.range Q).filter _↔_;rw[Pn,OS]
 have nI:I.Nodup:=Py.filter _;have nJ:J.Nodup:=Py.filter _;have len:I.length=J.length:=by
  have N:I.length=sz (ao B T):=(AI p λt=> !T.testBit t).trans (Dh B T);have O:J.length=sz (ao T B):=by refine(AI u T.testBit).trans ?_;rw[<-aT];unfold aq;rw[Rm];congr 1;refine Qi λt _=> ?_;rw[aG];have:=z t;have d:=v t;cases U:T.testBit t<;>cases h2:B.testBit t<;>cases h3:D.testBit t<;>simp_all
  have a1:sz (ao B T)+sz (B&&&T)=sz B:=by have:=jt (s:=B) (a:=B&&&T) (b:=ao B T) T.testBit (λk _=>by rw[PD]) (λk _=>by rw[aG]);lia
  have a2:sz (ao T B)+sz (B&&&T)=sz T:=by have:=jt (s:=T) (a:=B&&&T) (b:=ao T B) B.testBit (λk _=>by rw[PD,Sg]) (λk _=>by rw[aG]);lia
  lia
 rw[Eu K p uk (y:=bAt D) (J:=J) r nI (λt m x=>by
   obtain⟨j,g,e⟩:=ik L u ((v t).mpr #[z t m,x]);exact#[j,(G j).mpr #[g,by rw[e];exact m],e]) λj g=>((G j).mp g).2,
  Eu L u uf (y:=bAt B) (I:=J) (J:=I) (λj=>by
   rw[G];refine and_congr_right λg=> ?_;have:=H (bAt D j) ((v _).mp (cH u g).1).1;cases U:T.testBit (bAt D j)<;>cases h2:S.testBit (bAt D j)<;>simp_all) nJ (λt m x=>by
   have tE:=hS t m;have b:B.testBit t=true:=by
    cases q:B.testBit t with
    |true=>rfl
    |false=>rw[(v t).mpr #[tE,q]]at x;cases x
   obtain⟨i,c,e⟩:=ik K p b;exact#[i,(r i).mpr #[c,by rw[e];exact(H t tE).mp m],e]) λi c=>(H _ (w _ (cH p ((r i).mp c).1).1)).mpr ((r i).mp c).2]
 have N:(I.map λi j=>f (bAt B i) j)=I.map λi j=>κ (bAt D j) i:=P4 λi c=>by funext j;show(if B.testBit (bAt B i)=true then κ (bAt D j) (o (bAt B i))else _)=_;rw[OP (cH p ((r i).mp c).1).1,hinv i ((r i).mp c).1]
 rw[N];exact(LL (M:=λi j=>κ (bAt D j) i) nI nJ len).symm
def qC(E R:Nat)(β:Nat->Prop):Prop:=∀S T,Sub S E->Sub T E->sz S=R->sz T=R->¬β S->¬β T->S≠T->sz (S&&&T)+2<=R
def EJ(E R:Nat)(β:Nat->Prop)(m d:Nat):Prop:=∃W K,Sub W E/\Sub K E/\(∀t,K.testBit t=true->W.testBit t=false)/\sz K=m/\sz W+d=R/\∀s,Sub s K->sz s=d->β (W|||s)
def Dv(E R:Nat)(β:Nat->Prop):Prop:=∃W K,Sub W E/\Sub K E/\(∀t,K.testBit t=true->W.testBit t=false)/\sz K=7/\sz W+3=R/\∀u v,K.testBit u=true->K.testBit v=true->u≠v->∃c,K.testBit c=true/\c≠u/\c≠v/\¬β (W||| (2^u|||2^v|||2^c))
def lD(E:Nat)(β:Nat->Prop):Nat->Prop:=λS=>β (ao E S)
def Bad(E R:Nat)(β:Nat->Prop):Prop:=EJ E R β 5 2\/EJ E R β 5 3\/Dv E R β\/Dv E (sz E-R) (lD E β)
def sN{K u:Nat}(h:K.testBit u=true):Sub (2^u) K:=λt a=>by rw[O0,O3]at a;exact a▸h
def pY(h:Sub a c)(g:Sub b c):Sub (a|||b) c:=λt d=>by
 rw[O7,Px]at d;rcases d with z|z
 .exact h t z
 .exact g t z
def Bt(c:E<256)(p:R<=sz E)(h:qC E R β):qC E (sz E-R) (lD E β):=λS T d f q r g i ne=>by
 have n:=cj c d;have o:=cj c f;have:=h _ _ (cB E S) (cB E T) () () g i λe=>ne (by rw[<-jO d,e,jO f]);have j:sz S+sz (ao T S)=sz (S|||T):=by
  have:=jt (s:=S|||T) (a:=S) (b:=ao T S) S.testBit (λk _=>by rw[O7];cases S.testBit k<;>simp) (λk _=>by rw[O7,aG];cases S.testBit k<;>simp)
  lia
 have l:sz (S&&&T)+sz (ao T S)=sz T:=by have:=jt (s:=T) (a:=S&&&T) (b:=ao T S) S.testBit (λk _=>by rw[PD,Sg]) (λk _=>by rw[aG]);lia
 have m:=cj c (pY d f);have e:ao E S&&&ao E T=ao E (S|||T):=O2 λk=>by rw[PD,aG,aG,aG,O7];cases E.testBit k<;>cases S.testBit k<;>cases T.testBit k<;>rfl
 rw[e]at this;lia
def HV(b:E<256)(g:R<=sz E)(e:∃B,Sub B E/\sz B=R/\β B)(h:lG E (sz E-R) (lD E β)):lG E R β:=by obtain⟨B,a,i,c⟩:=e;have f:=cj b a;have:=wB b h #[ao E B,cB _ _,9,by unfold lD;rw[jO a];exact c];rw[show sz E- (sz E-R)=R by lia]at this;refine uc this λS d _=> ?_;show β (ao E (ao E S))↔β S;rw[jO d]
def Gz(c:E<256)(d:∃B,Sub B E/\sz B=R/\β B):∃B,Sub B E/\sz B=sz E-R/\lD E β B:=by obtain⟨B,a,f,b⟩:=d;have e:=cj c a;exact#[ao E B,cB _ _,9,by unfold lD;rw[jO a];exact b]
def HU(a:E<256)(f:∃B,Sub B E/\sz B=0/\β B):lG E 0 β:=by
 obtain⟨B,e,h,d⟩:=f;refine nL (κ:=λ_ _=>0) a λS b j=>#[λ_=> ?_,λ_ φ _ i g=>absurd g (RW _)];have:S=B:=tF (b.lt (n:=8) a) (e.lt (n:=8) a) (λk _ c=>by have:=fo S (b.lt (n:=8) a) k (aU (n:=8) (b.lt (n:=8) a) c) c;lia) (j.trans h.symm)
 rw[this];exact d
def KZ(c:S<256)(h:sz S=1):∃t,S=2^t:=by obtain⟨t,b⟩:=gf (S:=S) ();have f:=fo S c t (aU (n:=8) c b) b;have e:S^^^2^t=0:=(tF (a:=0) ∅ ((df b).lt (n:=8) c) (λk _ d=>by rw[Pw]at d;cases d) (by rw[dh];lia)).symm;have:=fT b;rw[e,R0]at this;exact#[t,this.symm]
open Classical in
def Kx(c:E<256):lG E 1 β:=by
 refine nL (κ:=λt _=>if β (2^t)then 1 else 0) c λS e j=> ?_;obtain⟨t,rfl⟩:=KZ (e.lt (n:=8) c) j;have d:∀φ:Nat->Int,∀s,(2^t:Nat).testBit s=true->sL (List.range 1) (λi=>φ i*if β (2^s)then 1 else 0)=φ 0*if β (2^t)then 1 else 0:=λφ s a=>by rw[O0,O3]at a;rw[<-a];show φ 0*_+0=_;lia
 constructor
 .intro b;refine Pb λg=> ?_;have:=b (λ_=>1) (λs a=>by rw[d _ s a,OO g,Q2];exact PK _) 0 ∅
  exact aM.one this
 .intro f φ h i k;have:=h t (by rw[O0];exact OQ rfl);rw[d φ t (by rw[O0];exact OQ rfl),OP f,QT]at this;have:i=0:=()
  subst this;assumption
def dJ{s t:Nat}(h:∀k,s.testBit k=true↔t.testBit k=true):s=t:=O2 λk=>QX.mpr (h k)
def IW{f:Nat->Nat}:∀ {l:List Nat},l.Nodup->(∀i∈l,∀j∈l,f i=f j->i=j)->(l.map f).Nodup
 | [],_,_=>T7
 |a::l,c,h=>by rw[PF,PX];rw[PX]at c;refine#[λq=> ?_,IW c.2 λi g j k=>h i (OZ _ g) j (OZ _ k)];obtain⟨b,d,e⟩:=OX.mp q;exact c.1 (h b (OZ _ d) a O6 e▸d)
def ov(W:Nat)(l:List Nat):Nat:=W|||jN l
def bR{W:Nat}:(ov W l).testBit t=true↔W.testBit t=true\/t∈l:=by unfold ov;rw[O7,Px,da]
def qR{E W:Nat}(h:Sub W E)(g:∀t∈l,E.testBit t=true):Sub (ov W l) E:=λt a=>(bR.mp a).elim (h t) (g t)
def uu{E W:Nat}{l:List Nat}(b:E<256)(h:Sub W E)(d:l.Nodup)(g:∀t∈l,E.testBit t=true/\W.testBit t=false):sz (ov W l)=sz W+l.length:=by
 have c:=cj (S:=W) ((qR h λt a=>(g t a).1).lt (n:=8) b) λt a=>bR.mpr (.inl a);have e:ao (ov W l) W=jN l:=dJ λt=>by rw[aG,Pc,bR,da,Qm];exact#[λz=>z.1.resolve_left (by rw[z.2];decide),λz=>#[.inr z,(g t z).2]]
 rw[e,qj d λt a=>aU (n:=8) b (g t a).1]at c;lia
def yy(h:∀t,t∈l↔t∈m):ov W l=ov W m:=dJ λt=>by rw[bR,bR,h t]
def JB{E R W u v w z:Nat}(G:E<256)(F:qC E R β)(i:Sub W E)(s:sz W+3=R)(o:[u,v,w,z].Nodup)(hl:∀t∈[u,v,w,z],E.testBit t=true/\W.testBit t=false)(n:¬β (ov W [u,v,w])):β (ov W [u,v,z]):=Pb λH=>by
 have d:∀l:List Nat,l.Nodup->(∀t∈l,t∈[u,v,w,z])->Sub (ov W l) E/\sz (ov W l)=sz W+l.length:=λl B h=>#[qR i λt c=>(hl t (h t c)).1,uu G i B λt c=>hl t (h t c)];simp only[PX,OT,Pe,Qa,RA]at o;obtain⟨⟨b,f,x⟩,⟨g,y⟩,A,_⟩:=o;have p:=d [u,v,w] (by simp[b,f,g]) #[5];have r:=d [u,v,z] (by simp[b,x,y]) #[5];have J:=d [u,v] (by simp[b]) #[5];have:=F _ _ p.1 r.1 (by rw[p.2];exact s) (by rw[r.2];exact s) n H λe=>by
  have:(ov W [u,v,w]).testBit w=true:=bR.mpr (.inr #[5]);rw[e,bR,(hl w #[5]).2]at this;simp[A,R9 (a:=w)]at this;rcases this with q|q
  .exact f q
  .exact g q
 have m:sz (ov W [u,v])<=sz (ov W [u,v,w]&&&ov W [u,v,z]):=kR λk _ j=>by
  rw[PD,Pc,bR,bR];rw[bR]at j;rcases j with q|q
  .exact#[.inl q, .inl q]
  .simp only[OT,Pe,Qa]at q;rcases q with rfl|rfl<;>simp
 have l2:[u,v].length=2:=rfl;rw[J.2,l2]at m;lia
def N5(W u v w:Nat):ov W [u,v,w]=ov W [v,u,w]:=yy λt=>by simp only[OT,Pe,Qa];lia
def N4(W u v w:Nat):ov W [u,v,w]=ov W [u,w,v]:=yy λt=>by simp only[OT,Pe,Qa];lia
def yX(l:List Nat)(h:m<l.length):l.getD m 0=l[m]:=by rw[OV,Po h];rfl
def D5{X:Nat}(h:1<=sz X):∃u,X.testBit u=true:=gf ()
def NX{X:Nat}(c:X<256)(h:2<=sz X):∃u v,u≠v/\X.testBit u=true/\X.testBit v=true:=by obtain⟨u,a⟩:=D5 (X:=X) ();have:=fo X c u (aU (n:=8) c a) a;obtain⟨v,b⟩:=D5 (X:=X^^^2^u) ();rw[cG a,Pc,Qm,SE]at b;exact#[u,v,b.2,a,b.1]
def Ej{E R W u v w:Nat}(y:E<256)(F:qC E R β)(g:Sub W E)(p:sz W+2=R)(i:[u,v,w].Nodup)(hl:∀t∈[u,v,w],E.testBit t=true/\W.testBit t=false)(n:¬β (ov W [u,v])):β (ov W [u,w]):=Pb λz=>by
 have c:∀l:List Nat,l.Nodup->(∀t∈l,t∈[u,v,w])->Sub (ov W l) E/\sz (ov W l)=sz W+l.length:=λl x f=>#[qR g λt b=>(hl t (f t b)).1,uu y g x λt b=>hl t (f t b)];simp only[PX,OT,Pe,Qa,RA]at i;obtain⟨⟨d,r⟩,s,_⟩:=i;have j:=c [u,v] (by simp[d]) #[5];have o:=c [u,w] (by simp[r]) #[5];have A:=c [u] #[5] #[5];have:=F _ _ j.1 o.1 (by rw[j.2];exact p) (by rw[o.2];exact p) n z λe=>by have:(ov W [u,v]).testBit v=true:=bR.mpr (.inr #[5]);rw[e,bR,(hl v #[5]).2]at this;simp[s,R9 (a:=v)]at this;exact d this
 have m:sz (ov W [u])<=sz (ov W [u,v]&&&ov W [u,w]):=kR λk _ h=>by
  rw[PD,Pc,bR,bR];rw[bR]at h;rcases h with q|q
  .exact#[.inl q, .inl q]
  .have:k=u:=#[5,q]
   exact#[.inr (by simp[this]), .inr (by simp[this])]
 have l2:[u].length=1:=rfl;rw[A.2,l2]at m;lia
def tK:∀(d:Nat) {E:Nat},E<256->sz E=m+d->∃X,Sub X E/\sz X=m
 |0,E,_,h=>#[E,Sub.refl _,h]
 |d+1,E,b,h=>by obtain⟨u,a⟩:=D5 (X:=E) ();have:=fo E b u (aU (n:=8) b a) a;obtain⟨X,c,e⟩:=tK d ((df a).lt (n:=8) b) (by lia:sz (E^^^2^u)=m+d);exact#[X,c.trans (df a),e]
def Mat.some_base(M:Mat n r):∃B,Sub B (2^n-1)/\sz B=r (2^n-1)/\r B=r (2^n-1):=by obtain⟨g,_,c,d,a⟩:=M.extend (s:=0) (t:=2^n-1) (λk b=>by rw[Pw]at b;cases b) (aJ n) (by rw[M.zero,dh]);exact#[g,c,d.symm.trans a,a]
def uH(M:Mat n r)(N:Mat n q)(i:r (2^n-1)=R)(g:q (2^n-1)=R)(h:∀S,S<2^n->sz S=R->(r S=R↔q S=R))(f:s<2^n):r s=q s:=by
 rw[<-M.qu (ms:=((List.range (2^n)).filter λb=>decide (r b=sz b/\r b=r (2^n-1))).map λb:Nat=>(b:Int)) (λz=> ?_) f]
 .refine N.qu (λz=> ?_) f;rw[OX];constructor
  .rintro⟨b,a,rfl⟩;have a:=Pn.mp a;have c:=OS.mp a.1;have d:=O9 a.2;have:=(h b c ()).mp ();exact#[b,c,299]
  .rintro⟨b,c,rfl,d,e⟩;have:=(h b c ()).mpr ();exact#[b,Pn.mpr #[OS.mpr c,OQ #[99]],2]
 .rw[OX];constructor
  .rintro⟨b,a,rfl⟩;have a:=Pn.mp a;have d:=O9 a.2;exact#[b,OS.mp a.1,2,d.1,d.2]
  .rintro⟨b,c,rfl,d,e⟩;exact#[b,Pn.mpr #[OS.mpr c,OQ #[d,e]],2]
def DD(M:Mat n r)(c:r (2^n-1)=R)(h:lG (2^n-1) R λS=>r S=R):Tern n r:=by obtain⟨L,top,same⟩:=h;have N:=jI aM L M.n8;obtain⟨B,a,f,g⟩:=M.some_base;have i:=(same B a ()).mpr ();have:=N.mono a (aJ n);have:=top (2^n-1);exact#[L,λs d=>uH M N c () (λS b e=>(same S (bO b) e).symm) d]
def K4(M:Mat n r)(g:r (2^n-1)=R)(h:Tern n r):lG (2^n-1) R λS=>r S=R:=by
 obtain⟨L,a⟩:=h;obtain⟨B,e,k,l⟩:=M.some_base;have b:=e.lt (aJ n);obtain⟨κ,_,i⟩:=tN (R:=R) L M.n8 b () (by rw[<-a B b];lia) λs d=>by rw[<-a s d,<-g];exact M.mono (bO d) (aJ n)
 refine nL (κ:=κ) (M.aX (aJ n)) λS f j=> ?_;have c:=f.lt (aJ n);rw[<-i S c j,a S c]
def EU(M:Mat n r)(h:Tern n r):Tern n (ir n r):=by
 have a:=M.aX (aJ n);have g:sz (2^n-1)=n:=by have:=sF (n:=n) (s:=0) M.n8 (Nat.two_pow_pos n);rw[dh,qV]at this;lia
 have le:=M.jQ (2^n-1) (aJ n);have c:ir n r (2^n-1)=sz (2^n-1) -r (2^n-1):=by
  unfold ir;have:ao (2^n-1) (2^n-1)=0:=O2 λt=>by rw[aG,Pw];simp
  rw[this,M.zero];rfl
 refine DD M.dual c (uc (wB a (K4 M rfl h) M.some_base) λS b i=> ?_);have d:=cj a b;have e:=M.mono (cB (2^n-1) S) (aJ n);have f:=M.de (b.lt (aJ n));show r (ao (2^n-1) S)=r (2^n-1)↔ir n r S=_;lia
def Cu(e:bZ m)(L:List Row)(u:Nat->Nat)(cs:List Nat):rho m (L.map λx t=>x (u t)) cs=rho m L (cs.map u):=by
 have h:=gx e L (cs.map u);have a:∀k,Van m k L (cs.map u)->Van m k (L.map λx t=>x (u t)) cs:=λk v=>jr (f:=u) (λj b=>OX.mpr #[j,b,2]) (λy l=>by obtain⟨x,d,rfl⟩:=OX.mp l;exact#[x,d,λj _=>rfl]) v
 refine fG e #[a _ h.1,λv=>h.2 ?_];have ex:∀j,∃c,j∈cs.map u->c∈cs/\u c=j:=λj=>by
  by_cases q:j∈cs.map u
  .obtain⟨c,g,i⟩:=OX.mp q;exact#[c,λ_=>#[g,i]]
  .exact#[0,λz=>absurd z q]
 exact jr (f:=λj=>Classical.choose (ex j)) (λj b=>(RJ (ex j) b).1) (λx d=>#[_,OX.mpr #[x,d,2],λj b=>by rw[(RJ (ex j) b).2]]) v
def HS(a:bZ m)(h:∀x∈L,m∣x c)(cs:List Nat):rho m L (c::cs)=rho m L cs:=by have k:=gx a L cs;exact fG a #[lH h k.1,λv=>k.2 (o6 (λj b=>OZ _ b) v)]
def GR(k:p<n)(l:n<8)(h:Tern n r):Tern (n+1) λs=>r (f6 p s):=by
 obtain⟨L,d⟩:=h;refine#[L.map λx t=>x (if t<=p then t else t-1),λs c=> ?_];have bl:f6 p s<2^n:=Q7 _ λi g=>by rw[k9,cW,OO (),PY (OW c (Pr ∅ ())),OR (),Qc];rfl
 show r (f6 p s)=_;rw[d _ bl];unfold bQ;rw[Cu aM];refine fO aM λj=> ?_;rw[OX,aK];constructor
 .rintro⟨b,a⟩;rw[k9,cW,Px,Pc,O3]at a;rcases a with a|⟨a,rfl⟩
  .by_cases q:j<p
   .rw[OP q]at a;exact#[j,aK.mpr #[b,a],by rw[OP ()]]
   .rw[OO q]at a;exact#[j+1,aK.mpr #[by have:=aU c a;lia,a],by rw[OO (),SA]]
  .exact#[p,aK.mpr #[b,a],by rw[OP (O4 _)]]
 .rintro⟨t,f,rfl⟩;obtain⟨b,a⟩:=aK.mp f;rw[k9,cW,Px,Pc,O3];by_cases q:t<=p
  .rw[OP q];refine#[b,6];by_cases e:t=p
   .subst e;exact .inr #[a,2]
   .rw[OP ()];exact .inl a
  .rw[OO q];refine#[9, .inl ?_];rw[OO (),Nat.sub_add_cancel ()];exact a
def jW(p:Nat)(x:Row):Row:=λt=>if t=p then 0 else x (if t<p then t else t-1)
def sJ{n p s:Nat}(L:List Row)(o:n<8)(m:s<2^(n+1))(i:s.testBit p=false):bQ 3 (L.map (jW p)) s=bQ 3 L (bI p s):=by
 have e:=Cu aM L (λt=>if t<p then t else t-1) (aq s);have l:rho 3 (L.map (jW p)) (aq s)=rho 3 (L.map λx t=>x (if t<p then t else t-1)) (aq s):=by
  have ne:∀j∈aq s,j≠p:=λj a e=>by have:=(aK.mp a).2;rw[e,i]at this;cases this
  have k:=gx aM (L.map λx t=>x (if t<p then t else t-1)) (aq s);refine fG aM #[jr (f:=id) (λj a=>a) (λy g=> ?_) k.1,λv=>k.2 (jr (f:=id) (λj a=>a) (λy g=> ?_) v)]
  .obtain⟨x,d,rfl⟩:=OX.mp g;exact#[_,OX.mpr #[x,d,2],λj a=>by unfold jW;rw[OO (ne j a)];rfl]
  .obtain⟨x,d,rfl⟩:=OX.mp g;exact#[_,OX.mpr #[x,d,2],λj a=>by unfold jW;show _=if j=p then 0 else _;rw[OO (ne j a)];rfl]
 unfold bQ;rw[l,e];refine fO aM λj=> ?_;rw[OX,aK];constructor
 .rintro⟨t,b,rfl⟩;obtain⟨c,b⟩:=aK.mp b;have r:t≠p:=λe=>by rw[e,i]at b;cases b
  rw[cW];by_cases q:t<p
  .rw[OP q,OP q];exact#[c,b]
  .rw[OO q,OO (),Nat.sub_add_cancel ()];exact#[9,b]
 .rintro⟨c,h⟩;rw[cW]at h;by_cases q:j<p
  .rw[OP q]at h;exact#[j,aK.mpr #[c,h],by rw[OP q]]
  .rw[OO q]at h;exact#[j+1,aK.mpr #[by have:=aU m h;lia,h],by rw[OO (),SA]]
def wY{s p:Nat}(b:p<8)(a:s.testBit p=true)(L:List Row):bQ 3 L s=rho 3 L (p::aq (s^^^2^p)):=by have:=pP aM (R:=L) (s:=s^^^2^p) b;rwa[fT a]at this
def ET(i:p<=n)(d:n<8)(h:Tern n r):Tern (n+1) λs=>r (bI p s):=by
 obtain⟨L,f⟩:=h;refine#[L.map (jW p),λs b=> ?_];show r (bI p s)=_;rw[f _ (kP i b)];cases a:s.testBit p with
 |false=>exact(sJ L d b a).symm
 |true=>
  have z:=HS aM (L:=L.map (jW p)) (c:=p) (λy j=>by obtain⟨x,_,rfl⟩:=OX.mp j;unfold jW;rw[OP rfl];exact PK _) (aq (s^^^2^p))
  have g:(s^^^2^p).testBit p=false:=by rw[cG a];simp
  have o:=sJ (s:=s^^^2^p) L d ((df a).lt b) g;rw[wY () a,z];have e:bI p (s^^^2^p)=bI p s:=by have:=ix p (s^^^2^p);rw[fT a]at this;exact this.symm
  rw[e]at o;exact o.symm
def lu(p:Nat):Row:=λt=>if t=p then 1 else 0
def Kg(M:Mat n r)(hp:p<=n)(Q:n<8)(h:Tern n r):Tern (n+1) λs=>r (bI p s)+if s.testBit p=true then 1 else 0:=by
 obtain⟨L,hL⟩:=h;have i:=aM;refine#[lu p::L.map (jW p),λs d=> ?_];show r (bI p s)+_=_;rw[hL _ (kP hp d)];have N:=jI i (lu p::L.map (jW p)) (n:=n+1) ();have w:=jI i (L.map (jW p)) (n:=n+1) ();have ax:∀s,s<2^(n+1)->s.testBit p=false->bQ 3 (lu p::L.map (jW p)) s=bQ 3 (L.map (jW p)) s:=λs d l=>by
  have O:∀x,Sub x s->(bQ 3 (lu p::L.map (jW p)) x=sz x↔bQ 3 (L.map (jW p)) x=sz x):=λx m=>by
   have U:(aq x).Nodup:=Py.filter _;have G:=ip i (aq x) (lu p::L.map (jW p)) U;have H:=ip i (aq x) (L.map (jW p)) U;rw[aT]at G H;unfold bQ;rw[G,H];refine#[λq g z=>q g λy a=> ?_,λq g z=>q g λy a=>z y (OZ _ a)];rcases OT.mp a with rfl|a
   .refine jH λc hc=> ?_;have:c≠p:=λe=>by have:=m c (aK.mp hc).2;rw[e,l]at this;cases this
    show(3:Int)∣g c*lu p c;unfold lu;rw[OO this,Q2];exact PK _
   .exact z y a
  obtain⟨g,_,g1,g2,g3⟩:=N.extend (s:=0) (t:=s) (λk u=>by rw[Pw]at u;cases u) d (by rw[N.zero,dh]);obtain⟨k,_,K,k2,k3⟩:=w.extend (s:=0) (t:=s) (λk u=>by rw[Pw]at u;cases u) d (by rw[w.zero,dh]);have a1:=(O g g1).mp g2;have a2:=(O k K).mpr k2;have a3:=w.mono g1 d;have a4:=N.mono K d;lia
 cases l:s.testBit p with
 |false=>
  rw[OO ∅,ax s d l,sJ L Q d l];rfl
 |true=>
  have J:(s^^^2^p).testBit p=false:=by rw[cG l];simp
  have hl:=(df l).lt d;have o:=sJ (s:=s^^^2^p) L Q hl J;have e:bI p (s^^^2^p)=bI p s:=by have:=ix p (s^^^2^p);rw[fT l]at this;exact this.symm
  rw[e]at o;rw[OP rfl,<-o];have pv:=RkV.pivot i (R:=lu p::L.map (jW p)) (c:=p) (p:=lu p) (A:=[]) (B:=L.map (jW p)) rfl (by unfold lu;rw[OP rfl];exact i.one) (cs:=aq (s^^^2^p)) (r:=bQ 3 (L.map (jW p)) (s^^^2^p)) (by
   have k:=gx i (L.map (jW p)) (aq (s^^^2^p));have same:∀x∈L.map (jW p),∀j∈aq (s^^^2^p),cx 1 (lu p) p x j=x j:=λx m j b=>by
    obtain⟨y,_,rfl⟩:=OX.mp m;have:j≠p:=λe=>by have:=(aK.mp b).2;rw[e,J]at this;cases this
    unfold cx lu jW;simp[this]
   refine#[jr (f:=id) (λj b=>b) (λy a=> ?_) k.1,λv=>k.2 (jr (f:=id) (λj b=>b) (λy a=> ?_) v)]
   .obtain⟨x,m,rfl⟩:=OX.mp a;exact#[x,m,λj b=>same x m j b]
   .exact#[_,OX.mpr #[y,a,2],λj b=>(same y a j b).symm])
  rw[wY () l];exact(fG i pv).symm
def Le{l:List Nat}(c:l.Nodup)(h:t∈l)(u:∀s∈l,s=t):l.length=1:=by
 match l,c,h,u with
 | [a],_,_,_=>rfl
 |a::b::l,c,_,u=>
  exfalso;have d:=u a #[5];have e:=u b #[5];exact(PX.mp c).1 (by simp[d,e])
def ov3:W||| (2^u|||2^v|||2^c)=ov W [u,v,c]:=dJ λt=>by rw[bR,O7,Px,aW,aW,Px,Px,O0,O3,O3,O3];simp only[OT,Pe,Qa,T8,R9 (a:=t)]
def vF(n R:Nat)(r:Nat->Nat):Prop:=∃s w,s<2^n/\Sub w (ao (2^n-1) s)/\((sz s=5/\sz w+2=R/\dX 5 (cY r s w) 5 2=true)\/(sz s=5/\sz w+3=R/\dX 5 (cY r s w) 5 3=true)\/(sz s=7/\sz w+3=R/\bP 7 (cY r s w)=true)\/sz s=7/\sz w+4=R/\bP 7 (ir 7 (cY r s w))=true)
def Ae{E W K:Nat}(c:Sub W E)(b:∀t,K.testBit t=true->W.testBit t=false):Sub W (ao E K):=λt a=>by
 rw[aG,c t a];cases q:K.testBit t with
 |false=>rfl
 |true=>rw[b t q]at a;cases a
section
variable{n R:Nat}{r:Nat->Nat}(M:Mat n r)(hf:r (2^n-1)=R)
include M hf
theorem tS(F:qC (2^n-1) R λS=>r S=R)(h:Dv (2^n-1) R λS=>r S=R):∃k w,k<2^n/\w<2^n/\(∀t,k.testBit t=true->w.testBit t=false)/\sz k=7/\sz w+3=R/\bP 7 (cY r k w)=true:=by
 obtain⟨W,K,hW,hK,dj,zK,zW,hs⟩:=h;have E8:=M.aX (aJ n);have H:=hK.lt (aJ n);have L:=hW.lt (aJ n);have J:=M.aX H;have top:∀ {s},s<2^n->r s<=R:=λ{s} h=>hf▸M.mono (bO h) (aJ n);have pt:∀ {t},K.testBit t=true->(2^n-1).testBit t=true/\W.testBit t=false:=λ{t} h=>#[hK t h,dj t h];obtain⟨u,v,c,d,N,B,G,kc,A,bb⟩:∃u v c d,[u,v,c,d].Nodup/\K.testBit u=true/\K.testBit v=true/\K.testBit c=true/\K.testBit d=true/\r (ov W [u,v,d])=R:=by
  obtain⟨u,v,uv,B,G⟩:=NX J ();obtain⟨c,kc,cu,cv,nb⟩:=hs u v B G uv;have z:=cj (S:=jN [u,v,c]) J λt g=>by
   have:=(da _ _).mp g;simp only[OT,Pe,Qa]at this;rcases this with rfl|rfl|rfl
   .exact B
   .exact G
   .exact kc
  rw[qj (by simp[uv,cu.symm,cv.symm]) λt g=>by
   simp only[OT,Pe,Qa]at g;rcases g with rfl|rfl|rfl
   .exact aU (n:=8) J B
   .exact aU (n:=8) J G
   .exact aU (n:=8) J kc]at z
  have l3:[u,v,c].length=3:=rfl;obtain⟨d,A⟩:=D5 (X:=ao K (jN [u,v,c])) ();rw[aG,Pc,Qm,<-RC,da]at A;simp only[OT,Pe,Qa,RA]at A;have N:[u,v,c,d].Nodup:=by simp[uv,cu.symm,cv.symm,Pk A.2.1,Pk A.2.2.1,Pk A.2.2.2]
  refine#[u,v,c,d,N,B,G,kc,A.1,6];rw[ov3]at nb;refine JB E8 F hW zW N (λt g=> ?_) nb;simp only[OT,Pe,Qa]at g;rcases g with rfl|rfl|rfl|rfl
  .exact pt B
  .exact pt G
  .exact pt kc
  .exact pt A.1
 have sb:Sub (ov W [u,v,d]) (K|||W):=λt g=>by
  rw[O7,Px];rcases bR.mp g with q|q
  .exact .inr q
  .simp only[OT,Pe,Qa]at q;rcases q with rfl|rfl|rfl
   .exact .inl B
   .exact .inl G
   .exact .inl A
 have lB:=sb.lt (PV H L);have fW:r W=sz W:=M.jR (λt g=>bR.mpr (.inl g)) lB (by
  rw[uu E8 hW (by simp only[PX,OT,Pe,Qa,RA]at N⊢;exact#[#[N.1.1,N.1.2.2],N.2.1.2,not_false,T7]) λt g=> ?_,bb]
  .exact zW.symm
  .simp only[OT,Pe,Qa]at g;rcases g with rfl|rfl|rfl
   .exact pt B
   .exact pt G
   .exact pt A)
 have apart:∀s,sz (aO s K|||W)=sz (aO s K)+sz W:=λs=>tH λt o f=>by rw[dj t (cT s K t o)]at f;cases f
 refine#[K,W,H,L,dj,zK,zW,6];unfold bP;have e7:cY r K W (2^7-1)=3:=by unfold cY;have e:=kT J;rw[zK]at e;rw[e];have a1:=top (PV H L);have a2:=M.mono sb (PV H L);lia
 rw[e7];simp only[decide_true,P7,PR,O3];intro p O;have O:=Pn.mp O;have Q:p<2^7:=OS.mp O.1;obtain⟨i,j,ij,hi,hj,ep⟩:=o8 (n:=7) ∅ Q (O9 O.2);have aA:∀i,i<7->∃u:Nat,(bits K)[i]?=some (u:Int)/\K.testBit u=true:=λi hi=>by
  have hl:i<(bits K).length:=by rw[show(bits K).length=7 from zK];exact hi
  have h:=Po hl;obtain⟨t,_,f,h3⟩:=cX.mp (Qt hl);rw[h3]at h;exact#[t,h,f]
 obtain⟨x,hx,kx⟩:=aA i (aU Q hi);obtain⟨y,hy,ky⟩:=aA j (aU Q hj);have xy:x≠y:=λe=>ij (qv hx (e▸hy));obtain⟨z,kz,zx,zy,nz⟩:=hs x y kx ky xy;obtain⟨l,U⟩:=Ew J kz;have l7:l<7:=by have:=(O1.mp U).1;rwa[show(bits K).length=7 from zK]at this
 have li:l≠i:=λe=>zx (by have:=hx;rw[<-e,U]at this;have:=Qd this;lia);have lj:l≠j:=λe=>zy (by have:=hy;rw[<-e,U]at this;have:=Qd this;lia);have ln:∀t,t<2^7->sz t=3->(cY r K W t<sz t↔¬r (aO t K|||W)=R):=λt g zt=>by unfold cY;have:=top (PV ((cT t K).lt H) L);lia
 have et:aO (p|||2^l) K|||W=ov W [x,y,z]:=dJ λt=>by
  rw[O7,Px,bJ,bR,or_comm];refine RM #[6,λh=> ?_]
  .rintro⟨m,o,f⟩;rw[ep,aW,aW,Px,Px,O0,O3,O3,O3]at f;have same:∀ {k w},k=m->(bits K)[k]?=some ((w:Nat):Int)->t=w:=λ{k w} e h=>by rw[e,o]at h;have:=Qd h;lia
   rcases f with (f|f)|f
   .simp[same f hx]
   .simp[same f hy]
   .simp[same f U]
  .simp only[OT,Pe,Qa]at h;rw[ep];rcases h with rfl|rfl|rfl
   .exact#[i,hx,by rw[aW,aW,O0];simp]
   .exact#[j,hy,by rw[aW,aW];simp]
   .exact#[l,U,by rw[aW];simp]
 have lt:p|||2^l<2^7:=PV Q (QZ ∅ l7);have zt:sz (p|||2^l)=3:=by rw[gc (Tf Q ∅) () (by rw[ep,aW,O0,OR (λe=>li e.symm),OR (λe=>lj e.symm)];rfl),O9 O.2]
 rw[ov3,<-et]at nz;refine Le (t:=p|||2^l) ((Py.filter _).filter _|>.filter _) ?_ λs b4=> ?_
 .refine Pn.mpr #[Pn.mpr #[Pn.mpr #[OS.mpr lt,OQ zt],OQ ((ln _ lt zt).mpr nz)],OQ ?_];exact O2 λt=>by rw[PD,O7];cases p.testBit t<;>rfl
 .have o:=Pn.mp b4;have f:=Pn.mp o.1;have h3:=Pn.mp f.1;have ls:=OS.mp h3.1;have zs:=O9 h3.2;have ns:=(ln s ls zs).mp (O9 f.2);have ps:=O9 o.2;refine Pb λne=> ?_;have zz:∀ {t},t<2^7->sz (aO t K)=sz t:=λ{t} h=>qG (by rw[zK];exact h);have s1:=apart s;have s2:=apart (p|||2^l);have s3:=apart p;rw[zz ls]at s1;rw[zz lt]at s2;rw[zz Q,O9 O.2]at s3;have:=F _ _ (bO (PV ((cT s K).lt H) L)) (bO (PV ((cT (p|||2^l) K).lt H) L)) () () ns nz λe=>ne ?_
  .have m:sz (aO p K|||W)<=sz ((aO s K|||W)&&& (aO (p|||2^l) K|||W)):=kR λt _ g=>by
    rw[O7,Px]at g;rw[PD,O7,O7,Pc,Px,Px];rcases g with q|q
    .obtain⟨m,o,f⟩:=bJ.mp q;refine#[.inl (bJ.mpr #[m,o,6]), .inl (bJ.mpr #[m,o,by rw[O7,f];rfl])];rw[<-ps,PD,Pc]at f;exact f.2
    .exact#[.inr q, .inr q]
   lia
  ·
   have back:∀ {a b:Nat},aO a K|||W=aO b K|||W->a<2^7->∀m,a.testBit m=true->b.testBit m=true:=λ{a b} e la m hm=>by
    obtain⟨t,g,kt⟩:=aA m (aU la hm);have q:(aO a K|||W).testBit t=true:=by rw[O7,bJ.mpr #[m,g,hm]];rfl
    rw[e,O7,dj t kt,QQ]at q;obtain⟨m',o,f⟩:=bJ.mp q;exact qv o g▸f
   exact dJ λm=>#[back e ls m,back e.symm lt m]
end
def AE(h:∀s,s<2^7->q s=a s):bP 7 q=bP 7 a:=by
 have e:gD 7 q=gD 7 a:=Qi λs b=>by have:=OS.mp (Pn.mp b).1;rw[h s this]
 unfold bP;rw[e,h _ ∅]
section
variable{n R:Nat}{r:Nat->Nat}(M:Mat n r)(hf:r (2^n-1)=R)
include M hf
theorem AB(F:qC (2^n-1) R λS=>r S=R)(h:Dv (2^n-1) (sz (2^n-1) -R) (lD (2^n-1) λS=>r S=R)):∃k w,k<2^n/\Sub w (ao (2^n-1) k)/\sz k=7/\sz w+4=R/\bP 7 (ir 7 (cY r k w))=true:=by
 have f:=M.aX (aJ n);have le:=M.jQ (2^n-1) (aJ n);have eq:∀S,Sub S (2^n-1)->sz S=sz (2^n-1) -R->(ir n r S=sz (2^n-1) -R↔r (ao (2^n-1) S)=R):=λS g y=>by have d:=cj f g;have m:=M.mono (cB (2^n-1) S) (aJ n);have i:=M.de (g.lt (aJ n));lia
 have Q:ir n r (2^n-1)=sz (2^n-1) -R:=by
  have i:=M.de (aJ n);have:ao (2^n-1) (2^n-1)=0:=O2 λt=>by rw[aG,Pw];simp
  rw[this,M.zero]at i;lia
 have O:=Bt f () F;obtain⟨k,o,x,J,a,A,zo,sv⟩:=tS M.dual Q (λS T g B y L nS nT ne=>O S T g B y L (λz=>nS ((eq S g y).mpr z)) (λz=>nT ((eq T B L).mpr z)) ne) (by
  obtain⟨W,K,p,e,a,zK,N,q⟩:=h;refine#[W,K,p,e,a,zK,N,λu v j l ne=> ?_];obtain⟨c,b,d,m,i⟩:=q u v j l ne;refine#[c,b,d,m,λz=>i ((eq _ ?_ ?_).mp z)]
  .exact pY p (pY (pY (sN (e u j)) (sN (e v l))) (sN (e c b)))
  .rw[ov3,uu f p (by simp[ne,d.symm,m.symm]) λt G=> ?_]
   .exact N
   .simp only[OT,Pe,Qa]at G;rcases G with rfl|rfl|rfl
    .exact#[e _ j,a _ j]
    .exact#[e _ l,a _ l]
    .exact#[e _ b,a _ b])
 have so:Sub o (ao (2^n-1) k):=Ae (bO J) a;have H:ao (2^n-1) (o|||ao (ao (2^n-1) k) o)=k:=dJ λt=>by rw[aG,O7,aG,aG];have b:=bO x t;have d:=a t;cases q1:(2^n-1:Nat).testBit t<;>cases q2:k.testBit t<;>cases q3:o.testBit t<;>simp_all
 have U:ao (ao (2^n-1) k) o<2^n:=((cB _ _).trans (cB _ _)).lt (aJ n);have s1:=cj f (bO x);have s2:=cj ((cB _ _).lt (n:=8) f) so;refine#[k,ao (ao (2^n-1) k) o,x,cB _ _,A,96];rw[<-sv];refine AE λs q=> ?_;have:=M.turn J U (λt b d=>by rw[aG,b]at d;simp at d) (s:=s) (by rw[H,A];exact q);rwa[H,A]at this
end
def Gw:∀s:Nat,s<128->∀p:Nat,p<8->bits (ba p s)=(bits s).map λz=>if z<(p:Int)then z else z+1:=#[9]
def Ai(f:s<128)(d:p<8)(x:Nat):aO x (ba p s)=ba p (aO x s):=dJ λt=>by
 rw[bJ,Gw s f p d,eX];constructor
 .rintro⟨j,a,c⟩;rw[Ph]at a;cases e:(bits s)[j]? with
  |none=>rw[e]at a;cases a
  |some z=>
   rw[e]at a;have a:(if z<(p:Int)then z else z+1)=(t:Int):=Qd a;obtain⟨k,_,_,rfl⟩:=cX.mp (O5 e);have b:=bJ.mpr #[j,e,c];by_cases q:k<p
   .rw[OP ()]at a;have:k=t:=()
    subst this;rw[OP q];exact b
   .rw[OO ()]at a;have:t=k+1:=()
    subst this;rw[OO (),OO ()];exact b
 .intro h;by_cases q:t<p
  .rw[OP q]at h;obtain⟨j,a,c⟩:=bJ.mp h;exact#[j,by rw[Ph,a];show some (if(t:Int)<p then _ else _)=_;rw[OP ()],c]
  .rw[OO q]at h;by_cases e:t=p
   .rw[OP e]at h;cases h
   .rw[OO e]at h;obtain⟨j,a,c⟩:=bJ.mp h;exact#[j,by rw[Ph,a];show some (if((t-1:Nat):Int)<p then _ else _)=_;rw[OO ()];congr 1;lia,c]
def rz(M:Mat n r)(v:n<8)(m:p<=n)(x:Nat)(N:x=0\/x=2^p)(J:R'=R+sz x)(o:∀s,s<2^n->q (ba p s|||x)=r s+sz x)(h:vF n R r):vF (n+1) R' q:=by
 obtain⟨s,w,i,u,h⟩:=h;have z:=oB v i;have g:=u.lt ((cB _ _).lt (aJ n));have B:=kQ s z p ();have G:=kQ w (oB v g) p ();have A:∀t,x.testBit t=true->t=p:=λt d=>by
  rcases N with e|e
  .rw[e,Pw]at d;cases d
  .rw[e,O0,O3]at d;exact d.symm
 have O:sz (ba p w|||x)=sz w+sz x:=by rw[tH (λt l K=>by rw[A t K,G.2.2]at l;cases l),G.1]
 have e:cY q (ba p s) (ba p w|||x)=cY r s w:=funext λy=>by
  unfold cY;rw[Ai z ()];have H:ba p (aO y s)||| (ba p w|||x)=ba p (aO y s|||w)|||x:=by
   rw[<-Q0];congr 1;exact dJ λt=>by
    rw[O7,eX,eX,eX];by_cases q:t<p
    .rw[OP q,OP q,OP q,O7]
    .by_cases f:t=p
     .rw[OO q,OO q,OO q,OP f,OP f,OP f];rfl
     .rw[OO q,OO q,OO q,OO f,OO f,OO f,O7]
  rw[H,o _ (PV ((cT y s).lt i) g),o _ g];lia
 refine#[ba p s,ba p w|||x,ny i m,λt d=> ?_,6]
 .rw[aG,Pq,Pc,O3,Qm];rw[O7,Px]at d;rcases d with d|d
  .refine#[aU (ny g m) d,6];rw[eX]at d⊢;have k:∀j,w.testBit j=true->s.testBit j=false:=λj L=>by have:=u j L;rw[aG,Pc,Qm]at this;exact this.2
   by_cases q:t<p
   .rw[OP q]at d⊢;exact k _ d
   .rw[OO q]at d⊢;by_cases f:t=p
    .rw[OP f]at d;cases d
    .rw[OO f]at d⊢;exact k _ d
  .rw[A t d];exact#[9,B.2.2]
 .rw[e,O,B.1,J];rcases h with ⟨a,b,c⟩|⟨a,b,c⟩|⟨a,b,c⟩|⟨a,b,c⟩
  .exact .inl #[a,9,c]
  .exact .inr (.inl #[a,9,c])
  .exact .inr (.inr (.inl #[a,9,c]))
  .exact .inr (.inr (.inr #[a,9,c]))
def Cl3(n:Nat)(r:Nat->Nat):Prop:=Tern n r\/vF n (r (2^n-1)) r
def oH(a:p<=n):bI p (2^(n+1) -1)=2^n-1:=O2 λj=>by
 rw[cW,Pq,Pq,Pq];by_cases h:j<p
 .rw[OP h,OQ (),OQ ()]
 .rw[OO h];exact QG.mpr ()
def BK(b:n<8)(c:p<=n)(a:s<2^n):f6 p (ba p s)=s:=by unfold f6;rw[(kQ s (oB b a) p ()).2.2,OO ∅,gF]
def JT(M:Mat n r)(a:p<=n)(b:n<8)(h:Cl3 n r):Cl3 (n+1) λs=>r (bI p s):=by
 rcases h with h|h
 .exact .inl (ET a b h)
 .exact .inr (rz M b a 0 (.inl rfl) (by show r (bI p _)=_;rw[oH a,dh];rfl) (λs c=>by show r (bI p _)=_;rw[Nat.or_zero,gF,dh];rfl) h)
def LB(M:Mat n r)(b:p<n)(a:n<8)(h:Cl3 n r):Cl3 (n+1) λs=>r (f6 p s):=by
 rcases h with h|h
 .exact .inl (GR b a h)
 .refine .inr (rz (p:=p) M a () 0 (.inl rfl) ?_ (λs c=>by show r (f6 p _)=_;rw[Nat.or_zero,BK a () c,dh];rfl) h);show r (f6 p _)=_;unfold f6;rw[oH (),Pq,OQ (),OP rfl,fH (by rw[Pq];exact OQ b),dh];rfl
def Ny(M:Mat n r)(a:p<=n)(b:n<8)(h:Cl3 n r):Cl3 (n+1) λs=>r (bI p s)+if s.testBit p=true then 1 else 0:=by
 rcases h with h|h
 .exact .inl (Kg M a b h)
 .have c:sz (2^p)=1:=by have:=gc (s:=0) ∅ (show p<8 by lia) (Pw p);rwa[R0,dh]at this
  refine .inr (rz M b a (2^p) (.inr rfl) ?_ (λs d=> ?_) h)
  .show r (bI p _)+_=_;rw[oH a,Pq,OQ (),OP rfl,c]
  .show r (bI p _)+_=_;rw[ix,gF,c,aW];simp
def No4(E R:Nat)(β:Nat->Prop):Prop:=∀W a b c d,Sub W E->sz W+2=R->[a,b,c,d].Nodup->(∀t∈[a,b,c,d],E.testBit t=true/\W.testBit t=false)->β (ov W [a,b])->β (ov W [a,c])->β (ov W [a,d])->β (ov W [b,c])->β (ov W [b,d])->β (ov W [c,d])->False
def ev(R:Nat)(φ v:Nat->Int):Int:=sL (List.range R) λi=>φ i*v i
def oE(m:Int)(f:Nat->Nat->Int)(R S:Nat):Prop:=∀φ:Nat->Int,(∀t,S.testBit t=true->m∣ev R φ (f t))->∀i,i<R->m∣φ i
def xf(h:bZ m){R S:Nat}{T:List Nat}(d:∀t,S.testBit t=true↔t∈T)(j:T.length=R):oE m f R S↔¬m∣aN (T.map λt i=>f t i) (List.range R):=by
 have e:oE m f R S↔LI m (T.map λt i=>f t i) (List.range R):=by
  constructor
  .intro b g l c k;exact b g (λt a=>l _ (OX.mpr #[t,(d t).mp a,2])) c (OS.mp k)
  .intro b φ p i n;exact b φ (λx o=>by obtain⟨t,a,rfl⟩:=OX.mp o;exact p t ((d t).mpr a)) i (OS.mpr n)
 rw[e,<-ip h _ _ Py,dF h (R:=(List.range R).length) (by rw[My,O8,j]) rfl]
def BL{R S:Nat}{T:List Nat}(a:∀t,S.testBit t=true↔t∈T)(b:T.length=R):fN κ R S↔¬(3:Int)∣aN (T.map λt i=>κ t i) (List.range R):=xf aM a b
def Lb{S t:Nat}(a:S<256):t∈aq S↔S.testBit t=true:=#[λh=>(aK.mp h).2,λh=>aK.mpr #[aU (n:=8) a h,h]]
def jK:∀(l:List Nat) {X:Nat},X<256->l.length<sz X->∃y,X.testBit y=true/\y∉l
 | [],X,_,h=>by obtain⟨y,f⟩:=gf (S:=X) (by have:([]:List Nat).length=0:=rfl;lia);exact#[y,f,Pe]
 |a::l,X,c,h=>by
  rw[Pa]at h;cases e:X.testBit a with
  |false=>
   obtain⟨y,b,d⟩:=jK l c ();exact#[y,b,by
    rw[OT];rintro(rfl|z)
    .rw[e]at b;cases b
    .exact d z]
  |true=>
   have:=fo X c a (aU (n:=8) c e) e;obtain⟨y,b,d⟩:=jK l ((df e).lt (n:=8) c) (by lia:l.length<sz (X^^^2^a));rw[cG e,Pc]at b;exact#[y,b.1,by
    rw[OT];rintro(rfl|z)
    .simp at b
    .exact d z]
def yw(W u v:Nat):ov W [u,v]=ov W [v,u]:=yy λt=>by simp[or_comm]
def IL(y:E<256)(hR:R<=sz E)(h:No4 E R β):No4 E (sz E-R) (lD E β):=λW a b c d A zW r hl U h2 h3 h4 h5 h6=>by
 have o4:=uu y A r hl;have s4:Sub (ov W [a,b,c,d]) E:=qR A λt o=>(hl t o).1;have sp:=cj y s4;have l4:[a,b,c,d].length=4:=rfl;have H:∀t,(ao E (ov W [a,b,c,d])).testBit t=true↔E.testBit t=true/\¬(W.testBit t=true\/t∈[a,b,c,d]):=λt=>by rw[aG,Pc,Qm,<-RC,bR]
 have ay:∀p q u v:Nat,(∀t,t∈[a,b,c,d]↔t=p\/t=q\/t=u\/t=v)->[p,q,u,v].Nodup->lD E β (ov W [p,q])->β (ov (ao E (ov W [a,b,c,d])) [u,v]):=λp q u v n J s=>by
  have e:ao E (ov W [p,q])=ov (ao E (ov W [a,b,c,d])) [u,v]:=dJ λt=>by
   rw[aG,Pc,Qm,<-RC,bR,bR,H t,n t];simp only[PX,OT,Pe,Qa,RA]at J⊢;obtain⟨⟨k,f,g⟩,⟨i,j⟩,l,_⟩:=J;have B:=hl u ((n u).mpr #[5]);have G:=hl v ((n v).mpr #[5]);constructor
   .rintro⟨g1,g2,g3,g4⟩;by_cases w:t=u
    .exact .inr (.inl w)
    .by_cases x:t=v
     .exact .inr (.inr x)
     .exact .inl #[g1,g2,g3,g4,w,x]
   .rintro(⟨g1,g2,g3,g4,_⟩|rfl|rfl)
    .exact#[g1,g2,g3,g4]
    .exact#[B.1,by rw[B.2];decide,λz=>f z.symm,λz=>i z.symm]
    .exact#[G.1,by rw[G.2];decide,λz=>g z.symm,λz=>j z.symm]
  unfold lD at s;rwa[e]at s
 have aA:=r;simp only[PX,OT,Pe,Qa,RA]at r;obtain⟨⟨k,f,g⟩,⟨i,j⟩,l,_⟩:=r;have m:∀p q u v:Nat,(∀t,t∈[a,b,c,d]↔t=p\/t=q\/t=u\/t=v)->p≠q->p≠u->p≠v->q≠u->q≠v->u≠v->lD E β (ov W [p,q])->β (ov (ao E (ov W [a,b,c,d])) [u,v]):=λp q u v n K L M N O Q=>ay p q u v n (by simp[K,L,M,N,O,Q]);refine h (ao E (ov W [a,b,c,d])) a b c d (cB _ _) () aA (λt o=>#[(hl t o).1,6]) ?_ ?_ ?_ ?_ ?_ ?_
 .rw[<-RC,H t];exact λz=>z.2 (.inr o)
 .exact m c d a b (λt=>by simp;lia) l (Pk f) (Pk i) (Pk g) (Pk j) k h6
 .exact m b d a c (λt=>by simp;lia) j (Pk k) i (Pk g) (Pk l) f h5
 .exact m b c a d (λt=>by simp;lia) i (Pk k) j (Pk f) l g h4
 .exact m a d b c (λt=>by simp;lia) g k f (Pk j) (Pk l) i h3
 .exact m a c b d (λt=>by simp;lia) f k g (Pk i) l j h2
 .exact m a b c d (λt=>#[5]) k f g i j l U
section
variable{E R W:Nat}{β:Nat->Prop}(hE:E<256)(F:qC E R β)(N:No4 E R β)(hW:Sub W E)(zW:sz W+2=R)
include hE F hW zW
theorem partner{Y x:Nat}(a:∀t,Y.testBit t=true->E.testBit t=true/\W.testBit t=false)(g:Y.testBit x=true):∃p,∀y,Y.testBit y=true->y≠x->y∉ [p]->β (ov W [x,y]):=by
 by_cases h:∃p,Y.testBit p=true/\p≠x/\¬β (ov W [x,p])
 .obtain⟨p,f,i,n⟩:=h;refine#[p,λy b c e=>Ej hE F hW zW (v:=p) (by simp at e;simp[i.symm,c.symm,Pk e]) (λt d=> ?_) n];simp only[OT,Pe,Qa]at d;rcases d with rfl|rfl|rfl
  .exact a _ g
  .exact a _ f
  .exact a _ b
 .exact#[x,λy b c _=>Pb λn=>h #[y,b,c,n]]
include N
theorem yY{Y v x:Nat}{f g:List Nat}(e:∀t,Y.testBit t=true->E.testBit t=true/\W.testBit t=false)(r:Y.testBit v=true)(s:Y.testBit x=true)(u:v≠x)(b:β (ov W [v,x]))
  (l:∀c,Y.testBit c=true->c≠v->c∉f->β (ov W [v,c])) (m:∀c,Y.testBit c=true->c≠x->c∉g->β (ov W [x,c])) (z:4+f.length+g.length<sz Y):False:=by
 have k:Y<256:=Sub.lt (n:=8) (λt h=>(e t h).1) hE;obtain⟨y,j,d⟩:=jK (v::x::(f++g)) k (by simp only[Pa,Pl];lia);obtain⟨p,o⟩:=partner hE F hW zW e j;obtain⟨q,i,a⟩:=jK (v::x::y::p::(f++g)) k (by simp only[Pa,Pl];lia);simp only[OT,Pg,RA]at d a;refine N W v x y q hW zW (by simp[u,Pk d.1,Pk d.2.1,Pk a.1,Pk a.2.1,Pk a.2.2.1]) (λt h=> ?_) b (l y j d.1 d.2.2.1) (l q i a.1 a.2.2.2.2.1) (m y j d.2.1 d.2.2.2) (m q i a.2.1 a.2.2.2.2.2) (o q i a.2.2.1 (by simp[a.2.2.2.1]));simp only[OT,Pe,Qa]at h;rcases h with rfl|rfl|rfl|rfl
 .exact e _ r
 .exact e _ s
 .exact e _ j
 .exact e _ i
theorem N2{Y v:Nat}(a:∀t,Y.testBit t=true->E.testBit t=true/\W.testBit t=false)(k:Y.testBit v=true)(z:6<=sz Y):∃c,Y.testBit c=true/\c≠v/\¬β (ov W [v,c]):=Pb λl=>by have d:Y<256:=Sub.lt (n:=8) (λt j=>(a t j).1) hE;have h:∀c,Y.testBit c=true->c≠v->c∉ ([]:List Nat)->β (ov W [v,c]):=λc g f _=>Pb λn=>l #[c,g,f,n];obtain⟨x,x1,x2⟩:=jK [v] d (by simp only[Pa,QP];lia);obtain⟨p,i⟩:=partner hE F hW zW a x1;have b:x≠v:=λe=>x2 (by simp[e]);exact yY hE F N hW zW a k x1 b.symm (h x x1 b #[5]) h i (by simp only[Pa,QP];lia)
theorem NZ{Y:Nat}(a:∀t,Y.testBit t=true->E.testBit t=true/\W.testBit t=false)(z:7<=sz Y):False:=by have d:Y<256:=Sub.lt (n:=8) (λt f=>(a t f).1) hE;obtain⟨v,c⟩:=gf (S:=Y) ();obtain⟨p,b⟩:=partner hE F hW zW a c;obtain⟨x,x1,x2⟩:=jK [v,p] d (by simp only[Pa,QP];lia);obtain⟨q,e⟩:=partner hE F hW zW a x1;simp only[OT,Pe,Qa,RA]at x2;exact yY hE F N hW zW a c x1 (Pk x2.1) (b x x1 x2.1 (by simp[x2.2])) b e (by simp only[Pa,QP];lia)
theorem N3{Y v x:Nat}(g:∀t,Y.testBit t=true->E.testBit t=true/\W.testBit t=false)(i:Y.testBit v=true)(e:Y.testBit x=true)(f:v≠x)(z:5<=sz Y):(∃c,Y.testBit c=true/\c≠v/\¬β (ov W [v,c]))\/∃c,Y.testBit c=true/\c≠x/\¬β (ov W [x,c]):=Pb λd=>by rw[RA]at d;have h:∀c,Y.testBit c=true->c≠v->c∉ ([]:List Nat)->β (ov W [v,c]):=λc b a _=>Pb λn=>d.1 #[c,b,a,n];have h':∀c,Y.testBit c=true->c≠x->c∉ ([]:List Nat)->β (ov W [x,c]):=λc b a _=>Pb λn=>d.2 #[c,b,a,n];exact yY hE F N hW zW g i e f (h x e f.symm #[5]) h h' (by simp only[QP];lia)
end
def iX{E W:Nat}:∀t,(ao E W).testBit t=true->E.testBit t=true/\W.testBit t=false:=λt a=>by rwa[aG,Pc,Qm]at a
section
variable{E R:Nat}{β:Nat->Prop}(hE:E<256)(F:qC E R β)(N:No4 E R β)
include hE F N
theorem xa(p:3<=R)(s:sz E=R+4):Dv E R β:=by
 obtain⟨W,b,w⟩:=tK (m:=R-3) 7 hE ();have sp:=cj hE b;refine#[W,ao E W,b,cB _ _,λt a=>(iX t a).2,99,λu v n o ne=> ?_];have i:=iX u n;have h:Sub (ov W [u]) E:=qR b λt a=>by rw[Pu.mp a];exact i.1
 have x:=uu hE b (l:=[u]) #[5] λt a=>by rw[Pu.mp a];exact i
 have q:[u].length=1:=rfl;have r:=cj hE h;obtain⟨c,j,k,f⟩:=N2 hE F N h () (Y:=ao E (ov W [u])) (v:=v) iX (by
  rw[aG,Pc,Qm,<-RC,bR];have:=iX v o;exact#[this.1,by rw[this.2];simp[ne.symm]]) ()
 have g:=iX c j;have d:¬(W.testBit c=true\/c∈[u]):=λz=>by have:=bR.mpr z;rw[g.2]at this;cases this
 rw[RA]at d;refine#[c,6,λe=>d.2 (by simp[e]),k,6]
 .rw[aG,Pc,Qm,<-RC];exact#[g.1,d.1]
 .rw[ov3];have e:ov (ov W [u]) [v,c]=ov W [u,v,c]:=dJ λt=>by rw[bR,bR,bR];simp only[OT,Pe,Qa];exact T8
  rwa[e]at f
theorem Et(R2:2<=R)(b:R+5<=sz E):False:=by obtain⟨W,a,c⟩:=tK (m:=R-2) (sz E- (R-2)) hE ();have sp:=cj hE a;exact NZ hE F N a () (Y:=ao E W) iX ()
end
def Mp(v i:Nat):Int:=if v=0 then(if i=0 then 1 else 0)else if v=1 then(if i=0 then 0 else 1)else 1
def GU:∀p:Nat,p<3->∀q:Nat,q<3->((¬(3:Int)∣aN [Mp p,Mp q] (List.range 2))↔p≠q):=#[9]
open Classical in
def OD(r:E<256)(F:qC E 2 β)(N:No4 E 2 β)(f:∃B,Sub B E/\sz B=2/\β B):lG E 2 β:=by
 obtain⟨B,u,zB,H⟩:=f;have K:∀a b:Nat,2^a|||2^b=ov 0 [a,b]:=λa b=>dJ λt=>by rw[bR,O7,O0,O0,Px,O3,O3];simp[R9]
 obtain⟨x,y,xy,hx,hy,e⟩:=o8 (n:=8) (O4 _) (u.lt (n:=8) r) zB;rw[e,K]at H;have M:Sub 0 E:=λt m=>by rw[Pw]at m;cases m
 have A:=u x hx;have G:=u y hy;have L:∀ {a b c:Nat},E.testBit a=true->E.testBit b=true->E.testBit c=true->a≠b->a≠c->b≠c->¬β (ov 0 [a,b])->β (ov 0 [a,c]):=λg f U d O Q n=>Ej r F M rfl (by simp[d,O,Q]) (λt m=>by
  simp only[OT,Pe,Qa]at m;rcases m with rfl|rfl|rfl
  .exact#[g,Pw _]
  .exact#[f,Pw _]
  .exact#[U,Pw _]) n
 have same:∀ {z a b:Nat},E.testBit z=true->E.testBit a=true->E.testBit b=true->a≠b->(a=z\/¬β (ov 0 [z,a]))->(b=z\/¬β (ov 0 [z,b]))->¬β (ov 0 [a,b]):=λ{z a b} w g f d q o=>by
  by_cases l:a=z
  .subst l;exact o.resolve_left (Pk d)
  .by_cases s:b=z
   .subst s;rw[yw];exact q.resolve_left l
   .exact absurd (L w g f (Pk l) (Pk s) d (q.resolve_left l)) (o.resolve_left s)
 have diff:∀ {z a b:Nat},E.testBit z=true->E.testBit a=true->E.testBit b=true->a≠b->(a=z\/¬β (ov 0 [z,a]))->¬(b=z\/¬β (ov 0 [z,b]))->β (ov 0 [a,b]):=λ{z a b} w g f d q o=>by
  rw[RA]at o;by_cases l:a=z
  .subst l;exact Pb o.2
  .have:=q.resolve_left l;rw[yw]at this;exact L g w f l d (Pk o.1) this
 let p:Nat->Nat:=λt=>if t=x\/¬β (ov 0 [x,t])then 0 else if t=y\/¬β (ov 0 [y,t])then 1 else 2
 have J:∀t,p t<3:=λt=>by
  show(if _ then 0 else if _ then 1 else 2)<3;split
  .decide
  .split<;>decide
 have ar:∀a b,E.testBit a=true->E.testBit b=true->a≠b->(β (ov 0 [a,b])↔p a≠p b):=λa b g f d=>by
  show _↔(if _ then 0 else if _ then 1 else 2)≠(if _ then 0 else if _ then 1 else 2);by_cases p1:a=x\/¬β (ov 0 [x,a])
  .by_cases p2:b=x\/¬β (ov 0 [x,b])
   .rw[OP p1,OP p2];exact#[λh=>absurd h (same A g f d p1 p2),λh=>absurd rfl h]
   .rw[OP p1,OO p2];exact#[λ_=>by split<;>decide,λ_=>diff A g f d p1 p2]
  .by_cases p2:b=x\/¬β (ov 0 [x,b])
   .rw[OO p1,OP p2,yw];exact#[λ_=>by split<;>decide,λ_=>diff A f g (Pk d) p2 p1]
   .rw[OO p1,OO p2];by_cases k:a=y\/¬β (ov 0 [y,a])
    .by_cases j:b=y\/¬β (ov 0 [y,b])
     .rw[OP k,OP j];exact#[λh=>absurd h (same G g f d k j),λh=>absurd rfl h]
     .rw[OP k,OO j];exact#[λ_=>∅,λ_=>diff G g f d k j]
    .by_cases j:b=y\/¬β (ov 0 [y,b])
     .rw[OO k,OP j,yw];exact#[λ_=>∅,λ_=>diff G f g (Pk d) j k]
     .rw[OO k,OO j];refine#[λh=> ?_,λh=>absurd rfl h];rw[RA,Classical.not_not]at p1 p2 k j;exact(N 0 x y a b M rfl (by simp[xy,d,Pk p1.1,Pk p2.1,Pk k.1,Pk j.1]) (λt m=>by simp only[OT,Pe,Qa]at m;refine#[6,Pw _];rcases m with rfl|rfl|rfl|rfl<;>assumption) H p1.2 p2.2 k.2 j.2 h).elim
 refine nL (κ:=λt i=>Mp (p t) i) r λS v zS=> ?_;obtain⟨a,b,d,g,f,e⟩:=o8 (n:=8) (O4 _) (v.lt (n:=8) r) zS;rw[K]at e;rw[BL (R:=2) (T:=[a,b]) (λt=>by rw[e,bR,Pw];simp) rfl,e,ar a b (v a g) (v b f) d];exact GU _ (J a) _ (J b)
def atU(x:Nat->Nat)(m:Nat):Nat:=jN (((List.range 6).filter λi=>m.testBit i).map x)
def DT:∀m:Nat,m<64->((List.range 6).filter λi=>m.testBit i).length=sz m:=#[9]
def jn:∀m:Nat,m<64->∀k,m.testBit k=true->k<6:=λm b k a=>aU (n:=6) b a
section
variable{x:Nat->Nat}(inj:∀i,i<6->∀j,j<6->x i=x j->i=j)(x8:∀i,i<6->x i<8)
def lq{m t:Nat}(c:m<64):(atU x m).testBit t=true↔∃i,m.testBit i=true/\x i=t:=by
 unfold atU;rw[da,OX];constructor
 .rintro⟨i,a,b⟩;exact#[i,(Pn.mp a).2,b]
 .rintro⟨i,a,b⟩;exact#[i,Pn.mpr #[OS.mpr (jn m c i a),a],b]
include inj x8
theorem zJ(c:m<64):sz (atU x m)=sz m:=by
 unfold atU;have lt:∀i∈(List.range 6).filter λi=>m.testBit i,i<6:=λi a=>OS.mp (Pn.mp a).1;rw[qj (IW (Py.filter _) λi a j b=>inj i (lt i a) j (lt j b)) λt d=>by obtain⟨i,a,rfl⟩:=OX.mp d;exact x8 i (lt i a),My,DT m c]
theorem Ex(c:m<64)(e:k<64):atU x m&&&atU x k=atU x (m&&&k):=dJ λt=>by
 have g:m&&&k<64:=Pd Sq c;rw[PD,Pc,lq c,lq e,lq g];constructor
 .rintro⟨⟨i,a,b⟩,j,d,f⟩;have:=inj i (jn m c i a) j (jn k e j d) (b.trans f.symm);subst this;exact#[i,by rw[PD,a,d];rfl,b]
 .rintro⟨i,a,b⟩;rw[PD,Pc]at a;exact#[#[i,a.1,b],i,a.2,b]
end
def EV(v i:Nat):Int:=([[1,0,0],[0,1,0],[0,0,1],[1,-1,0],[1,0,-1],[0,1,-1]].getD v []).getD i 0
def GS:∀m:Nat,m<64->sz m=3->((¬(3:Int)∣aN (((List.range 6).filter λi=>m.testBit i).map EV) (List.range 3))↔m∉ [11,21,38,56]):=#[9]
def Ht:∀m:Nat,m<64->sz m=3->m∉ [11,21,38,56]->∃k∈[11,21,38,56],1<sz (m&&&k):=#[9]
open Classical in
def Kw{E:Nat}(r:E<256)(F:qC E 3 β)(inj:∀i,i<6->∀j,j<6->x i=x j->i=j)(B:∀i,i<6->E.testBit (x i)=true)(G:∀t,E.testBit t=true->∃i,i<6/\x i=t)(w:∀k∈[11,21,38,56],¬β (atU x k)):lG E 3 β:=by
 have x8:∀i,i<6->x i<8:=λi d=>aU (n:=8) r (B i d);obtain⟨y,K⟩:∃y:Nat->Nat,∀i,i<6->y (x i)=i:=by refine#[λt=>if h:∃i,i<6/\x i=t then Classical.choose h else 0,λi d=> ?_];have h:∃j,j<6/\x j=x i:=#[i,d,2];show(if h:∃j,j<6/\x j=x i then Classical.choose h else 0)=i;rw[dif_pos h];have:=RJ h;exact inj _ this.1 _ d this.2
 have A:∀m,m<64->Sub (atU x m) E:=λm c t g=>by obtain⟨i,p,rfl⟩:=(lq c).mp g;exact B i (jn m c i p)
 have l:∀k∈[11,21,38,56],k<64/\sz k=3:=∅
 have L:∀m,m<64->sz m=3->(β (atU x m)↔m∉ [11,21,38,56]):=λm c o=>by
  refine#[λh z=>w m z h,λh=>Pb λM=> ?_];obtain⟨k,f,Q⟩:=Ht m c o h;have:=F _ _ (A m c) (A k (l k f).1) (by rw[zJ inj x8 c,o]) (by rw[zJ inj x8 (l k f).1,(l k f).2]) M (w k f) λe=>by
   have p:atU x (m&&&k)=atU x m:=by rw[<-Ex inj x8 c (l k f).1,e,Nat.and_self]
   have O:m&&&k<64:=Pd Sq c;have:m=k:=dJ λt=>by
    have v:∀ {a b:Nat},a<64->b<64->atU x a=atU x b->∀t,a.testBit t=true->b.testBit t=true:=λ{a b} s u e t g=>by obtain⟨j,q,H⟩:=(lq u).mp (e▸ (lq (x:=x) s).mpr #[t,g,2]);exact inj j (jn b u j q) t (jn a s t g) H▸q
    exact#[v c (l k f).1 e t,v (l k f).1 c e.symm t]
   exact h (this▸f)
  rw[Ex inj x8 c (l k f).1,zJ inj x8 (Pd Sq c)]at this;lia
 refine nL (κ:=λt i=>EV (y t) i) r λS J N=> ?_;obtain⟨m,c,e⟩:∃m,m<64/\S=atU x m:=by
  let m:=jN ((List.range 6).filter λi=>S.testBit (x i))
  have c:m<64:=Eg (n:=6) λt g=>OS.mp (Pn.mp g).1;refine#[m,c,dJ λt=> ?_];rw[lq c];constructor
  .intro g;obtain⟨i,d,rfl⟩:=G t (J t g);exact#[i,(da _ _).mpr (Pn.mpr #[OS.mpr d,g]),2]
  .rintro⟨i,d,rfl⟩;exact(Pn.mp ((da _ _).mp d)).2
 have o:sz m=3:=by rw[<-zJ inj x8 c,<-e];exact N
 rw[BL (R:=3) (T:=((List.range 6).filter λi=>m.testBit i).map x) (λt=>by rw[e];unfold atU;rw[da]) (by rw[My,DT m c,o]),e,L m c o,<-GS m c o,PJ];have:((List.range 6).filter λi=>m.testBit i).map ((λt i=>EV (y t) i)∘x)=((List.range 6).filter λi=>m.testBit i).map EV:=P4 λi d=>by show(λj=>EV (y (x i)) j)=EV i;rw[K i (OS.mp (Pn.mp d).1)]
 rw[this]
def NC{E:Nat}{l:List Nat}(b:E<256)(d:l.Nodup)(hl:∀t∈l,E.testBit t=true)(z:l.length=sz E)(a:E.testBit t=true):t∈l:=by have e:jN l=E:=tF (Eg (n:=8) λt a=>aU (n:=8) b (hl t a)) b (λk _ c=>hl k ((da _ _).mp c)) (by rw[qj d λt a=>aU (n:=8) b (hl t a),z]);rw[<-e]at a;exact(da _ _).mp a
section
variable{E:Nat}{β:Nat->Prop}(hE:E<256)(F:qC E 3 β)(N:No4 E 3 β)(zE:sz E=6)
include hE F N zE
theorem NT:lG E 3 β:=by
 have s0:Sub 0 E:=λt d=>by rw[Pw]at d;cases d
 have m:∀ {u v w:Nat},¬β (ov 0 [u,v,w])->¬β (ov 0 [v,u,w]):=λh=>by rw[N5];exact h
 have f:∀ {u v w:Nat},¬β (ov 0 [u,v,w])->¬β (ov 0 [u,w,v]):=λh=>by rw[N4];exact h
 have H:∀ {u v w z:Nat},E.testBit u=true->E.testBit v=true->E.testBit w=true->E.testBit z=true->u≠v->u≠w->v≠w->z≠u->z≠v->¬β (ov 0 [u,v,w])->¬β (ov 0 [u,v,z])->z=w:=λ{u v w z} hu hv r hz uv uw vw zu zv n n2=>Pb λzw=>n2 (JB hE F s0 rfl (w:=w) (by simp[uv,uw,vw,Pk zu,Pk zv,Pk zw]) (λt d=>by simp only[OT,Pe,Qa]at d;refine#[6,Pw _];rcases d with rfl|rfl|rfl|rfl<;>assumption) n)
 have pr:∀ {w v x:Nat},E.testBit w=true->E.testBit v=true->E.testBit x=true->v≠w->x≠w->v≠x->(∃c,E.testBit c=true/\c≠w/\c≠v/\¬β (ov 0 [w,v,c]))\/∃c,E.testBit c=true/\c≠w/\c≠x/\¬β (ov 0 [w,x,c]):=λ{w v x} r hv hx vw xw vx=>by
  have hW:Sub (ov 0 [w]) E:=qR s0 λt d=>by rw[Pu.mp d];exact r
  have zW:sz (ov 0 [w])+2=3:=by have:=uu hE s0 (l:=[w]) #[5] λt d=>#[by rw[Pu.mp d];exact r,Pw _];rw[this,dh];rfl
  have sp:=cj hE hW;have yb:∀t,(ao E (ov 0 [w])).testBit t=true↔E.testBit t=true/\t≠w:=λt=>by rw[aG,Pc,Qm,<-RC,bR,Pw];simp
  have e:∀a b,ov (ov 0 [w]) [a,b]=ov 0 [w,a,b]:=λa b=>dJ λt=>by rw[bR,bR,bR];simp only[OT,Pe,Qa];exact T8
  have:=N3 hE F N hW zW (Y:=ao E (ov 0 [w])) (v:=v) (x:=x) iX ((yb v).mpr #[hv,vw]) ((yb x).mpr #[hx,xw]) vx ();refine this.imp ?_ ?_<;>
  .rintro⟨c,J,O,K⟩;rw[e]at K;exact#[c,((yb c).mp J).1,((yb c).mp J).2,O,K]
 obtain⟨w,r⟩:=gf (S:=E) ();obtain⟨v,hv,nv⟩:=jK [w] hE (by simp only[Pa,QP];lia);obtain⟨x,hx,nx⟩:=jK [w,v] hE (by simp only[Pa,QP];lia);simp only[OT,Pe,Qa,RA]at nv nx;obtain⟨p,q,L,hq,M,U,Q,l1⟩:∃p q,E.testBit p=true/\E.testBit q=true/\p≠w/\q≠w/\q≠p/\¬β (ov 0 [w,p,q]):=by
  rcases pr r hv hx nv nx.1 (Pk nx.2)with ⟨c,J,O,K,h4⟩|⟨c,J,O,K,h4⟩
  .exact#[v,c,hv,J,nv,O,K,h4]
  .exact#[x,c,hx,J,nx.1,O,K,h4]
 obtain⟨a,ha,na⟩:=jK [w,p,q] hE (by simp only[Pa,QP];lia);obtain⟨b,hb,nb⟩:=jK [w,p,q,a] hE (by simp only[Pa,QP];lia);simp only[OT,Pe,Qa,RA]at na nb;have b0:∀ {s c:Nat},E.testBit s=true->E.testBit c=true->s≠w->s≠p->s≠q->c≠w->c≠s->¬β (ov 0 [w,s,c])->c≠p/\c≠q:=λ{s c} y g A sp sq cw cs n=>by
  constructor
  .rintro rfl;exact sq (H r g hq y (Pk M) (Pk U) (Pk Q) A (Pk cs) l1 (f n))
  .rintro rfl;exact sp (H r g L y (Pk U) (Pk M) Q A (Pk cs) (f l1) (f n))
 obtain⟨s,t,y,d,A,sp,sq,B,o,G,ts,l2⟩:∃s t,E.testBit s=true/\E.testBit t=true/\s≠w/\s≠p/\s≠q/\t≠w/\t≠p/\t≠q/\t≠s/\¬β (ov 0 [w,s,t]):=by
  rcases pr r ha hb na.1 nb.1 (Pk nb.2.2.2)with ⟨c,J,O,K,h4⟩|⟨c,J,O,K,h4⟩
  .have:=b0 ha J na.1 na.2.1 na.2.2 O K h4;exact#[a,c,ha,J,na.1,na.2.1,na.2.2,O,this.1,this.2,K,h4]
  .have:=b0 hb J nb.1 nb.2.1 nb.2.2.1 O K h4;exact#[b,c,hb,J,nb.1,nb.2.1,nb.2.2.1,O,this.1,this.2,K,h4]
 obtain⟨u,hu,nu⟩:=jK [w,p,q,s,t] hE (by simp only[Pa,QP];lia);simp only[OT,Pe,Qa,RA]at nu;obtain⟨uw,up,uq,us,ut⟩:=nu;have al:∀c,E.testBit c=true->c=w\/c=p\/c=q\/c=s\/c=t\/c=u:=λc g=>by
  have:=NC (l:=[w,p,q,s,t,u]) hE (by simp[Pk M,Pk U,Pk Q,Pk A,Pk sp,Pk sq,Pk B,Pk o,Pk G,Pk ts,Pk uw,Pk up,Pk uq,Pk us,Pk ut]) (λt d=>by simp only[OT,Pe,Qa]at d;rcases d with rfl|rfl|rfl|rfl|rfl|rfl<;>assumption) zE.symm g
  simpa using this
 have b1:∀ {s t:Nat},E.testBit s=true->E.testBit t=true->s≠w->s≠p->s≠q->t≠w->t≠p->t≠q->t≠s->u≠s->u≠t->¬β (ov 0 [w,s,t])->(∀c,E.testBit c=true->c=w\/c=p\/c=q\/c=s\/c=t\/c=u)->∀c,E.testBit c=true->c≠p->c≠s->¬β (ov 0 [p,s,c])->c=u:=λ{s t} y d A sp sq B o G ts us ut l2 al c g cp cs n=>by
  rcases al c g with rfl|rfl|rfl|rfl|rfl|rfl
  .exact absurd (H r y d L (Pk A) (Pk B) (Pk ts) M (Pk sp) l2 (f (m (f n)))) (Pk o)
  .exact absurd rfl cp
  .exact absurd (H L g r y (Pk Q) M U sp sq (f (m l1)) (f n)) A
  .exact absurd rfl cs
  .exact absurd (H y g r L (Pk ts) A B (Pk sp) (Pk o) (f (m l2)) (f (m n))) M
  .rfl
 have bu:∀ {s t:Nat},E.testBit s=true->E.testBit t=true->s≠w->s≠p->s≠q->t≠w->t≠p->t≠q->t≠s->u≠s->u≠t->¬β (ov 0 [w,s,t])->(∀c,E.testBit c=true->c=w\/c=p\/c=q\/c=s\/c=t\/c=u)->¬β (ov 0 [p,s,u])->lG E 3 β:=λ{s t} y d A sp sq B o G ts us ut l2 al l3=>by
  have l4:¬β (ov 0 [q,t,u]):=by
   rcases pr d L hq (Pk o) (Pk G) (Pk Q)with ⟨c,g,ct,cp,n⟩|⟨c,g,ct,cq,n⟩
   .rcases al c g with rfl|rfl|rfl|rfl|rfl|rfl
    .exact absurd (H r L hq d (Pk M) (Pk U) (Pk Q) B o l1 (m (f (m n)))) G
    .exact absurd rfl cp
    .exact absurd (H L hq r d (Pk Q) M U o G (f (m l1)) (f (m n))) B
    .exact absurd (H y d r L (Pk ts) A B (Pk sp) (Pk o) (f (m l2)) (m (f n))) M
    .exact absurd rfl ct
    .exact absurd (H L hu y d (Pk up) (Pk sp) us o (Pk ut) (f l3) (f (m n))) ts
   .rcases al c g with rfl|rfl|rfl|rfl|rfl|rfl
    .exact absurd (H r hq L d (Pk U) (Pk M) Q B G (f l1) (m (f (m n)))) o
    .exact absurd (H L hq r d (Pk Q) M U o G (f (m l1)) (m (f (m n)))) B
    .exact absurd rfl cq
    .exact absurd (H y d r hq (Pk ts) A B (Pk sq) (Pk G) (f (m l2)) (m (f n))) U
    .exact absurd rfl ct
    .exact m n
  have nd:[w,p,s,q,t,u].Nodup:=by simp[Pk M,Pk U,Q,Pk Q,Pk A,Pk sp,sq,Pk sq,Pk B,Pk o,Pk G,Pk ts,Pk uw,Pk up,Pk uq,Pk us,Pk ut]
  have ez:∀l,jN l=ov 0 l:=λl=>by unfold ov;rw[R0]
  refine Kw hE F (x:=λi=>[w,p,s,q,t,u].getD i 0) (λi hi j hj e=> ?_) (λi hi=> ?_) (λc g=> ?_) λk hk=> ?_
  .rw[yX _ (show i<[w,p,s,q,t,u].length from hi),yX _ (show j<[w,p,s,q,t,u].length from hj)]at e;exact(SV nd).mp e
  .have:∀c∈[w,p,s,q,t,u],E.testBit c=true:=λc g=>by simp only[OT,Pe,Qa]at g;rcases g with rfl|rfl|rfl|rfl|rfl|rfl<;>assumption
   rw[yX _ (show i<[w,p,s,q,t,u].length from hi)];exact this _ (Qt _)
  .rcases al c g with rfl|rfl|rfl|rfl|rfl|rfl
   .exact#[0,42]
   .exact#[(1),42]
   .exact#[(3),42]
   .exact#[(2),42]
   .exact#[(4),42]
   .exact#[(5),42]
  .unfold atU;rw[ez];simp only[OT,Pe,Qa]at hk;rcases hk with rfl|rfl|rfl|rfl
   .exact l1
   .exact l2
   .exact l3
   .exact l4
 rcases pr L y d sp o (Pk ts)with ⟨c,g,cp,cs,n⟩|⟨c,g,cp,cs,n⟩
 .have:=b1 y d A sp sq B o G ts us ut l2 al c g cp cs n;exact bu y d A sp sq B o G ts us ut l2 al (this▸n)
 .have bt:∀c,E.testBit c=true->c=w\/c=p\/c=q\/c=t\/c=s\/c=u:=λc g=>by rcases al c g with h|h|h|h|h|h<;>simp[h]
  have:=b1 d y B o G A sp sq (Pk ts) ut us (f l2) bt c g cp cs n;exact bu d y B o G A sp sq (Pk ts) ut us (f l2) bt (this▸n)
end
def Lr(a:E<256)(e:R<=sz E)(F:qC E R β)(N:No4 E R β)(b:∃B,Sub B E/\sz B=R/\β B):lG E R β\/Dv E R β\/Dv E (sz E-R) (lD E β):=by
 have small:∀ {R:Nat} {β:Nat->Prop},qC E R β->No4 E R β->(∃B,Sub B E/\sz B=R/\β B)->R<=2->lG E R β:=λ{R β} F N b h=>by
  match R,h with
  |0,_=>exact HU a b
  |1,_=>exact Kx a
  |2,_=>exact OD a F N b
 have c:=Bt a e F;have d:=IL a e N;by_cases f:R<=2
 .exact .inl (small F N b f)
 by_cases j:sz E<=R+2
 .exact .inl (HV a e b (small c d (Gz a b) ()))
 by_cases g:R+5<=sz E
 .exact(Et a F N () g).elim
 by_cases i:sz E=R+4
 .exact .inr (.inl (xa a F N () i))
 by_cases k:5<=R
 .exact(Et a c d () ()).elim
 by_cases l:R=4
 .exact .inr (.inr (xa a c d () ()))
 have:R=3:=()
 subst this;exact .inl (NT a F N ())
def xc(a:bZ m)(b:S<256)(c:sz S=R):oE m f R S↔bQ m (bU f (List.range R)) S=R:=by have l:=(aT S).trans c;rw[xf a (T:=aq S) (λt=>(Lb b).symm) l];unfold bQ;rw[dF a (R:=R) (by unfold bU;rw[My,O8]) l,kN f (List.range R) (aq S) (by rw[l,O8])];rfl
def ro(R:Nat)(φ b v:Nat->Int)(a:Int):ev R (λi=>φ i-a*b i) v=ev R φ v-a*ev R b v:=by unfold ev;rw[<-fi,<-tZ];exact bL λi _=>by rw[Si,PZ]
def JE(R:Nat)(φ v:Nat->Int)(a:Int):ev R (λi=>a*φ i) v=a*ev R φ v:=by unfold ev;rw[<-fi];exact bL λi _=>PZ ..
def Sm(a:Int):Prop:=a=0\/a=1\/a= -1
structure Uni(f:Nat->Nat->Int)(R T:Nat)(φ:Nat->Nat->Int):Prop where
 dual:∀t u,T.testBit t=true->T.testBit u=true->ev R (φ t) (f u)=if u=t then 1 else 0
 comp:∀m,oE m f R T
section
variable{f:Nat->Nat->Int}{R T:Nat}{φ:Nat->Nat->Int}(U:Uni f R T φ)
include U
theorem Uni.ex(o:bZ m)(g:T.testBit u=true)(s:T.testBit v=false):oE m f R (exB T u v)↔¬m∣ev R (φ u) (f v):=by
 have l:∀t,(exB T u v).testBit t=true↔(T.testBit t=true/\t≠u)\/t=v:=λt=>by
  rw[bW];by_cases e:u=t
  .subst e;simp[g,R9]
  .simp[e,R9 (a:=v),Pk e]
 constructor
 .intro b q;have z:=b (φ u) λt j=>by
   rcases(l t).mp j with ⟨k,h⟩|rfl
   .rw[U.dual u t g k,OO h];exact PK _
   .exact q
  have:=U.dual u u g g;rw[OP rfl]at this;refine o.one (this▸jH λi d=>PQ (z i (OS.mp d)))
 .intro r c p;have z:=U.comp m (λi=>c i-ev R c (f u)*φ u i) λt j=>by
   rw[ro,U.dual u t g j];by_cases e:t=u
   .rw[e,OP rfl,QT,Qu];exact PK _
   .rw[OO e,Q2,RF];exact p t ((l t).mpr (.inl #[j,e]))
  have k:m∣ev R c (f u):=by have h:m∣ev R (λi=>c i-ev R c (f u)*φ u i) (f v):=jH λi d=>PQ (z i (OS.mp d));rw[ro]at h;have n:=Q6 (p v ((l v).mpr (.inr rfl))) h;rw[RB]at n;exact(o.mul _ _ n).resolve_right r
  intro i d;have:=Q4 (z i d) (PQ k:m∣ev R c (f u)*φ u i);rwa[Rf]at this
theorem Uni.next(k:T.testBit t=true)(H:T.testBit s=false)(p1:ev R (φ t) (f s)=1\/ev R (φ t) (f s)= -1):
  Uni f R (exB T t s) λu i=>if u=s then ev R (φ t) (f s)*φ t i else φ u i-ev R (φ t) (f s)*ev R (φ u) (f s)*φ t i:=by
 have j:∀u,(exB T t s).testBit u=true↔(T.testBit u=true/\u≠t)\/u=s:=λu=>by
  rw[bW];by_cases e:t=u
  .subst e;simp[k,R9]
  .simp[e,R9 (a:=s),Pk e]
 have ns:∀ {u},T.testBit u=true->u≠s:=λh e=>by rw[e,H]at h;cases h
 generalize o:ev R (φ t) (f s)=p at*;have q:p*p=1:=by rcases p1 with h|h<;>rw[h]<;>rfl
 refine#[λu v l A=> ?_,λm d B=> ?_]
 .rcases(j u).mp l with ⟨u1,u2⟩|rfl
  .have e:(λi=>if u=s then p*φ t i else φ u i-p*ev R (φ u) (f s)*φ t i)=λi=>φ u i-p*ev R (φ u) (f s)*φ t i:=funext λi=>OO (ns u1);rw[e,ro];rcases(j v).mp A with ⟨g,r⟩|rfl
   .rw[U.dual t v k g,OO r,Q2,RF,U.dual u v u1 g]
   .rw[o,OO (Pk (ns u1)),Int.mul_right_comm,q,Qs,Qu]
  .have e:(λi=>if u=u then p*φ t i else φ u i-p*ev R (φ u) (f u)*φ t i)=λi=>p*φ t i:=funext λi=>OP rfl;rw[e,JE];rcases(j v).mp A with ⟨g,r⟩|rfl
   .rw[U.dual t v k g,OO r,OO (ns g),Q2]
   .rw[o,q,OP rfl]
 .have z:=U.comp m (λi=>d i-ev R d (f t)*φ t i) λu l=>by
   rw[ro,U.dual t u k l];by_cases e:u=t
   .rw[e,OP rfl,QT,Qu];exact PK _
   .rw[OO e,Q2,RF];exact B u ((j u).mpr (.inl #[l,e]))
  have G:m∣ev R d (f t):=by have w:m∣ev R (λi=>d i-ev R d (f t)*φ t i) (f s):=jH λi n=>PQ (z i (OS.mp n));rw[ro,o]at w;have x:=Q6 (B s ((j s).mpr (.inr rfl))) w;rw[RB]at x;have y:=PQ (b:=ev R d (f t)*p) (c:=p) x;rwa[PZ,q,QT]at y
  intro i n;have:=Q4 (z i n) (PQ G:m∣ev R d (f t)*φ t i);rwa[Rf]at this
end
def Lv(R:Nat)(φ v w:Nat->Int)(a:Int):ev R φ (λi=>v i-a*w i)=ev R φ v-a*ev R φ w:=by unfold ev;rw[<-fi,<-tZ];exact bL λi _=>by rw[Q5,QJ]
def By{L:List Row}(hl:L.length=R)(h:∀x∈L,ev R φ x=0)(e:ev R φ v=1):aN L (List.range R)=0:=by
 refine Pb λd=> ?_;have c:LI 0 L (List.range R):=by rw[<-ip ui _ _ Py,dF ui (R:=(List.range R).length) (by rw[O8,hl]) rfl];exact λz=>d (Sy.mp z)
 have z:=c φ λx b=>by have:=h x b;unfold ev at this;rw[this];exact PK _
 have:ev R φ v=0:=Sy.mp (jH λi a=>PQ (z i a));lia
def JK(d:List Nat){L f:List Row}(h:L.Perm f):∀c:List Row,c.length+L.length=d.length->aN (c++L) d=aN (c++f) d\/aN (c++L) d= -aN (c++f) d:=by
 induction h with
 |nil=>exact λ_ _=> .inl rfl
 |cons x _ i=>
  intro c e;have:=i (c++[x]) (by rw[Pl,SY];rw[Pa]at e;lia)
  rwa [QI,QI]at this
 |swap x y l=>
  intro c e;exact .inr (mU y x d c l (by simp only[Pa]at e;lia))
 |trans g _ j k=>
  intro c e;rcases j c e with a|a<;>rcases k c (by rw[<-g.length_eq];exact e)with b|b
  .exact .inl (a.trans b)
  .exact .inr (a.trans b)
  .exact .inr (by rw[a,b])
  .exact .inl (by rw[a,b,Int.neg_neg])
def Bw:∀l:List Nat,l.Nodup->aN (l.map λi j=>if j=i then(1:Int)else 0) l=1
 | [],_=>rfl
 |a::l,c=>by
  rw[PX]at c;rw[PF,wV _ _ _ _ λx f=>by obtain⟨b,d,rfl⟩:=OX.mp f;exact OO (λe:a=b=>c.1 (e▸d)),Bw l c.2,OP rfl]
  rfl
structure BP(n R:Nat)(r:Nat->Nat)(B:Nat)(f:Nat->Nat->Int):Prop where
 M:Mat n r
 top:r (2^n-1)=R
 hB:B<2^n
 zB:sz B=R
 rB:r B=R
 u:i0 f B R
 sm:∀t,t<n->∀i,i<R->Sm (f t i)
 tell:∀m,m=2\/m=3->∀S,S<2^n->sz S=R->(oE m f R S↔r S=R)
section
variable{n R B:Nat}{r:Nat->Nat}{f:Nat->Nat->Int}(A:BP n R r B f)
include A
theorem BP.start:∃φ,Uni f R B φ/\∀t,B.testBit t=true->∀v,v<n->Sm (ev R (φ t) (f v)):=by
 have l:=A.M.aX A.hB;obtain⟨g,q⟩:∃g:Nat->Nat,∀i,i<R->g (bAt B i)=i:=by
  have:∀b,∃i,∀j,j<R->bAt B j=b->i=j:=λb=>by
   by_cases h:∃j,j<R/\bAt B j=b
   .obtain⟨j,c,e⟩:=h;exact#[j,λk x w=>jm A.zB c x (e.trans w.symm)]
   .exact#[0,λj c e=>absurd #[j,c,e] h]
  obtain⟨g,h⟩:=Rz this;exact#[g,λi a=>h _ i a rfl]
 have p:∀(d:Nat->Int) i,i<R->ev R d (f (bAt B i))=d i:=λd i a=>jk a λj c=>A.u i j a c;have s:∀i,i<R->∀v:Nat->Int,ev R (λj=>if j=i then 1 else 0) v=v i:=λi a v=>by have:ev R (λj=>if j=i then 1 else 0) v=sL (List.range R) λj=>v j*if j=i then 1 else 0:=bL λj _=>P5 ..;rw[this];exact jk a λj _=>rfl
 refine#[λt j=>if j=g t then 1 else 0,#[λt u o y=> ?_,λm d H i a=> ?_],λt o v G=> ?_]
 .obtain⟨i,a,rfl⟩:=ik l A.zB o;obtain⟨j,c,rfl⟩:=ik l A.zB y;rw[p _ j c,q i a];by_cases e:j=i
  .rw[OP e,OP (by rw[e])]
  .rw[OO e,OO λz=>e (jm A.zB c a z)]
 .have:=H _ (cH A.zB a).1;rwa[p d i a]at this
 .obtain⟨i,a,rfl⟩:=ik l A.zB o;show Sm (ev R (λj=>if j=g (bAt B i)then 1 else 0) (f v));rw[q i a,s i a];exact A.sm v G i a
theorem BP.path:∀(k S:Nat),S<2^n->sz S=R->r S=R->sz (ao S B)=k->(∃φ,Uni f R S φ/\∀t,S.testBit t=true->∀v,v<n->Sm (ev R (φ t) (f v)))/\
  ∀L:List Nat,L.Nodup->(∀t,t∈L↔S.testBit t=true)->Pm (aN (L.map λt i=>f t i) (List.range R))
 |0,S,q,o,rS,hk=>by
  have B8:=A.M.aX A.hB;have H:=A.M.aX q;have e:S=B:=tF H B8 (λt t8 ht=>by
   cases e:B.testBit t with
   |true=>rfl
   |false=>
    have Q:(ao S B).testBit t=true:=by rw[aG,ht,e];rfl
    have:=fo (ao S B) ((cB S B).lt (n:=8) H) t t8 Q;lia) (o.trans A.zB.symm)
  subst e;refine#[A.start,λL nd J=> ?_];have pm:L.Perm (aq S):=(Tx nd (Py.filter _)).mpr λt=>(J t).trans (Lb H).symm;have e1:aN ((aq S).map λt i=>f t i) (List.range R)=1:=by
   rw[<-lh A.zB,PJ,<-Bw (List.range R) Py];refine iB _ _ _ (by rw[My,My]) λi j hj=> ?_;rw[OV,OV,Ph,Ph];by_cases hi:i<R
   .rw[Qp hi];exact A.u i j hi (OS.mp hj)
   .rw[Sa (by rw[O8];lia)];rfl
  have:=JK (List.range R) (pm.map λt i=>f t i) [] (by rw[My,O8,pm.length_eq,aT,o];exact Rw _);rwa[QR,QR,e1]at this
 |k+1,S,q,o,rS,hk=>by
  have H:=A.M.aX q;obtain⟨x,hx⟩:=gf (S:=ao S B) ();obtain⟨l,xB⟩:=iX x hx;have bS:Ce n r S:=#[q,rS.trans o.symm,rS.trans A.top.symm];obtain⟨y,yB,N,b'⟩:=A.M.exch bS #[A.hB,A.rB.trans A.zB.symm,A.rB.trans A.top.symm] l xB;have yx:y≠x:=λe=>by rw[e,l]at N;cases N
  have yn:=bD A.hB yB;have xn:=bD q l;have z':=Aa A.M q l N yn;have kk:sz (ao (exB S x y) B)=k:=by
   have h1:=fo (ao S B) ((cB S B).lt (n:=8) H) x (aU (n:=8) H l) hx;have:ao (exB S x y) B=ao S B^^^2^x:=dJ λt=>by
    rw[cG hx,aG,aG,bW];by_cases g:y=t
    .subst g;simp[yB]
    .by_cases m:x=t
     .subst m;simp[l,g]
     .simp[g,m]
   rw[this];lia
  obtain⟨⟨φ,U,sm⟩,dt⟩:=BP.path k (exB S x y) z'.1 (z'.2.trans o) (b'.2.2.trans A.top) kk;have back:exB (exB S x y) y x=S:=dJ λt=>by
   rw[bW,bW];by_cases g:x=t
   .subst g;simp[l]
   .by_cases m:y=t
    .subst m;simp[N,g]
    .simp[g,m]
  have G:(exB S x y).testBit y=true:=by rw[bW];simp
  have xT:(exB S x y).testBit x=false:=by rw[bW,l];simp[yx]
  have p1:ev R (φ y) (f x)=1\/ev R (φ y) (f x)= -1:=by have:=(U.ex aM G xT).mp (by rw[back];exact(A.tell 3 (.inr rfl) S q o).mpr rS);exact(sm y G x xn).resolve_left λe=>this (e▸PK _)
  have O:=U.next G xT p1;rw[back]at O;refine#[#[_,O,λu hu v hv=> ?_],λL nd J=> ?_]
  .by_cases ux:u=x
   .subst ux;have e:(λi=>if u=u then ev R (φ y) (f u)*φ y i else φ u i-ev R (φ y) (f u)*ev R (φ u) (f u)*φ y i)=λi=>ev R (φ y) (f u)*φ y i:=funext λi=>OP rfl;rw[e,JE];rcases p1 with p|p<;>rcases sm y G v hv with h|h|h<;>rw[p,h]<;>simp[Sm]
   .have uT:(exB S x y).testBit u=true:=by rw[bW,hu];simp[Pk ux]
    cases ay:S.testBit v with
    |true=>
     have:=O.dual u v hu ay;rw[this];split
     .exact .inr (.inl rfl)
     .exact .inl rfl
    |false=>
     have z2:=Aa A.M q hu ay hv;have h2:=(O.ex cU hu ay).symm.trans (A.tell 2 (.inl rfl) _ z2.1 (z2.2.trans o));have h3:=(O.ex aM hu ay).symm.trans (A.tell 3 (.inr rfl) _ z2.1 (z2.2.trans o));have a0:=h2.trans h3.symm;have e:(λi=>if u=x then ev R (φ y) (f x)*φ y i else φ u i-ev R (φ y) (f x)*ev R (φ u) (f x)*φ y i)=λi=>φ u i-ev R (φ y) (f x)*ev R (φ u) (f x)*φ y i:=funext λi=>OO ux;rw[e,ro]at a0⊢;rcases sm u uT v hv with a|a|a<;>rcases p1 with p|p<;>rcases sm u uT x xn with b|b|b<;>rcases sm y G v hv with c|c|c<;>rw[a,p,b,c]at a0⊢ <;>first|(exfalso;revert a0;decide)|simp[Sm]
  .obtain⟨C,D,rfl⟩:=Sx ((J x).mpr l);rw[Rn,PX]at nd;obtain⟨n1,⟨n2,n3⟩,n4⟩:=nd;have xC:x∉C:=λh=>n4 x h x O6 rfl;have yL:y∉C++x::D:=λh=>by rw[(J y).mp h]at N;cases N
   rw[Pg,OT,RA,RA]at yL;have mm:∀t,t∈C++y::D↔(exB S x y).testBit t=true:=λt=>by
    have h1:=J t;rw[Pg,OT]at h1⊢;rw[bW];by_cases g:t=y
    .subst g;simp
    .by_cases m:t=x
     .subst m;simp[l,g,xC,n2,Pk g]
     .simp only[g,m,false_or]at h1⊢;rw[h1];simp[Pk g,Pk m]
   have bp:∀c,c∈C\/c∈D->ev R (φ y) (f c)=0:=λc K=>by
    have cy:c≠y:=λe=>by subst e;exact K.elim yL.1 yL.2.2
    rw[U.dual y c G ((mm c).mp (by rw[Pg,OT];exact K.imp id .inr)),OO cy]
   have dy:ev R (φ y) (f y)=1:=by rw[U.dual y y G G,OP rfl]
   have hd:=dt (C++y::D) (by
    rw[Rn,PX];refine#[n1,#[yL.2.2,n3],λa ha b Q=> ?_];rcases OT.mp Q with rfl|Q
    .exact λe=>yL.1 (e▸ha)
    .exact n4 a ha b (OZ _ Q)) mm
   have ln:C.length+1+D.length=R:=by have pm:(C++x::D).Perm (aq S):=(Tx (Rn.mpr #[n1,PX.mpr #[n2,n3],n4]) (Py.filter _)).mpr λt=>(J t).trans (Lb H).symm;have:=pm.length_eq;rw[aT,o,Pl,Pa]at this;lia
   rw[PC,PF]at hd⊢;have z:=By (R:=R) (L:=(C.map λt i=>f t i)++(λi=>f x i-ev R (φ y) (f x)*f y i)::D.map λt i=>f t i) (φ:=φ y) (by rw[Pl,Pa,My,My];lia) (λw hw=>by
    rw[Pg,OT]at hw;rcases hw with hw|rfl|hw
    .obtain⟨c,K,rfl⟩:=OX.mp hw;exact bp c (.inl K)
    .rw[Lv,dy,QT,Qu]
    .obtain⟨c,K,rfl⟩:=OX.mp hw;exact bp c (.inr K)) dy
   have rl:=yj (a:=1) (d:=ev R (φ y) (f x)) (b:=1) (r:=λi=>f x i) (s:=λi=>f y i) (p:=λi=>f x i-ev R (φ y) (f x)*f y i) (T:=List.range R) (A:=C.map λt i=>f t i) (B:=D.map λt i=>f t i) (by rw[My,My,O8];exact ln) λj _=>()
   rw[z,Q2,Rx,Qs]at rl;rw[rl];exact Pm.mul p1 hd
end
section
variable{n R B:Nat}{r:Nat->Nat}{f:Nat->Nat->Int}(A:BP n R r B f)
include A
theorem BP.det(b:S<2^n)(N:sz S=R):(r S=R->Pm (aN (bU f (List.range R)) (aq S)))/\(r S≠R->aN (bU f (List.range R)) (aq S)=0):=by
 have Q:=A.M.aX b;have J:(aq S).length=R:=(aT S).trans N;have turn:aN (bU f (List.range R)) (aq S)=aN ((aq S).map λt i=>f t i) (List.range R):=(kN f (List.range R) (aq S) (by rw[J,O8])).symm;have mem:∀t,t∈aq S↔S.testBit t=true:=λt=>Lb Q;rw[turn];refine#[λrS=>(A.path _ S b N rS rfl).2 _ (Py.filter _) mem,λnS=> ?_];have le:=A.M.mono (bO b) (aJ n);rw[A.top]at le;obtain⟨I,_,G,i3,i4⟩:=A.M.extend (s:=0) (t:=S) (λt y=>by rw[Pw]at y;cases y) b (by rw[A.M.zero,dh]);have l:=G.lt b;obtain⟨T,K,t2,m,t4⟩:=A.M.extend (bO l) (aJ n) i3;have c:=t2.lt (aJ n);have p:r T=R:=t4.trans A.top;obtain⟨⟨φ,U,sm⟩,_⟩:=A.path _ T c (m.symm.trans p) p rfl;obtain⟨t,a,L⟩:=K7 (s:=T) (t:=I) λh=>by have:=A.M.mono h l;lia
 have tn:=bD c a;refine By (φ:=φ t) (v:=f t) (by rw[My,J]) (λx hx=> ?_) (by rw[U.dual t t a a,OP rfl]);obtain⟨s,hs,rfl⟩:=OX.mp hx;have q:=(mem s).mp hs;have g:=bD b q;show ev R (φ t) (f s)=0;have H:∀k,S.testBit k=true->Sub (I|||2^k) S:=λk hk j d=>by
  rw[IA,Px]at d;rcases d with h|h
  .exact G j h
  .exact O9 h▸hk
 cases u:T.testBit s with
 |true=>
  have:s≠t:=λe=>by
   subst e;have o:Sub (I|||2^s) T:=λj d=>by
    rw[IA,Px]at d;rcases d with h|h
    .exact K j h
    .exact O9 h▸a
   have h2:=A.M.jR o c m;have h3:=fh I (A.M.aX l) s (OW g A.M.n8) L;have w:=A.M.mono (H s q) b;lia
  rw[U.dual t s a u,OO this]
 |false=>
  have o:r (I|||2^s)=r I:=by have w:=A.M.mono (H s q) b;have h5:=A.M.step I s l g;lia
  have hd:=A.M.gv c a;have h2:=A.M.keep (He K L a) hd g o;have h3:=A.M.jR (df a) c m;have w:=A.M.iN c a;have O:=Aa A.M c a u g;have nb:¬r (exB T t s)=R:=by unfold exB;lia
  refine(sm t a s g).elim id λh=>absurd ((A.tell 3 (.inr rfl) _ O.1 (O.2.trans (m.symm.trans p))).mp ((U.ex aM a u).mpr λz=> ?_)) nb;rcases h with h|h<;>rw[h]at z<;>revert z<;>decide
end
def Bi2(n:Nat)(r:Nat->Nat):Prop:=∃L:List Row,∀s,s<2^n->r s=bQ 2 L s
section
variable{n R:Nat}{r:Nat->Nat}(M:Mat n r)(hf:r (2^n-1)=R)(b:Bi2 n r)
include M b
theorem Bi2.four(c:C<2^n)(lt:∀t∈[x,z,y,v],t<n)(p1:bM r C (r C) x z)(p2:bM r C (r C) x y)(p3:bM r C (r C) x v)(p4:bM r C (r C) z y)(p5:bM r C (r C) z v)(p6:bM r C (r C) y v)
  (top:∀s∈[x,z,y,v],∀t∈[x,z,y,v],∀u∈[x,z,y,v],r (C|||2^s|||2^t|||2^u)<=r C+2):False:=by
 obtain⟨L,d⟩:=b;have a:∀s∈[x,z,y,v],∀t∈[x,z,y,v],bM r C (r C) s t->bM (bQ 2 L) C (bQ 2 L C) s t:=λs e t f h=>by unfold bM at h⊢;rw[<-d C c,<-d _ (aP (aP c (lt s e)) (lt t f))];exact h
 have i:=M.n8;refine Bp L (C:=C) (x:=x) (z:=z) (y:=y) (v:=v) (λt h=>by have:=lt t h;lia) (a _ #[5] _ #[5] p1) (a _ #[5] _ #[5] p2) (a _ #[5] _ #[5] p3) (a _ #[5] _ #[5] p4) (a _ #[5] _ #[5] p5) (a _ #[5] _ #[5] p6) λs e t f u g=> ?_;rw[<-d C c,<-d _ (aP (aP (aP c (lt s e)) (lt t f)) (lt u g))];exact top s e t f u g
include hf
theorem Bi2.noFour:kr r (2^n-1) R:=λC x z y v c i a f g p1 p2 p3 p4 p5 p6=>by have hl:=c.lt (aJ n);have lt:∀t∈[x,z,y,v],t<n:=λt h=>aU (aJ n) (a t h).1;refine b.four M hl lt p1 p2 p3 p4 p5 p6 λs d t a u e=> ?_;have:=M.mono (bO (aP (aP (aP hl (lt s d)) (lt t a)) (lt u e))) (aJ n);lia
theorem Bi2.no4:No4 (2^n-1) R λS=>r S=R:=λW a c d e g u q hl j k l m o p=>by
 have f:=g.lt (aJ n);have lt:∀t∈[a,c,d,e],t<n:=λt h=>aU (aJ n) (hl t h).1;have i:∀x y,ov W [x,y]=W|||2^x|||2^y:=λx y=>dJ λt=>by rw[bR,O7,O7,O0,O0,Px,Px,O3,O3];rw[OT,Pu];exact#[λh=>by rcases h with h|h|h;exact .inl (.inl h);exact .inl (.inr h.symm);exact .inr h.symm,λh=>by rcases h with (h|h)|h;exact .inl h;exact .inr (.inl h.symm);exact .inr (.inr h.symm)]
 rw[i]at j k l m o p;have s:r W+2=R:=by have v:=M.step W a f (lt a #[5]);have w:=M.step (W|||2^a) c (aP f (lt a #[5])) (lt c #[5]);have z:=M.jQ W f;lia
 refine b.noFour M hf W a c d e g u hl q s ?_ ?_ ?_ ?_ ?_ ?_<;>(unfold bM;lia)
theorem Bi2.five(K:k<2^n)(B:w<2^n)(hd:d=2\/d=3):¬dX (sz k) (cY r k w) 5 d=true:=λh=>by
 unfold dX at h;rw[Pc,Pc,O3,O3,PR]at h;obtain⟨⟨z5,top⟩,J⟩:=h;rw[z5]at top J;have kw:k|||w<2^n:=PV K B;have K8:=M.aX K;have aB:r (k|||w)=r w+d:=by have e:=kT K8;rw[z5]at e;unfold cY at top;rw[e]at top;lia
 obtain⟨t,f⟩:∃t:Nat->Nat,∀i,i<5->k.testBit (t i)=true/\∀s,aO (s|||2^i) k=aO s k|||2^t i:=by
  have:∀i,∃t,i<5->k.testBit t=true/\∀s,aO (s|||2^i) k=aO s k|||2^t:=λi=>by
   by_cases a:i<5
   .obtain⟨t,h⟩:=nE (k:=k) (by lia:i<sz k);exact#[t,λ_=>h]
   .exact#[0,λz=>absurd z a]
  obtain⟨t,h⟩:=Rz this;exact#[t,h]
 have A:∀i,i<5->t i<n:=λi a=>bD K (f i a).1;have up:∀ {X},Sub X (k|||w)->r X<=r w+d:=λh=>aB▸M.mono h kw;have L:∀X i j,(X|||2^t i|||2^t j|||w)=(w|||X|||2^t i|||2^t j):=λX i j=>by rw[RZ _ w,<-Q0,<-Q0]
 have G:∀ {X i},i<5->Sub X (k|||w)->Sub (X|||2^t i) (k|||w):=λ{X i} a h=>pY h (sN (by rw[O7,(f i a).1];rfl));have Q:Sub w (k|||w):=λj c=>by rw[O7,c,Sw]
 have N:∀C,C<2^n->Sub C (k|||w)->r C+2=r w+d->(∀i,i<4->∀j,j<4->i≠j->r (C|||2^t i|||2^t j)=r w+d)->False:=λC p sC O H=>by
  have o:∀i,i<4->∀j,j<4->i≠j->bM r C (r C) (t i) (t j):=λi a j c u=>(H i a j c u).trans O.symm;have q:∀x∈[t 0,t 1,t 2,t 3],∃i,i<5/\x=t i:=λx g=>by
   simp only[OT,Pe,Qa]at g;rcases g with rfl|rfl|rfl|rfl
   .exact#[0,42]
   .exact#[(1),42]
   .exact#[(2),42]
   .exact#[(3),42]
  refine b.four M (C:=C) (x:=t 0) (z:=t 1) (y:=t 2) (v:=t 3) p (λx g=> ?_) (o 0 ∅ 1 ∅ ∅) (o 0 ∅ 2 ∅ ∅) (o 0 ∅ 3 ∅ ∅) (o 1 ∅ 2 ∅ ∅) (o 1 ∅ 3 ∅ ∅) (o 2 ∅ 3 ∅ ∅) λx g y hy z hz=> ?_
  .obtain⟨i,a,rfl⟩:=q x g;exact A i a
  .obtain⟨i,a,rfl⟩:=q x g;obtain⟨j,c,rfl⟩:=q y hy;obtain⟨l,hl,rfl⟩:=q z hz;rw[O];exact up (G hl (G c (G a sC)))
 rcases hd with rfl|rfl
 .refine N w B Q rfl λi a j c u=> ?_;have m:∀i,i<4->∀j,j<4->i≠j->(0|||2^i|||2^j)∈eF 5 2:=∅
  have:=O9 (J _ (m i a j c u));unfold cY at this;rw[(f j ()).2,(f i ()).2,jZ,L,Nat.or_zero]at this;lia
 .have H:∀i,i<4->∀j,j<4->i≠j->r (w|||2^t 4|||2^t i|||2^t j)=r w+3:=λi a j c u=>by
   have m:∀i,i<4->∀j,j<4->i≠j->(0|||2^4|||2^i|||2^j)∈eF 5 3:=∅
   have:=O9 (J _ (m i a j c u));unfold cY at this;rw[(f j ()).2,(f i ()).2,(f 4 ∅).2,jZ,L,R0]at this;lia
  have U:=A 4 ∅;have p:=aP B U;refine N _ p (G ∅ Q) ?_ H;have s0:=M.step w (t 4) B U;have s1:=M.step _ (t 0) p (A 0 ∅);have s2:=M.step _ (t 1) (aP p (A 0 ∅)) (A 1 ∅);have:=H 0 ∅ 1 ∅ ∅;lia
theorem vZ(F:qC (2^n-1) R λS=>r S=R):Tern n r\/vF n R r:=by
 have e:=M.aX (aJ n);obtain⟨B,a,c,d⟩:=M.some_base;have:=M.jQ _ (aJ n);rcases Lr (β:=λS=>r S=R) e () F (b.no4 M hf) #[B,a,99]with h|h|h
 .exact .inl (DD M hf h)
 .obtain⟨k,w,a,c,d,f⟩:=tS M hf F h;exact .inr #[k,w,a,Ae (bO c) d, .inr (.inr (.inl f))]
 .obtain⟨k,w,a,c,d⟩:=AB M hf F h;exact .inr #[k,w,a,c, .inr (.inr (.inr d))]
end
section
variable{p:Nat}{ts:List (Nat×Nat)}(hb:∀t∈ts,t.1<p/\t.2<p)(h8:ts.length<=8)
def lF(ts:List (Nat×Nat))(j i:Nat):Int:=(if(ts.getD j (0,0)).1=i then 1 else 0) -if(ts.getD j (0,0)).2=i then 1 else 0
def GP(j:Nat)(c:(ts.getD j (0,0)).1<p/\(ts.getD j (0,0)).2<p)(b:Nat->Int):ev p b (lF ts j)=b (ts.getD j (0,0)).1-b (ts.getD j (0,0)).2:=by
 have one:∀a,a<p->sL (List.range p) (λi=>b i*if a=i then 1 else 0)=b a:=λa d=>jk d λi _=>by
  by_cases e:a=i
  .rw[OP e,OP e.symm]
  .rw[OO e,OO (Pk e)]
 rw[<-one _ c.1,<-one _ c.2,<-tZ];exact bL λi _=>Q5 ..
include hb h8
theorem A5:∀(z s:Nat),sz s=z->s<2^ts.length->(rkC (ts.map cR) s=sz s↔rho 3 (bU (lF ts) (List.range p)) (aq s)=sz s)
 |0,s,hz,w=>by have K:=Ku (av (ts.map cR) s);have B:=ua aM (aq s) (bU (lF ts) (List.range p));rw[aT]at B;have G:=(qi (ts.map cR) h8).jQ s w;lia
 |z+1,s,hz,w=>by
  have G:=aM;have M:=qi (ts.map cR) h8;have A:∀j,j<ts.length->ts.getD j (0,0)∈ts:=λj r=>by rw[OV,Po r];exact Qt r
  obtain⟨k,u⟩:=gf (S:=s) ();have O:=bD w u;have k8:k<8:=()
  have H:=M.gv w u;have zs:=M.iN w u;have back:=fT u;have ay:(s^^^2^k).testBit k=false:=by rw[cG u];simp
  generalize s^^^2^k=b at*;have ih:=A5 z b () H;have J:∀c∈aq b,c<ts.length:=λc m=>bD H (aK.mp m).2;have knd:k∉aq b:=λh=>by rw[(aK.mp h).2]at ay;cases ay
  have nd:(k::aq b).Nodup:=PX.mpr #[knd,Py.filter _];have er:rho 3 (bU (lF ts) (List.range p)) (aq s)=rho 3 (bU (lF ts) (List.range p)) (k::aq b):=by rw[<-back];exact fO G (ig k8)
  have li:rho 3 (bU (lF ts) (List.range p)) (aq s)=sz s↔LI 3 (bU (lF ts) (List.range p)) (k::aq b):=by rw[er,<-ip G _ _ nd,Pa,aT,zs]
  have aB:rho 3 (bU (lF ts) (List.range p)) (aq b)=sz b↔LI 3 (bU (lF ts) (List.range p)) (aq b):=by rw[<-ip G (aq b) _ (Py.filter _),aT]
  have Mk:=I0 (p:=p) ((aq b).map λc=>ts.getD c (0,0)) λt N=>by obtain⟨c,m,rfl⟩:=OX.mp N;exact hb _ (A c (J c m))
  have v:=hb _ (A k O);have sp:=rY Mk (λt N=>by obtain⟨c,m,rfl⟩:=OX.mp N;exact hb _ (A c (J c m))) v.1 v.2
  have ec:av (ts.map cR) b=((aq b).map λc=>ts.getD c (0,0)).map cR:=by unfold av;rw[show bits b=(aq b).map λt:Nat=>(t:Int)from rfl,PJ,PJ];refine P4 λc m=> ?_;show(ts.map cR).getD ((c:Nat):Int).toNat 0=cR (ts.getD c (0,0));rw[OU,OV,OV,Ph,Po (J c m)];rfl
  have ax:rkC (ts.map cR) s=rkC (ts.map cR) b↔(mkA p ((aq b).map λc=>ts.getD c (0,0))).getD (ts.getD k (0,0)).1 0=(mkA p ((aq b).map λc=>ts.getD c (0,0))).getD (ts.getD k (0,0)).2 0:=by
   rw[<-sp,<-ec,<-back,Mx k8];have:(ts.map cR).getD k 0=2^(ts.getD k (0,0)).1^^^2^(ts.getD k (0,0)).2:=by rw[OV,OV,Ph,Po O];rfl
   rw[this]
  have a0:∀c∈aq b,∃j,((aq b).map λc=>ts.getD c (0,0))[j]?=some (ts.getD c (0,0)):=λc m=>P2 (OX.mpr #[c,m,2]);generalize mkA p ((aq b).map λc=>ts.getD c (0,0))=ms at*;have st:=M.step b k H O;rw[back]at st;have bu:=M.jQ b H;constructor
  .intro hr;have nk:¬ms.getD (ts.getD k (0,0)).1 0=ms.getD (ts.getD k (0,0)).2 0:=λe=>by have:=ax.mpr e;lia
   have Q:=aB.mp (ih.mp ());refine li.mpr λg q=> ?_;have aD:(3:Int)∣sL (k::aq b) λc=>g c*ev p (λi=>if ms.getD i 0=ms.getD (ts.getD k (0,0)).1 0 then 1 else 0) (lF ts c):=by
    have e:(sL (k::aq b) λc=>g c*ev p (λi=>if ms.getD i 0=ms.getD (ts.getD k (0,0)).1 0 then 1 else 0) (lF ts c))=sL (List.range p) λi=>(if ms.getD i 0=ms.getD (ts.getD k (0,0)).1 0 then 1 else 0)*sL (k::aq b) λc=>g c*lF ts c i:=by have e1:(λi=>(if ms.getD i 0=ms.getD (ts.getD k (0,0)).1 0 then(1:Int)else 0)*sL (k::aq b) λc=>g c*lF ts c i)=λi=>sL (k::aq b) λc=>(if ms.getD i 0=ms.getD (ts.getD k (0,0)).1 0 then(1:Int)else 0)*(g c*lF ts c i):=funext λi=>(fi ..).symm;rw[e1,yg];refine bL λc _=> ?_;unfold ev;rw[<-fi];exact bL λi _=>QJ ..
    rw[e];exact jH λi hi=>Pj (q (λc=>lF ts c i) (OX.mpr #[i,hi,2]))
   have U:(3:Int)∣g k:=by
    rw[kf (a:=k) nd O6 λc m ck=>by have m:=(OT.mp m).resolve_left ck;obtain⟨j,r⟩:=a0 c m;rw[GP c (hb _ (A c (J c m))),Mk.eq j _ r trivial,Qu,Q2],GP k v,OP rfl,OO (Pk nk),RF,QT]at aD
    exact aD
   have rest:=Q g λx y=>by have K:=q x y;rw[fq]at K;have B:=Q6 K (PQ U:(3:Int)∣g k*x k);rwa[Int.add_comm,Tt]at B
   intro c m;rcases OT.mp m with rfl|m
   .exact U
   .exact rest c m
  .intro hr;have l:=li.mp hr;have Q:LI 3 (bU (lF ts) (List.range p)) (aq b):=λg q c m=>by
    have:=l (λd=>if d=k then 0 else g d) (λx y=>by rw[fq,OP rfl,Q1,Qk,bL (g:=λd=>g d*x d) λd L=>by rw[OO (λe:d=k=>knd (e▸L))]];exact q x y) c (OZ _ m)
    rwa[OO (λe:c=k=>knd (e▸m))]at this
   have r':=ih.mpr (aB.mpr Q);by_cases e:rkC (ts.map cR) s=rkC (ts.map cR) b
   .exfalso;have cl:=Mk.cl (λz=>∃g:Nat->Int,∀n:Nat->Int,(sL (aq b) λc=>g c*(n (ts.getD c (0,0)).1-n (ts.getD c (0,0)).2))=n (ts.getD k (0,0)).1-n z) (λj t r _=>by
     obtain⟨c,m,rfl⟩:=OX.mp (O5 r);have more:∀(a:Int)(g n:Nat->Int),(sL (aq b) λd=>(g d+if d=c then a else 0)*(n (ts.getD d (0,0)).1-n (ts.getD d (0,0)).2))=(sL (aq b) λd=>g d*(n (ts.getD d (0,0)).1-n (ts.getD d (0,0)).2))+a*(n (ts.getD c (0,0)).1-n (ts.getD c (0,0)).2):=λa g n=>by
      have o:=kf (cs:=aq b) (f:=λd=>(if d=c then a else 0)*(n (ts.getD d (0,0)).1-n (ts.getD d (0,0)).2)) (a:=c) (Py.filter _:(aq b).Nodup) m λd _ dc=>by rw[OO dc,Q1]
      rw[OP rfl]at o;rw[<-o,<-qL];exact bL λd _=>Int.add_mul ..
     constructor
     .rintro⟨g,q⟩;exact#[λd=>g d+if d=c then 1 else 0,λn=>by rw[more 1 g n,q];lia]
     .rintro⟨g,q⟩;exact#[λd=>g d+if d=c then-1 else 0,λn=>by rw[more (-1) g n,q];lia]) _ _ v.1 v.2 (ax.mp e)
    obtain⟨g,q⟩:=cl.mp #[λ_=>0,λn=>by rw[Qu];have:=fi 0 (λc=>n (ts.getD c (0,0)).1-n (ts.getD c (0,0)).2) (aq b);rwa[Q1]at this]
    have:=l (λc=>if c=k then-1 else g c) (λx y=>by obtain⟨i,hi,rfl⟩:=OX.mp y;rw[fq,OP rfl,bL (g:=λc=>g c*(((if(ts.getD c (0,0)).1=i then 1 else 0):Int) -if(ts.getD c (0,0)).2=i then 1 else 0)) λd L=>by rw[OO (λe:d=k=>knd (e▸L))];rfl,q λa=>if a=i then 1 else 0];show(3:Int)∣ -1*((if(ts.getD k (0,0)).1=i then 1 else 0) -if(ts.getD k (0,0)).2=i then 1 else 0)+_;rw[Q3,Qs,Int.add_left_neg];exact PK _) k O6
    rw[OP rfl]at this
    revert this
    decide
   .lia
theorem IM:Tern ts.length (rkC (ts.map cR)):=by have M:=qi (ts.map cR) h8;have N:=jI aM (bU (lF ts) (List.range p)) h8;have fr:∀s,s<2^ts.length->(rkC (ts.map cR) s=sz s↔bQ 3 (bU (lF ts) (List.range p)) s=sz s):=λs a=>A5 hb h8 _ s rfl a;obtain⟨B,b,d,e⟩:=M.some_base;obtain⟨C,c,f,g⟩:=N.some_base;have i:=b.lt (aJ _);have j:=c.lt (aJ _);have l:=(fr B i).mp (e.trans d.symm);have m:=(fr C j).mpr (g.trans f.symm);have m1:=N.mono b (aJ _);have m2:=M.mono c (aJ _);refine#[_,λs a=>uH M N rfl () (λS h k=> ?_) a];have:=fr S h;rwa[k]at this
end
def sf{R S:Nat}(h:∀t,S.testBit t=true->∀i,i<R->m∣f t i-g t i):oE m f R S↔oE m g R S:=by
 have d:∀ {f g:Nat->Nat->Int},(∀t,S.testBit t=true->∀i,i<R->m∣f t i-g t i)->oE m f R S->oE m g R S:=λ{f g} h b φ e=>b φ λt a=>by
  have:m∣ev R φ (f t) -ev R φ (g t):=mh λi c=>by rw[<-Q5];exact Pj (h t a i (OS.mp c))
  have:=Q4 this (e t a);rwa[Rf]at this
 exact#[d h,d λt a i c=>by have:=Int.dvd_neg.mpr (h t a i c);rwa[Int.neg_sub]at this]
def JY(k:n<8)(f:p<=n)(g:∀s,s<2^n->q (ba p s)=r s)(h:Bi2 (n+1) q):Bi2 n r:=by
 obtain⟨L,d⟩:=h;refine#[L.map λx t=>x (if t<p then t else t+1),λs b=> ?_];unfold bQ;rw[Cu cU,<-g s b,d _ (ny b f)];refine fO cU λj=> ?_;rw[aK,eX,OX];constructor
 .rintro⟨i,h⟩;by_cases c:j<p
  .rw[OP c]at h;exact#[j,aK.mpr #[i,h],OP c]
  .rw[OO c]at h;by_cases e:j=p
   .rw[OP e]at h;cases h
   .rw[OO e]at h;exact#[j-1,aK.mpr #[9,h],by rw[OO ()];lia]
 .rintro⟨t,a,rfl⟩;have a:=aK.mp a;have:=bD b a.2;by_cases c:t<p
  .rw[OP c,OP c];exact a
  .rw[OO c,OO (),OO (),SA];exact#[9,a.2]
def NB{L:List Row}(M:Mat n r)(a:r (2^n-1)=R)(hl:L.length=R)(h:∀S,S<2^n->sz S=R->(bQ 2 L S=R↔r S=R)):Bi2 n r:=by have N:=jI cU L M.n8;obtain⟨B,b,c,d⟩:=M.some_base;have g:=b.lt (aJ n);have:=(h B g (c.trans a)).mpr (d.trans a);have m1:=N.mono b (aJ n);have m2:=pN cU L (aq (2^n-1));have m3:bQ 2 L (2^n-1)<=L.length:=m2;exact#[L,λs f=>uH M N a () (λS e i=>(h S e i).symm) f]
def sg3(z:Int):Int:=if z=2 then-1 else z
def Kf{n R B:Nat}(M:Mat n r)(s:r (2^n-1)=R)(b:Bi2 n r)(q:B<2^n)(l:sz B=R)(w:r B=R)(u:i0 f B R)(p:∀t,t<n->∀i,i<R->f t i=0\/f t i=1\/f t i=2)
  (fill:∀y,y<n->B.testBit y=false->∀i,i<R->(f y i≠0↔r (exB B (bAt B i) y)=R)) (good:∀S,S<2^n->sz S=R->(bQ 3 (bU f (List.range R)) S=R↔r S=R)):BP n R r B λt i=>sg3 (f t i):=by
 have x:=M.aX q;have J:∀i j,i<R->j<R->f (bAt B i) j=if j=i then 1 else 0:=u;refine#[M,s,q,l,w,λi j a k=> ?_,λt c i a=> ?_,λm A S d o=> ?_]
 .show sg3 (f (bAt B i) j)=_;rw[u i j a k];by_cases e:j=i
  .rw[OP e];rfl
  .rw[OO e];rfl
 .rcases p t c i a with h|h|h<;>rw[h]<;>simp[Sm,sg3]
 .have v:=M.aX d;rcases A with rfl|rfl
  .rw[sf (g:=λt i=>if f t i=0 then 0 else 1) λt c i a=>by rcases p t (bD d c) i a with h|h|h<;>rw[h]<;>decide,xc cU v o]
   refine(wq M s (aJ n) (bO q) l w (g:=bAt B) #[λi a=>(cH l a).1,λi j a k e=>jm l a k e,λt c=>ik x l c] #[λi j a k=> ?_,λy i G H a=> ?_] (b.noFour M s) (bO d) o).symm
   .rw[J i j a k];by_cases e:j=i
    .rw[OP e,OO ∅]
    .rw[OO e,OP rfl]
   .have:=fill y (bD (aJ n) G) H i a;by_cases e:f y i=0
    .rw[OP e,OO λz=>this.mpr z e]
    .rw[OO e,OP (this.mp e)]
  .rw[sf (g:=f) λt c i a=>by rcases p t (bD d c) i a with h|h|h<;>rw[h]<;>decide,xc aM v o]
   exact good S d o
end Bh
set_option maxHeartbeats 4000000
namespace BhK
def top(i:Nat):PySem.Stmt:=PySem.Challenge.pw_basehouse_k43_tables_over_all.main.body.getD i (.Pass #[0,0,0,0])
abbrev pI:=top 1
abbrev lY:=top 2
abbrev tW:=top 3
abbrev md:=top 4
abbrev lX:=top 5
abbrev pH:=top 6
abbrev kG:=top 7
abbrev lZ:=top 8
abbrev mf:=top 9
abbrev tX:=top 10
abbrev iT:=top 12
abbrev gR:=top 17
abbrev pG:=top 18
abbrev pJ:=top 19
abbrev pK:=top 20
abbrev kD:=top 30
abbrev kE:=top 31
abbrev jC:=top 32
abbrev kC:=top 33
abbrev pF:=top 35
abbrev gh:=top 36
abbrev kF:=top 37
abbrev gn:=top 38
abbrev kB:=top 39
abbrev fE:=top 42
abbrev tY:=top 43
abbrev gT:=top 44
abbrev ma:=top 45
abbrev iS:=top 46
abbrev gm:=top 47
abbrev iQ:=top 48
abbrev jA:=top 49
abbrev gS:=top 50
abbrev jB:=top 51
abbrev tV:=top 53
abbrev gU:=top 56
abbrev iU:=top 57
abbrev jF:=top 58
abbrev gY:=top 59
abbrev dB:=top 60
abbrev gZ:=top 61
abbrev gV:=top 62
abbrev iV:=top 63
abbrev dA:=top 64
abbrev gX:=top 65
abbrev jE:=top 66
abbrev jD:=top 67
abbrev iW:=top 68
abbrev gW:=top 69
abbrev eZ:=top 70
abbrev ee:=L2.ft (top 14) 0
abbrev pL:=L2.ft (top 14) 1
abbrev dC:=L2.ft (top 14) 2
abbrev dN:=L2.ft (top 15) 0
abbrev gp:=L2.ft (top 15) 1
abbrev dZ:=L2.ft (top 22) 0
abbrev hU:=L2.ft (top 22) 1
abbrev d8:=L2.ft (top 23) 0
abbrev ia:=L2.ft (top 23) 1
abbrev d9:=L2.ft (top 41) 0
abbrev ib:=L2.ft (top 41) 1
abbrev fF:=L2.ft (top 54) 0
abbrev h9:=L2.ft (top 54) 1
abbrev jG:=L2.ft (top 54) 2
open PySem L2 Bh
structure Tb(K:Frag)(mg:Str->Option Value):Prop where
 len_:mg "len"=none
 range_:mg "range"=none
 isinstance_:mg "isinstance"=none
 int_:mg "int"=none
 bool_:mg "bool"=none
 list_:mg "list"=none
 set_:mg "set"=none
 tuple_:mg "tuple"=none
 max_:mg "max"=none
 min_:mg "min"=none
 zip_:mg "zip"=none
 enumerate_:mg "enumerate"=none
 sum_:mg "sum"=none
 sorted_:mg "sorted"=none
 dict_:mg "dict"=none
 all_:mg "all"=none
 str_:mg "str"=none
 reversed_:mg "reversed"=none
 kII:kitOne K (.type "int") (.type "int")=some true
 kIB:kitOne K (.type "int") (.type "bool")=some false
 kTT:kitOne K (.type "tuple") (.type "tuple")=some true
 kLL:kitOne K (.type "list") (.type "list")=some true
 kSS:kitOne K (.type "str") (.type "str")=some true
def bq{vs:St}(h:vs.length=1):∃v,vs=[v]:=List.length_eq_one_iff.mp h
def rg(ns:List Int):(ns.map V.int).all qm=true:=by
 induction ns with
 |nil=>rfl
 |cons n r a=>rw[PF,Tw,a];rfl
def uR(z:Int)(ns:List Int):inV (.int z) (ns.map V.int)=decide (z∈ns):=by
 unfold inV
 induction ns with
 |nil=>rfl
 |cons n r b=>
  rw[PF,Sf,b];by_cases h:n=z
  .subst h;simp[eqV]
  .have a:¬z=n:=λe=>h e.symm;simp[eqV,h,a]
def bH{ns:List Int}{i:Nat}{y:V}(h:(ns.map V.int)[i]?=some y):∃z,y= .int z/\ns[i]?=some z:=by
 rw[Ph]at h;cases e:ns[i]? with
 |none=>rw[e]at h;cases h
 |some z=>rw[e]at h;exact#[z,(Qd h).symm,2]
def fZ{x y:Int}(a:0<=x)(b:0<=y):Builtin.bitAnd x y=((x.toNat&&&y.toNat:Nat):Int):=by unfold Builtin.bitAnd;rw[OQ a,OQ b]
def ng{x y:Int}(d:0<=x)(e:0<=y):Builtin.bitOr x y=((x.toNat|||y.toNat:Nat):Int):=by
 have b:¬(0<=Builtin.bitNot x):=by unfold Builtin.bitNot;lia
 have c:¬(0<=Builtin.bitNot y):=by unfold Builtin.bitNot;lia
 have ex:Builtin.bitNot (Builtin.bitNot x)=x:=by unfold Builtin.bitNot;lia
 have a:Builtin.bitNot (Builtin.bitNot y)=y:=by unfold Builtin.bitNot;lia
 unfold Builtin.bitOr Builtin.bitAnd;rw[OR b,OR c];show Builtin.bitNot (Builtin.bitNot (((Builtin.bitNot (Builtin.bitNot x)).toNat||| (Builtin.bitNot (Builtin.bitNot y)).toNat:Nat):Int))=_;rw[ex,a];unfold Builtin.bitNot;lia
def Jv{s:Int}(h:0<=s):decide (V.int (s/2^k % 2)=V.int 1)=s.toNat.testBit k:=by
 obtain⟨n,rfl⟩:=QM h;rw[gG];have e:((n:Int) /2^k % 2)=((n/2^k % 2:Nat):Int):=#[5]
 rw[e];by_cases a:n/2^k % 2=1
 .rw[a];simp[a]
 .have b:¬((n/2^k % 2:Nat):Int)=1:=()
  have c:¬V.int ((n/2^k % 2:Nat):Int)=V.int 1:=λe=>b (V.int.inj e);rw[OR c];simp[a]
def ES{s:Int}(c:0<=s)(f:s<256):gI (λi=>s.toNat.testBit i) (λi=> .int (0+(i:Nat))) ((Builtin.Int.intBits s:Nat):Int).toNat=(bits s.toNat).map V.int:=by
 obtain⟨n,rfl⟩:=QM c;have e:Builtin.Int.intBits (n:Int)=if n=0 then 0 else n.log2+1:=by
  unfold Builtin.Int.intBits;by_cases a:n=0
  .subst a;rfl
  .have d:((n:Int)==0)=false:=#[5,a]
   rw[d,OO a];simp
 have b:=JW n ();unfold gI bits;rw[e,OU,PJ];show List.map (λi:Nat=>V.int (0+(i:Int))) (List.filter (λi=>n.testBit i) (List.range (if n=0 then 0 else n.log2+1)))=_;rw[show(λi=>n.testBit i)=n.testBit from rfl,b];refine P4 λk _=> ?_;show V.int (0+(k:Int))=V.int (k:Int);rw[Qk]
inductive Ca(vs:List V)(H:Hp)(Q:VK):Prop
 |mk(s t:Int) (_:vs=[.int s, .int t]) (_:0<=s) (_:0<=t) (_:Q (.bl (s.toNat.testBit t.toNat)) H):Ca vs H Q
def xZ:Sp:=λvs H Q _=>Ca vs H Q
inductive xj(vs:List V)(H:Hp)(Q:VK):Prop
 |mk(s:Int) (_:vs=[.int s]) (_:0<=s) (_:s<256) (_:∀p H',Same H H'->H p=none->H' p=some (.lst ((bits s.toNat).map V.int))->Q (.ref p) H'):xj vs H Q
def iP:Sp:=λvs H Q _=>xj vs H Q
inductive EB(vs:List V)(H:Hp)(Q:VK):Prop
 |mk(s:Int) (_:vs=[.int s]) (_:0<=s) (_:s<256) (_:∀H',Same H H'->Q (.int ((bits s.toNat).length:Nat)) H'):EB vs H Q
def lO:Sp:=λvs H Q _=>EB vs H Q
inductive BR(K:Frag)(vs:List V)(H:Hp)(Q:VK):Prop
 |mk(a:Addr) (ns:List Int) (_:vs=[.ref a]) (_:SqL K H a (ns.map V.int)) (_:(∀z∈ns,0<=z/\z<8)) (_:Q (.int (yd ns:Nat)) H):BR K vs H Q
def xY(K:Frag):Sp:=λvs H Q _=>BR K vs H Q
inductive xh(vs:List V)(H:Hp)(Q:VK):Prop
 |mk(s t:Int) (_:vs=[.int s, .int t]) (_:0<=s) (_:0<=t) (_:Q (.bl (decide (s.toNat&&&t.toNat=s.toNat))) H):xh vs H Q
def Aj:Sp:=λvs H Q _=>xh vs H Q
inductive BQ(vs:List V)(H:Hp)(Q:VK):Prop
 |mk(i:Int) (_:vs=[.int i]) (_:Q (.bl true) H):BQ vs H Q
def xX:Sp:=λvs H Q _=>BQ vs H Q
inductive Ka(K:Frag)(vs:List V)(H:Hp)(Q:VK):Prop
 |mk(a:Addr) (ns:List Int) (_:vs=[.ref a]) (_:SqL K H a (ns.map V.int)) (_:ns.length<=63) (_:∀H',Q (.bl true) H'):Ka K vs H Q
def DM(K:Frag):Sp:=λvs H Q _=>Ka K vs H Q
def bG:V->Int
 | .int z=>z
 |_=>0
def bE(p:Int->Bool)(f:Int->Int)(a:List Int):gr (λx=>p (bG x)) (λx=> .int (f (bG x))) (a.map V.int)=((a.filter p).map f).map V.int:=by unfold gr;rw[RI,PJ,PJ];rfl
def JQ(ns:List Int)(a b:Option Int):∃cs:List Int,sA (ns.map V.int) a b=cs.map V.int/\cs.length<=ns.length:=by
 refine#[(ns.drop (HT.sIx ns.length 0 a)).take (HT.sIx ns.length ns.length b-HT.sIx ns.length 0 a),66]
 .unfold sA;rw[My,<-List.map_drop,<-List.map_take]
 .rw[Pz,Ri];exact OY (Nat.min_le_right _ _) (Nat.sub_le _ _)
def pq{n j:Nat}:decide (V.int (Builtin.bitAnd ((n:Int) /2^(0+(j:Int)).toNat) 1)=V.int 1)=n.testBit j:=by
 have b:(0+(j:Int)).toNat=j:=()
 have c:((n:Int) /2^j)=((n/2^j:Nat):Int):=#[5]
 rw[b,c,fZ (Qg _) ∅,OU];have d:((1:Int).toNat)=1:=rfl;rw[d,Tu,gG];by_cases a:n/2^j % 2=1
 .rw[a];rfl
 .have:¬V.int ((n/2^j % 2:Nat):Int)=V.int 1:=λz=>a (by have:=V.int.inj z;lia);rw[OR this,OR a]
def gA(p:Nat->Bool)(N:Nat):gI p (λi=>V.int (0+(i:Nat))) N=(((List.range N).filter p).map λs:Nat=>(s:Int)).map V.int:=by unfold gI;rw[PJ];refine P4 λk _=> ?_;show V.int (0+(k:Int))=V.int (k:Int);rw[Qk]
def c9(n:Nat):(1*2^((n:Nat):Int).toNat:Int)=((2^n:Nat):Int):=by rw[OU,Qs];simp
def mD{l:List Int}{j:Nat}{z:Int}(h:l[j]?=some z):atI (l.map V.int) (j:Int)=some (.int z):=fv (by rw[Ph,h];rfl)
def cS{l:List Int}(h:j<l.length):atI (l.map V.int) (j:Int)=some (.int (l.getD j 0)):=mD (by simp[h])
inductive Cd(vs:List V)(H:Hp)(Q:VK):Prop
 |mk(n:Int) (_:vs=[.int n]) (_:0<=n) (_:n<=1000) (_:Q (.int (1*2^n.toNat-1)) H):Cd vs H Q
def DS:Sp:=λvs H Q _=>Cd vs H Q
inductive B9(K:Frag)(vs:List V)(H:Hp)(Q:VK):Prop
 |mk(p C dx:Addr) (n:V) (_:vs=[.ref p,n]) (_:H p=some (.ins C dx [])) (_:Cls K C) (_:bK K C "many") (_:Q .non (upd H p (.ins C dx (cf "many" n [])))):B9 K vs H Q
def nF(K:Frag):Sp:=λvs H Q _=>B9 K vs H Q
inductive Cb(K:Frag)(vs:List V)(H:Hp)(Q:VK):Prop
 |mk(a C dx:Addr) (fs:List (Str×V)) (n:Int) (_:vs=[.ref a]) (_:H a=some (.ins C dx fs)) (_:Cls K C) (_:bK K C "many") (_:fs.lookup ("many":Str)=some (.int n)) (_:0<=n) (_:n<=1000) (_:Q (.int (1*2^n.toNat-1)) H):Cb K vs H Q
def eQ(K:Frag):Sp:=λvs H Q _=>Cb K vs H Q
def liF(n:Int)(t:Addr):List (Str×V):=cf "listed" (.ref t) (cf "many" (.int n) [])
def Be:¬(("many":Str)= "listed"):=#[9]
def Ji(n:Int)(t:Addr):(liF n t).lookup ("many":Str)=some (.int n):=by unfold liF;rw[az _ _ Be,aR]
def CU(n:Int)(t:Addr):(liF n t).lookup ("listed":Str)=some (.ref t):=aR _ _ _
def Jh(n:Int)(t:Addr){m:Str}(a:¬m= "listed")(b:¬m= "many"):(liF n t).lookup m=none:=by unfold liF;rw[az _ _ a,az _ _ b];rfl
def Jg(n:Int)(t:Addr):(liF n t).lookup ("rank":Str)=none:=Jh _ _ #[9] #[9]
def FW(n:Int)(t:Addr):(liF n t).lookup ("everything":Str)=none:=Jh _ _ #[9] #[9]
def J5(C:Addr)(H:Hp)(a:Addr)(n:Int)(ms:List Int):Prop:=∃b t,H a=some (.ins C b (liF n t))/\H t=some (.tup (ms.map V.int))/\ms.length<=1000
def J5.same(h:J5 C H a n ms)(e:Same H H'):J5 C H' a n ms:=by obtain⟨b,t,c,d,f⟩:=h;exact#[b,t,e.at c,e.at d,f]
inductive B4(K:Frag)(C:Addr)(vs:List V)(H:Hp)(Q:VK):Prop
 |mk(p dx a:Addr) (n:Int) (ms:List Int) (_:vs=[.ref p, .int n, .ref a]) (_:H p=some (.ins C dx [])) (_:SqL K H a (ms.map V.int)) (_:ms.length<=1000) (_:∀t H',H t=none->(∀b o,H b=some o->b≠p->H' b=some o)->H' p=some (.ins C dx (liF n t))->H' t=some (.tup (ms.map V.int))->Q .non H'):B4 K C vs H Q
def DP(K:Frag)(C:Addr):Sp:=λvs H Q _=>B4 K C vs H Q
inductive BW(C:Addr)(vs:List V)(H:Hp)(Q:VK):Prop
 |mk(a:Addr) (n s:Int) (ms:List Int) (_:vs=[.ref a, .int s]) (_:J5 C H a n ms) (_:ms≠[]) (_:(∀m∈ms,0<=m/\m<256)) (_:0<=s) (_:s<256) (_:∀H',Same H H'->Q (.int (cI ms s.toNat:Nat)) H'):BW C vs H Q
def DJ(C:Addr):Sp:=λvs H Q _=>BW C vs H Q
def cJ(l:List Nat):List Int:=l.map λs:Nat=>(s:Int)
def eC(h:z∈cJ l):∃s:Nat,s∈l/\z=s:=by obtain⟨s,a,rfl⟩:=OX.mp h;exact#[s,a,2]
def GJ{vs:St}(h:vs.length=2):∃v w,vs=[v,w]:=by
 match vs,h with
 | [v,w],_=>exact#[v,w,2]
inductive BY(K:Frag)(vs:List V)(H:Hp)(Q:VK):Prop
 |mk(a:Addr) (xs:List V) (L:List (List Int)) (c n:Nat) (_:vs=[.ref a, .int (c:Int)]) (_:H a=some (.lst xs)) (_:a9 H xs L) (_:(∀r∈L,r.length=n)) (_:c<n) (_:(∀(i:Nat)(r:List Int)(H':Hp),Same H H'->L[i]?=some r->¬r.getD c 0=0->Q (.int (i:Int)) H')) (_:((∀r∈L,r.getD c 0=0)->∀H',Same H H'->Q .non H')):BY K vs H Q
def DL(K:Frag):Sp:=λvs H Q _=>BY K vs H Q
def oU(d:Int)(a r:List Int)(c:Nat):List Int:=(List.range r.length).map λj=>(r.getD j 0*a.getD c 0-a.getD j 0*r.getD c 0).fdiv d
def nh(n B:Nat)(r:List Int):Prop:=r.length=n/\∀z∈r,z.natAbs<2^B
def nh.at{r:List Int}(h:nh n B r)(j:Nat):(r.getD j 0).natAbs<2^B:=by
 by_cases a:j<r.length
 .have e:r.getD j 0=r[j]:=by simp[a]
  rw[e];exact h.2 _ (Qt a)
 .have e:r.getD j 0=0:=by simp[a]
  rw[e];exact QU ∅
def Kk{x y:Int}(a:x.natAbs<2^k)(b:y.natAbs<2^k):(x-y).natAbs<2^(k+1):=by rw[R7];lia
def Jz(a b:Int):(a.fdiv b).natAbs<=a.natAbs:=Int.natAbs_fdiv_le_natAbs a b
def LC(b:nh n B pr)(a:nh n B r):nh n (B+B+1) (oU d pr r c):=by refine#[by unfold oU;rw[My,O8];exact a.1,λz e=> ?_];obtain⟨j,_,rfl⟩:=OX.mp e;exact Pd (Jz _ _) (Kk (zL (a.at j) (b.at c)) (zL (b.at j) (a.at c)))
inductive sd(K:Frag)(vs:List V)(H:Hp)(Q:VK):Prop
 |mk(a b:Addr) (r pr:List Int) (c n B:Nat) (d:Int) (_:vs=[.ref a, .ref b, .int (c:Int), .int d]) (_:SqL K H a (r.map V.int)) (_:SqL K H b (pr.map V.int)) (_:nh n B r) (_:nh n B pr) (_:c<n) (_:n<=1000) (_:B<=2^24) (_:CFd 0 d) (_:∀q H',Same H H'->H q=none->H' q=some (.lst ((oU d pr r c).map V.int))->Q (.ref q) H'):sd K vs H Q
def tQ(K:Frag):Sp:=λvs H Q _=>sd K vs H Q
inductive xN(K:Frag)(vs:List V)(H:Hp)(Q:VK):Prop
 |mk(a:Addr) (xs:List V) (L:List (List Int)) (i c n B:Nat) (d:Int) (pr:List Int) (_:vs=[.ref a, .int (i:Int), .int (c:Int), .int d]) (_:H a=some (.lst xs)) (_:a9 H xs L) (_:(∀r∈L,nh n B r)) (_:L.length<=1000) (_:L[i]?=some pr) (_:c<n) (_:n<=1000) (_:B<=2^24) (_:(2<=L.length->CFd 0 d)) (_:∀q H' ys,Same H H'->H q=none->H' q=some (.lst ys)->a9 H' ys ((L.take i++L.drop (i+1)).map λr=>oU d pr r c)->Q (.ref q) H'):xN K vs H Q
def Az(K:Frag):Sp:=λvs H Q _=>xN K vs H Q
def dD(l:List Int):Row:=λj=>l.getD j 0
def HJ{a r:List Int}(h:a.length=n)(i:r.length=n)(g:c<n):dD (oU d a r c)=cx d (dD a) c (dD r):=by
 funext j;show(oU d a r c).getD j 0=(r.getD j 0*a.getD c 0-a.getD j 0*r.getD c 0).fdiv d;unfold oU;by_cases b:j<r.length
 .simp[b]
 .have e:r.getD j 0=0:=by simp[b]
  have f:a.getD j 0=0:=by
   have:¬j<a.length:=()
   simp[this]
  rw[e,f,Q1,Q1,Qu,Int.zero_fdiv];simp[b]
def jc:Nat->Nat
 |0=>200
 |i+1=>jc i+jc i+1
def Gy:∀i,i<9->jc i<=2^24:=∅
def zI:∀i,i<6->jc i<9000:=∅
def Nd{d:Int}(h:d.natAbs<2^B)(b:B<9000)(a:d≠0):d.natAbs.log2<9000:=by have:d.natAbs.log2<B:=(Nat.log2_lt ()).mpr h;lia
def JO{a:Type}{L:List a}{i:Nat}{p:a}(h:L[i]?=some p):L=L.take i++p::L.drop (i+1):=by obtain⟨b,e⟩:=O1.mp h;rw[<-e,List.getElem_cons_drop,List.take_append_drop]
def Cw(h:i<n):List.range' i (n-i)=i::List.range' (i+1) (n- (i+1)):=by rw[show n-i=(n- (i+1))+1 by lia,List.range'_succ]
def eI(m:Int)(r:List Int):List Int:=if m=0 then r else r.map λz=>z % m
def IY(m:Int)(r:Row):Row:=λj=>if m=0 then r j else r j % m
def Ff(m:Int)(r:List Int):dD (eI m r)=IY m (dD r):=by
 funext j;unfold dD eI IY;by_cases h:m=0
 .rw[OP h,OP h]
 .rw[OO h,OO h];by_cases a:j<r.length
  .simp[a]
  .simp[a]
def A6(m:Int)(r:Row)(j:Nat):m∣IY m r j-r j:=by
 unfold IY;by_cases h:m=0
 .rw[OP h,Qu];exact PK m
 .rw[OO h];have:r j % m-r j=m*(-(r j/m)):=by have:=S4 (r j) m;rw[Sh];lia
  rw[this];exact SK _ _
def Fh(m:Int)(r:List Int):(eI m r).length=r.length:=by
 unfold eI;split
 .rfl
 .rw[My]
def AK(d:0<=m)(e:m<128)(b:7<=B)(h:nh n B r):nh n B (eI m r):=by
 refine#[by rw[Fh];exact h.1,λz a=> ?_];unfold eI at a;split at a
 .exact h.2 z a
 .rename_i c;obtain⟨y,_,rfl⟩:=OX.mp a;have g1:=QS y c;have g2:=QL y (show 0<m by lia);exact OW (show(y % m).natAbs<2^7 by lia) (Pr ∅ b)
def DW(b:0<m):∀z∈eI m r,0<=z/\z<m:=λz a=>by unfold eI at a;rw[OO ()]at a;obtain⟨y,_,rfl⟩:=OX.mp a;exact#[QS y (),QL y b]
inductive BU(K:Frag)(vs:List V)(H:Hp)(Q:VK):Prop
 |mk(a:Addr) (r:List Int) (m:Int) (_:vs=[.ref a, .int m]) (_:SqL K H a (r.map V.int)) (_:0<=m) (_:r.length<=1000) (_:∀q H',Same H H'->H q=none->H' q=some (.lst ((eI m r).map V.int))->Q (.ref q) H'):BU K vs H Q
def DH(K:Frag):Sp:=λvs H Q _=>BU K vs H Q
inductive xA(K:Frag)(vs:List V)(H:Hp)(Q:VK):Prop
 |mk(a:Addr) (xs:List V) (M:List (List Int)) (n:Nat) (m:Int) (_:vs=[.ref a, .int m]) (_:H a=some (.lst xs)) (_:a9 H xs M) (_:M.length<=8) (_:n<=8) (_:(∀r∈M,nh n 200 r)) (_:bZ m) (_:∀(r:Nat) H',Same H H'->Van m (r+1) (M.map dD) (List.range n)->Mnr m r (M.map dD) (List.range n)->Q (.int (r:Int)) H'):xA K vs H Q
def Aq(K:Frag):Sp:=λvs H Q _=>xA K vs H Q
def k7:∀i,7<=jc i
 |0=>∅
 |i+1=>by have:=k7 i;show 7<=jc i+jc i+1;lia
def Kt{r:List Int}(h:¬r.getD c 0=0):r.getD c 0∈r:=by
 by_cases a:c<r.length
 .have e:r.getD c 0=r[c]:=by simp[a]
  rw[e];exact Qt a
 .exact absurd (by simp[a]) h
def MZ{m x:Int}(b:0<=m)(a:0<m->0<=x/\x<m)(h:¬x=0):¬m∣x:=λd=>by
 by_cases e:m=0
 .rw[e]at d;exact h (Sy.mp d)
 .obtain⟨g1,g2⟩:=a ();have:=Int.le_of_dvd () d;lia
structure Mg(H:Hp)(a C:Addr)(n:Nat):Prop where
 ex:∃dx fs,H a=some (.ins C dx fs)/\fs.lookup ("rank":Str)=none/\fs.lookup ("everything":Str)=none/\fs.lookup ("many":Str)=some (.int (n:Int))
def oN(a:n<=8)(b:s<2^n):s<256:=OW b (Pr (n:=2) () a)
def jd.imp(F:jd P w K mg base k f ps sp)(h:∀vs H Q E,sp' vs H Q E->sp vs H Q E):jd P w K mg base k f ps sp':=by obtain⟨⟨c,a,b⟩,d⟩:=F;exact#[#[c,a.imp h,b],d]
structure HC(K:Frag)(C_House C:Addr):Prop where
 cl:Cls K C
 nM:bK K C "many"
 ty:TyC K C
 isH:kitOne K (.ref C) (.ref C_House)=some true
def dn.mono(M:dn P w K mg base j C m ps sp)(h:j<=k):dn P w K mg base k C m ps sp:=by obtain⟨c,f,a,F⟩:=M;exact#[c,f,a,jd.mono F h]
def dn.imp(M:dn P w K mg base k C m ps sp)(h:∀vs H Q E,sp' vs H Q E->sp vs H Q E):dn P w K mg base k C m ps sp':=by obtain⟨c,f,a,F⟩:=M;exact#[c,f,a,jd.imp F h]
def otF(n:Int)(h:Addr)(a fr:Int):List (Str×V):=cf "full_rank" (.int fr) (cf "full" (.int a) (cf "house" (.ref h) (cf "many" (.int n) [])))
def MV(n:Int)(h:Addr)(a fr:Int):(otF n h a fr).lookup ("full_rank":Str)=some (.int fr):=aR _ _ _
def Iz(n:Int)(h:Addr)(a fr:Int):(otF n h a fr).lookup ("full":Str)=some (.int a):=by unfold otF;rw[az _ _ #[9],aR]
def FC(n:Int)(h:Addr)(a fr:Int):(otF n h a fr).lookup ("house":Str)=some (.ref h):=by unfold otF;rw[az _ _ #[9],az _ _ #[9],aR]
def Iy(n:Int)(h:Addr)(a fr:Int):(otF n h a fr).lookup ("many":Str)=some (.int n):=by unfold otF;rw[az _ _ #[9],az _ _ #[9],az _ _ #[9],aR]
def Iw(n:Int)(h:Addr)(a fr:Int){m:Str}(b:¬m= "full_rank")(c:¬m= "full")(d:¬m= "house")(e:¬m= "many"):(otF n h a fr).lookup m=none:=by unfold otF;rw[az _ _ b,az _ _ c,az _ _ d,az _ _ e];rfl
abbrev HsP:=Addr->Nat->(Nat->Nat)->Prop
def Oo(c:Addr)(H:Hp)(X:HsP)(a:Addr)(n:Nat)(r:Nat->Nat):Prop:=∃(d h:Addr)(b:Nat->Nat),H a=some (.ins c d (otF n h ((2^n-1:Nat):Int) (b (2^n-1):Nat)))/\X h n b/\∀s,s<2^n->(r s:Int)=(sz s:Int)+(b (ao (2^n-1) s):Nat) - (b (2^n-1):Nat)
def tR(h:Mg (hide H p) a C n):a≠p:=by obtain⟨c,fs,b,_⟩:=h.ex;intro e;subst e;unfold hide at b;rw[OP rfl]at b;cases b
def kY:ao (2^n-1) s<2^n:=Pd (iK _ _) (by have:0<2^n:=QU ();lia)
def nK(g:H p=none)(f:H a=none):Same H (hide (upd (upd H a x) p y) p):=λb o e=>by have c:b≠p:=aI e g;have d:b≠a:=aI e f;rw[eU c,aE c,aE d];exact e
structure Hs where
 ho:Hp->Addr->Nat->(Nat->Nat)->Prop
 dom:Addr->Prop
structure iC(Z:Hs):Prop where
 same:∀ {H H':Hp} {a:Addr} {n:Nat} {r:Nat->Nat},Same H H'->Z.ho H a n r->Z.ho H' a n r
 shown:∀ {H:Hp} {a:Addr} {n:Nat} {r:Nat->Nat},Z.ho H a n r->∃C,Z.dom C/\Mg H a C n
inductive Mh(Z:Hs)(C:Addr)(vs:List V)(H:Hp)(Q:VK):Prop
 |mk(a:Addr) (n s:Nat) (r:Nat->Nat) (_:vs=[.ref a, .int (s:Int)]) (_:Z.ho H a n r) (_:(∃dx fs,H a=some (.ins C dx fs))) (_:n<=8) (_:s<2^n) (_:∀H',Same H H'->Q (.int (r s:Nat)) H'):Mh Z C vs H Q
def jx(Z:Hs)(C:Addr):Sp:=λvs H Q _=>Mh Z C vs H Q
def OM(b:Addr)(H:Hp)(a:Addr)(n:Nat)(r:Nat->Nat):Prop:=∃ms:List Int,J5 b H a n ms/\ms≠[]/\(∀m∈ms,0<=m/\m<256)/\∀s,s<2^n->r s=cI ms s
def hsO(Z:Hs)(b:Addr):Hs:=#[λH a n r=>Z.ho H a n r\/Oo b H (Z.ho H) a n r,λC=>Z.dom C\/C=b]
def CZ(z:iC Z)(d:Addr):iC (hsO Z d) where
 same:=λe h=>by
  rcases h with h|⟨c,h',g,a,b,f⟩
  .exact .inl (z.same e h)
  .exact .inr #[c,h',g,e.at a,z.same e b,f]
 shown:=λh=>by
  rcases h with h|⟨c,h',g,a,b,f⟩
  .obtain⟨C,a,b⟩:=z.shown h;exact#[C, .inl a,b]
  .exact#[d, .inr rfl,c,_,a,Iw _ _ _ _ #[9] #[9] #[9] #[9],Iw _ _ _ _ #[9] #[9] #[9] #[9],Iy _ _ _ _]
def sV{H:Hp}{a C b c d:Addr}{fs e:List (Str×V)}(h:H a=some (.ins C c fs))(h':H a=some (.ins b d e)):C=b:=by
 rw[h]at h';injection h' with h'
 injection h' with f
def wu(g:cO≠C)(vs:List V)(H:Hp)(Q:VK)(E:XK)(h:jx (hsO Z cO) C vs H Q E):jx Z C vs H Q E:=by
 obtain⟨a,n,s,r,rfl,b,⟨d,e,c⟩,j,i,k⟩:=h;rcases b with b|⟨l,h',m,f,_⟩
 .exact#[a,n,s,r,2,b,#[d,e,c],j,i,k]
 .exact absurd (sV c f).symm g
inductive xH(Z:Hs)(cO:Addr)(vs:List V)(H:Hp)(Q:VK):Prop
 |mk(p dx h:Addr) (n:Nat) (r:Nat->Nat) (_:vs=[.ref p, .ref h]) (_:H p=some (.ins cO dx [])) (_:Z.ho (hide H p) h n r) (_:n<=8) (_:∀H',(∀b o,H b=some o->b≠p->H' b=some o)->H' p=some (.ins cO dx (otF n h ((2^n-1:Nat):Int) (r (2^n-1):Nat)))->Q .non H'):xH Z cO vs H Q
def tP(Z:Hs)(a:Addr):Sp:=λvs H Q _=>xH Z a vs H Q
inductive xi(Z:Hs)(vs:List V)(H:Hp)(Q:VK):Prop
 |mk(a:Addr) (n:Nat) (r:Nat->Nat) (_:vs=[.ref a]) (_:Z.ho H a n r) (_:n<=8) (_:∀H',Same H H'->Q (.int (r (2^n-1):Nat)) H'):xi Z vs H Q
def iO(Z:Hs):Sp:=λvs H Q _=>xi Z vs H Q
def gM(n:Nat)(r:Nat->Nat):List Int:=(List.range (2^n)).map λs=>(r s:Int)
def pe(n:Nat)(r:Nat->Nat):(gM n r).length=2^n:=by unfold gM;rw[My,O8]
def pf{n s:Nat}(r:Nat->Nat)(a:s<2^n):atI ((gM n r).map V.int) (s:Int)=some (.int (r s:Nat)):=fv (by unfold gM;rw[Ph,Ph,Qp a];rfl)
def ou(h:n<=8):2^n<=256:=Pr (n:=2) () h
def fY(x y:Nat):Builtin.bitOr (x:Int) (y:Int)=((x|||y:Nat):Int):=by rw[ng (Qg _) (Qg _),OU,OU]
def jU(x y:Nat):Builtin.bitAnd (x:Int) (y:Int)=((x&&&y:Nat):Int):=by rw[fZ (Qg _) (Qg _),OU,OU]
def iZ:(1*2^((n:Nat):Int).toNat-1:Int)=((2^n-1:Nat):Int):=by
 have h:0<2^n:=QU ();have e:((2:Int)^n)=((2^n:Nat):Int):=#[5]
 rw[OU,Qs,e];lia
inductive B1(vs:List V)(H:Hp)(Q:VK):Prop
 |mk(s:Int) (_:vs=[.int s]) (_:0<=s) (_:s<256) (_:Q (.int ((bits s.toNat).length:Nat)) H):B1 vs H Q
def ji:Sp:=λvs H Q _=>B1 vs H Q
def fR(l:List Nat)(p:Int->Bool):(cJ l).filter p=cJ (l.filter λs:Nat=>p (s:Int)):=by unfold cJ;rw[RI];rfl
def aV(x y:Nat):decide (V.int (x:Int)=V.int (y:Int))=decide (x=y):=by
 by_cases h:x=y
 .rw[OQ h,h,OQ rfl]
 .rw[OR h,OR λz=>h (by have:=V.int.inj z;lia)]
inductive EC(vs:List V)(H:Hp)(Q:VK):Prop
 |mk(s t:Nat) (_:vs=[.int (s:Int), .int (t:Int)]) (_:Q (.int (ao s t:Nat)) H):EC vs H Q
def qK:Sp:=λvs H Q _=>EC vs H Q
def nG(k:Nat):(1*2^((k:Nat):Int).toNat:Int)=((2^k:Nat):Int):=c9 k
abbrev a8:Str:=#[#v[116,119,111,32,111,102,32,102,111,117,114]]
abbrev bz:Str:=#[#v[116,119,111,32,111,102,32,102,105,118,101]]
abbrev aY:Str:=#[#v[116,104,114,101,101,32,111,102,32,102,105,118,101]]
abbrev eO:Str:=#[#v[115,101,118,101,110]]
abbrev bg:Str:=#[#v[111,116,104,101,114,32,115,101,118,101,110]]
def fc(n:Nat)(r:Nat->Nat):V:=if dX n r 4 2=true then .str a8 else if dX n r 5 2=true then .str bz else if dX n r 5 3=true then .str aY else if bP n r=true then .str eO else if bP n (iu n r)=true then .str bg else .non
inductive BZ(vs:List V)(H:Hp)(Q:VK):Prop
 |mk(s:Int) (_:vs=[.int s]) (_:0<=s) (_:s<256) (_:∀p H',Same H H'->H p=none->H' p=some (.lst ((kh s.toNat).map V.int))->Q (.ref p) H'):BZ vs H Q
def sG:Sp:=λvs H Q _=>BZ vs H Q
inductive vB(vs:List V)(H:Hp)(Q:VK):Prop
 |mk(s k:Int) (_:vs=[.int s, .int k]) (_:0<=s) (_:s<256) (_:∀p H',Same H H'->H p=none->H' p=some (.lst ((fM s.toNat k).map V.int))->Q (.ref p) H'):vB vs H Q
def kA:Sp:=λvs H Q _=>vB vs H Q
inductive xG(Z:Hs)(vs:List V)(H:Hp)(Q:VK):Prop
 |mk(a:Addr) (n m k:Nat) (r:Nat->Nat) (_:vs=[.ref a, .int (m:Int), .int (k:Int)]) (_:Z.ho H a n r) (_:n<=8) (_:∀H',Same H H'->Q (.bl (dX n r m k)) H'):xG Z vs H Q
def Au(Z:Hs):Sp:=λvs H Q _=>xG Z vs H Q
inductive vA(K:Frag)(vs:List V)(H:Hp)(Q:VK):Prop
 |mk(a:Addr) (p:Nat) (L:List Nat) (_:vs=[.ref a, .int (p:Int)]) (_:SqL K H a ((cJ L).map V.int)) (_:L.length<=1000) (_:∀q H',Same H H'->H q=none->H' q=some (.lst ((cJ (L.filter λt=>decide (p&&&t=p))).map V.int))->Q (.ref q) H'):vA K vs H Q
def wA(K:Frag):Sp:=λvs H Q _=>vA K vs H Q
inductive vz(Z:Hs)(vs:List V)(H:Hp)(Q:VK):Prop
 |mk(a:Addr) (n:Nat) (r:Nat->Nat) (_:vs=[.ref a]) (_:Z.ho H a n r) (_:n<=8) (_:∀H',Same H H'->Q (.bl (bP n r)) H'):vz Z vs H Q
def wz(Z:Hs):Sp:=λvs H Q _=>vz Z vs H Q
inductive xF(Z:Hs)(vs:List V)(H:Hp)(Q:VK):Prop
 |mk(a:Addr) (n:Nat) (r:Nat->Nat) (_:vs=[.ref a]) (_:Z.ho H a n r) (_:n<=8) (_:Dt n r) (_:∀H',Same H H'->Q (fc n r) H'):xF Z vs H Q
def As(Z:Hs):Sp:=λvs H Q _=>xF Z vs H Q
def mY{n k:Nat}(a:n<=8):fM (2^n-1) (k:Int)=cJ (eF n k):=by unfold fM eF;rw[qQ n ()];show(cJ (List.range (2^n))).filter _=_;rw[fR];refine PN cJ (Qi λs _=> ?_);rw[OU];exact QG.mpr #[λz=>by show(bits s).length=k;lia,λz=>by have:(bits s).length=k:=z;lia]
def cA(L:List Nat):(cJ L).length=L.length:=My _
def sZ(n k:Nat)(a:n<=8):(eF n k).length<=256:=OY (Qy _ _) (by rw[O8];exact oP a)
def qS(g:Int->Bool)(a:List Int):gr (λx=>(λ_=>true) (bG x)) (λx=>V.bl (g (bG x))) (a.map V.int)=(a.map g).map V.bl:=by unfold gr;rw[Qq.mpr (λ_ _=>rfl),PJ,PJ];rfl
def BO(g:Int->Bool)(L:List Nat):((cJ L).map g).all id=L.all λs:Nat=>g (s:Int):=by unfold cJ;rw[PJ,List.all_map];rfl
def Fv:∀G:Nat,G<256->kh G=((List.range 256).filter λs=>(s&&&G)==s).map (λs:Nat=>(s:Int)):=#[9]
def ph:s&&&G=s↔Sub s G:=by
 constructor
 .intro h k a;rw[<-h,PD,Pc]at a;exact a.2
 .intro h;refine O2 λk=> ?_;rw[PD];cases e:s.testBit k with
  |false=>rfl
  |true=>rw[h k e];rfl
def gK(c:G<256):z∈fM G k↔∃S:Nat,z=(S:Int)/\Sub S G/\((sz S:Nat):Int)=k:=by
 unfold fM;rw[Pn,Fv G c,OX];constructor
 .rintro⟨⟨S,d,rfl⟩,b⟩;have a:=(Pn.mp d).2;exact#[S,2,ph.mp #[5,a],O9 b]
 .rintro⟨S,rfl,a,b⟩;exact#[#[S,Pn.mpr #[OS.mpr (a.lt (n:=8) c),#[5,ph.mpr a]],2],OQ b]
def jS(c:Nat->List Int):Nat->Nat->Int:=λt j=>(c t).getD j 0
def dS(c:Nat->List Int)(y:Nat)(col:List Int):Nat->List Int:=λt=>if t=y then col else c t
structure je(H:Hp)(d:Addr)(ks:List Nat)(q:Nat->Addr)(c:Nat->List Int):Prop where
 dict:H d=some (.dK (oa (ks.map λt:Nat=>((t:Int),V.ref (q t)))))
 cols:∀t∈ks,H (q t)=some (.lst ((c t).map V.int))
def je.same(h:je H d ks q c)(e:Same H H'):je H' d ks q c:=#[e.at h.dict,λt a=>e.at (h.cols t a)]
structure zX(p:Int)(R G:Nat)(ks:List Nat)(c:Nat->List Int):Prop where
 keys:∀t,t∈ks↔G.testBit t=true
 nod:ks.Nodup
 len:∀t∈ks,(c t).length=R
 num:∀t∈ks,∀z∈c t,0<=z/\z<p
def Jy{a:List Nat}{q:Nat->Addr}{t:Nat}(h:t∈a):((a.map λt:Nat=>((t:Int),V.ref (q t))).find? λp=>decide (p.1=(t:Int))).map (·.2)=some (V.ref (q t)):=by
 induction a with
 |nil=>exact absurd h Pe
 |cons k a b=>
  rw[PF,RH];by_cases e:k=t
  .subst e;simp
  .have:¬((k:Int)=(t:Int)):=λz=>e ();rw[OR this];exact b (by rcases OT.mp h with z|z;exact absurd z.symm e;exact z)
def je.get(h:je H d ks q c)(a:t∈ks):Dy H d (.int (t:Int)) (some (.ref (q t))):=by have:=Dy.k (k:=Sum.inl (t:Int)) h.dict;rwa[Mi,Jy a]at this
def Js{G:Nat}(d:∀t,t∈a↔G.testBit t=true):yd (cJ a)=G:=O2 λj=>by
 have:=sH (cJ a) 0 j (λz g=>by obtain⟨s,_,rfl⟩:=eC g;lia);rw[Pw]at this;have e:((j:Int)∈cJ a)↔G.testBit j=true:=by
  rw[<-d j];constructor
  .intro h;obtain⟨s,f,e⟩:=eC h;have:j=s:=()
   exact this▸f
  .exact λh=>OX.mpr #[j,h,2]
 cases b:G.testBit j with
 |true=>exact this.mpr (.inr (e.mpr b))
 |false=>
  cases c:(yd (cJ a)).testBit j with
  |false=>rfl
  |true=>
   rcases this.mp c with z|z
   .cases z
   .rw[e.mp z]at b;cases b
def Fe{H:Hp}{q:Nat->Addr}{c:Nat->List Int}{col:List Int}{a:Addr}{y:Nat}{cs:List Nat}(h:∀t∈cs,H (q t)=some (.lst ((c t).map V.int))/\t≠y)(g:H a=some (.lst (col.map V.int))):a9 H (cs.map (λt=>V.ref (q t))++[.ref a]) ((cs++[y]).map (dS c y col)):=by
 refine a9.of #[5] λj i k b d=> ?_;by_cases f:j<cs.length
 .rw[PL (by rw[My];exact f),Ph,Po f]at d;rw[Ph,PL f,Po f]at b;obtain⟨g1,g2⟩:=h _ (Qt f);cases b;cases d;refine#[76];unfold dS;rw[OO g2];exact g1
 .rw[PM (by rw[My];lia)]at d;rw[Ph,PM ()]at b;have e:j-cs.length=0:=by
   cases e:j-cs.length with
   |zero=>rfl
   |succ m=>rw[e]at b;simp at b
  rw[My,e]at d;rw[e]at b;cases b;cases d;refine#[76];unfold dS;rw[OP rfl];exact g
def o3(p:Int)(R:Nat)(r:Nat->Nat)(c:Nat->List Int)(G y:Nat):Prop:=∀S,Sub S G->sz S+1=R->(bQ p (bU (jS c) (List.range R)) (S|||2^y)=R↔r (S|||2^y)=R)
inductive EI(Z:Hs)(vs:List V)(H:Hp)(Q:VK):Prop
 |mk(h d a:Addr) (n R G y:Nat) (p:Int) (r:Nat->Nat) (ks:List Nat) (q:Nat->Addr) (c:Nat->List Int) (col:List Int) (_:vs=[.ref h, .int p, .ref d, .int (y:Int), .ref a]) (_:Z.ho H h n r) (_:n<=8) (_:r (2^n-1)=R) (_:R<=8) (_:bZ p) (_:0<p) (_:je H d ks q c) (_:zX p R G ks c) (_:G<2^n) (_:y<n) (_:G.testBit y=false) (_:H a=some (.lst (col.map V.int))) (_:col.length=R) (_:(∀z∈col,0<=z/\z<p)) (_:∀b H',Same H H'->(b=true↔o3 p R r (dS c y col) G y)->Q (.bl b) H'):EI Z vs H Q
def Hr(Z:Hs):Sp:=λvs H Q _=>EI Z vs H Q
inductive qB(vs:List V)(H:Hp)(Q:VK):Prop
 |mk(s t y:Nat) (_:vs=[.int (s:Int), .int (t:Int), .int (y:Int)]) (_:t<8) (_:y<8) (_:Q (.int (qr s t y:Nat)) H):qB vs H Q
def rJ:Sp:=λvs H Q _=>qB vs H Q
inductive xp(vs:List V)(H:Hp)(Q:VK):Prop
 |mk(s h:Int) (_:vs=[.int s, .int h]) (_:0<=s) (_:0<=h) (_:h<256) (_:∀H',Same H H'->Q (.int (aO s.toNat h.toNat:Nat)) H'):xp vs H Q
def Al:Sp:=λvs H Q _=>xp vs H Q
def rM(p:Nat->Int->Bool):∀(a:List Int)(i:Nat),gJ (λi x=>p i (bG x)) (λ_ x=>x) i (a.map V.int)=(picks p i a).map V.int
 | [],_=>rfl
 |z::r,i=>by rw[PF,gJ,picks,rM p r (i+1)];show(if p i z=true then _ else _)=_;split<;>rfl
def miF(n:Int)(h:Addr)(b a fr:Int):List (Str×V):=cf "drawn_rank" (.int fr) (cf "drawn" (.int a) (cf "kept" (.int b) (cf "house" (.ref h) (cf "many" (.int n) []))))
def Nb(n:Int)(h:Addr)(b a fr:Int):(miF n h b a fr).lookup ("drawn_rank":Str)=some (.int fr):=aR _ _ _
def FQ(n:Int)(h:Addr)(b a fr:Int):(miF n h b a fr).lookup ("drawn":Str)=some (.int a):=by unfold miF;rw[az _ _ #[9],aR]
def Jc(n:Int)(h:Addr)(a b fr:Int):(miF n h a b fr).lookup ("kept":Str)=some (.int a):=by unfold miF;rw[az _ _ #[9],az _ _ #[9],aR]
def FP(n:Int)(h:Addr)(b a fr:Int):(miF n h b a fr).lookup ("house":Str)=some (.ref h):=by unfold miF;rw[az _ _ #[9],az _ _ #[9],az _ _ #[9],aR]
def Jb(n:Int)(h:Addr)(b a fr:Int):(miF n h b a fr).lookup ("many":Str)=some (.int n):=by unfold miF;rw[az _ _ #[9],az _ _ #[9],az _ _ #[9],az _ _ #[9],aR]
def Ja(n:Int)(h:Addr)(g a fr:Int){m:Str}(b:¬m= "drawn_rank")(c:¬m= "drawn")(d:¬m= "kept")(e:¬m= "house")(f:¬m= "many"):(miF n h g a fr).lookup m=none:=by unfold miF;rw[az _ _ b,az _ _ c,az _ _ d,az _ _ e,az _ _ f];rfl
def Ot(d:Addr)(H:Hp)(X:HsP)(a:Addr)(n:Nat)(r:Nat->Nat):Prop:=∃(e h:Addr)(b k w:Nat)(c:Nat->Nat),H a=some (.ins d e (miF n h k w (c w:Nat)))/\X h b c/\n=sz k/\b<=8/\k<2^b/\w<2^b/\∀s,s<2^n->(r s:Int)=(c (aO s k|||w):Nat) - (c w:Nat)
def sy(Z:Hs)(b:Addr):Hs:=#[λH a n r=>Ot b H (Z.ho H) a n r,λC=>C=b]
def Ln(z:iC Z)(c:Addr):iC (sy Z c) where
 same:=λe h=>by obtain⟨a,h',d,k,w,f,b,g,i⟩:=h;exact#[a,h',d,k,w,f,e.at b,z.same e g,i]
 shown:=λh=>by obtain⟨a,h',d,k,w,f,b,_⟩:=h;exact#[c,2,a,_,b,Ja _ _ _ _ _ #[9] #[9] #[9] #[9] #[9],Ja _ _ _ _ _ #[9] #[9] #[9] #[9] #[9],Jb _ _ _ _ _]
inductive xI(Z:Hs)(cM:Addr)(vs:List V)(H:Hp)(Q:VK):Prop
 |mk(p dx h:Addr) (n o w:Nat) (r:Nat->Nat) (_:vs=[.ref p, .ref h, .int (o:Int), .int (w:Int)]) (_:H p=some (.ins cM dx [])) (_:Z.ho (hide H p) h n r) (_:n<=8) (_:w<2^n) (_:∀H',(∀b o,H b=some o->b≠p->H' b=some o)->H' p=some (.ins cM dx (miF (sz (ao (2^n-1) (o|||w)):Nat) h (ao (2^n-1) (o|||w):Nat) w (r w:Nat)))->Q .non H'):xI Z cM vs H Q
def Av(Z:Hs)(a:Addr):Sp:=λvs H Q _=>xI Z a vs H Q
def knF(n:Int)(t:Addr):List (Str×V):=cf "told" (.ref t) (cf "many" (.int n) [])
def Jq(n:Int)(t:Addr):(knF n t).lookup ("many":Str)=some (.int n):=by unfold knF;rw[az _ _ #[9],aR]
def Jn(n:Int)(t:Addr):(knF n t).lookup ("told":Str)=some (.ref t):=aR _ _ _
def Jp(n:Int)(t:Addr){m:Str}(a:¬m= "told")(b:¬m= "many"):(knF n t).lookup m=none:=by unfold knF;rw[az _ _ a,az _ _ b];rfl
def Jo(n:Int)(t:Addr):(knF n t).lookup ("rank":Str)=none:=Jp _ _ #[9] #[9]
def F0(n:Int)(t:Addr):(knF n t).lookup ("everything":Str)=none:=Jp _ _ #[9] #[9]
def J7(C:Addr)(H:Hp)(a:Addr)(n:Nat)(r:Nat->Nat):Prop:=∃b t,H a=some (.ins C b (knF (n:Int) t))/\H t=some (.tup ((gM n r).map V.int))
def J7.same(h:J7 C H a n r)(e:Same H H'):J7 C H' a n r:=by obtain⟨b,t,c,d⟩:=h;exact#[b,t,e.at c,e.at d]
inductive B6(Z:Hs)(C:Addr)(vs:List V)(H:Hp)(Q:VK):Prop
 |mk(p dx h:Addr) (n:Nat) (r:Nat->Nat) (_:vs=[.ref p, .ref h]) (_:H p=some (.ins C dx [])) (_:Z.ho (hide H p) h n r) (_:n<=8) (_:∀t H',H t=none->(∀b o,H b=some o->b≠p->H' b=some o)->H' t=some (.tup ((gM n r).map V.int))->H' p=some (.ins C dx (knF (n:Int) t))->Q .non H'):B6 Z C vs H Q
def DQ(Z:Hs)(C:Addr):Sp:=λvs H Q _=>B6 Z C vs H Q
inductive BX(C:Addr)(vs:List V)(H:Hp)(Q:VK):Prop
 |mk(a:Addr) (n s:Nat) (r:Nat->Nat) (_:vs=[.ref a, .int (s:Int)]) (_:J7 C H a n r) (_:n<=8) (_:s<2^n) (_:Q (.int (r s:Nat)) H):BX C vs H Q
def DK(C:Addr):Sp:=λvs H Q _=>BX C vs H Q
def hsN(C:Addr):Hs:=#[J7 C,λa=>a=C]
def neF(n p:Int)(t:Addr):List (Str×V):=cf "ties" (.ref t) (cf "points" (.int p) (cf "many" (.int n) []))
def AO:¬(("points":Str)= "ties"):=#[9]
def FU:¬(("many":Str)= "ties"):=#[9]
def Bd:¬(("many":Str)= "points"):=#[9]
def IV(n p:Int)(t:Addr):(neF n p t).lookup ("many":Str)=some (.int n):=by unfold neF;rw[az _ _ FU,az _ _ Bd,aR]
def uF(n p:Int)(t:Addr):(neF n p t).lookup ("points":Str)=some (.int p):=by unfold neF;rw[az _ _ AO,aR]
def IT(n p:Int)(t:Addr):(neF n p t).lookup ("ties":Str)=some (.ref t):=aR _ _ _
def CP(n p:Int)(t:Addr){m:Str}(a:¬m= "ties")(b:¬m= "points")(c:¬m= "many"):(neF n p t).lookup m=none:=by unfold neF;rw[az _ _ a,az _ _ b,az _ _ c];rfl
def IU(n p:Int)(t:Addr):(neF n p t).lookup ("rank":Str)=none:=CP _ _ _ #[9] #[9] #[9]
def CO(n p:Int)(t:Addr):(neF n p t).lookup ("pieces":Str)=none:=CP _ _ _ #[9] #[9] #[9]
def GA(C:Addr)(H:Hp)(a:Addr)(n:Int)(p:Nat)(ts:List (Nat×Nat)):Prop:=∃b t xs,H a=some (.ins C b (neF n p t))/\H t=some (.tup xs)/\dO H xs ts
def GA.same(h:GA C H a n p ts)(e:Same H H'):GA C H' a n p ts:=by obtain⟨b,t,xs,c,d,f⟩:=h;exact#[b,t,xs,e.at c,e.at d,f.ts (qz.of e)]
def oY(p:Nat)(ts:List (Nat×Nat)):Prop:=∀t∈ts,t.1<p/\t.2<p
inductive Ez(K:Frag)(vs:List V)(H:Hp)(Q:VK):Prop
 |mk(a b:Addr) (ms:List Int) (t:Nat×Nat) (_:vs=[.ref a, .ref b]) (_:SqL K H a (ms.map V.int)) (_:H b=some (.tup [.int t.1, .int t.2])) (_:t.1<ms.length) (_:t.2<ms.length) (_:ms.length<=1000) (_:∀q H',Same H H'->H q=none->H' q=some (.lst ((mrg ms t.1 t.2).map V.int))->Q (.ref q) H'):Ez K vs H Q
def Hi(K:Frag):Sp:=λvs H Q _=>Ez K vs H Q
inductive B3(K:Frag)(C:Addr)(vs:List V)(H:Hp)(Q:VK):Prop
 |mk(p dx a:Addr) (n pt:Int) (xs:List V) (ts:List (Nat×Nat)) (_:vs=[.ref p, .int n, .int pt, .ref a]) (_:H p=some (.ins C dx [])) (_:SqL K H a xs) (_:dO H xs ts) (_:xs.length<=1000) (_:∀t ys H',H t=none->(∀b o,H b=some o->b≠p->H' b=some o)->H' p=some (.ins C dx (neF n pt t))->H' t=some (.tup ys)->dO H' ys ts->Q .non H'):B3 K C vs H Q
def DO(K:Frag)(C:Addr):Sp:=λvs H Q _=>B3 K C vs H Q
inductive J9(C:Addr)(vs:List V)(H:Hp)(Q:VK):Prop
 |mk(a:Addr) (n:Int) (p:Nat) (s:Nat) (ts:List (Nat×Nat)) (_:vs=[.ref a, .int (s:Int)]) (_:GA C H a n p ts) (_:oY p ts) (_:p<=1000) (_:ts.length<=8) (_:s<2^ts.length) (_:∀H',Same H H'->Q (.int (pcs p ts s:Nat)) H'):J9 C vs H Q
def LS(C:Addr):Sp:=λvs H Q _=>J9 C vs H Q
inductive BV(C:Addr)(vs:List V)(H:Hp)(Q:VK):Prop
 |mk(a:Addr) (n:Int) (p:Nat) (s:Nat) (ts:List (Nat×Nat)) (_:vs=[.ref a, .int (s:Int)]) (_:GA C H a n p ts) (_:oY p ts) (_:p<=1000) (_:ts.length<=8) (_:s<2^ts.length) (_:∀H',Same H H'->Q (.int ((p:Int) - (pcs p ts s:Nat))) H'):BV C vs H Q
def DI(C:Addr):Sp:=λvs H Q _=>BV C vs H Q
def k4(val:Nat->Int):∀i,(PyProof.Rows.firstMet val i).length=og val i
 |0=>rfl
 |i+1=>by rw[PyProof.Rows.firstMet_succ,PyProof.Rows.step_length,PyProof.Rows.firstMet_any,k4 val i];show _=if _ then _ else _;rw[List.any_map];rfl
def JL:decide (V.int a=V.int b)=decide (a=b):=by
 by_cases h:a=b
 .subst h;simp
 .rw[OR h,OR λe=>h (V.int.inj e)]
def FL(n p:Int)(t:Addr):(neF n p t).lookup ("everything":Str)=none:=CP _ _ _ #[9] #[9] #[9]
def IP{ts:List (Nat×Nat)}(i:oY p ts)(c:s<2^ts.length):((rkC (ts.map cR) s:Nat):Int)=(p:Int) - (pcs p ts s:Nat):=by
 have g:∀t∈(bits s).map (λz:Int=>ts.getD z.toNat (0,0)),t.1<p/\t.2<p:=λt j=>by
  obtain⟨z,b,rfl⟩:=OX.mp j;obtain⟨k,a⟩:=oW c b;have e:ts.getD z.toNat (0,0)=ts[z.toNat]:=by simp[a]
  rw[e];exact i _ (Qt a)
 have h:=IQ _ g;have d:mkA p ((bits s).map (λz:Int=>ts.getD z.toNat (0,0)))=wI p ts s:=by unfold mkA wI yO;rw[List.foldl_map]
 have f:((bits s).map (λz:Int=>ts.getD z.toNat (0,0))).map cR=av (ts.map cR) s:=by unfold av;rw[PJ];refine P4 λz b=> ?_;obtain⟨k,a⟩:=oW c b;show cR (ts.getD z.toNat (0,0))=(ts.map cR).getD z.toNat 0;simp[a]
 rw[d,f]at h;have l:pcs p ts s+rkC (ts.map cR) s=p:=h;lia
def Ou(b:Addr)(H:Hp)(a:Addr)(n:Nat)(r:Nat->Nat):Prop:=∃(p:Nat) (ts:List (Nat×Nat)),GA b H a n p ts/\oY p ts/\p<=1000/\ts.length=n/\∀s,s<2^n->(r s:Int)=(p:Int) - (pcs p ts s:Nat)
def mH(b c:Addr):Hs:=#[λH a n r=>OM b H a n r\/Ou c H a n r,λC=>C=b\/C=c]
def sW(d f:Addr):iC (mH d f) where
 same:=λe h=>by
  rcases h with ⟨ms,a,b⟩|⟨p,ts,a,b⟩
  .exact .inl #[ms,a.same e,b]
  .exact .inr #[p,ts,a.same e,b]
 shown:=λh=>by
  rcases h with ⟨ms,⟨c,t,a,_⟩,b⟩|⟨p,ts,⟨c,t,xs,a,_⟩,b⟩
  .exact#[d, .inl rfl,c,_,a,Jg _ _,FW _ _,Ji _ _]
  .exact#[f, .inr rfl,c,_,a,IU _ _ _,FL _ _ _,IV _ _ _]
def Kn(j:cL≠cN)(vs:List V)(H:Hp)(Q:VK)(E:XK)(h:jx (mH cL cN) cL vs H Q E):DJ cL vs H Q E:=by
 obtain⟨a,n,s,r,rfl,g,⟨q,u,i⟩,l,d,k⟩:=h;have v:=oN l d;rcases g with ⟨ms,b,c,e,f⟩|⟨p,ts,⟨o,t,xs,b,_⟩,c⟩
 .refine#[a,11,ms,2,b,c,e,99,λH' m=> ?_];have:=k H' m;rw[f s d]at this;rw[OU];exact this
 .exact absurd (sV i b) j
def Km(l:cL≠cN)(vs:List V)(H:Hp)(Q:VK)(E:XK)(h:jx (mH cL cN) cN vs H Q E):DI cN vs H Q E:=by
 obtain⟨a,n,s,r,rfl,i,⟨q,u,j⟩,v,d,k⟩:=h;rcases i with ⟨ms,⟨o,t,b,_⟩,c⟩|⟨p,ts,b,c,e,f,g⟩
 .exact absurd (sV b j) l
 .refine#[a,_,p,s,ts,2,b,c,e,9,by rw[f];exact d,λH' m=> ?_];have:=k H' m;rwa[g s d]at this
inductive xu(Z:Hs)(vs:List V)(H:Hp)(Q:VK):Prop
 |mk(h:Addr) (n:Nat) (r:Nat->Nat) (_:vs=[.ref h]) (_:Z.ho H h n r) (_:n<=8) (_:∀p H',Same H H'->H p=none->H' p=some (.lst ((gM n r).map V.int))->Q (.ref p) H'):xu Z vs H Q
def Ap(Z:Hs):Sp:=λvs H Q _=>xu Z vs H Q
def two_pow_pos(n:Nat):0<2^n:=QU ()
def Dr{l:List Int}{i:Int}(h:0<=i+l.length)(a:i<0):atI (l.map V.int) i=some (.int (l.getD (i+l.length).toNat 0)):=by
 unfold atI ixN;rw[My,OO (),OP ()];show(l.map V.int)[(i+(l.length:Int)).toNat]?=_;have hl:(i+(l.length:Int)).toNat<l.length:=()
 rw[Ph];simp[hl]
def mj(n:Nat)(r:Nat->Nat):List Int:=(List.range (2^n)).map λs=>((r s:Nat):Int)
def Bk(n:Nat)(r:Nat->Nat):V:=if(kinds n r).getD 0 false=true then .str a8 else if(kinds n r).getD 1 false=true then .str bz else if(kinds n r).getD 2 false=true then .str aY else if(kinds n r).getD 3 false=true then .str eO else if(kinds n r).getD 4 false=true then .str bg else .non
def Lh(h:Dt n r):fc n r=Bk n r:=by unfold fc Bk;rw[Jr h];rfl
inductive xr(K:Frag)(vs:List V)(H:Hp)(Q:VK):Prop
 |mk(a:Addr) (told:List Nat) (_:vs=[.ref a]) (_:SqL K H a ((cJ told).map V.int)) (_:∀H',Same H H'->Q (.bl (fz told)) H'):xr K vs H Q
def An(K:Frag):Sp:=λvs H Q _=>xr K vs H Q
inductive B2(K:Frag)(vs:List V)(H:Hp)(Q:VK):Prop
 |mk(a:Addr) (n:Nat) (r:Nat->Nat) (_:vs=[.ref a]) (_:SqL K H a ((mj n r).map V.int)) (_:n<=8) (_:∀H',Same H H'->Q (Bk n r) H'):B2 K vs H Q
def DN(K:Frag):Sp:=λvs H Q _=>B2 K vs H Q
inductive Kb(K:Frag)(vs:List V)(H:Hp)(Q:VK):Prop
 |mk(a:Addr) (cs:List Int) (n r:Nat) (_:vs=[.ref a, .int (n:Int), .int (r:Int)]) (_:SqL K H a (cs.map V.int)) (_:0<cs.length) (_:cs.length<=64) (_:n<=8) (_:r<=n) (_:∀p H' ps,Same H H'->H p=none->H' p=some (.lst ((dY n r ps).map V.int))->(ps=[]\/(0<r/\r<n/\Far r ps))->Q (.ref p) H'):Kb K vs H Q
def LU(K:Frag):Sp:=λvs H Q _=>Kb K vs H Q
inductive xD(K:Frag)(vs:List V)(H:Hp)(Q:VK):Prop
 |mk(a:Addr) (ms:List Int) (n:Nat) (_:vs=[.int (n:Int), .ref a]) (_:SqL K H a (ms.map V.int)) (_:ms≠[]) (_:(∀m∈ms,0<=m/\m<256)) (_:ms.length<=256) (_:n<=8) (_:∀p H',Same H H'->H p=none->H' p=some (.lst (((List.range (2^n)).map λs=>((cI ms s:Nat):Int)).map V.int))->Q (.ref p) H'):xD K vs H Q
def Ar(K:Frag):Sp:=λvs H Q _=>xD K vs H Q
def LG{xs:List V}(h:xs[xs.length-1]?=some y):atI xs (-1)=some y:=by
 have hl:0<xs.length:=by
  cases xs with
  |nil=>simp at h
  |cons _ _=>simp
 unfold atI;have e:ixN xs.length (-1)=some (xs.length-1):=by unfold ixN;rw[OO (),OP ()];congr 1;lia
 rw[e];exact h
def Lm(l:List Nat)(y:Nat):inV (.int (y:Int)) ((cJ l).map V.int)=decide (y∈l):=by
 rw[uR];refine QG.mpr #[λh=> ?_,λh=>OX.mpr #[y,h,2]];obtain⟨s,a,e⟩:=eC h;have:y=s:=()
 rw[this];exact a
def lint(x y:Int):decide (V.int x=V.int y)=decide (x=y):=QG.mpr #[λz=>V.int.inj z,λz=>by rw[z]]
def av(m s:Nat):List Nat:=(List.range m).filter s.testBit
def fL(m s:Nat):av (m+1) s=av m s++if s.testBit m=true then [m]else []:=by
 unfold av;rw[QO,Rt];refine PN _ ?_;by_cases h:s.testBit m=true
 .rw[OP h];simp[h]
 .rw[OO h];simp[h]
def Dg(a:s<2^n):∀m,n<=m->av m s=av n s:=by
 intro m h
 induction m with
 |zero=>rw[show n=0 by lia]
 |succ m b=>
  by_cases e:n=m+1
  .rw[e]
  .rw[fL,b (),OO,Qx];rw[PY (OW a (Pr ∅ ()))];exact Pf
def Gi(a:n<=8)(b:s<2^n):(bits s).length=(av n s).length:=by
 have:(bits s).length=(av 8 s).length:=by unfold bits av;rw[My]
 rw[this,Dg b 8 a]
def zh(m s:Nat):(av m s).length<=m:=by have:=Qy s.testBit (List.range m);rwa[O8]at this
def xP(s m k:Nat):(s^^^2^m).testBit k=(s.testBit k^^decide (m=k)):=by rw[Qe,O0]
def vg{m s:Nat}(a:s.testBit m=true):∀k,∃rest,av (m+1+k) s=av m s++m::rest/\av (m+1+k) (s^^^2^m)=av m s++rest
 |0=>by
  have e:∀j,j<=m->av j (s^^^2^m)=av j s:=λj f=>by unfold av;refine Qi λk d=> ?_;have:=OS.mp d;rw[xP,OR (),SD]
  refine#[[],by show av (m+1) s=_;rw[fL,OP a],6];show av (m+1) _=_;rw[fL,e m (O4 _),OO];rw[xP,a,OQ rfl];exact Pf
 |k+1=>by
  obtain⟨rest,b,c⟩:=vg a k;refine#[rest++if s.testBit (m+1+k)=true then [m+1+k]else [],66]
  .show av (m+1+k+1) s=_;rw[fL,b,QI];rfl
  .show av (m+1+k+1) _=_;rw[fL,c,QI,xP,OR (),SD]
def dpD(M:List (List Int))(n s:Nat):Int:=aN ((M.take (av n s).length).map dD) (av n s)
def dpG(M:List (List Int))(n s:Nat)(j:Nat):Int:=sgn ((av n s).length-1-j)*(dD (M.getD ((av n s).length-1) []) ((av n s).getD j 0)*aN ((M.take ((av n s).length-1)).map dD) ((av n s).eraseIdx j))
def Nt{M:List (List Int)}(f:M.length=n)(d:0<(av n s).length):dpD M n s=bw (av n s).length (dpG M n s):=by
 have hl:=zh n s;unfold dpD;generalize c:av n s=a at*;obtain⟨N,b⟩:∃N,a.length=N+1:=#[a.length-1,9];have e:M.take a.length=M.take (a.length-1)++[M.getD (a.length-1) []]:=by
  rw[b,SA,Ql];have:N<M.length:=()
  simp[this]
 rw[e,PC,PF,RN,Bz _ a _ (by rw[My,Pz];lia)];refine bh λj _=> ?_;unfold dpG;rw[c]
def Ly{M:List (List Int)}{n s m:Nat}(h:m<n)(c:s.testBit m=true):av (m+1) s=av m s++[m]/\(av m s).length<(av n s).length/\(av n s).getD (av m s).length 0=m/\dpG M n s (av m s).length=sgn ((av n s).length- ((av m s).length+1))*dD (M.getD ((av n s).length-1) []) m*dpD M n (s^^^2^m):=by
 obtain⟨rest,a,b⟩:=vg c (n- (m+1));rw[show m+1+(n- (m+1))=n by lia]at a b;have f:(av n s).length=(av m s).length+1+rest.length:=by rw[a,Pl,Pa];lia
 have g:(av n s).getD (av m s).length 0=m:=by have:=fK (A:=av m s) (B:=m::rest) (d:=0) 0;rw[Nat.add_zero]at this;rw[a,this];rfl
 have e:(av n s).eraseIdx (av m s).length=av n (s^^^2^m):=by have:=ja (A:=av m s) (B:=m::rest) 0;rw[Nat.add_zero]at this;rw[a,this,b];rfl
 refine#[by rw[fL,OP c],9,g,6];unfold dpG dpD;have l2:(av n (s^^^2^m)).length=(av n s).length-1:=by rw[b,f,Pl];lia
 rw[g,e,l2,show(av n s).length-1- (av m s).length=(av n s).length- ((av m s).length+1) by lia,PZ]
def Ac:∀ {n:Nat},(∀i,i<n->(f i).natAbs<=C)->(bw n f).natAbs<=n*C
 |0,_=>by simp[bw]
 |n+1,h=>by have a:=Ac (n:=n) λi c=>h i ();have b:=h n ();rw[bw,Nat.succ_mul];lia
def yc(i:Nat):(sgn i).natAbs=1:=by unfold sgn;split<;>rfl
def En:∀(b:List Nat)(R:List Row),R.length<=8->(∀r∈R,∀j,(r j).natAbs<=2^B)->(aN R b).natAbs<=2^((B+3)*b.length)
 | [],R,_,_=>by simp[aN]
 |c::cs,R,hl,h=>by
  have a:∀i,i<R.length->(sgn i*(R.getD i rw0 c*aN (R.eraseIdx i) cs)).natAbs<=2^B*2^((B+3)*cs.length):=λi a=>by
   have d:R.getD i rw0=R[i]:=by simp[a]
   have f:=h R[i] (Qt a) c;have g:=En cs (R.eraseIdx i) (by rw[P8 a];lia) λr k=>h r (List.mem_of_mem_eraseIdx k);rw[Tp,yc,Nat.one_mul,Tp,d];exact Nat.mul_le_mul f g
  have:=Ac a;refine OY (show(aN R (c::cs)).natAbs<=_ from this) ?_;have e:2^((B+3)*(c::cs).length)=8*(2^B*2^((B+3)*cs.length)):=by rw[Pa,Nat.mul_succ,Nat.pow_add,Nat.pow_add,Nat.mul_comm,show(2:Nat)^3=8 from rfl];simp only[Ua,Nat.mul_left_comm,Nat.mul_comm]
  rw[e];exact Nat.mul_le_mul_right _ hl
def Nv{M:List (List Int)}(c:M.length=n)(d:n<=8)(a:∀r∈M,nh n 200 r)(s:Nat):(dpD M n s).natAbs<2^1700:=by
 unfold dpD;have h:=En (B:=200) (av n s) ((M.take (av n s).length).map dD) (by rw[My,Pz];lia) λr b j=>by obtain⟨l,hl,rfl⟩:=OX.mp b;exact S5 ((a l (Ry hl)).at j)
 have:=zh n s;exact Pd h (QZ ∅ ())
inductive EG(K:Frag)(vs:List V)(H:Hp)(Q:VK):Prop
 |mk(a:Addr) (xs:List V) (M:List (List Int)) (n:Nat) (_:vs=[.ref a]) (_:SqL K H a xs) (_:a9 H xs M) (_:M.length=n) (_:n<=8) (_:(∀r∈M,nh n 200 r)) (_:∀H',Same H H'->Q (.int (aN (M.map dD) (List.range n))) H'):EG K vs H Q
def Ho(K:Frag):Sp:=λvs H Q _=>EG K vs H Q
def Nu{M:List (List Int)}(b:M.length=n):dpD M n (2^n-1)=aN (M.map dD) (List.range n):=by
 have e:av n (2^n-1)=List.range n:=by unfold av;refine Qq.mpr λk a=> ?_;rw[Pq];exact OQ (OS.mp a)
 unfold dpD;rw[e,O8,Ro ()]
def AA{n j:Nat}:decide (V.int (Builtin.bitAnd ((n:Int) /2^((j:Nat):Int).toNat) 1)=V.int 1)=n.testBit j:=by have:=pq (n:=n) (j:=j);rwa[Qk]at this
def GG{s j:Nat}(b:s<256)(a:j<8):Builtin.bitXor (s:Int) (1*2^((j:Nat):Int).toNat)=((s^^^2^j:Nat):Int):=by obtain⟨x1,x2⟩:=rN s b j a;unfold Builtin.bitXor;rw[c9,ng (Qg _) (Qg _),fZ (Qg _) (Qg _),OU,OU];lia
def JR(c:s<2^n)(e:0<s):0<(av n s).length:=by
 refine Sv λz=> ?_;have d:av n s=[]:=SG.mp z;have:s=0:=O2 λk=>by
  rw[Pw];cases a:s.testBit k with
  |false=>rfl
  |true=>
   have b:k<n:=by refine Rj λb=> ?_;rw[PY (OW c (Pr ∅ b))]at a;cases a
   have:k∈av n s:=Pn.mpr #[OS.mpr b,a];rw[d]at this;cases this
 lia
section
variable(P:Program)(w:World){K:Frag}{mg:Str->Option Value}(base:Heap)
def Hx:aH ["s","thing"] ["s","thing"] (au pI):=aZ
def IG(D:bC K mg "holds" pI ["s","thing"]):Cal P w K mg base 1 "holds" ["s","thing"] xZ:=by refine D.cal Hx #[6] λf cdv A outer d H vs Q E c h=> ?_;obtain⟨s,t,rfl,a,b,k⟩:=h;refine#[_,(aj (aF (wpe a7 (aw cF (aw jL (pv 0) (pv 1)) af) af))),6];refine#[778,b,8,(by show(0:Int)<2;decide),26];show Q (.bl (decide (V.int (s/2^t.toNat % 2)=V.int 1))) H;rw[Jv a];exact k
def E9:aH ["s"] ["s"] (au lY):=aZ
def FF(T:Tb K mg)(D:bC K mg "things" lY ["s"])(d:Cal P w K mg base 1 "holds" ["s","thing"] xZ):Cal P w K mg base 2 "things" ["s"] iP:=by
 refine D.cal E9 #[6] λf cdv A outer u H vs Q E p h=> ?_;obtain⟨s,rfl,b,g,k⟩:=h;refine#[_,(aj (aF (wlc ["thing"] ["s"] [0] (wrng T.range_ (KW (K:=K) ⋯ PySem.F.plainAttrs_int PySem.F.slot_int_bit_length PySem.F.type_int_bit_length K9 (pv 0))) (wnC 0) (dH (fj (wcal d p (aa (pv 1) (aa (pv 0) ah))))) (pv 0)))),6];have a:Builtin.Int.intBits s<=8:=by
  obtain⟨n,rfl⟩:=QM b;unfold Builtin.Int.intBits;split
  .lia
  .rename_i m;have o:n≠0:=by intro e;subst e;exact m rfl
   have:n.log2<8:=(Nat.log2_lt o).mpr ();show(n:Int).natAbs.log2+1<=8;rw[Int.natAbs_natCast];lia
 refine#[72727996];refine eD (λi=>s.toNat.testBit i) (λi=> .int (0+(i:Nat))) (by rw[OU];exact OY a ∅) (λi vs H' R S t r c l=> ?_) λD H' j c hl=> ?_
 .obtain⟨v,rfl⟩:=bq r;refine#[77,s,7,b,976];have e:(0+(i:Int)).toNat=i:=()
  have q:=l [some (.int (0+(i:Nat)))] H' rfl (Same.refl _);rw[e];cases a:s.toNat.testBit i with
  |true=>
   rw[a,OP rfl]at q;exact oS #[7,q]
  |false=>
   rw[a,OO Pf]at q;exact gE q
 .rw[ES b g]at hl;exact k D H' c j hl
def Kr:aH ["s"] ["s"] (au tW):=aZ
def K1(T:Tb K mg)(D:bC K mg "size" tW ["s"])(a:Cal P w K mg base 2 "things" ["s"] iP):Cal P w K mg base 3 "size" ["s"] lO:=by refine D.cal Kr #[6] λf cdv A outer i H vs Q E d h=> ?_;obtain⟨s,rfl,b,c,k⟩:=h;refine#[_,(aj (aF (wlen K T.len_ (wcal a d (aa (pv 0) ah))))),6];refine#[7,s,2,b,c,λp H' e g hl=>#[p,7, .inl (SqL.of hl),6]];have q:=k H' e;rwa[<-My (f:=V.int)]at q
def nH:aH ["some","s","thing"] ["some"] (au md):=aZ
def FI(D:bC K mg "set_of" md ["some"]):Cal P w K mg base 1 "set_of" ["some"] (xY K):=by
 refine D.cal nH #[6] λf cdv A outer r H vs Q E o h=> ?_;obtain⟨a,ns,rfl,d,m,k⟩:=h;refine#[_,(ae (wset 1 nH.nd af)
   (ae (wfor (wil K (pv 0)) (wname 2 nH.nd)
     (aj (wset 1 nH.nd (aw ow (pv 1) (aw dG af (pv 2))))))
   (aj (aF (pv 1))))),6]
 refine#[7,a,2,#[_,d],cQ (K:=K) (a:=a) (xs:=ns.map V.int) (λi c b=>b=H/\∃v,c=[rW a,some (.int (((ns.take i).foldl (λ(s:Nat) (t:Int)=>s|||2^t.toNat) 0:Nat):Int)),v])
  #[2,none,2] (λi c b _ q=>by rw[q.1];exact d) ?_ ?_]
 .rintro i y c b l ⟨rfl,v,rfl⟩;obtain⟨z,rfl,g⟩:=bH l;obtain⟨n,p⟩:=m z (O5 g);refine#[778,#[n,94],86];refine#[2,some (.int z),6];have e:Builtin.bitOr ((((ns.take i).foldl (λ(s:Nat) (t:Int)=>s|||2^t.toNat) 0:Nat):Int)) (1*2^z.toNat)=((((ns.take (i+1)).foldl (λ(s:Nat) (t:Int)=>s|||2^t.toNat) 0:Nat):Int)):=by
   rw[ng () (by rw[Qs];exact oG _),Ql,g];have j:((2:Int)^z.toNat)=((2^z.toNat:Nat):Int):=#[5]
   rw[Qs,j,OU,OU];simp only[Option.toList_some,Q8,QY,List.foldl_nil]
  rw[<-e];rfl
 .rintro c b ⟨rfl,v,rfl⟩;refine#[76];rw[My,Qo];exact k
def E7:aH ["s","t"] ["s","t"] (au lX):=aZ
def FE(D:bC K mg "within" lX ["s","t"]):Cal P w K mg base 1 "within" ["s","t"] Aj:=by
 refine D.cal E7 #[6] λf cdv A outer d H vs Q E c h=> ?_;obtain⟨s,t,rfl,a,b,k⟩:=h;refine#[_,(aj (aF (wpe a7 (aw gB (pv 0) (pv 1)) (pv 0)))),6];refine#[778726];show Q (.bl (decide (V.int (Builtin.bitAnd s t)=V.int s))) H;have e:decide (V.int (Builtin.bitAnd s t)=V.int s)=decide (s.toNat&&&t.toNat=s.toNat):=by
  rw[fZ a b];by_cases h:s.toNat&&&t.toNat=s.toNat
  .rw[OQ h,OQ];rw[h];congr 1;lia
  .rw[OR h,OR];intro q;have:=V.int.inj q;lia
 rw[e];exact k
def pA:aH ["s","found","thing"] ["s"] (au pH):=aZ
def IF(T:Tb K mg)(D:bC K mg "parts" pH ["s"])(N:Cal P w K mg base 2 "things" ["s"] iP):Cal P w K mg base 3 "parts" ["s"] sG:=by
 refine D.cal pA #[6] λf cdv A outer bN H vs Q E hr h=> ?_;obtain⟨s,rfl,h0,h1,k⟩:=h;refine#[_,(ae (wset 1 pA.nd (dU (aa af ah)))
   (ae (wfor (wil K (wcal N hr (aa (pv 0) ah))) (wname 2 pA.nd)
     (aj (wset 1 pA.nd (aw qT (pv 1) (wlc ["part"] ["thing"] [2] (wil K (pv 1)) (wnC 0) cc (aw ow (pv 0) (aw dG af (pv 1))))))))
   (aj (aF (pv 1))))),6]
 refine#[by show 1<=sizeLine;decide,λq0 L=> ?_];refine#[7,s,2,h0,h1,λp H1 M bB B=>#[p,2,#[_,SqL.of B],6]];generalize hn:s.toNat=n at*;refine cQ (K:=K) (a:=p) (xs:=(bits n).map V.int) (λi g b=>∃(q:Addr)(v:Option V),Same H b/\b p=some (.lst ((bits n).map V.int))/\H q=none/\b q=some (.lst ((((bits n).take i).foldl jY [0]).map V.int))/\g=[xS s,rW q,v])
  #[q0,none,(Same.new L).trans M,B,L,M.at ak,2] (λi g b _ ⟨_,_,_,hp,_⟩=>SqL.of hp) ?_ ?_
 .rintro i y g b hi ⟨q,v,r,G,J,c,rfl⟩;obtain⟨z,rfl,o⟩:=bH hi;have zr:=k6 (O5 o);have bu:i<(bits n).length:=(O1.mp o).1;have bt:=bj n;have ay:(((bits n).take i).foldl jY [0]).length<=128:=by rw[qZ,Pz];have h2:2^min i (bits n).length<=2^7:=Pr () ();simp;lia
  have aA:∀x∈((bits n).take i).foldl jY [0],0<=x:=Br _ _ #[5];have U:((bits n).take (i+1)).foldl jY [0]=jY (((bits n).take i).foldl jY [0]) z:=by rw[Ql,o,Q8];rfl
  rw[U];generalize ((bits n).take i).foldl jY [0]=j at*;refine#[77,q,2,#[_,SqL.of c],6];refine bT (λx=>(λ_=>true) (bG x)) (λx=> .int ((λt:Int=>((t.toNat|||2^z.toNat:Nat):Int)) (bG x))) (SqL.of c) (by rw[My];exact OY ay ∅) (λi x vs H' R S hx hv d hk=> ?_) λD H' hD d hl=> ?_
  .obtain⟨v,rfl⟩:=bq hv;obtain⟨t,rfl,ht⟩:=bH hx;have t0:=aA t (O5 ht);have q:=hk [some (.int t)] H' rfl (Same.refl _);rw[OP rfl]at q;simp only[br,iM,OP];refine#[778,#[zr.1,94],86];have e:Builtin.bitOr t (1*2^z.toNat)=((t.toNat|||2^z.toNat:Nat):Int):=by
    have O:((2:Int)^z.toNat)=((2^z.toNat:Nat):Int):=#[5]
    rw[ng t0 (by rw[Qs];exact oG _),Qs,O,OU]
   show R (.int (Builtin.bitOr t (1*2^z.toNat))) _ H';rw[e];exact q
  replace hl:=hl.trans (PN (λl=>some (HO.lst l)) (bE (λ_=>true) (λt:Int=>((t.toNat|||2^z.toNat:Nat):Int)) j));rw[Qq.mpr (λ_ _=>rfl)]at hl;refine#[q,D,8,d.at c,hl,6,λq3 m=> ?_]
  .rw[My,My,My];exact OY (show j.length+j.length<=256 by lia) ∅
  have u:Same H H':=r.trans d;refine#[q3,some (.int z),u.upd (u.free m),6,u.free m,62]
  .have:=d.at G;rw[aE (aI this m)];exact this
  .rw[ak];unfold Bh.jY;rw[PC]
 .rintro g b ⟨q,v,r,G,J,c,rfl⟩;rw[My,Qo]at c;exact#[7,k q b r J c]
def Fb:aH ["s","kept"] ["s","kept"] (au lZ):=aZ
def FG(T:Tb K mg)(D:bC K mg "spread" lZ ["s","kept"])(e:Cal P w K mg base 1 "set_of" ["some"] (xY K))(g:Cal P w K mg base 2 "things" ["s"] iP)(j:Cal P w K mg base 1 "holds" ["s","thing"] xZ):
  Cal P w K mg base 3 "spread" ["s","kept"] Al:=by
 refine D.cal Fb #[6] λf cdv A outer ar H vs Q E a h=> ?_;obtain⟨s,t,rfl,u,y,B,k⟩:=h;refine#[_,(aj (aF (wcal e a (aa (wlc ["number","thing"] ["s"] [0] (ur (K:=K) ⋯ ⋯ T.enumerate_ (aa (wcal g a (aa (pv 1) ah)) ah)) (nP (K:=K) (n:=2) ⋯ ⋯ (fb (wnC 0) (fb (wnC 1) nO))) (dH (fj (wcal j a (aa (pv 2) (aa (pv 0) ah))))) (pv 1)) ah)))),6];refine#[7,t,2,y,B,λp J v M c=>#[p,2,#[_,c],6]];refine Jl (λi _=>s.toNat.testBit i) (λ_ x=>x) (SqL.of c) (by rw[My];exact OY (bj _) ∅) (λi x G vs H' R S r o d m l=> ?_) λD H' L d hl=> ?_
 .obtain⟨O,U,rfl⟩:=GJ o;obtain⟨z,rfl,N⟩:=bH r;have q:=l [some (.int (i:Nat)),some (.int z)] H' rfl (Same.refl _);refine#[G,7,SqT.of m,217877,s,7,u,976];rw[OU];cases b:s.toNat.testBit i with
  |true=>
   rw[b,OP rfl]at q;exact oS #[7,q]
  |false=>
   rw[b,OO Pf]at q;exact gE q
 .rw[rM (λi _=>s.toNat.testBit i)]at hl;exact#[D,7,SqL.of hl,j6,k H' (v.trans d)]
def Ks:aH ["s","t"] ["s","t"] (au tX):=aZ
def K2(D:bC K mg "less" tX ["s","t"]):Cal P w K mg base 1 "less" ["s","t"] qK:=by
 refine D.cal Ks #[6] λf cdv A outer d H vs Q E c h=> ?_;obtain⟨s,t,rfl,k⟩:=h;refine#[_,(aj (aF (aw CF (pv 0) (aw gB (pv 0) (pv 1))))),6];refine#[777886];show Q (.int (Builtin.bitXor (s:Int) (Builtin.bitAnd (s:Int) (t:Int)))) H;have e:Builtin.bitXor (s:Int) (Builtin.bitAnd (s:Int) (t:Int))=((ao s t:Nat):Int):=by
  unfold Builtin.bitXor;rw[jU,fY,jU];have h:=Ld s t;have l:=iK s t;have a:s||| (s&&&t)=s:=O2 λj=>by rw[O7,PD];cases s.testBit j<;>simp
  have b:s&&& (s&&&t)=s&&&t:=O2 λj=>by rw[PD,PD];cases s.testBit j<;>simp
  have l2:s&&&t<=s:=Sq;rw[a,b]at h⊢;lia
 rw[e];exact k
def yf:aH ["s","thing","y"] ["s","thing","y"] (au iT):=aZ
def yI(D:bC K mg "exchanged" iT ["s","thing","y"])(a:Cal P w K mg base 1 "less" ["s","t"] qK):Cal P w K mg base 2 "exchanged" ["s","thing","y"] rJ:=by
 refine D.cal yf #[6] λf cdv A outer e H vs Q E b h=> ?_;obtain⟨s,t,y,rfl,c,d,k⟩:=h;refine#[_,(aj (aF (aw ow (wcal a b (aa (pv 0) (aa (aw dG af (pv 1)) ah))) (aw dG af (pv 2))))),6];refine#[778,#[994],s,2^t,66]
 ·(try dsimp only);rw[nG];rfl
 refine#[78,#[994],86];show Q (.int (Builtin.bitOr ((ao s (2^t):Nat):Int) (1*2^((y:Nat):Int).toNat))) H;rw[nG,fY];exact k
def Fd:aH ["n"] ["n"] (au mf):=aZ
def FJ(D:bC K mg "all_of" mf ["n"]):Cal P w K mg base 1 "all_of" ["n"] DS:=by refine D.cal Fd #[6] λf cdv A outer d H vs Q E c h=> ?_;obtain⟨n,rfl,a,b,k⟩:=h;refine#[_,(aj (aF (aw fJ (aw dG af (pv 0)) af))),6];exact#[78,#[a,94],8,k]
def pE:aH ["self","n"] ["self","n"] (au ee):=aZ
def qe(D:i5 K "__init__" "House.__init__" ee ["self","n"] f):jd P w K mg base 1 f ["self","n"] (nF K):=by refine D.fn pE #[6] λcdv A outer g H vs Q E e h=> ?_;obtain⟨p,C,a,n,rfl,c,b,d,k⟩:=h;refine#[_,(aj (wsf K (pv 0) (pv 1))),6];exact#[77,p,C,a,7,c,b,d,(by show 0<1000;decide),k]
def nX:aH ["self"] ["self"] (au dC):=aZ
def n9(D:i5 K "everything" "House.everything" dC ["self"] f)(c:Cal P w K mg base 1 "all_of" ["n"] DS):jd P w K mg base 2 f ["self"] (eQ K):=by refine D.fn nX #[6] λcdv A outer o H vs Q E g h=> ?_;obtain⟨a,C,b,fs,n,rfl,e,d,m,i,j,l,k⟩:=h;refine#[_,(aj (aF (wcal c g (aa (wfld K (pv 0)) ah)))),6];exact#[7,a,C,b,fs,7,e,d,m,i,n,2,j,l,k]
def oM:aH ["self","n","some"] ["self","n","some"] (au dN):=aZ
def oQ(T:Tb K mg)(D:i5 K "__init__" "Listed.__init__" dN ["self","n","some"] f)(s:mg "House"=some (.ref C_House))(m:Cls K C)(G:bK K C "many")(J:bK K C "listed")
  (r:GF P w K mg base 1 C_House "__init__" ["self","n"] (nF K)):jd P w K mg base 2 f ["self","n","some"] (DP K C):=by
 refine D.fn oM #[6] λcdv A outer L H vs Q E B h=> ?_;obtain⟨p,c,a,n,ms,rfl,i,u,hl,k⟩:=h;refine#[_,(ae (dI (pX r B ∅ (eS (v:= .ref C_House) ⋯ s rfl) (aa (pv 0) (aa (pv 1) ah))))
   (aj (wsf K (pv 0) (fQ (jT (K:=K) ⋯) ⋯ T.tuple_ RT (aa (pv 2) ah))))),6]
 refine#[277,p,C,c,7,i,m,G,6];have y:upd H p (.ins C c (cf "many" (.int n) [])) p=some (.ins C c (cf "many" (.int n) [])):=ak;have j:∀b o,H b=some o->b≠p->upd H p (.ins C c (cf "many" (.int n) [])) b=some o:=λb o e d=>by rw[aE d];exact e
 have x:SqL K (upd H p (.ins C c (cf "many" (.int n) []))) a (ms.map V.int):=by
  rcases u with (h|⟨o,h⟩)|h
  .exact .inl (.inl (j _ _ h (kJ h i (by intro z;cases z))))
  .exact .inl (.inr #[o,j _ _ h (kJ h i (by intro z;cases z))])
  .exact .inr h
 refine#[7,a,7, .inl #[x,λt g=> ?_]];have l:t≠p:=λe=>by rw[e,ak]at g;cases g
 have q:H t=none:=by rwa[aE l]at g
 refine#[7,p,C,c,7,(by rw[aE l.symm];exact y),m,J,66]
 .exact Pd (aS _ _ _) (by show 0+1<1000;decide)
 refine k t _ q (λb o e d=> ?_) ak ?_
 .rw[aE d,aE (aI e q)];exact j b o e d
 .rw[aE l,ak]
def tU:aH ["self","s"] ["self","s"] (au gp):=aZ
def uD(T:Tb K mg)(D:i5 K "rank" "Listed.rank" gp ["self","s"] f)(p:Cls K C)(n2:bK K C "listed")(o:Cal P w K mg base 3 "size" ["s"] lO):jd P w K mg base 4 f ["self","s"] (DJ C):=by
 refine D.fn tU #[6] λcdv A outer a3 H vs Q E O h=> ?_;obtain⟨a,n,s,ms,rfl,⟨u,t,B,d,hl⟩,N,M,s0,s1,k⟩:=h;refine#[_,(aj (aF (eh (Dl (K:=K) ⋯ ⋯) ⋯ T.max_ PyProof.Rows.boot_max (aa (wlc ["one"] ["s"] [1] (wit K (wfld K (pv 0))) (wnC 0) cc (wcal o O (aa (aw gB (pv 1) (pv 0)) ah))) ah)))),6];refine#[7,a,C,u,17,B,p,n2,CU _ _,t,2,#[_,SqT.of d],6];have s2:s.toNat<256:=()
 refine Lg (λx=>(λ_=>true) (bG x)) (λx=> .int ((λm:Int=>((sz (s.toNat&&&m.toNat):Nat):Int)) (bG x))) d (by rw[My];exact OY hl ∅) (λi x vs H' R S hx U g G=> ?_) λD H' hD g hl=> ?_
 .obtain⟨v,rfl⟩:=bq U;obtain⟨m,rfl,c⟩:=bH hx;obtain⟨m0,m1⟩:=M m (O5 c);simp only[br,iM,OP];have b:Builtin.bitAnd s m=((s.toNat&&&m.toNat:Nat):Int):=fZ s0 m0;have la:s.toNat&&&m.toNat<256:=J2 s2;refine#[778,Builtin.bitAnd s m,2,(by rw[b];lia),(by rw[b];lia),λj aB=> ?_];rw[b,OU];have q:=G [some (.int m)] j rfl aB;rwa[OP rfl]at q
 replace hl:=hl.trans (PN (λl=>some (HO.lst l)) (bE (λ_=>true) (λm:Int=>((sz (s.toNat&&&m.toNat):Nat):Int)) ms));rw[Qq.mpr (λ_ _=>rfl)]at hl;refine#[D,7,SqL.of hl,6,λz hz L=> ?_]
 .intro e;rw[List.map_eq_nil_iff]at e;exact N e
 have y:z=((cI ms s.toNat:Nat):Int):=by obtain⟨m,c,rfl⟩:=OX.mp hz;rw[rL (ms:=ms) (s:=s.toNat) (r:=sz (s.toNat&&&m.toNat)) #[m,c,2] λm' J=> ?_];have:=L _ (OX.mpr #[m',J,2]);lia
 rw[y];exact k H' g
def ye:aH ["marks","tie","old","new"] ["marks","tie"] (au tV):=aZ
def K0(D:bC K mg "tied" tV ["marks","tie"]):Cal P w K mg base 1 "tied" ["marks","tie"] (Hi K):=by
 refine D.cal ye #[6] λf cdv A outer O H vs Q E N h=> ?_;obtain⟨a,b,ms,t,rfl,c,n,B,G,hl,k⟩:=h;refine#[_,(ae (wset 2 ye.nd (dg K (pv 0) (i6 K (pv 1) af)))
   (ae (wset 3 ye.nd (dg K (pv 0) (i6 K (pv 1) af)))
   (aj (aF (wlc ["mark"] ["new","old"] [3,2] (wil K (pv 0)) (wnC 0) cc (mw (wpt a7 (pv 0) (pv 2)) (pv 1) (pv 0))))))),6]
 have J:atI [V.int (t.1:Int),V.int (t.2:Int)] 0=some (.int t.1):=fv (j:=0) rfl;have L:atI [V.int (t.1:Int),V.int (t.2:Int)] 1=some (.int t.2):=fv (j:=1) rfl;have p:atI (ms.map V.int) (t.1:Int)=some (.int (ms.getD t.1 0)):=cS B;have r:atI (ms.map V.int) (t.2:Int)=some (.int (ms.getD t.2 0)):=cS G;refine#[77,b,3,SqT.of n,J,a,3,c,p,6];refine#[77,b,3,SqT.of n,L,a,3,c,r,6];refine#[7,a,2,#[_,c],6];refine bT (λx=>(λ_=>true) (bG x)) (λv=> .int ((λm:Int=>if m=ms.getD t.1 0 then ms.getD t.2 0 else m) (bG v))) c (by rw[My];exact OY hl ∅) (λi v vs H' R S z y o u=> ?_) λD H' s o d=> ?_
 .obtain⟨v,rfl⟩:=bq y;obtain⟨m,rfl,M⟩:=bH z;have q:=u [some (.int m)] H' rfl (Same.refl _);rw[OP rfl]at q;simp only[br,iM,OP];refine#[77276];rw[JL];refine cP (λg=> ?_) λg=> ?_
  .have e:=O9 g;replace q:R (V.int (if m=ms.getD t.1 0 then ms.getD t.2 0 else m)) _ _:=q;rw[OP e]at q;exact#[7,q]
  .have e:=Ss (QV.mpr g);replace q:R (V.int (if m=ms.getD t.1 0 then ms.getD t.2 0 else m)) _ _:=q;rw[OO e]at q;exact#[7,q]
 replace d:=d.trans (PN (λl=>some (HO.lst l)) (bE (λ_=>true) (λm:Int=>if m=ms.getD t.1 0 then ms.getD t.2 0 else m) ms));rw[Qq.mpr (λ_ _=>rfl)]at d;exact k D H' o s d
def sj:aH ["self","n","points","ties"] ["self","n","points","ties"] (au fF):=aZ
def su(T:Tb K mg)(D:i5 K "__init__" "Net.__init__" fF ["self","n","points","ties"] f)(ag:mg "House"=some (.ref C_House))(M:Cls K C)(n1:bK K C "many")(n2:bK K C "points")(n3:bK K C "ties")
  (ab:GF P w K mg base 1 C_House "__init__" ["self","n"] (nF K)):jd P w K mg base 2 f ["self","n","points","ties"] (DO K C):=by
 refine D.fn sj #[6] λcdv A outer cm H vs Q E hr h=> ?_;obtain⟨p,d,a,n,pt,xs,ts,rfl,B,ha,hx,hl,k⟩:=h;refine#[_,(ae (dI (pX ab hr ∅ (eS (v:= .ref C_House) ⋯ ag rfl) (aa (pv 0) (aa (pv 1) ah))))
   (ae (wsf K (pv 0) (pv 2))
   (aj (wsf K (pv 0) (fQ (jT (K:=K) ⋯) ⋯ T.tuple_ RT (aa (wlc ["tie"] [] [] (wil K (pv 3)) (wnC 0) cc (iy (aa (i6 K (pv 0) af) (aa (i6 K (pv 0) af) ah)))) ah)))))),6]
 refine#[277,p,C,d,7,B,M,n1,6];have bk:upd H p (.ins C d (cf "many" (.int n) [])) p=some (.ins C d (cf "many" (.int n) [])):=ak;refine#[77,p,C,d,7,bk,M,n2,Pd (aS _ _ _) (by show 0+1<1000;decide),6];rw[nA];have bt:upd H p (.ins C d (cf "points" (.int pt) (cf "many" (.int n) []))) p=some (.ins C d (cf "points" (.int pt) (cf "many" (.int n) []))):=ak;have J:∀b o,H b=some o->b≠p->upd H p (.ins C d (cf "points" (.int pt) (cf "many" (.int n) []))) b=some o:=λb o e g=>by rw[aE g];exact e
 have nn:∀b,upd H p (.ins C d (cf "points" (.int pt) (cf "many" (.int n) []))) b=none->b≠p/\H b=none:=λb g=>by
  have bp:b≠p:=λe=>by rw[e,ak]at g;cases g
  rw[aE bp]at g;exact#[bp,g]
 have b8:qz H (upd H p (.ins C d (cf "points" (.int pt) (cf "many" (.int n) [])))):=λb m e=>J b _ e (kJ e B (by intro z;cases z));have aB:SqL K (upd H p (.ins C d (cf "points" (.int pt) (cf "many" (.int n) [])))) a xs:=by
  rcases ha with (h|⟨o,h⟩)|h
  .exact .inl (.inl (J _ _ h (kJ h B (by intro z;cases z))))
  .exact .inl (.inr #[o,J _ _ h (kJ h B (by intro z;cases z))])
  .exact .inr h
 have ar:=hx.ts b8;generalize upd H p (.ins C d (cf "points" (.int pt) (cf "many" (.int n) [])))=H1 at*;refine#[7,a,2,#[_,aB],6];refine Jk (λx y G=>∃(b c:Addr)(t:Nat×Nat),x= .ref b/\y= .ref c/\G b=some (.tup [.int t.1, .int t.2])/\G c=some (.tup [.int t.1, .int t.2])) (λx y G G' e h=>by obtain⟨b,c,t,r,N,u,O⟩:=h;exact#[b,c,t,r,N,e _ _ u,e _ _ O]) aB (OY hl ∅) (λi v vs H' R S bN hv s hk=> ?_) λD L m hD s a5 aD hR=> ?_
 .obtain⟨v,rfl⟩:=bq hv;obtain⟨b,t,l,rfl,g⟩:=ar.at bN;have U:=s.at g;have t0:atI [V.int (t.1:Int),V.int (t.2:Int)] 0=some (.int t.1):=fv (j:=0) rfl;have t1:atI [V.int (t.1:Int),V.int (t.2:Int)] 1=some (.int t.2):=fv (j:=1) rfl;simp only[br,iM,OP];refine#[7,b,3,SqT.of U,t0,7,b,3,SqT.of U,t1,by show 2<=sizeLine;decide,λq hq=> ?_];exact hk _ [some (.ref b)] _ #[b,q,t,22,(Same.new hq).at U,ak] rfl (Same.new hq)
 have b0:dO L m ts:=by
  refine#[by rw[aD];exact ar.1,λi t l=> ?_];obtain⟨b,u,O⟩:=ar.2 i t l;have hi:i<m.length:=by rw[aD];exact(O1.mp u).1
  obtain⟨b',c,t',r,N,g1,g2⟩:=hR i _ _ u (Po hi);cases r;have g3:=s.at O;rw[g1]at g3;refine#[c,by rw[Po hi,N],6];rw[g2];exact g3
 refine#[D,m,2, .inl #[SqL.of a5,λt l=> ?_]];have ai:=s.at bt;have tp:t≠p:=λe=>by rw[e,ai]at l;cases l
 have b7:H1 t=none:=by
  cases e:H1 t with
  |none=>rfl
  |some o=>rw[s.at e]at l;cases l
 refine#[7,p,C,d,7,(by rw[aE tp.symm];exact ai),M,n3,66]
 .exact Pd (aS _ _ _) (Pd (QH (aS _ _ _)) (by show 0+1+1<1000;decide))
 have bu:upd L t (.tup m) p=some (.ins C d (cf "points" (.int pt) (cf "many" (.int n) []))):=by rw[aE tp.symm];exact ai
 refine k t m _ (nn t b7).2 (λb o e g=> ?_) ak ?_ ?_
 .have r:=s.at (J b o e g);rw[aE g,aE (aI r l)];exact r
 .rw[aE tp,ak]
 .refine(b0.ts (H':=upd L t (.tup m)) (qz.new l)).ts λb zs e=> ?_;rw[aE (kJ e bu (by intro z;cases z))];exact e
def iG:aH ["self","s","marks","thing"] ["self","s"] (au h9):=aZ
def vU(T:Tb K mg)(D:i5 K "pieces" "Net.pieces" h9 ["self","s"] f)(G:Cls K C)(n2:bK K C "points")(n3:bK K C "ties")(ab:Cal P w K mg base 2 "things" ["s"] iP)(ag:Cal P w K mg base 1 "tied" ["marks","tie"] (Hi K)):
  jd P w K mg base 3 f ["self","s"] (LS C):=by
 refine D.fn iG #[6] λcdv A outer b6 H vs Q E U h=> ?_;obtain⟨a,n,p,s,ts,rfl,hN,bp,O,h8,hs,k⟩:=h;refine#[_,(ae (wset 2 iG.nd (fQ (Dm ⋯) ⋯ T.list_ Rp (aa (Io ⋯ T.range_ (aa (wfld K (pv 0)) ah)) ah)))
   (ae (wfor (wil K (wcal ab U (aa (pv 1) ah))) (wname 3 iG.nd)
     (aj (wset 2 iG.nd (wcal ag U (aa (pv 2) (aa (i6 K (wfld K (pv 0)) (pv 3)) ah))))))
   (aj (aF (eh vn ⋯ T.len_ T6 (aa (fQ (vm (K:=K) ⋯ ⋯) ⋯ T.set_ PyProof.Rows.boot_set (aa (pv 2) ah)) ah)))))),6]
 obtain⟨J,t,xs,L,ht,hx⟩:=id hN;refine#[7,a,C,J,17,L,G,n2,uF _ _ _,7,λr bt=>#[r,p,2,ak,O,λm hm=> ?_]];have ax:Same H (upd (upd H r (.rng 0 p)) m (.lst ((Bh.start p).map V.int))):=(Same.new bt).trans (Same.new hm);have bk:upd (upd H r (.rng 0 p)) m (.lst ((Bh.start p).map V.int)) m=some (.lst ((Bh.start p).map V.int)):=ak;have b5:s<256:=OW hs (Pr (n:=2) () h8);show br _ _ _ (upd (upd H r (.rng 0 p)) m (.lst ((Bh.start p).map V.int))) _;generalize upd (upd H r (.rng 0 p)) m (.lst ((Bh.start p).map V.int))=H1 at*;refine#[7,(s:Int),299,λq H2 x hq hl=> ?_];rw[OU]at hl;refine#[q,2,#[_,SqL.of hl],6];refine cQ (K:=K) (a:=q) (xs:=(bits s).map V.int) (λi g H'=>Same H2 H'/\∃m v,H' m=some (.lst ((yO p ts ((bits s).take i)).map V.int))/\g=[rW a,rT s,rW m,v]) #[Same.refl _,m,none,x.at bk,2] (λi g H' _ z=>SqL.of (z.1.at hl)) ?_ ?_
 .rintro i y g H' hi ⟨e,o,v,d,rfl⟩;obtain⟨z,rfl,hz⟩:=bH hi;obtain⟨z0,z1⟩:=oW hs (O5 hz);obtain⟨j,rfl⟩:=QM z0;rw[OU]at z1;have B:Same H H':=(ax.trans x).trans e;have N:ts[j]?=some (ts.getD j (0,0)):=by simp[z1]
  obtain⟨b,a3,a4⟩:=(hx.ts (qz.of B)).2 j _ N;have M:=bp _ (O5 N);have c:=mE p ts ((bits s).take i);refine#[77,a,C,J,17,B.at L,G,n3,IT _ _ _,7,t,3,SqT.of (B.at ht),fv a3,6];refine#[o,b,_,ts.getD j (0,0),2,SqL.of d,a4,by rw[c];exact M.1,by rw[c];exact M.2,by rw[c];exact O,λu H3 bS hu bb=> ?_];refine#[e.trans bS,u,162];rw[bb,Ql,hz,Option.toList_some,wJ,OU]
 .rintro g H' ⟨e,o,v,d,rfl⟩;rw[My,Qo]at d;have c:=mE p ts (bits s);refine#[7,o,7,SqL.of d,by rw[c];lia,λl a6=>#[l,17,ak,6]];rw[k4,c];exact k _ (((ax.trans x).trans e).trans (Same.new a6))
def AH:aH ["self","s"] ["self","s"] (au jG):=aZ
def A2(D:i5 K "rank" "Net.rank" jG ["self","s"] f)(i:Cls K C)(r:bK K C "points")(g:∀b,b=C->dn P w K mg base 3 b "pieces" ["self","s"] (LS b)):jd P w K mg base 4 f ["self","s"] (DI C):=by refine D.fn AH #[6] λcdv A outer y H vs Q E o h=> ?_;obtain⟨a,n,p,s,ts,rfl,d,l,m,j,q,k⟩:=h;refine#[_,(aj (aF (aw fJ (wfld K (pv 0)) (gu g o ∅ (pv 0) (aa (pv 1) ah))))),6];obtain⟨c,t,xs,e,v,x⟩:=id d;exact#[7,a,C,c,17,e,i,r,uF _ _ _,7,a,C,c,7,e,2,CO _ _ _,7,a,n,p,s,ts,2,d,l,m,j,q,λH' u=>#[8,k H' u]]
def jy:aH ["rows","column","place","row"] ["rows","column"] (au gh):=aZ
def uB(T:Tb K mg)(D:bC K mg "pivot_place" gh ["rows","column"]):Cal P w K mg base 1 "pivot_place" ["rows","column"] (DL K):=by
 refine D.cal jy #[6] λf cdv A outer ay H vs Q E hr h=> ?_;obtain⟨a,xs,L,c,n,rfl,v,x,O,M,k1,k2⟩:=h;refine#[_,(ae (wfor (ur (K:=K) ⋯ ⋯ T.enumerate_ (aa (pv 0) ah)) (nP (K:=K) (n:=2) ⋯ ⋯ (fb (wname 2 jy.nd) (fb (wname 3 jy.nd) nO)))
     (aj (bA (wpt jh (dg K (pv 3) (pv 1)) af)
       (aj (aF (pv 2)))
       aQ)))
   (aj (aF jJ))),6]
 refine#[7,a,2,#[_,v],6];refine Bq (K:=K) (a:=a) (xs:=xs) (λi m H'=>Same H H'/\(∀(j:Nat)(r:List Int),j<i->L[j]?=some r->r.getD c 0=0)/\∃s u,m=[rW a,rT c,s,u]) #[Same.refl _,λj _ d=>absurd d (RW _),none,none,2] (λi m H' _ z=>SqL.of (z.1.at v)) ?_ ?_
 .rintro i y t m H' N U ⟨k,p,s,u,rfl⟩;obtain⟨b,r,g,rfl,G⟩:=(x.same k).at N;have q:Same H' (upd H' t (.tup [.int (i:Int), .ref b])):=Same.new U;have J:=q.at G;have B:atI (r.map V.int) (c:Int)=some (.int (r.getD c 0)):=cS (by rw[O r (O5 g)];exact M);refine#[t,7,SqT.of ak,21786];refine#[77,b,3,SqL.of J,B,276];by_cases l:r.getD c 0=0
  .rw[l];refine gE #[k.trans q,λj r' d o=> ?_,17];by_cases e:j=i
   .subst e;rw[g]at o;cases o;exact l
   .exact p j r' () o
  .rw[OR λe=>l (V.int.inj e)];exact oS #[7,k1 i r _ (k.trans q) g l]
 .rintro m H' ⟨k,p,s,u,rfl⟩;refine k2 (λr g=> ?_) H' k;obtain⟨j,d⟩:=P2 g;exact p j r (by rw[x.1];exact(O1.mp d).1) d
def oK:aH ["row","pivot","column","divisor","ahead","behind"] ["row","pivot","column","divisor"] (au kF):=aZ
def AY(T:Tb K mg)(D:bC K mg "cleared" kF ["row","pivot","column","divisor"]):Cal P w K mg base 1 "cleared" ["row","pivot","column","divisor"] (tQ K):=by
 refine D.cal oK #[6] λf cdv A outer a5 H vs Q E hr h=> ?_;obtain⟨a,b,r,e,c,n,B,d,rfl,p,s,g,l,G,hn,hB,hd,k⟩:=h;refine#[_,(ae (wset 4 oK.nd (dg K (pv 1) (pv 2)))
   (ae (wset 5 oK.nd (dg K (pv 0) (pv 2)))
   (aj (aF (wlc ["number","above"] ["divisor","ahead","behind"] [3,4,5] (KJ (K:=K) ⋯ ⋯ T.zip_ (aa (pv 0) (aa (pv 1) ah))) (nP (K:=K) (n:=2) ⋯ ⋯ (fb (wnC 0) (fb (wnC 1) nO))) cc (aw IB (aw fJ (aw sP (pv 0) (pv 3)) (aw sP (pv 1) (pv 4))) (pv 2))))))),6]
 have M:atI (r.map V.int) (c:Int)=some (.int (r.getD c 0)):=cS (by rw[g.1];exact G);have L:atI (e.map V.int) (c:Int)=some (.int (e.getD c 0)):=cS (by rw[l.1];exact G);refine#[77,b,3,s,L,6];refine#[77,a,3,p,M,6];refine#[77,a,b,2,#[_,p],#[_,s],6];have u:B+B<=2^26:=()
 refine Lf (n:=n) (λj=> .int ((r.getD j 0*e.getD c 0-e.getD j 0*r.getD c 0).fdiv d)) p s (by rw[My];exact g.1) (by rw[My];exact l.1) (OY hn ∅) (λi x y vs H' t R S hx hy hv J ht hk=> ?_) λD H' U J ai=> ?_
 .obtain⟨v1,v2,rfl⟩:=GJ hv;obtain⟨m,rfl,N⟩:=bH hx;obtain⟨o,rfl,O⟩:=bH hy;have v:r.getD i 0=m:=by rw[OV,N];rfl
  have z:e.getD i 0=o:=by rw[OV,O];rfl
  have q:=hk [some (.int m),some (.int o)] (upd H' t (.tup [.int m, .int o])) rfl (Same.refl _);rw[v,z]at q;have m1:jV m (e.getD c 0):=by rw[<-v];exact jV.of (g.at i) (l.at c) u
  have m2:jV o (r.getD c 0):=by rw[<-z];exact jV.of (l.at i) (g.at c) u
  refine#[t,7,SqT.of ak,21786];simp only[iM,OP];exact#[778,m1,778,m2,878,hd,q]
 .refine k D H' J U (ai.trans ?_);unfold oU;rw[g.1,PJ];rfl
def jz:aH ["rows","place","column","divisor","pivot","others"] ["rows","place","column","divisor"] (au gn):=aZ
def sr(T:Tb K mg)(D:bC K mg "all_cleared" gn ["rows","place","column","divisor"])(ab:Cal P w K mg base 1 "cleared" ["row","pivot","column","divisor"] (tQ K)):Cal P w K mg base 2 "all_cleared" ["rows","place","column","divisor"] (Az K):=by
 refine D.cal jz #[6] λf cdv A outer c1 H vs Q E hr h=> ?_;obtain⟨a,xs,L,i,c,n,B,d,s,rfl,ha,hx,aB,hL,hi,hc,hn,hB,hd,k⟩:=h;refine#[_,(ae (wset 4 jz.nd (dg K (pv 0) (pv 1)))
   (ae (wset 5 jz.nd (aw qT (mr (lP (K:=K) ⋯) (pv 0) pU (pT (pv 1))) (mr (lP (K:=K) ⋯) (pv 0) (pT (aw eu (pv 1) af)) pU)))
   (aj (aF (wlc ["row"] ["pivot","column","divisor"] [4,2,3] (wil K (pv 5)) (wnC 0) cc (wcal ab hr (aa (pv 0) (aa (pv 1) (aa (pv 2) (aa (pv 3) ah)))))))))),6]
 obtain⟨b,bB,bN⟩:=hx.2 i s hi;refine#[77,a,3,SqL.of ha,fv bB,6];refine#[777,a,7,SqL.of ha,λp1 b8=> ?_];rw[LA];have a5:Same H (upd H p1 (.lst (xs.take i))):=Same.new b8;have p:upd H p1 (.lst (xs.take i)) p1=some (.lst (xs.take i)):=ak;generalize upd H p1 (.lst (xs.take i))=t at*;refine#[7787,a,7,SqL.of (a5.at ha),λp2 b9=> ?_];rw[show(i:Int)+1=((i+1:Nat):Int)from rfl,Gh];have a6:Same t (upd t p2 (.lst (xs.drop (i+1)))):=Same.new b9;have M:upd t p2 (.lst (xs.drop (i+1))) p2=some (.lst (xs.drop (i+1))):=ak;generalize upd t p2 (.lst (xs.drop (i+1)))=z at*;have cL:=hx.1;refine#[p1,p2,8,a6.at p,M,6,λq hq=> ?_]
 .rw[Pz,Ri];exact OY (JP i xs.length) (OY (show xs.length<=1000 by lia) ∅)
 have ct:Same z (upd z q (.lst (xs.take i++xs.drop (i+1)))):=Same.new hq;have h3:upd z q (.lst (xs.take i++xs.drop (i+1))) q=some (.lst (xs.take i++xs.drop (i+1))):=ak;generalize upd z q (.lst (xs.take i++xs.drop (i+1)))=H3 at*;have ag:Same H H3:=(a5.trans a6).trans ct;have bS:=ag.at bN;have a0:a9 H3 (xs.take i++xs.drop (i+1)) (L.take i++L.drop (i+1)):=(hx.same ag).cut i;have cq:(xs.take i++xs.drop (i+1)).length<=1000:=by rw[Pl,Pz,Ri];exact OY (JP i xs.length) ()
 have bk:∀r∈L.take i++L.drop (i+1),nh n B r:=λr g=>by
  rcases Pg.mp g with h|h
  .exact aB r (Ry h)
  .exact aB r (Ti h)
 have two:∀(j:Nat)(r:List Int),(L.take i++L.drop (i+1))[j]?=some r->2<=L.length:=λj r hj=>by have p:=(O1.mp hj).1;have M:=(O1.mp hi).1;rw[Pl,Pz,Ri]at p;lia
 generalize xs.take i++xs.drop (i+1)=zs at*;generalize L.take i++L.drop (i+1)=N at*;refine#[7,q,2,#[_,SqL.of h3],6];refine uL (λx y G=>∃(m J:Addr)(r:List Int),x= .ref m/\y= .ref J/\H3 m=some (.lst (r.map V.int))/\G J=some (.lst ((oU d s r c).map V.int))) (λx y G G' e h=>by obtain⟨m,J,r,e1,e2,g1,g2⟩:=h;exact#[m,J,r,e1,e2,g1,e.at g2]) (SqL.of h3) (OY cq ∅) (λj x vs D H' R S cn hv U O hk=> ?_) λD H' ys O U bu b6 hR=> ?_
 .obtain⟨v,rfl⟩:=bq hv;obtain⟨m,r,g,rfl,a4⟩:=a0.at cn;obtain⟨l,hl⟩:=O;simp only[br,iM,OP];refine#[7777,m,b,r,s,c,n,B,d,2,SqL.of (U.at a4),SqL.of (U.at bS),bk r (O5 g),aB s (O5 hi),hc,hn,hB,hd (two j r g),λu H4 cu hu b5=> ?_];refine hk _ [some (.ref m)] H4 #[m,u,r,22,a4,6] rfl cu;rw[eU (aI hl hu).symm];exact b5
 .refine k D H' ys (ag.trans U) ?_ bu ?_
  .cases e:H D with
   |none=>rfl
   |some o=>rw[ag.at e]at O;cases O
  .refine a9.of (by rw[b6,My];exact a0.1) λj r' y g hy=> ?_;rw[Ph]at g;cases hN:N[j]? with
   |none=>rw[hN]at g;cases g
   |some r=>
    rw[hN]at g;cases g;obtain⟨m,p,M⟩:=a0.2 j r hN;obtain⟨b2,c2,r2,e1,e2,g1,g2⟩:=hR j _ y p hy;cases e1;rw[yQ M g1];exact#[c2,e2,fS.at g2]
def Hv:aH ["row","prime"] ["row","prime"] (au pF):=aZ
def ID(T:Tb K mg)(D:bC K mg "rests" pF ["row","prime"]):Cal P w K mg base 1 "rests" ["row","prime"] (DH K):=by
 refine D.cal Hv #[6] λf cdv A outer t H vs Q E p h=> ?_;obtain⟨a,r,m,rfl,c,o,hl,k⟩:=h;refine#[_,(ae (bA (wpt a7 (pv 1) af)
     (aj (aF (fQ (we (K:=K) ⋯) ⋯ T.list_ Rp (aa (pv 0) ah))))
     aQ)
   (aj (aF (wlc ["number"] ["prime"] [1] (wil K (pv 0)) (wnC 0) cc (aw cF (pv 0) (pv 1)))))),6]
 refine#[727,cP (λz=> ?_) λz=> ?_]
 .have e:m=0:=V.int.inj (O9 z);refine#[7,a,7, .inl c,λq b=> ?_];refine k q _ (Same.new b) b ?_;rw[ak];unfold eI;rw[OP e]
 .have e:¬m=0:=λe=>z (OQ (by rw[e]));refine#[7,a,2,#[_,c],6];refine bT (λ_=>true) (λx=> .int (bG x % m)) c (by rw[My];exact OY hl ∅) (λi x vs H' R S n l d g=> ?_) λq H' b d j=> ?_
  .obtain⟨v,rfl⟩:=bq l;obtain⟨y,rfl,s⟩:=bH n;have q:=g [some (.int y)] H' rfl (Same.refl _);rw[OP rfl]at q;simp only[br,iM,OP];exact#[778,(by show(0:Int)<m;lia),q]
  .refine k q H' d b (j.trans ?_);have:=bE (λ_=>true) (λz=>z % m) r;rw[this,Qq.mpr (λ_ _=>rfl)];unfold eI;rw[OO e]
def dP:aH ["rows","prime","left","rank","divisor","column","place","ahead"] ["rows","prime"] (au kB):=aZ
def CH(T:Tb K mg)(D:bC K mg "rank_of" kB ["rows","prime"])(ai:Cal P w K mg base 1 "rests" ["row","prime"] (DH K))(ab:Cal P w K mg base 1 "pivot_place" ["rows","column"] (DL K))(ag:Cal P w K mg base 2 "all_cleared" ["rows","place","column","divisor"] (Az K)):Cal P w K mg base 3 "rank_of" ["rows","prime"] (Aq K):=by
 refine D.cal dP #[6] λf cdv A outer fm H vs Q E hr h=> ?_;obtain⟨a,xs,M,n,m,rfl,ha,hx,hM,n8,cN,J,k⟩:=h;refine#[_,(ae (bA (wpt a7 (wlen K T.len_ (pv 0)) af)
     (aj (aF af))
     aQ)
   (ae (wls 2 dP.nd ["row"] ["prime"] [1] (wil K (pv 0)) (wnC 0) cc (wcal ai hr (aa (pv 0) (aa (pv 1) ah))))
   (ae (wset 3 dP.nd af)
   (ae (wset 4 dP.nd af)
   (ae (wfor (wrng T.range_ (wlen K T.len_ (dg K (pv 0) af))) (wname 5 dP.nd)
     (ae (wset 6 dP.nd (wcal ab hr (aa (pv 2) (aa (pv 5) ah))))
     (aj (bA (wpt yC (pv 6) jJ)
       (ae (wset 7 dP.nd (dg K (dg K (pv 2) (pv 6)) (pv 5)))
       (ae (wls 2 dP.nd ["row"] ["prime"] [1] (wil K (wcal ag hr (aa (pv 2) (aa (pv 6) (aa (pv 5) (aa (pv 4) ah)))))) (wnC 0) cc (wcal ai hr (aa (pv 0) (aa (pv 1) ah))))
       (ae (wset 3 dP.nd (aw eu (pv 3) af))
       (aj (bA (wpt a7 (pv 1) af)
         (aj (wset 4 dP.nd (pv 7)))
         aQ)))))
       aQ))))
   (aj (aF (pv 3)))))))),6]
 have d2:=hx.1;refine#[7,a,7, .inl (SqL.of ha),27,cP (λz=> ?_) λz=> ?_]
 .have e:M=[]:=by have e1:((xs.length:Nat):Int)=0:=V.int.inj (O9 z);exact SG.mp ()
  subst e;refine k 0 H (Same.refl _) ?_ (xW J.one _ _);intro S T hS hT ls lt
  match S,ls with
  |s::_,_=>exact absurd (hS s O6) (λh=>nomatch h)
 have m0:0<M.length:=by refine Sv λe=>z (OQ ?_);rw[d2,e];rfl
 refine#[7,a,2,#[_,SqL.of ha],6];refine uL (λx y G=>∃(B U:Addr)(r:List Int),x= .ref B/\y= .ref U/\H B=some (.lst (r.map V.int))/\G U=some (.lst ((eI m r).map V.int))) (λx y G G' e h=>by obtain⟨B,U,r,e1,e2,g1,g2⟩:=h;exact#[B,U,r,e1,e2,g1,e.at g2]) (SqL.of ha) (OY (show xs.length<=100 by lia) ∅) (λj x vs D H' R S c1 hv sm hD hk=> ?_) λq H1 ys hq c6 eG eB hR=> ?_
 .obtain⟨v,rfl⟩:=bq hv;obtain⟨B,r,o,rfl,a5⟩:=hx.at c1;obtain⟨l,hl⟩:=hD;simp only[br,iM,OP];refine#[77,B,r,m,2,SqL.of (sm.at a5),J.nn,by rw[(cN r (O5 o)).1];lia,λu H4 bu hu aD=> ?_];refine hk _ [some (.ref B)] _ #[B,u,r,22,a5,6] rfl bu;rw[eU (aI hl hu).symm];exact aD
 have eP:a9 H1 ys (M.map (eI m)):=by
  refine a9.of (by rw[eB,My];exact d2) λj r' y o hy=> ?_;rw[Ph]at o;cases hN:M[j]? with
  |none=>rw[hN]at o;cases o
  |some r=>
   rw[hN]at o;cases o;obtain⟨B,h1,h2⟩:=hx.2 j r hN;obtain⟨b2,c2,r2,e1,e2,g1,g2⟩:=hR j _ y h1 hy;cases e1;rw[yQ h2 g1];exact#[c2,e2,fS.at g2]
 clear hR;obtain⟨b0,et,ey⟩:=hx.2 0 _ (Po m0);have l0:=(cN _ (Qt m0)).1;refine#[7,a,3,SqL.of (c6.at ha),fv (j:=0) et,b0,7, .inl (SqL.of (c6.at ey)),7,by rw[My];lia,by rw[My];lia,6];rw[My,l0,OU];have mapped:∀(L:List (List Int)) (c:Nat) (g:Nat),(Van m g ((L.map (eI m)).map dD) (List.range' c (n-c))->Van m g (L.map dD) (List.range' c (n-c)))/\(Mnr m g ((L.map (eI m)).map dD) (List.range' c (n-c))->Mnr m g (L.map dD) (List.range' c (n-c))):=λL c g=>by
  have e:(L.map (eI m)).map dD=(L.map dD).map (IY m):=by rw[PJ,PJ];exact P4 λr _=>Ff m r
  rw[e];exact#[Kd λr _ j _=>A6 m r j,Kj λr _ j _=>A6 m r j]
 refine cZ (n:=n) (λc σ H'=>Same H H'/\∃(q:Addr)(ys:List V) (L:List (List Int)) (rk:Nat) (d:Int) (v5 v6 v7:Option V),H' q=some (.lst ys)/\a9 H' ys L/\L.length+rk=M.length/\(∀r∈L,nh n (jc rk) r)/\(0<m->∀r∈L,∀z∈r,0<=z/\z<m)/\d≠0/\d.natAbs<2^jc (rk-1)/\¬m∣d/\(m≠0->d=1)/\se d (L.map dD) (List.range' c (n-c))/\
  (∀g,Van m g (L.map dD) (List.range' c (n-c))->Van m (rk+g) (M.map dD) (List.range n))/\(∀g,Mnr m g (L.map dD) (List.range' c (n-c))->Mnr m (rk+g) (M.map dD) (List.range n))/\
  σ=[rW a,xS m,rW q,rT rk,xS d,v5,v6,v7]) #[c6,q,ys,M.map (eI m),0,(1),none,none,none,eG,eP,by rw[My];rfl,λr o=> ?_,λhp r o=> ?_,44,J.one,λ_=>rfl,kL _ _,λg v=> ?_,λg v=> ?_,2] ?_ ?_
 .obtain⟨r0,bk,rfl⟩:=OX.mp o;exact AK J.nn J.lt ∅ (cN r0 bk)
 .obtain⟨r0,bk,rfl⟩:=OX.mp o;exact DW hp
 .have:=(mapped M 0 g).1 v;rw[show List.range' 0 (n-0)=List.range n by rw[Td];rfl]at this;rw[Rw];exact this
 .have:=(mapped M 0 g).2 v;rw[show List.range' 0 (n-0)=List.range n by rw[Td];rfl]at this;rw[Rw];exact this
 .rintro c σ H' hc ⟨b9,q',cb,L,rk,d,v5,v6,v7,b3,b7,hL,O,cy,hd,cw,cL,cv,good,aC,hSub,rfl⟩;rw[Qk];rw[Cw hc]at good aC hSub;refine#[77,q',cb,L,c,n,2,b3,b7,λr o=>(O r o).1,hc,λi p H2 aB hi b1=> ?_,λes H2 aB=> ?_]
  .have a0:=O5 hi;have dV:=aB.at b3;have d3:=b7.same aB;have il:=(O1.mp hi).1;have eA:=JO hi;have cu:L.map dD=(L.take i).map dD++dD p::(L.drop (i+1)).map dD:=by
    conv=>lhs;rw[eA]
    rw[PC,PF]
   have cM:¬m∣p.getD c 0:=MZ J.nn (λhp=>cy hp p a0 _ (Kt b1)) b1;have G2:=Gb good hd (show dD p∈L.map dD from OX.mpr #[p,a0,2]) b1 (L:=(L.take i).map dD++(L.drop (i+1)).map dD) λr o=>by
    rw[cu];rcases Pg.mp o with h|h
    .exact Pg.mpr (.inl h)
    .exact Pg.mpr (.inr (OZ _ h))
   have eN:((L.take i).map dD++(L.drop (i+1)).map dD).map (cx d (dD p) c)=((L.take i++L.drop (i+1)).map λr=>oU d p r c).map dD:=by
    rw[<-PC,PJ,PJ];refine P4 λr o=> ?_;have rm:r∈L:=by
     rcases Pg.mp o with h|h
     .exact Ry h
     .exact Ti h
    exact(HJ (O p a0).1 (O r rm).1 hc).symm
   have VS:∀g,Van m g (((L.take i++L.drop (i+1)).map λr=>oU d p r c).map dD) (List.range' (c+1) (n- (c+1)))->Van m (rk+1+g) (M.map dD) (List.range n):=λg v=>by
    rw[<-eN]at v;have:=aC _ (tm J.mul good hd cu cM v)
    rwa [show rk+(g+1)=rk+1+g by lia]at this
   have US:∀g,Mnr m g (((L.take i++L.drop (i+1)).map λr=>oU d p r c).map dD) (List.range' (c+1) (n- (c+1)))->Mnr m (rk+1+g) (M.map dD) (List.range n):=λg v=>by
    rw[<-eN]at v;have:=hSub _ (tJ J.mul J.one good hd cL cu cM v)
    rwa [show rk+(g+1)=rk+1+g by lia]at this
   rw[eN]at G2;have bN:∀r∈(L.take i++L.drop (i+1)).map λr=>oU d p r c,nh n (jc (rk+1)) r:=λx eL=>by
    obtain⟨r,o,rfl⟩:=OX.mp eL;have rm:r∈L:=by
     rcases Pg.mp o with h|h
     .exact Ry h
     .exact Ti h
    exact LC (O p a0) (O r rm)
   have lN:((L.take i++L.drop (i+1)).map λr=>oU d p r c).length+(rk+1)=M.length:=by rw[My,Pl,Pz,Ri];lia
   obtain⟨b,ew,ez⟩:=d3.2 i p hi;have ar:atI (p.map V.int) (c:Int)=some (.int (p.getD c 0)):=cS (by rw[(O p a0).1];exact hc);have eo:2<=L.length->CFd 0 d:=λh2=>#[hd,Nd cw (zI _ ()) hd];have e3:rk<9:=()
   refine#[727,oS ?_];refine#[77,q',3,SqL.of dV,fv ew,7,b,3,SqL.of ez,ar,6];generalize hN:(L.take i++L.drop (i+1)).map (λr=>oU d p r c)=N at*;refine#[7777,q',cb,L,i,c,n,jc rk,d,p,2,dV,d3,O,9,hi,hc,9,Gy rk e3,eo,λu H4 zs bu hu aD b8=> ?_];rw[hN]at b8;have zl:=b8.1;refine#[u,2,#[_,SqL.of aD],6];refine uL (λx y G=>∃(B U:Addr)(r:List Int),x= .ref B/\y= .ref U/\H4 B=some (.lst (r.map V.int))/\G U=some (.lst ((eI m r).map V.int))) (λx y G G' e h=>by obtain⟨B,U,r,e1,e2,g1,g2⟩:=h;exact#[B,U,r,e1,e2,g1,e.at g2]) (SqL.of aD) (OY (show zs.length<=100 by lia) ∅) (λj x vs D H' R S c1 hv sm hD hk=> ?_) λq5 H5 ws fa e4 d0 eE hR=> ?_
   .obtain⟨v,rfl⟩:=bq hv;obtain⟨B,r,o,rfl,a5⟩:=b8.at c1;obtain⟨l,hl⟩:=hD;simp only[br,iM,OP];refine#[77,B,r,m,2,SqL.of (sm.at a5),J.nn,by rw[(bN r (O5 o)).1];lia,λu H4 bu hu aD=> ?_];refine hk _ [some (.ref B)] _ #[B,u,r,22,a5,6] rfl bu;rw[eU (aI hl hu).symm];exact aD
   have d1:a9 H5 ws (N.map (eI m)):=by
    refine a9.of (by rw[eE,My];exact zl) λj r' y o hy=> ?_;rw[Ph]at o;cases cq:N[j]? with
    |none=>rw[cq]at o;cases o
    |some r=>
     rw[cq]at o;cases o;obtain⟨B,h1,h2⟩:=b8.2 j r cq;obtain⟨b2,c2,r2,e1,e2,g1,g2⟩:=hR j _ y h1 hy;cases e1;rw[yQ h2 g1];exact#[c2,e2,fS.at g2]
   clear hR;have d6:Same H H5:=((b9.trans aB).trans bu).trans e4;have fB:∀r∈N.map (eI m),nh n (jc (rk+1)) r:=λr o=>by obtain⟨r0,bk,rfl⟩:=OX.mp o;exact AK J.nn J.lt (k7 _) (bN r0 bk)
   have fI:0<m->∀r∈N.map (eI m),∀z∈r,0<=z/\z<m:=λhp r o=>by obtain⟨r0,bk,rfl⟩:=OX.mp o;exact DW hp
   have fV:=λg v=>VS g ((mapped N (c+1) g).1 v);have fU:=λg v=>US g ((mapped N (c+1) g).2 v);refine#[786];rw[show(rk:Int)+1=((rk+1:Nat):Int) by lia];refine#[727,cP (λz=> ?_) λz=> ?_]
   .have e:m=0:=V.int.inj (O9 z);have eM:N.map (eI m)=N:=by
     have:eI m=id:=by funext r;unfold eI;rw[OP e];rfl
     rw[this,Ru]
    refine#[7,d6,q5,ws,N.map (eI m),rk+1,p.getD c 0,111,d0,d1,by rw[My];exact lN,fB,fI,b1,(O p a0).at c,cM,λh=>absurd e h,6,fV,fU,2];rw[eM];exact G2
   .have e:m≠0:=λe=>z (OQ (by rw[e]));have ed:=cv e;subst ed;exact#[d6,q5,ws,N.map (eI m),rk+1,(1),111,d0,d1,by rw[My];exact lN,fB,fI,4,OW (show(1:Int).natAbs<2^7 by decide) (Pr ∅ (k7 _)),J.one,λ_=>rfl,kL _ _,fV,fU,2]
  .refine#[727,gE ?_];have zr:∀r∈L.map dD,m∣r c:=λr o=>by obtain⟨l,hl,rfl⟩:=OX.mp o;have:dD l c=0:=es l hl;rw[this];exact PK m
   refine#[b9.trans aB,q',cb,L,rk,d,111,aB.at b3,b7.same aB,hL,O,cy,hd,cw,cL,cv,6,λg v=>aC g (lH zr v),λg v=>hSub g (Ad v),2];exact λS T g hS hT=>good S T g hS λt ht=>OZ _ (hT t ht)
 .rintro σ H' ⟨b9,q',cb,L,rk,d,v5,v6,v7,b3,b7,hL,O,cy,hd,cw,cL,cv,good,aC,hSub,rfl⟩;rw[TR]at aC hSub;exact#[7,k rk H' b9 (aC 1 (xQ m _)) (hSub 0 (xW J.one _ _))]
def oA(p:Int)(b:Bool):List Int:=if b=true then(List.range' 1 (p.toNat-1)).map λi:Nat=>(i:Int)else [0]
def jX(p:Int)(found:List (List Int))(b:Bool):List (List Int):=found.flatMap λcol=>(oA p b).map λz=>col++[z]
def eJ(p:Int)(bs:List Bool):List (List Int):=bs.foldl (jX p) [[]]
def qf(h:p<=3)(b:Bool):(oA p b).length<=2:=by
 unfold oA;split
 .rw[My,List.length_range'];lia
 .decide
def mP{b β:Type}{f:b->List β}{k:Nat}(h:∀a,(f a).length<=k):∀l:List b,(l.flatMap f).length<=l.length*k
 | []=>by simp
 |a::l=>by rw[SM,Pl,Pa,Nat.succ_mul];have:=h a;have:=mP h l;lia
def Gj(h:p<=3)(bs:List Bool):(eJ p bs).length<=2^bs.length:=by
 have c:∀(bs:List Bool) (found:List (List Int)),(bs.foldl (jX p) found).length<=found.length*2^bs.length:=λbs=>by
  induction bs with
  |nil=>intro found;simp
  |cons b bs f=>
   intro found;rw[QY,Pa,R7];have g:=f (jX p found b);have d:(jX p found b).length<=found.length*2:=mP (λa=>by rw[My];exact qf h b) found;have e:=Nat.mul_le_mul_right (2^bs.length) d;rw[Ua,Nat.mul_comm 2]at e;lia
 have:=c bs [[]];unfold eJ;simpa using this
def vh(p:Int){bs:List Bool}(h:bs[i]?=some b):eJ p (bs.take (i+1))=jX p (eJ p (bs.take i)) b:=by unfold eJ;rw[Ql,h,Q8];rfl
def FR:x∈jX p found b↔∃col∈found,∃z∈oA p b,x=col++[z]:=by
 unfold jX;rw[List.mem_flatMap];constructor
 .rintro⟨col,a,h⟩;obtain⟨z,c,rfl⟩:=OX.mp h;exact#[col,a,z,c,2]
 .rintro⟨col,a,z,c,rfl⟩;exact#[col,a,OX.mpr #[z,c,2]]
def Bb(d:0<p):z∈oA p b↔0<=z/\z<p/\(b=true↔¬z=0):=by
 unfold oA;cases b with
 |true=>
  rw[OP rfl,OX];constructor
  .rintro⟨i,c,rfl⟩;obtain⟨j,g,rfl⟩:=List.mem_range'.mp c;exact#[99,λ_=>(),λ_=>rfl]
  .rintro⟨e,f,a⟩;have a:=a.mp rfl;exact#[z.toNat,List.mem_range'.mpr #[z.toNat-1,99],9]
 |false=>
  rw[OO Pf,Pu];constructor
  .rintro rfl;exact#[9,d,λz=>(nomatch z),λz=>absurd rfl z]
  .rintro⟨_,_,a⟩;exact Pb λz=>(nomatch a.mpr z)
def iA(m:0<p)(bs:List Bool)(x:List Int):x∈eJ p bs↔x.length=bs.length/\∀(i:Nat)(b:Bool),bs[i]?=some b->0<=x.getD i 0/\x.getD i 0<p/\(b=true↔¬x.getD i 0=0):=by
 have q:∀(k:Nat)(x:List Int),k<=bs.length->(x∈eJ p (bs.take k)↔x.length=k/\∀(i:Nat)(b:Bool),i<k->bs[i]?=some b->0<=x.getD i 0/\x.getD i 0<p/\(b=true↔¬x.getD i 0=0)):=λk=>by
  induction k with
  |zero=>
   intro x _;rw[List.take_zero];show x∈[[]]↔_;rw[Pu];exact#[λe=>#[by rw[e];rfl,λi b h=>absurd h (RW _)],λh=>R4 h.1]
  |succ k n=>
   intro x g;have a:bs[k]?=some bs[k]:=Po ();rw[vh p a,FR];constructor
   .rintro⟨col,r,z,j,rfl⟩;obtain⟨f,d⟩:=(n col ()).mp r;have j:=(Bb m).mp j;refine#[by rw[Pl,f];rfl,λi b l c=> ?_];by_cases e:i=k
    .subst e;rw[a]at c;cases c;have:(col++[z]).getD i 0=z:=by rw[OV,PM (),f,TR];rfl
     rw[this];exact j
    .have:(col++[z]).getD i 0=col.getD i 0:=by rw[OV,PL (),<-OV]
     rw[this];exact d i b () c
   .rintro⟨f,d⟩;have s:x=x.take k++[x.getD k 0]:=by
     have g:k<x.length:=()
     have:x.getD k 0=x[k]:=by simp[g]
     rw[this];have o:x.take (k+1)=x:=Ro ()
     conv=>lhs;rw[<-o,Ql,Po g]
     rfl
    refine#[x.take k,(n _ ()).mpr #[by rw[Pz];lia,λi b l c=> ?_],_,(Bb m).mpr (d k _ () a),s];have:(x.take k).getD i 0=x.getD i 0:=by rw[OV,Rh l,<-OV]
    rw[this];exact d i b () c
 have:=q bs.length x (O4 _);rw[Qo]at this;rw[this];refine and_congr_right λ_=>#[λh i b a=>h i b (O1.mp a).1 a,λh i b _ a=>h i b a]
inductive Cc(K:Frag)(vs:List V)(H:Hp)(Q:VK):Prop
 |mk(a:Addr) (bs:List Bool) (p:Int) (_:vs=[.ref a, .int p]) (_:SqL K H a (bs.map V.bl)) (_:bs.length<=8) (_:0<p) (_:p<=3) (_:∀l xs H',Same H H'->H l=none->H' l=some (.lst xs)->a9 H' xs (eJ p bs)->Q (.ref l) H'):Cc K vs H Q
def DR(K:Frag):Sp:=λvs H Q _=>Cc K vs H Q
def rK(h:a9 H xs M)(g:a9 H ys N):a9 H (xs++ys) (M++N):=by
 refine#[by rw[Pl,Pl,h.1,g.1],λi r b=> ?_];by_cases e:i<M.length
 .rw[PL e]at b;obtain⟨a,c,d⟩:=h.2 i r b;exact#[a,by rw[PL (by rw[h.1];exact e)];exact c,d]
 .rw[PM ()]at b;obtain⟨a,c,d⟩:=g.2 _ r b;exact#[a,by rw[PM (by rw[h.1];lia),h.1];exact c,d]
def c8:aH ["filled","prime","found","is_filled","numbers","longer","column"] ["filled","prime"] (au fE):=aZ
def sk(T:Tb K mg)(D:bC K mg "columns_with" fE ["filled","prime"]):Cal P w K mg base 1 "columns_with" ["filled","prime"] (DR K):=by
 refine D.cal c8 #[6] λf cdv A outer dy H vs Q E hr h=> ?_;obtain⟨a,bs,p,rfl,hf,b8,p0,p3,k⟩:=h;refine#[_,(ae (wset 2 c8.nd (dU (aa (dU ah) ah)))
   (ae (wfor (wil K (pv 0)) (wname 3 c8.nd)
     (ae (wset 4 c8.nd (mw (Ih (pv 3) (by intro _;rfl)) (fQ (BG ⋯) ⋯ T.list_ Rp (aa (KP ⋯ T.range_ (aa af (aa (pv 1) ah))) ah)) (dU (aa af ah))))
     (ae (wset 5 c8.nd (dU ah))
     (ae (wfor (wil K (pv 2)) (wname 6 c8.nd)
       (aj (dI (iz (K:=K) ⋯ Qr PySem.F.slot_list_extend PySem.F.type_list_extend FN (pv 5) (aa (wlc ["number"] ["column"] [6] (wil K (pv 4)) (wnC 0) cc (aw qT (pv 1) (dU (aa (pv 0) ah)))) ah)))))
     (aj (wset 2 c8.nd (pv 5)))))))
   (aj (aF (pv 2))))),6]
 refine#[4,λq0 b1=>#[OY (O4 1) ∅,λaC aA=> ?_]];have b6:Same H (upd (upd H q0 (.lst [])) aC (.lst [.ref q0])):=(Same.new b1).trans (Same.new aA);have c4:H aC=none:=(Same.new b1).free aA;have dm:q0≠aC:=λz=>by rw[<-z,ak]at aA;cases aA
 refine#[7,a,2,#[_,b6.seq hf],6];have cl:∀j,(eJ p (bs.take j)).length<=256:=λj=>OY (Gj p3 _) (show 2^(bs.take j).length<=2^8 from Pr ∅ (by rw[Pz];lia));refine cQ (K:=K) (a:=a) (xs:=bs.map V.bl) (λi t B=>∃(l:Addr)(xs:List V)(v3 v4 v5 s:Option V),Same H B/\H l=none/\B l=some (.lst xs)/\a9 B xs (eJ p (bs.take i))/\t=[rW a,xS p,rW l,v3,v4,v5,s])
  #[aC,[.ref q0],none,none,none,none,b6,c4,ak,a9.of rfl (λj r y L M=>by
   cases j with
   |zero=>
    cases L;cases M;exact#[q0,2,by rw[aE dm,ak];rfl]
   |succ j=>simp at M),2] (λi t B _ h=>by obtain⟨_,_,_,_,_,_,N,_⟩:=h;exact N.seq hf) ?_ ?_
 .rintro i x t B hi ⟨l,xs,v3,v4,v5,s,N,hl,bk,hR,rfl⟩;rw[Ph]at hi;obtain⟨b,hb,rfl⟩:=SQ.mp hi;dsimp only[br];refine gg (λb9 H'=>∃q:Addr,Same B H'/\H' q=some (.lst ((oA p b).map V.int))/\b9=[rW a,xS p,rW l,some (.bl b),rW q,v5,s]) ?_ ?_
  .rintro b9 H3 ⟨q,aD,hn,rfl⟩;refine#[4,λd bb=> ?_];have b7:Same H3 (upd H3 d (.lst [])):=Same.new bb;have b4:=aD.at bk;have bB:=hR.same aD;refine#[7,l,2,#[_,SqL.of (b7.at b4)],6];refine cQ (K:=K) (a:=l) (xs:=xs) (λj t G=>∃(g:List V)(s:Option V),Same H3 G/\G d=some (.lst g)/\a9 (hide G d) g (jX p ((eJ p (bs.take i)).take j) b)/\t=[rW a,xS p,rW l,some (.bl b),rW q,rW d,s])
    #[[],s,b7,ak,#[2,λi r hr=>by simp[jX]at hr],2] (λj t G _ h=>by obtain⟨_,_,J,_⟩:=h;exact SqL.of (J.at b4)) ?_ ?_
   .rintro j x t G hj ⟨g,s,J,hL,hY,rfl⟩;obtain⟨ca,col,a6,rfl,cL⟩:=bB.at hj;have cM:=J.at cL;dsimp only[br];refine#[7, .inl #[21,SqL.of hL],6];have b0:=J.at hn;refine#[7,q,2,#[_,SqL.of b0],6];have jl:j<(eJ p (bs.take i)).length:=(O1.mp a6).1;have cm:col.length<=8:=by have:=((iA p0 _ col).mp (O5 a6)).1;rw[this,Pz];lia
    refine Bi (λm y Hh=>∃(c:Addr)(z:Int),y= .ref c/\G c=none/\(oA p b)[m]?=some z/\Hh c=some (.lst ((col++[z]).map V.int))) (λ_ y Hh H' e ⟨c,z,L,h0,h3,M⟩=>#[c,z,L,h0,h3,e.at M]) (SqL.of b0) (by rw[My];exact OY (qf p3 b) ∅) (λm x vs D H6 R S hx hv O hD hk=> ?_) λD6 H6 U bx O c1 b5 dd=> ?_
    .obtain⟨v,rfl⟩:=bq hv;obtain⟨z,rfl,hz⟩:=bH hx;simp only[br,iM,OP];obtain⟨dl,cv⟩:=hD;refine#[77,OY (O4 1) ∅,λu hu=> ?_];have cK:=(Same.new (o:= .lst [.int z]) hu).at (O.at cM);refine#[ca,u,8,cK,ak,by rw[My];exact OY (Nat.add_le_add_right cm 1) ∅,λc hc=> ?_];have bx:=(Same.new (o:= .lst [.int z]) hu).at cv;refine hk (.ref c) [some (.int z)] _ #[c,z,2,(O.trans (Same.new hu)).free hc,hz,6] rfl ((Same.new hu).trans (Same.new hc));rw[eU (λz=>by rw[z,bx]at hc;cases hc),ak,PC];rfl
    .have cw:a9 (hide H6 d) U ((oA p b).map λz=>col++[z]):=by
      refine a9.of (by rw[b5,My,My]) λm r y L M=> ?_;obtain⟨c,z,rfl,h0,h3,h4⟩:=dd m y M;rw[Ph,h3]at L;cases L;have nc:c≠d:=λz=>by rw[z,hL]at h0;cases h0
      exact#[c,2,by rw[eU nc];exact fS.at h4]
     have el:g.length+U.length<=sizeLine:=by have e1:=hY.1;have e2:(jX p ((eJ p (bs.take i)).take j) b).length<=((eJ p (bs.take i)).take j).length*2:=mP (λa=>by rw[My];exact qf p3 b) _;have e3:=qf p3 b;have e4:=cl i;rw[Pz]at e2;rw[My]at b5;exact OY (show g.length+U.length<=1000 by lia) ∅
     refine#[d,D6,g,U,22,O.at hL,c1,el,6];refine#[g++U,_,(J.trans O).upd bb,ak,62];rw[mN,Ql,a6];have e5:jX p ((eJ p (bs.take i)).take j++[col]) b=jX p ((eJ p (bs.take i)).take j) b++(oA p b).map λz=>col++[z]:=by unfold jX;rw[List.flatMap_append,SM,List.flatMap_nil,Qx]
     show a9 (hide H6 d) (g++U) (jX p ((eJ p (bs.take i)).take j++[col]) b);rw[e5];exact rK (hY.same (kK O)) cw
   .rintro t G ⟨g,s,J,hL,hY,rfl⟩;have c2:H d=none:=N.free (aD.free bb);rw[bB.1,Qo]at hY;refine#[7,d,g,1111,(N.trans aD).trans J,c2,hL,62];rw[vh p hb];exact hY.same fS
  .intro b3;refine#[7,b,26];cases b with
   |true=>
    refine oS ?_;refine#[7,(1),p,2,λr c5=>#[r,p.toNat-1,2,by rw[ak,show((p.toNat-1+1:Nat):Int)=p by lia],9,λq bc=> ?_]];exact b3 _ _ #[q,(Same.new c5).trans (Same.new bc),ak,2]
   |false=>
    refine gE ?_;exact#[OY (O4 1) ∅,λq bc=>b3 _ _ #[q,Same.new bc,ak,2]]
 .rintro t B ⟨l,xs,v3,v4,v5,s,N,hl,bk,hR,rfl⟩;rw[My,Qo]at hR;exact#[7,k l xs B N hl bk hR]
def fg(r:Nat->Nat)(R B y:Nat):List Bool:=(bits B).map λz=>decide (r (qr B z.toNat y)=R)
inductive xK(Z:Hs)(vs:List V)(H:Hp)(Q:VK):Prop
 |mk(h d:Addr) (n R G B y:Nat) (p:Int) (r:Nat->Nat) (ks:List Nat) (q:Nat->Addr) (c:Nat->List Int) (_:vs=[.ref h, .int p, .ref d, .int (B:Int), .int (y:Int)]) (_:Z.ho H h n r) (_:n<=8) (_:r (2^n-1)=R) (_:R<=8) (_:bZ p) (_:0<p) (_:p<=3) (_:je H d ks q c) (_:zX p R G ks c) (_:G<2^n) (_:y<n) (_:G.testBit y=false) (_:B<2^n) (_:sz B=R) (_:(∀q' col H',Same H H'->H' q'=some (.lst (col.map V.int))->col∈eJ p (fg r R B y)->o3 p R r (dS c y col) G y->Q (.ref q') H')) (_:(∀H',Same H H'->(∀col∈eJ p (fg r R B y),¬o3 p R r (dS c y col) G y)->Q .non H')):xK Z vs H Q
def Ax(Z:Hs):Sp:=λvs H Q _=>xK Z vs H Q
def JD(a:B<2^n)(b:y<n):qr B t y<2^n:=aP (Pd (iK _ _) a) b
def iD:aH ["house","prime","columns","base","thing","whole","filled","column"] ["house","prime","columns","base","thing"] (au gT):=aZ
def vN{Z:Hs}(T:Tb K mg)(aC:iC Z)(hc:∀C,Z.dom C->HC K C_House C)(D:bC K mg "column_for" gT ["house","prime","columns","base","thing"])(ax:∀C,Z.dom C->dn P w K mg base 4 C "rank" ["self","s"] (jx Z C))
  (ag:Cal P w K mg base 5 "whole_rank" ["house"] (iO Z)) (ar:Cal P w K mg base 2 "things" ["s"] iP) (ai:Cal P w K mg base 2 "exchanged" ["s","thing","y"] rJ) (ab:Cal P w K mg base 1 "columns_with" ["filled","prime"] (DR K)) (ay:Cal P w K mg base 6 "fits" ["house","prime","columns","thing","column"] (Hr Z)):
  Cal P w K mg base 7 "column_for" ["house","prime","columns","base","thing"] (Ax Z):=by
 refine D.cal iD #[6] λf cdv A outer d3 H vs Q E k h=> ?_;obtain⟨h,d,n,R,G,B,y,p,r,ks,q,c,rfl,L,s,rR,R8,pm,p0,p3,hC,hK,hG,yn,cN,hB,zB,k1,k2⟩:=h;refine#[_,(ae (wset 5 iD.nd (wcal ag k (aa (pv 0) ah)))
   (ae (wls 6 iD.nd ["old"] ["whole","house","base","thing"] [5,0,3,4] (wil K (wcal ar k (aa (pv 3) ah))) (wnC 0) cc (wpe a7 (gu ax k ∅ (pv 2) (aa (wcal ai k (aa (pv 3) (aa (pv 0) (aa (pv 4) ah)))) ah)) (pv 1)))
   (ae (wfor (wil K (wcal ab k (aa (pv 6) (aa (pv 1) ah)))) (wname 7 iD.nd)
     (aj (bA (fj (wcal ay k (aa (pv 0) (aa (pv 1) (aa (pv 2) (aa (pv 4) (aa (pv 7) ah)))))))
       (aj (aF (pv 7)))
       aQ)))
   (aj (aF jJ))))),6]
 have B8:B<256:=oN s hB;refine#[7,h,n,r,2,L,s,λH1 b2=> ?_];rw[rR];refine#[7,(B:Int),299,λpt H2 b3 d1 M=>#[pt,2,#[_,SqL.of M],6]];rw[OU]at M;refine bT (λx=>(λ_=>true) (bG x)) (λx=>V.bl ((λz:Int=>decide (r (qr B z.toNat y)=R)) (bG x))) (SqL.of M) (by rw[My];exact OY (bj _) ∅) (λj x vs H' R' S' hx hv O hk=> ?_) λD3 H3 dV c6 N=> ?_
 .obtain⟨v,rfl⟩:=bq hv;obtain⟨z,rfl,c1⟩:=bH hx;obtain⟨t,t8,tb,rfl⟩:=cX.mp (O5 c1);simp only[br,iM,OP];have bb:=aC.same (b2.trans (b3.trans O)) L;obtain⟨C,dm,cK⟩:=aC.shown bb;obtain⟨dx,fs,hh,fr,fe,fm⟩:=cK.ex;refine#[7,h,C,dx,fs,2,hh,dm,fr,777,B,t,y,2,t8,96];refine#[h,n,qr B t y,r,2,bb,#[dx,fs,hh],s,JD hB yn,λg e=> ?_];have q1:=hk [some (.int (t:Int))] g rfl e;rw[OP rfl]at q1;refine#[726];rw[aV];exact q1
 replace N:=N.trans (PN (λl=>some (HO.lst l)) (qS (λz:Int=>decide (r (qr B z.toNat y)=R)) (bits B)));refine#[77,D3,fg r R B y,p,2,SqL.of N,by unfold fg;rw[My];exact bj _,p0,p3,λl xs H4 dc hl bB hR=> ?_];refine#[l,2,#[_,SqL.of bB],6];have b4:Same H H4:=b2.trans (b3.trans (c6.trans dc));have fl:(fg r R B y).length=R:=by unfold fg;rw[My];exact zB
 refine cQ (K:=K) (a:=l) (xs:=xs) (λi u g=>∃v7:Option V,Same H4 g/\(∀col∈(eJ p (fg r R B y)).take i,¬o3 p R r (dS c y col) G y)/\u=[rW h,xS p,rW d,rT B,rT y,rT R,rW D3,v7]) #[none,Same.refl _,λS hS=>absurd hS Pe,2] (λi u g _ h=>by obtain⟨_,O,_⟩:=h;exact SqL.of (O.at bB)) ?_ ?_
 .rintro i x u g hi ⟨v7,e,o,rfl⟩;obtain⟨a,col,bt,rfl,ha⟩:=hR.at hi;have mc:=O5 bt;obtain⟨m1,m2⟩:=(iA p0 _ col).mp mc;dsimp only[br];have U:=b4.trans e;refine#[77777,h,d,a,n,R,G,y,p,r,ks,q,c,col,2,aC.same U L,s,rR,R8,pm,p0,hC.same U,hK,hG,yn,cN,e.at ha,m1.trans fl,λz hz=> ?_,λb H6 aA hb=> ?_]
  .obtain⟨j,hj⟩:=P2 hz;have jl:j<(fg r R B y).length:=by rw[<-m1];exact(O1.mp hj).1
   have:=m2 j _ (Po jl);rw[OV,hj]at this;exact#[this.1,this.2.1]
  .refine#[b,2,cP (λJ=> ?_) λJ=> ?_]
   .exact#[7,k1 a col H6 (U.trans aA) (aA.at (e.at ha)) mc (hb.mp J)]
   .refine#[some (.ref a),e.trans aA,λa3 bp=> ?_,2];rw[Ql,bt]at bp;rcases Pg.mp bp with m|m
    .exact o a3 m
    .have m:a3=col:=#[5,m]
     rw[m];exact λz=>J (hb.mpr z)
 .rintro u g ⟨v7,e,o,rfl⟩;rw[hR.1,Qo]at o;exact k2 g (b4.trans e) o
def lA(R p:Nat):List Int:=(List.range R).map λj=>if j=p then 1 else 0
def o7(a:j<R):(lA R p).getD j 0=if j=p then 1 else 0:=by unfold lA;rw[OV,Ph,Qp a];rfl
def ud(l:List Nat):(List.range l.length).map (λi=>l.getD i 0)=l:=by refine List.ext_getElem (by rw[My,O8]) λi b a=> ?_;rw[TN,List.getElem_range];simp[a]
def mW(S:Nat):(aq S).Nodup:=Py.filter _
structure lE(p:Int)(R B G:Nat)(r:Nat->Nat)(c:Nat->List Int):Prop where
 sub:Sub B G
 unit:∀i t:Nat,(aq B)[i]?=some t->c t=lA R i
 fill:∀t,G.testBit t=true->B.testBit t=false->c t∈eJ p (fg r R B t)
 good:∀S,Sub S G->sz S=R->(bQ p (bU (jS c) (List.range R)) S=R↔r S=R)
def EL(g:bZ p)(r:sz B=R)(unit:∀i t:Nat,(aq B)[i]?=some t->c t=lA R i):bQ p (bU (jS c) (List.range R)) B=R:=by
 have f:(aq B).length=R:=(aT B).trans r;obtain⟨b,s,m,n⟩:=nC g (jS c) (λi=>(aq B).getD i 0) (List.range R) (List.range R) Py Py (λi h=>h) λi o j q=>by
  have d:i<(aq B).length:=by rw[f];exact OS.mp o
  have e:(aq B).getD i 0=(aq B)[i]:=by simp[d]
  show(c ((aq B).getD i 0)).getD j 0=_;rw[e,unit i _ (Po d),o7 (OS.mp q)]
 have e:b=[]:=by
  cases b with
  |nil=>rfl
  |cons a l=>
   have:=(m a).mp O6;exact absurd this.1 this.2
 have:=n [];have k:(List.range R).map (λi=>(aq B).getD i 0)=aq B:=by have:=ud (aq B);rwa[f]at this
 rwa[e,iH g,Qx,O8,Rw,k]at this
def Kv(d:bZ p){R S y:Nat}(l:sz S=R)(k:S.testBit y=false):bQ p (bU (jS (dS c y col)) (List.range R)) S=R↔bQ p (bU (jS c) (List.range R)) S=R:=by
 have a:∀f:Nat->Nat->Int,(bU f (List.range R)).length=R:=λf=>by unfold bU;rw[My,O8]
 have b:(aq S).length=R:=(aT S).trans l;show rho p _ (aq S)=R↔rho p _ (aq S)=R;rw[dF d (a _) b,dF d (a _) b,iB (aq S) (bU (jS (dS c y col)) (List.range R)) (bU (jS c) (List.range R)) (by rw[a,a]) λi j h=> ?_];by_cases g:i<R
 .have e:∀f:Nat->Nat->Int,(bU f (List.range R)).getD i rw0 j=f j i:=λf=>by unfold bU;rw[OV,Ph,Qp g];rfl
  rw[e,e];have ne:¬j=y:=λz=>by have:=(aK.mp h).2;rw[z,k]at this;cases this
  show(dS c y col j).getD i 0=(c j).getD i 0;unfold dS;rw[OO ne]
 .rw[OV,OV,Sa (by rw[a];lia),Sa (by rw[a];lia)]
def lE.start(j:bZ p)(a:B<256)(f:sz B=R)(l:r B=R)(unit:∀i t:Nat,(aq B)[i]?=some t->c t=lA R i):lE p R B B r c:=by refine#[Sub.refl _,unit,λt g b=>(by rw[g]at b;cases b),λS d m=> ?_];have e:S=B:=tF (d.lt (n:=8) a) a (λk _ h=>d k h) (m.trans f.symm);rw[e,EL j f unit,l]
def lE.put(v:bZ p){R B G y:Nat}(h:lE p R B G r c)(G8:G<256)(k:y<8)(g:G.testBit y=false)(q:col∈eJ p (fg r R B y))(s:o3 p R r (dS c y col) G y):lE p R B (G|||2^y) r (dS c y col):=by
 have u:B.testBit y=false:=by
  cases e:B.testBit y with
  |false=>rfl
  |true=>rw[h.sub y e]at g;cases g
 have b:∀t,(G|||2^y).testBit t=true->t≠y->G.testBit t=true:=λt a ne=>by
  rw[aW,Px]at a;rcases a with z|z
  .exact z
  .exact absurd (O9 z).symm ne
 refine#[λt a=>by rw[aW,h.sub t a];rfl,λi t a=> ?_,λt m o=> ?_,λS d l=> ?_]
 .have j:=(aK.mp (O5 a)).2;have ne:¬t=y:=λz=>by rw[z,u]at j;cases j
  show dS c y col t=_;unfold dS;rw[OO ne];exact h.unit i t a
 .show dS c y col t∈_;unfold dS;by_cases e:t=y
  .rw[OP e,e];exact q
  .rw[OO e];exact h.fill t (b t m e) o
 .cases e:S.testBit y with
  |false=>
   have f:Sub S G:=λt a=>b t (d t a) λz=>by rw[z,e]at a;cases a
   exact(Kv v l e).trans (h.good S f l)
  |true=>
   have f:Sub (S^^^2^y) G:=λt a=>by
    rw[cG e,Pc]at a;exact b t (d t a.1) λz=>by have:=a.2;rw[z]at this;simp at this
   have l8:S<256:=Sub.lt (n:=8) d (PV (n:=8) G8 (QZ ∅ k));have x:=fo S l8 y k e;have:=s (S^^^2^y) f ();rwa[fT e]at this
def uW(n:Nat)(r:Nat->Nat):List Nat:=(List.range (2^n)).filter λs=>decide (r s=sz s)
def oX(n:Nat)(r:Nat->Nat):List Nat:=(uW n r).filter λs=>decide (sz s=r (2^n-1))
inductive xJ(Z:Hs)(vs:List V)(H:Hp)(Q:VK):Prop
 |mk(a:Addr) (n:Nat) (r:Nat->Nat) (_:vs=[.ref a]) (_:Z.ho H a n r) (_:n<=8) (_:∀p H',Same H H'->H p=none->H' p=some (.lst ((cJ (uW n r)).map V.int))->Q (.ref p) H'):xJ Z vs H Q
def Aw(Z:Hs):Sp:=λvs H Q _=>xJ Z vs H Q
inductive xM(Z:Hs)(vs:List V)(H:Hp)(Q:VK):Prop
 |mk(a:Addr) (n:Nat) (r:Nat->Nat) (_:vs=[.ref a]) (_:Z.ho H a n r) (_:n<=8) (_:∀p H',Same H H'->H p=none->H' p=some (.lst ((cJ (oX n r)).map V.int))->Q (.ref p) H'):xM Z vs H Q
def Ay(Z:Hs):Sp:=λvs H Q _=>xM Z vs H Q
def C6(a:n<=8)(r:Nat->Nat):(uW n r).length<=256:=OY (Qy _ _) (by rw[O8];exact oP a)
def Hy:aH ["house"] ["house"] (au pJ):=aZ
def IH{Z:Hs}(t:iC Z)(b:∀C,Z.dom C->HC K C_House C)(D:bC K mg "frees" pJ ["house"])(ai:∀C,Z.dom C->dn P w K mg base 4 C "rank" ["self","s"] (jx Z C))(ab:∀C,Z.dom C->dn P w K mg base 2 C "everything" ["self"] (eQ K))
  (ag:Cal P w K mg base 3 "parts" ["s"] sG) (ar:Cal P w K mg base 3 "size" ["s"] lO):Cal P w K mg base 5 "frees" ["house"] (Aw Z):=by
 refine D.cal Hy #[6] λf cdv A outer b6 H vs Q E c h=> ?_;obtain⟨a,n,r,rfl,J,O,k⟩:=h;refine#[_,(aj (aF (wlc ["s"] ["house"] [0] (wil K (wcal ag c (aa (gq ab c ∅ (pv 0)) ah))) (wnC 0) (dH (wpt a7 (gu ai c ∅ (pv 1) (aa (pv 0) ah)) (wcal ar c (aa (pv 0) ah)))) (pv 0)))),6];obtain⟨C,u,bp⟩:=t.shown J;obtain⟨y,fs,M,fr,fe,fm⟩:=bp.ex;obtain⟨cl,nM,_,_⟩:=b C u;have hp:=oP O;refine#[7,a,C,y,fs,2,M,u,fe,a,C,y,fs,n,2,M,cl,nM,fm,996];rw[iZ];refine#[799,λp H1 o b5 j=>#[p,2,#[_,SqL.of j],6]];rw[OU,qQ n ()]at j;refine bT (λx=>(λz:Int=>decide (r z.toNat=sz z.toNat)) (bG x)) (λx=> .int ((λz:Int=>z) (bG x))) (SqL.of j) (by rw[My,My,O8];exact OY hp ∅) (λi x vs H' R S hx hv m hk=> ?_) λD H' hD m hl=> ?_
 .obtain⟨v,rfl⟩:=bq hv;obtain⟨z,rfl,hz⟩:=bH hx;obtain⟨s,hs,rfl⟩:=OX.mp (O5 hz);have bk:=OS.mp hs;have L:=t.same (o.trans m) J;obtain⟨U,aD,bt⟩:=t.shown L;obtain⟨B,G,N,a4,b3,b4⟩:=bt.ex;refine#[7,a,U,B,G,2,N,aD,a4,7,a,n,s,r,2,L,#[B,G,N],O,bk,λH2 bS=> ?_];refine#[7799,λg b0=>#[276]];have q:=hk [some (.int (s:Int))] g rfl (bS.trans b0);rw[OU,aV];have d:if decide (r s=sz s)=true then R (.int (s:Int)) _ g else S _ g:=q;show if decide (r s=sz s)=true then _ else _;by_cases b:decide (r s=sz s)=true
  .rw[OP b]at d⊢;exact#[7,d]
  .rw[OO b]at d⊢;exact d
 replace hl:=hl.trans (PN (λl=>some (HO.lst l)) (bE (λz:Int=>decide (r z.toNat=sz z.toNat)) (λz:Int=>z) ((List.range (2^n)).map λk:Nat=>(k:Int))));rw[show(λz:Int=>z)=id from rfl,Ru]at hl;refine k D H' (o.trans m) (o.free hD) (hl.trans ?_);have e:=fR (List.range (2^n)) (λz:Int=>decide (r z.toNat=sz z.toNat));exact PN (λl:List Int=>some (HO.lst (l.map V.int))) e
def AG:aH ["house","whole"] ["house"] (au pK):=aZ
def II(ax:iC Z)(D:bC K mg "bases" pK ["house"])(y:Cal P w K mg base 5 "whole_rank" ["house"] (iO Z))(B:Cal P w K mg base 5 "frees" ["house"] (Aw Z))(G:Cal P w K mg base 3 "size" ["s"] lO):Cal P w K mg base 6 "bases" ["house"] (Ay Z):=by
 refine D.cal AG #[6] λf cdv A outer a0 H vs Q E e h=> ?_;obtain⟨a,n,r,rfl,j,b,k⟩:=h;refine#[_,(ae (wset 1 AG.nd (wcal y e (aa (pv 0) ah)))
   (aj (aF (wlc ["s"] ["whole"] [1] (wil K (wcal B e (aa (pv 0) ah))) (wnC 0) (dH (wpt a7 (wcal G e (aa (pv 0) ah)) (pv 1))) (pv 0))))),6]
 have hp:=oP b;refine#[7,a,n,r,2,j,b,λH0 g=> ?_];refine#[7,a,n,r,2,ax.same g j,b,λp H1 u aC o=>#[p,2,#[_,SqL.of o],6]];refine bT (λx=>(λz:Int=>decide (sz z.toNat=r (2^n-1))) (bG x)) (λx=> .int ((λz:Int=>z) (bG x))) (SqL.of o) (by rw[My,cA];exact OY (C6 b r) ∅) (λi x vs H' R S O N t L=> ?_) λD H' J t hl=> ?_
 .obtain⟨v,rfl⟩:=bq N;obtain⟨z,rfl,U⟩:=bH O;obtain⟨s,M,rfl⟩:=eC (O5 U);have aD:=OS.mp (Pn.mp M).1;refine#[7799,λd ar=>#[7276]];have q:=L [some (.int (s:Int))] d rfl ar;rw[OU,aV];have c:if decide (sz s=r (2^n-1))=true then R (.int (s:Int)) _ d else S _ d:=q;show if decide (sz s=r (2^n-1))=true then _ else _;by_cases m:decide (sz s=r (2^n-1))=true
  .rw[OP m]at c⊢;exact#[7,c]
  .rw[OO m]at c⊢;exact c
 replace hl:=hl.trans (PN (λl=>some (HO.lst l)) (bE (λz:Int=>decide (sz z.toNat=r (2^n-1))) (λz:Int=>z) (cJ (uW n r))));rw[show(λz:Int=>z)=id from rfl,Ru,fR]at hl;exact k D H' (g.trans (u.trans t)) (g.free (u.free J)) hl
def oR:B∈oX n r↔B<2^n/\r B=sz B/\sz B=r (2^n-1):=by unfold oX uW;rw[Pn,Pn,OS,O3,O3,and_assoc]
def r6(M:Mat n r):∃B,B∈oX n r:=by obtain⟨g,_,c,a,d⟩:=M.extend (s:=0) (t:=2^n-1) (λk b=>by rw[Pw]at b;cases b) (aJ n) (by rw[M.zero,dh]);exact#[g,oR.mpr #[c.lt (aJ n),a,a.symm.trans d]]
def je.put{f:List Nat}(h:je H d f q c){col:List Int}(l:t∉f)(y:f.length<=8)(i:H a=some (.lst (col.map V.int))):
  ∃o,GD H d (.int (t:Int)) (.ref a) (upd H d o)/\je (upd H d o) d (f++[t]) (λs=>if s=t then a else q s) (dS c t col):=by
 have n:KH (f.map λt:Nat=>((t:Int),V.ref (q t))) (t:Int) (.ref a)=(f++[t]).map λs:Nat=>((s:Int),V.ref (if s=t then a else q s)):=by
  unfold KH;rw[OO (λz=>by
   obtain⟨x,u,e⟩:=Sd.mp z;obtain⟨s,g,rfl⟩:=OX.mp u;have A:(s:Int)=(t:Int):=O9 e;have p:s=t:=()
   exact l (p▸g)),PC]
  have r:f.map (λt:Nat=>((t:Int),V.ref (q t)))=f.map λs:Nat=>((s:Int),V.ref (if s=t then a else q s)):=P4 λs g=>by have:¬s=t:=λz=>l (z▸g);rw[OO this]
  rw[r];show _=_++[((t:Int),V.ref (if t=t then a else q t))];rw[OP rfl]
 have p1:=GD.k (v:= .ref a) (k:=Sum.inl (t:Int)) h.dict (by unfold oa;rw[My,My];exact Pd y ∅);rw[MG,n]at p1;have m:∀b xs,H b=some (.lst xs)->b≠d:=λb xs e=>kJ e h.dict (λz=>by cases z);refine#[_,p1,ak,λs g=> ?_];show upd H d _ (if s=t then a else q s)=some (.lst ((dS c t col s).map V.int));unfold dS;by_cases e:s=t
 .rw[OP e,OP e,aE (m a _ i)];exact i
 .have j:s∈f:=by
   rcases Pg.mp g with z|z
   .exact z
   .exact absurd (Pu.mp z) e
  rw[OO e,OO e,aE (m _ _ (h.cols s j))];exact h.cols s j
def gO(c:Nat->List Int)(n R:Nat):List (List Int):=(List.range R).map λi=>(List.range n).map λt=>(c t).getD i 0
inductive xq(vs:List V)(H:Hp)(Q:VK):Prop
 |mk(n p:Nat) (_:vs=[.int (n:Int), .int (p:Int)]) (_:n<=8) (_:∀q H',Same H H'->H q=none->H' q=some (.lst ((lA n p).map V.int))->Q (.ref q) H'):xq vs H Q
def Am:Sp:=λvs H Q _=>xq vs H Q
inductive xo(Z:Hs)(vs:List V)(H:Hp)(Q:VK):Prop
 |mk(h:Addr) (n R:Nat) (p:Int) (r:Nat->Nat) (_:vs=[.ref h, .int p]) (_:Z.ho H h n r) (_:Mat n r) (_:r (2^n-1)=R) (_:bZ p) (_:0<p) (_:p<=3) (_:(∀B c l xs H',Same H H'->H l=none->H' l=some (.lst xs)->a9 (hide H' l) xs (gO c n R)->(∀x∈xs,∃a,x= .ref a/\H a=none)->B<2^n->sz B=R->r B=R->lE p R B (2^n-1) r c->(∀t,t<n->(c t).length=R/\∀z∈c t,0<=z/\z<p)->Q (.ref l) H')) (_:(∀B G y c H',Same H H'->B<2^n->sz B=R->r B=R->G<2^n->y<n->G.testBit y=false->lE p R B G r c->(∀col∈eJ p (fg r R B y),¬o3 p R r (dS c y col) G y)->Q .non H')):xo Z vs H Q
def Ak(Z:Hs):Sp:=λvs H Q _=>xo Z vs H Q
def dM:aH ["house","prime","base","whole","columns","place","thing","column"] ["house","prime"] (au iS):=aZ
def yH{Z:Hs}(T:Tb K mg)(bc:iC Z)(hc:∀C,Z.dom C->HC K C_House C)(D:bC K mg "table_for" iS ["house","prime"])(ab:∀C,Z.dom C->dn P w K mg base 2 C "everything" ["self"] (eQ K))
  (ag:Cal P w K mg base 5 "whole_rank" ["house"] (iO Z)) (ai:Cal P w K mg base 2 "things" ["s"] iP) (aA:Cal P w K mg base 1 "less" ["s","t"] qK) (ay:Cal P w K mg base 6 "bases" ["house"] (Ay Z)) (ax:Cal P w K mg base 1 "single" ["many","place"] Am) (ar:Cal P w K mg base 7 "column_for" ["house","prime","columns","base","thing"] (Ax Z)):
  Cal P w K mg base 8 "table_for" ["house","prime"] (Ak Z):=by
 refine D.cal dM #[6] λf cdv A outer i3 H vs Q E J h=> ?_;obtain⟨h,n,R,p,r,rfl,hX,M,rR,pm,p0,p3,k1,k2⟩:=h;refine#[_,(ae (wset 2 dM.nd (dg K (wcal ay J (aa (pv 0) ah)) af))
   (ae (wset 3 dM.nd (wcal ag J (aa (pv 0) ah)))
   (ae (wset 4 dM.nd Ip)
   (ae (wfor (ur (K:=K) ⋯ ⋯ T.enumerate_ (aa (wcal ai J (aa (pv 2) ah)) ah)) (nP (K:=K) (n:=2) ⋯ ⋯ (fb (wname 5 dM.nd) (fb (wname 6 dM.nd) nO)))
     (aj (D1 (Pd (Sn ∅ _) J.units) (pv 4) (pv 6) (wcal ax J (aa (pv 3) (aa (pv 5) ah))) ⋯)))
   (ae (wfor (wil K (wcal ai J (aa (wcal aA J (aa (gq ab J ∅ (pv 0)) (aa (pv 2) ah))) ah))) (wname 6 dM.nd)
     (ae (wset 7 dM.nd (wcal ar J (aa (pv 0) (aa (pv 1) (aa (pv 4) (aa (pv 2) (aa (pv 6) ah)))))))
     (ae (bA (wpt MW (pv 7) jJ)
       (aj (aF jJ))
       aQ)
     (aj (D1 (Pd (Sn ∅ _) J.units) (pv 4) (pv 6) (pv 7) ⋯)))))
   (aj (aF (wlc ["row"] ["columns","house"] [4,0] (wrng T.range_ (pv 3)) (wnC 0) cc (wlc ["thing"] ["row","columns"] [0,1] (wrng T.range_ (wfld K (pv 2))) (wnC 0) cc (dg K (Ea (Pd (Sn ∅ _) J.units) (pv 2) (pv 0) (by intro _ _;rfl)) (pv 1))))))))))),6]
 have n8:=M.n8;have hp:=oP n8;have R8:R<=8:=by have:=M.jQ (2^n-1) (aJ n);have h2:sz (2^n-1)<=8:=bj _;lia
 refine#[7,h,n,r,2,hX,n8,λpb H1 cL h7 fI=> ?_];obtain⟨B,Bs,eB⟩:∃B Bs,oX n r=B::Bs:=by
  obtain⟨g,hg⟩:=r6 M;cases e:oX n r with
  |nil=>rw[e]at hg;exact absurd hg Pe
  |cons B Bs=>exact#[B,Bs,2]
 obtain⟨hB,hI,hQ⟩:=oR.mp (eB▸O6:B∈oX n r);have zB:sz B=R:=hQ.trans rR;have rB:r B=R:=hI.trans zB;have B8:B<256:=oN n8 hB;refine#[pb,3,SqL.of fI,by rw[eB];exact mD (j:=0) rfl,6];refine#[7,h,n,r,2,bc.same cL hX,n8,λH2 bp=> ?_];rw[rR];intro d hd;have hJ:Same H (upd H2 d (.dK [])):=cL.trans (bp.trans (Same.new hd));have dy:H d=none:=cL.free (bp.free hd);refine#[7,(B:Int),299,λpt H3 ec ih cq=>#[pt,2,#[_,cq],6]];rw[OU]at cq;refine Bq (K:=K) (a:=pt) (xs:=(bits B).map V.int) (λi U H4=>∃(q:Nat->Addr)(c:Nat->List Int)(O v6:Option V),Same H H4/\H4 pt=some (.lst ((bits B).map V.int))/\je H4 d ((aq B).take i) q c/\(∀j t:Nat,j<i->(aq B)[j]?=some t->c t=lA R j)/\U=[rW h,xS p,rT B,rT R,rW d,O,v6,none])
  #[λ_=>0,λ_=>[],none,none,hJ.trans ec,cq,#[ec.at ak,λt k=>absurd k Pe],λj t l=>absurd l (RW _),2] (λi U H4 _ h=>by obtain⟨_,_,_,_,_,e,_⟩:=h;exact SqL.of e) ?_ ?_
 .rintro i x t0 U H4 N f7 ⟨q,c,O,v6,cb,d2,b5,hu,rfl⟩;obtain⟨z,rfl,m⟩:=bH N;obtain⟨t,k,rfl⟩:∃t:Nat,(aq B)[i]?=some t/\z=(t:Int):=by unfold bits at m;rw[Ph]at m;obtain⟨t,k,e⟩:=SQ.mp m;exact#[t,k,e.symm]
  have cM:Same H4 (upd H4 t0 (.tup [.int (i:Int), .int (t:Int)])):=Same.new f7;refine#[t0,7,SqT.of ak,21786];refine#[77,R,i,2,R8,λqa H5 bt hq bS=> ?_];have dk:=b5.same (cM.trans bt);have nd:=mW B;have il:i<(aq B).length:=(O1.mp k).1;have tn:t∉ (aq B).take i:=λhm=>by
   obtain⟨j,l⟩:=P2 hm;have jl:j<i:=by have:=(O1.mp l).1;rw[Pz]at this;lia
   rw[Rh jl]at l;have:=(SN () nd).mp (l.trans k.symm);lia
  obtain⟨o,g1,g2⟩:=dk.put tn (by rw[Pz,aT];lia) bS;refine#[77,d,7,g1,6];have d3:=bt.at (cM.at d2);refine#[11,some (.int (i:Int)),some (.int (t:Int)),(cb.trans (cM.trans bt)).upd dy,6,by rw[Ql,k];exact g2,λj s l hs=> ?_,2]
  .rw[aE (kJ d3 dk.dict λz=>by cases z)];exact d3
  .unfold dS;by_cases e:j=i
   .subst e;rw[k]at hs;cases hs;rw[OP rfl]
   .have ne:¬s=t:=λz=>by rw[z]at hs;exact e ((SN (by have:=(O1.mp hs).1;lia) nd).mp (hs.trans k.symm))
    rw[OO ne];exact hu j s () hs
 .rintro U H4 ⟨q,c,O,v6,cb,d2,b5,hu,rfl⟩;have el:((bits B).map V.int).length=(aq B).length:=by rw[My];unfold bits aq;rw[My]
  rw[el,Qo]at b5;have lB:(aq B).length=R:=(aT B).trans zB;have cv:∀i t:Nat,(aq B)[i]?=some t->c t=lA R i:=λi t k=>hu i t (by rw[el];exact(O1.mp k).1) k;have hK:lE p R B B r c:=lE.start pm B8 zB rB cv;have ul:∀i,(lA R i).length=R:=λi=>by unfold lA;rw[My,O8]
  have hF:zX p R B (aq B) c:=#[λt=>#[λk=>(aK.mp k).2,λk=>aK.mpr #[by have:=aU hB k;lia,k]],mW B,λt k=>by
   obtain⟨i,N⟩:=P2 k;rw[cv i t N,ul],λt k z m=>by
   obtain⟨i,N⟩:=P2 k;rw[cv i t N]at m;unfold lA at m;obtain⟨j,_,rfl⟩:=OX.mp m;have:1<p:=by
    by_cases e:p=1
    .exact absurd (by rw[e];exact Int.dvd_refl 1) pm.one
    .lia
   split<;>lia]
  have fp:=bc.same cb hX;obtain⟨C,dm,f3⟩:=bc.shown fp;obtain⟨dx,fs,hh,fr,fe,fm⟩:=f3.ex;obtain⟨eE,nM,_,_⟩:=hc C dm;refine#[7,h,C,dx,fs,2,hh,dm,fe,h,C,dx,fs,n,2,hh,eE,nM,fm,996];rw[iZ];have ll:ao (2^n-1) B<2^n:=kY;refine#[7,2^n-1,B,2,((ao (2^n-1) B:Nat):Int),299,λpl H5 bt h8 bS=>#[pl,2,#[_,SqL.of bS],6]];rw[OU]at bS;have lb:∀t,(ao (2^n-1) B).testBit t=true↔t<n/\B.testBit t=false:=λt=>by rw[aG,Pq];cases B.testBit t<;>simp
  refine cQ (K:=K) (a:=pl) (xs:=(bits (ao (2^n-1) B)).map V.int) (λi U H6=>∃(G:Nat)(L:List Nat)(q:Nat->Addr)(c:Nat->List Int)(O v6 v7:Option V),Same H H6/\H6 pl=some (.lst ((bits (ao (2^n-1) B)).map V.int))/\je H6 d L q c/\zX p R G L c/\lE p R B G r c/\(∀t:Nat,G.testBit t=true↔B.testBit t=true\/(t:Int)∈(bits (ao (2^n-1) B)).take i)/\U=[rW h,xS p,rT B,rT R,rW d,O,v6,v7])
   #[B,aq B,q,c,O,v6,none,cb.trans bt,bS,b5.same bt,hF,hK,λt=>#[5],2] (λi U H6 _ h=>by obtain⟨_,_,_,_,_,_,_,_,e,_⟩:=h;exact SqL.of e) ?_ ?_
  .rintro i x U H6 N ⟨G,L,q,c,O,v6,v7,aC,d0,b6,u,cg,gb,rfl⟩;obtain⟨z,rfl,m⟩:=bH N;obtain⟨y,y8,yb,rfl⟩:=cX.mp (O5 m);obtain⟨yn,yB⟩:=(lb y).mp yb;have hG:G<2^n:=Q7 _ λt k=>by
    cases e:G.testBit t with
    |false=>rfl
    |true=>
     rcases(gb t).mp e with g|g
     .have:=aU hB g;lia
     .obtain⟨t',_,tb,e2⟩:=cX.mp (Ry g);have:t=t':=()
      have:=((lb t).mp (this▸tb)).1;lia
   have il:i<(bits (ao (2^n-1) B)).length:=(O1.mp m).1;have yG:G.testBit y=false:=by
    cases e:G.testBit y with
    |false=>rfl
    |true=>
     rcases(gb y).mp e with g|g
     .rw[yB]at g;cases g
     .obtain⟨j,l⟩:=P2 g;have jl:j<i:=by have:=(O1.mp l).1;rw[Pz]at this;lia
      rw[Rh jl]at l;have:=(SN () (vp _)).mp (l.trans m.symm);lia
   dsimp only[br];refine#[77777,h,d,n,R,G,B,y,p,r,L,q,c,2,bc.same aC hX,n8,rR,R8,pm,p0,p3,b6,u,hG,yn,yG,hB,zB,λqa col H7 b1 hq dv fx=> ?_,λH7 b1 fW=> ?_]
   .refine#[727,cP (λhn=>(nomatch O9 hn)) λ_=> ?_];have dp:=b6.same b1;have tn:y∉L:=λz=>by rw[(u.keys y).mp z]at yG;cases yG
    have kl:L.length<=8:=by have:=dW (a:=L) (b:=List.range 8) u.nod (λt k=>OS.mpr (by have:=aU hG ((u.keys t).mp k);lia));rwa[O8]at this
    obtain⟨o,g1,g2⟩:=dp.put tn kl hq;refine#[777,d,7,g1,6];have d1:=b1.at d0;obtain⟨m1,m2⟩:=(iA p0 _ col).mp dv;have fl:(fg r R B y).length=R:=by unfold fg;rw[My];exact zB
    refine#[G|||2^y,L++[y],_,dS c y col,O,some (.int (y:Int)),some (.ref qa),(aC.trans b1).upd dy,6,g2,6,cg.put pm (oN n8 hG) y8 yG dv fx,λt=> ?_,2]
    .rw[aE (kJ d1 dp.dict λz=>by cases z)];exact d1
    .refine#[λt=> ?_,6,λt k=> ?_,λt k=> ?_]
     .rw[Pg,Pu,aW,Px,O3,u.keys t];exact RM R9
     .rw[Rn];exact#[u.nod,#[5],λa ha b hb e=>by rw[Pu]at hb;exact tn (hb▸e▸ha)]
     .unfold dS;by_cases e:t=y
      .rw[OP e];exact m1.trans fl
      .rw[OO e];exact u.len t (by rcases Pg.mp k with z|z;exact z;exact absurd (Pu.mp z) e)
     .unfold dS;by_cases e:t=y
      .rw[OP e];intro z m;obtain⟨j,l⟩:=P2 m;have jl:j<(fg r R B y).length:=by rw[<-m1];exact(O1.mp l).1
       have:=m2 j _ (Po jl);rw[OV,l]at this;exact#[this.1,this.2.1]
      .rw[OO e];exact u.num t (by rcases Pg.mp k with z|z;exact z;exact absurd (Pu.mp z) e)
    .rw[aW,Px,O3,gb t,Ql,m,Pg,T8];refine RM (RM ?_);show y=t↔(t:Int)∈[(y:Int)];rw[Pu];lia
   .exact#[727,cP (λ_=>k2 B G y c H7 (aC.trans b1) hB zB rB hG yn yG cg fW) λhn=>absurd (OQ rfl) hn]
  .rintro U H6 ⟨G,L,q,c,O,v6,v7,aC,d0,b6,u,cg,gb,rfl⟩;have eG:G=2^n-1:=O2 λt=>by
    rw[Pq];have:=gb t;rw[My,Qo]at this;cases e:G.testBit t with
    |true=>
     rcases this.mp e with g|g
     .exact(OQ (aU hB g)).symm
     .obtain⟨t',_,tb,e2⟩:=cX.mp g;have e3:t=t':=()
      exact(OQ ((lb t).mp (e3▸tb)).1).symm
    |false=>
     by_cases tn:t<n
     .exfalso;have:G.testBit t=true:=this.mpr (by
       cases e4:B.testBit t with
       |true=>exact .inl rfl
       |false=>exact .inr ((qg ()).mpr ((lb t).mpr #[tn,e4])))
      rw[e]at this;cases this
     .rw[OR tn]
   subst eG;have cw:∀t,t<n->t∈L:=λt k=>(u.keys t).mpr (by rw[Pq];exact OQ k);have fu:=bc.same aC hX;refine#[77996];rw[OU];refine FY (λi y Hh=>∃a,y= .ref a/\H6 a=none/\Hh a=some (.lst (((List.range n).map λt=>(c t).getD i 0).map V.int))) (λi y Ha Hb e ⟨a,h1,h0,h2⟩=>#[a,h1,h0,e.at h2]) (OY R8 ∅) (λi vs D H' Rk S N hv sm hD hk=> ?_) λD H' ys hD sm hl d5 d6=> ?_
   .obtain⟨v,rfl⟩:=bq hv;simp only[br,iM,OP];have fa:=bc.same sm fu;obtain⟨C',eL,f5⟩:=bc.shown fa;obtain⟨eM,e7,fy,h5,h4,e6⟩:=f5.ex;obtain⟨eH,hE,_,_⟩:=hc C' eL;refine#[7,h,C',eM,e7,7,fy,eH,hE,e6,7996];rw[OU];obtain⟨dl,e9⟩:=hD;refine eD (λ_=>true) (λt=> .int ((c t).getD i 0)) (OY n8 ∅) (λt i2 ej R2 S2 k gj bp fB=> ?_) λD2 en cp bp fU=> ?_
    .obtain⟨v2,rfl⟩:=bq gj;simp only[br,iM,OP];have q2:=fB [some (.int (0+(t:Nat)))] ej rfl (Same.refl _);rw[OP rfl]at q2;have tk:=cw t k;have dj:=b6.same (sm.trans bp);have ci:i<(c t).length:=by rw[u.len t tk];exact N
     refine#[77,d,7,by have:=dj.get tk;rw[Qk];exact this,6];refine#[7,q t,3,SqL.of (dj.cols t tk),by rw[Qk];exact cS ci,q2]
    .refine hk (.ref D2) [some (.int (0+(i:Nat)))] en #[D2,2,sm.free cp,6] rfl bp;have nD:D2≠D:=λz=>by rw[z,e9]at cp;cases cp
     rw[eU nD,fU];unfold gI;rw[Qq.mpr (λ_ _=>rfl),PJ];rfl
   .refine k1 B c D ys H' (aC.trans sm) (aC.free hD) hl ?_ (λx hx=> ?_) hB zB rB cg λt k=>#[u.len t (cw t k),u.num t (cw t k)]
    .refine a9.of (by rw[d5];unfold gO;rw[My,O8]) λj rr y h1 h2=> ?_;obtain⟨a,rfl,h0,h3⟩:=d6 j y h2;have jl:j<R:=by rw[<-d5];exact(O1.mp h2).1
     unfold gO at h1;rw[Ph,Qp jl]at h1;cases h1;exact#[a,2,h3]
    .obtain⟨j,l⟩:=P2 hx;obtain⟨a,rfl,h0,_⟩:=d6 j x l;exact#[a,2,aC.free h0]
def HN(M:Mat n r):Dt n r where
 le:=M.jQ
 mono:=λs t _ ht h=>M.mono (ph.mp h) ht
 unit:=λs c=>by have d:=M.yW (x:=ao (2^n-1) s) (b:=2^n-1) (λk a=>by rw[aG,Pc]at a;exact a.1) (aJ n);have e:=sF M.n8 c;have f:=sF M.n8 (aJ n);lia
def Eh{n k w:Nat}(g:k<2^n)(h:Sub w (ao (2^n-1) k)):ao (2^n-1) (ao (ao (2^n-1) k) w|||w)=k:=O2 λt=>by
 have a:=h t;rw[aG]at a;rw[aG,O7,aG,aG];by_cases c:t<n
 .have e:(2^n-1).testBit t=true:=by rw[Pq];exact OQ c
  rw[e]at a⊢;cases f:k.testBit t<;>cases d:w.testBit t<;>rw[f]at a<;>first|rfl|exact absurd (a d) ∅
 .have e:(2^n-1).testBit t=false:=by rw[Pq];exact OR c
  have b:k.testBit t=false:=by
   cases b:k.testBit t with
   |false=>rfl
   |true=>exact absurd (aU g b) c
  rw[e,b];rfl
inductive ED(Z:Hs)(vs:List V)(H:Hp)(Q:VK):Prop
 |mk(h:Addr) (n m d:Nat) (kd:Str) (r:Nat->Nat) (_:vs=[.ref h, .str kd, .int (m:Int), .int (d:Int)]) (_:Z.ho H h n r) (_:Mat n r) (_:(∀k w t H',Same H H'->H t=none->H' t=some (.tup [.str "barred", .int (ao (ao (2^n-1) k) w:Nat), .int (w:Int), .str kd])->k<2^n->Sub w (ao (2^n-1) k)->fc (sz k) (cY r k w)= .str kd->Q (.ref t) H')) (_:(∀H',Same H H'->(∀k w,k<2^n->sz k=m->Sub w (ao (2^n-1) k)->((sz w:Nat):Int)=(r (2^n-1):Nat) - (d:Nat)->¬fc (sz k) (cY r k w)= .str kd)->Q .non H')):ED Z vs H Q
def Hk(Z:Hs):Sp:=λvs H Q _=>ED Z vs H Q
def fC:aH ["house","kind","many","rank","kept","rest","drawn","out"] ["house","kind","many","rank"] (au gm):=aZ
def uC{Z:Hs}(T:Tb K mg)(N:iC Z)(hc:∀C,Z.dom C->HC K C_House C)(D:bC K mg "left_barred" gm ["house","kind","many","rank"])(hj:5<=j)(ab:∀C,Z.dom C->dn P w K mg base 2 C "everything" ["self"] (eQ K))
  (ai:Cal P w K mg base 5 "whole_rank" ["house"] (iO Z)) (ag:Cal P w K mg base 4 "choices" ["s","k"] kA) (ar:Cal P w K mg base 1 "less" ["s","t"] qK) (ay:vE P w K mg base 5 "Minor" cM ["self","house","out","drawn"] (Av Z cM)) (ax:Cal P w K mg base (j+1) "kind_of" ["house"] (As (sy Z cM))):
  Cal P w K mg base (j+2) "left_barred" ["house","kind","many","rank"] (Hk Z):=by
 refine D.cal fC #[6] λf cdv A outer ef H vs Q E p h=> ?_;obtain⟨h,n,m,d,y,r,rfl,hX,M,k1,k2⟩:=h;refine#[_,(ae (wfor (wil K (wcal ag p (aa (gq ab p () (pv 0)) (aa (pv 2) ah)))) (wname 4 fC.nd)
     (ae (wset 5 fC.nd (wcal ar p (aa (gq ab p () (pv 0)) (aa (pv 4) ah))))
     (aj (wfor (wil K (wcal ag p (aa (pv 5) (aa (aw fJ (wcal ai p (aa (pv 0) ah)) (pv 3)) ah)))) (wname 6 fC.nd)
       (ae (wset 7 fC.nd (wcal ar p (aa (pv 5) (aa (pv 6) ah))))
       (aj (bA (wpt a7 (wcal ax p (aa (qP ay p () ⋯ (aa (pv 0) (aa (pv 7) (aa (pv 6) ah)))) ah)) (pv 1))
         (aj (aF (iy (aa gd (aa (pv 7) (aa (pv 6) (aa (pv 1) ah)))))))
         aQ)))))))
   (aj (aF jJ))),6]
 have n8:=M.n8;have hp:=oP n8;have ec:0<2^n:=QU ();obtain⟨C,dm,dv⟩:=N.shown hX;obtain⟨U,fs,hh,fr,fe,fm⟩:=dv.ex;obtain⟨cb,nM,_,_⟩:=hc C dm;refine#[7,h,C,U,fs,2,hh,dm,fe,h,C,U,fs,n,2,hh,cb,nM,fm,996];rw[iZ];refine#[7,((2^n-1:Nat):Int),(m:Int),299,λpc H1 c1 d7 bu=>#[pc,2,#[_,SqL.of bu],6]];rw[OU]at bu;refine cQ (K:=K) (a:=pc) (xs:=(fM (2^n-1) (m:Int)).map V.int) (λi v B=>∃v4 v5 q u:Option V,Same H1 B/\(∀k w:Nat,(k:Int)∈(fM (2^n-1) (m:Int)).take i->Sub w (ao (2^n-1) k)->((sz w:Nat):Int)=(r (2^n-1):Nat) - (d:Nat)->¬fc (sz k) (cY r k w)= .str y)/\v=[rW h,some (.str y),rT m,rT d,v4,v5,q,u])
  #[none,none,none,none,Same.refl _,λk w J=>absurd J Pe,2] (λi v B _ h=>by obtain⟨_,_,_,_,sm,_⟩:=h;exact SqL.of (sm.at bu)) ?_ ?_
 .rintro i x v B hi ⟨v4,v5,q,u,aB,bk,rfl⟩;obtain⟨z,rfl,hz⟩:=bH hi;obtain⟨k,rfl,J,zk⟩:=(gK ()).mp (O5 hz);have L:k<2^n:=J.lt (aJ n);have ed:sz k=m:=()
  dsimp only[br];have b2:=c1.trans aB;have cp:=b2.at hh;refine#[7,h,C,U,fs,2,cp,dm,fe,h,C,U,fs,n,2,cp,cb,nM,fm,996];rw[iZ];have ll:ao (2^n-1) k<2^n:=kY;refine#[7,2^n-1,k,26];refine#[77,h,n,r,2,N.same b2 hX,n8,λH3 c2=> ?_];refine#[78,((ao (2^n-1) k:Nat):Int),(r (2^n-1):Nat) - (d:Nat),299,λpd H4 c3 ea bx=>#[pd,2,#[_,SqL.of bx],6]];rw[OU]at bx;have d1:=b2.trans (c2.trans c3);have l8:ao (2^n-1) k<256:=()
  refine cQ (K:=K) (a:=pd) (xs:=(fM (ao (2^n-1) k) ((r (2^n-1):Nat) - (d:Nat):Int)).map V.int) (λi' v G=>∃q u:Option V,Same H4 G/\(∀w:Nat,(w:Int)∈(fM (ao (2^n-1) k) ((r (2^n-1):Nat) - (d:Nat):Int)).take i'->¬fc (sz k) (cY r k w)= .str y)/\v=[rW h,some (.str y),rT m,rT d,rT k,some (.int (ao (2^n-1) k:Nat)),q,u])
   #[q,u,Same.refl _,λw g=>absurd g Pe,2] (λi' v G _ h=>by obtain⟨_,_,sm,_⟩:=h;exact SqL.of (sm.at bx)) ?_ ?_
  .rintro i' x v G dt ⟨q,u,aC,bp,rfl⟩;obtain⟨z,rfl,cy⟩:=bH dt;obtain⟨c,rfl,g,O⟩:=(gK l8).mp (O5 cy);have wl:c<2^n:=g.lt ll;dsimp only[br];refine#[77,ao (2^n-1) k,c,26];have b3:=d1.trans aC;have cn:=N.same b3 hX;refine#[777,λpo cg bS cL eb=>#[po,cg,h,n,ao (ao (2^n-1) k) c,c,r,2,ak,N.same (nK bS cL) cn,n8,wl,λH6 d0 ct=>#[26]]];rw[Eh L g]at ct;have aD:Same G H6:=λb o e=>d0 b o (by rw[aE (aI e bS),aE (aI e cL)];exact e) (aI e bS);have hM:Ot cM H6 (Z.ho H6) po (sz k) (cY r k c):=#[cg,h,n,k,c,r,ct,N.same aD cn,2,n8,L,wl,λs _=>M.min_int L wl s];refine#[po,sz k,cY r k c,2,hM,bj _,HN (M.minor L wl),λH7 b4=> ?_];have fl:scal (fc (sz k) (cY r k c)) (.str y)=true:=by
    unfold fc;split
    .rfl
    split
    .rfl
    split
    .rfl
    split
    .rfl
    split<;>rfl
   refine#[7,fl,7,cP (λh1=> ?_) λh1=> ?_]
   .have e1:fc (sz k) (cY r k c)= .str y:=O9 h1;refine#[777,OY (O4 4) ∅,λt ht=> ?_];exact k1 k c t _ ((b3.trans (aD.trans b4)).trans (Same.new ht)) ((b3.trans (aD.trans b4)).free ht) ak L g e1
   .have e1:¬fc (sz k) (cY r k c)= .str y:=λz=>h1 (OQ z);refine#[11,aC.trans (aD.trans b4),λw cv=> ?_,2];rw[Ql,cy]at cv;rcases Pg.mp cv with l|l
    .exact bp w l
    .have l:(w:Int)=(c:Int):=#[5,l]
     have e:w=c:=()
     rw[e];exact e1
  .rintro v G ⟨q,u,aC,bp,rfl⟩;refine#[some (.int (k:Int)),some (.int (ao (2^n-1) k:Nat)),q,u,aB.trans (c2.trans (c3.trans aC)),λk' w cq g O=> ?_,2];rw[Ql,hz]at cq;rcases Pg.mp cq with l|l
   .exact bk k' w l g O
   .have l:(k':Int)=(k:Int):=#[5,l]
    have e:k'=k:=()
    subst e;refine bp w ?_;rw[My,Qo];exact(gK l8).mpr #[w,2,g,O]
 .rintro v B ⟨v4,v5,q,u,aB,bk,rfl⟩;refine k2 B (c1.trans aB) λk w J zk g O=>bk k w ?_ g O;rw[My,Qo];exact(gK ()).mpr #[k,2,bO J,9]
def tf(H:Hp)(xs:List V):Prop:=∀x∈xs,∃a,x= .ref a/\H a=none
def tj(H:Hp)(a:Addr)(c:List (Str×Nat×Nat)):Prop:=∃xs,H a=some (.lst xs)/\xs.length=c.length/\∀(i:Nat)(k:Str×Nat×Nat),c[i]?=some k->∃b,xs[i]?=some (.ref b)/\H b=some (.tup [.str k.1, .int (k.2.1:Int), .int (k.2.2:Int)])
def tj.same(h:tj H a ks)(e:Same H H'):tj H' a ks:=by obtain⟨xs,c,d,f⟩:=h;exact#[xs,e.at c,d,λi k g=>by obtain⟨b,g1,g2⟩:=f i k g;exact#[b,g1,e.at g2]]
structure oZ(p:Int)(n R:Nat)(r:Nat->Nat)(c:Nat->List Int):Prop where
 ex:∃B,B<2^n/\sz B=R/\r B=R/\lE p R B (2^n-1) r c
 len:∀t,t<n->(c t).length=R
 num:∀t,t<n->∀z∈c t,0<=z/\z<p
def J4(p:Int)(n R:Nat)(r:Nat->Nat):Prop:=∃B G y c,B<2^n/\sz B=R/\r B=R/\G<2^n/\y<n/\G.testBit y=false/\lE p R B G r c/\∀col∈eJ p (fg r R B y),¬o3 p R r (dS c y col) G y
def zU(n R:Nat)(r:Nat->Nat)(k:Str×Nat×Nat):Prop:=∀s w,s<2^n->sz s=k.2.1->Sub w (ao (2^n-1) s)->((sz w:Nat):Int)=(R:Nat) - (k.2.2:Nat)->¬fc (sz s) (cY r s w)= .str k.1
inductive r9(Z:Hs)(vs:List V)(H:Hp)(Q:VK):Prop
 |mk(h a:Addr) (n R:Nat) (p:Int) (r:Nat->Nat) (ks:List (Str×Nat×Nat)) (_:vs=[.ref h, .int p, .ref a]) (_:Z.ho H h n r) (_:Mat n r) (_:r (2^n-1)=R) (_:bZ p) (_:0<p) (_:p<=3) (_:tj H a ks) (_:(∀c l xs t H',Same H H'->H t=none->H' t=some (.tup [.str "table", .ref l])->H l=none->H' l=some (.lst xs)->a9 (hide H' l) xs (gO c n R)->tf H xs->oZ p n R r c->Q (.ref t) H')) (_:(∀k s w t H',Same H H'->H t=none->H' t=some (.tup [.str "barred", .int (ao (ao (2^n-1) s) w:Nat), .int (w:Int), .str k])->(∃m d,(k,m,d)∈ks)->s<2^n->Sub w (ao (2^n-1) s)->fc (sz s) (cY r s w)= .str k->Q (.ref t) H')) (_:(∀H',Same H H'->J4 p n R r->(∀k∈ks,zU n R r k)->Q .non H')):r9 Z vs H Q
def oJ(Z:Hs):Sp:=λvs H Q _=>r9 Z vs H Q
def gP:aH ["house","prime","kinds","known","rows","kind","found"] ["house","prime","kinds"] (au iQ):=aZ
def yF(T:Tb K mg)(dw:iC Z)(zK:iC (hsN O))(D:bC K mg "told_over" iQ ["house","prime","kinds"])(hj:8<=j)(ai:vE P w K mg base 8 "Known" O ["self","house"] (DQ Z O))
  (ag:Cal P w K mg base 8 "table_for" ["house","prime"] (Ak (hsN O))) (ab:Cal P w K mg base j "left_barred" ["house","kind","many","rank"] (Hk (hsN O))):
  Cal P w K mg base (j+2) "told_over" ["house","prime","kinds"] (oJ Z):=by
 refine D.cal gP #[6] λf cdv A outer d1 H vs Q E hr h=> ?_;obtain⟨h,a,n,R,p,r,ks,rfl,hX,M,rR,pm,p0,p3,cy,k1,k2,k3⟩:=h;refine#[_,(ae (wset 3 gP.nd (qP ai hr () ⋯ (aa (pv 0) ah)))
   (ae (wset 4 gP.nd (wcal ag hr (aa (pv 3) (aa (pv 1) ah))))
   (ae (bA (wpt yC (pv 4) jJ)
     (aj (aF (iy (aa gd (aa (pv 4) ah)))))
     aQ)
   (ae (wfor (wil K (pv 2)) (wname 5 gP.nd)
     (ae (wset 6 gP.nd (wcal ab hr (aa (pv 3) (aa (i6 K (pv 5) af) (aa (i6 K (pv 5) af) (aa (i6 K (pv 5) af) ah))))))
     (aj (bA (wpt yC (pv 6) jJ)
       (aj (aF (pv 6)))
       aQ))))
   (aj (aF jJ)))))),6]
 have n8:=M.n8;refine#[7,λpo bB a5 b6 d0=>#[po,bB,h,n,r,2,ak,dw.same (nK a5 b6) hX,n8,λtt H1 dV dd cN cM=>#[26]]];have v:Same H H1:=λb o e=>dd b o (by rw[aE (aI e a5),aE (aI e b6)];exact e) (aI e a5);have bS:(hsN O).ho H1 po n r:=#[bB,tt,cM,cN];refine#[77,po,n,R,p,r,2,bS,M,rR,pm,p0,p3,λB c l xs H2 z hl U hR hN hB zB rB st lc=> ?_,λB G y c H2 z hB zB rB hG yn yG st no=> ?_]
 .refine#[727,cP (λ_=> ?_) λu=>absurd rfl u];refine#[7,OY (O4 2) ∅,λt g=> ?_];have tl:t≠l:=λe=>by rw[e,U]at g;cases g
  refine k1 c l xs t _ (v.trans (z.trans (Same.new g))) (v.free (z.free g)) ak (v.free hl) (by rw[aE tl.symm];exact U) (hR.same λb o e=> ?_) (λx hx=>by obtain⟨a,h1,q⟩:=hN x hx;exact#[a,h1,v.free q]) #[#[B,hB,zB,rB,st],λt g=>(lc t g).1,λt g=>(lc t g).2];by_cases e2:b=l
  .subst e2;unfold hide at e;rw[OP rfl]at e;cases e
  .rw[eU e2]at e⊢;rw[aE (aI e g)];exact e
 .refine#[727,cP (λu=>(nomatch u)) λ_=> ?_];have cv:=cy.same (v.trans z);obtain⟨xs,U,xl,cu⟩:=cv;refine#[7,a,2,#[_,SqL.of U],6];refine cQ (K:=K) (a:=a) (xs:=xs) (λi σ N=>∃v5 v6:Option V,Same H2 N/\(∀k∈ks.take i,zU n R r k)/\σ=[rW h,xS p,rW a,rW po,some .non,v5,v6])
   #[none,none,Same.refl _,λk J=>absurd J Pe,2] (λi σ N _ h=>by obtain⟨_,_,sm,_⟩:=h;exact SqL.of (sm.at U)) ?_ ?_
  .rintro i x σ N hi ⟨v5,v6,L,ax,rfl⟩;have il:i<ks.length:=by rw[<-xl];exact(O1.mp hi).1
   have J:=Po il;obtain⟨b,hb,b3⟩:=cu i _ J;rw[hi]at hb;cases hb;generalize ks[i]=k at J b3;obtain⟨kd,m,d⟩:=k;have a0:=L.at b3;dsimp only[br];refine#[77,b,3,SqT.of a0,27,b,3,SqT.of a0,27,b,3,SqT.of a0,26];refine#[po,n,m,d,kd,r,2,zK.same (z.trans L) bS,M,λs w t H4 bb g cO hs hw cw=> ?_,λH4 bb cL=> ?_]
   .refine#[727,cP (λ_=> ?_) λu=>absurd rfl u];have b8:=v.trans (z.trans L);exact#[7,k2 kd s w t H4 (b8.trans bb) (b8.free g) cO #[m,d,O5 J] hs hw cw]
   .refine#[727,cP (λu=>(nomatch u)) λ_=> ?_];refine#[11,L.trans bb,λk' b2=> ?_,2];rw[Ql,J]at b2;rcases Pg.mp b2 with q|q
    .exact ax k' q
    .have q:k'=(kd,m,d):=#[5,q]
     rw[q];exact λs w hs zs hw zw=>cL s w hs zs hw (by rw[rR];exact zw)
  .rintro σ N ⟨v5,v6,L,ax,rfl⟩;rw[xl,Qo]at ax;exact k3 N (v.trans (z.trans L)) #[B,G,y,c,hB,zB,rB,hG,yn,yG,st,no] ax
def Nq(C:Addr):iC (hsN C) where
 same:=λe h=>h.same e
 shown:=λh=>by obtain⟨a,t,b,c⟩:=h;exact#[C,2,a,_,b,Jo _ _,F0 _ _,Jq _ _]
def Mu(vs:List V)(H:Hp)(Q:VK)(E:XK)(h:jx (hsN C) C vs H Q E):DK C vs H Q E:=by obtain⟨a,n,s,r,e,b,_,d,c,k⟩:=h;exact#[a,n,s,r,e,b,d,c,k H (Same.refl _)]
def Oh{B t y:Nat}(h:B.testBit t=true):qr B t y=exB B t y:=by
 unfold qr exB;refine PN (· |||2^y) (O2 λj=> ?_);rw[aG,Qe,O0];by_cases e:t=j
 .subst e;simp[h]
 .simp[e]
def Fs(k:B<256)(p:sz B=R):zQ B R (λi=>(aq B).getD i 0):=by
 have h:(aq B).length=R:=(aT B).trans p;have b:∀i,i<R->(aq B)[i]?=some ((aq B).getD i 0):=λi a=>by
  have d:i<(aq B).length:=by rw[h];exact a
  rw[Po d];simp[d]
 refine#[λi a=>(aK.mp (O5 (b i a))).2,λi j a o e=> ?_,λt f=> ?_]
 .have c:=b i a;have m:=b j o;have l:(aq B).getD i 0=(aq B).getD j 0:=e;rw[l]at c;exact(SN () (mW B)).mp (c.trans m.symm)
 .obtain⟨i,a⟩:=P2 (aK.mpr #[aU (n:=8) k f,f]);have g:i<R:=by rw[<-h];exact(O1.mp a).1
  exact#[i,g,Qd ((b i g).symm.trans a)]
def yZ(d:sz B=R)(b:i<R):(fg r R B y)[i]?=some (decide (r (exB B ((aq B).getD i 0) y)=R)):=by
 have c:(aq B).length=R:=(aT B).trans d;have a:i<(aq B).length:=by rw[c];exact b
 have e:(aq B).getD i 0=(aq B)[i]:=by simp[a]
 unfold fg;rw[show bits B=(aq B).map λt:Nat=>(t:Int)from rfl,PJ,Ph,Po a,e];show some (decide (r (qr B ((aq B)[i]:Int).toNat y)=R))=_;rw[OU,Oh (aK.mp (Qt a)).2]
def CM(M:Mat n r)(x:r (2^n-1)=R)(h:J4 2 n R r)(hk:zU n R r (a8,4,2)):False:=by
 obtain⟨B,G,y,c,U,d,rB,u,yn,g,st,no⟩:=h;have A:=M.n8;have L:B<256:=oN A U;have v:G|||2^y<2^n:=aP u yn;have P:=Fs L d;have lB:(aq B).length=R:=(aT B).trans d;have fl:(fg r R B y).length=R:=by unfold fg;rw[My];exact d
 have m0:(fg r R B y).map (λb=>if b=true then(1:Int)else 0)∈eJ 2 (fg r R B y):=(iA ∅ _ _).mpr #[My _,λi b hb=>by rw[OV,Ph,hb];cases b<;>exact#[444]]
 generalize (fg r R B y).map (λb=>if b=true then(1:Int)else 0)=col at m0;have nB:B.testBit y=false:=by
  cases e:B.testBit y with
  |false=>rfl
  |true=>rw[st.sub y e]at g;cases g
 have O:∀t,(G|||2^y).testBit t=true->B.testBit t=false->dS c y col t∈eJ 2 (fg r R B t):=λt f l=>by
  unfold dS;by_cases e:t=y
  .rw[OP e,e];exact m0
  .rw[OO e];rw[aW,Px]at f;exact st.fill t (by rcases f with z|z;exact z;exact absurd (O9 z).symm e) l
 have N:LJ r (G|||2^y) B R (λi=>(aq B).getD i 0) (jS (dS c y col)):=by
  refine#[λi j o hj=> ?_,λt i f l o=> ?_]
  .have p:i<(aq B).length:=by rw[lB];exact o
   have e:(aq B).getD i 0=(aq B)[i]:=by simp[p]
   have H:=(aK.mp (Qt p)).2;have ne:¬(aq B)[i]=y:=λz=>by rw[z,nB]at H;cases H
   show(dS c y col ((aq B).getD i 0)).getD j 0=_;unfold dS;rw[e,OO ne,st.unit i _ (Po p),o7 hj]
  .have:=((iA ∅ _ _).mp (O t f l)).2 i _ (yZ d o);show(dS c y col t).getD i 0=_;obtain⟨a1,a2,s⟩:=this;by_cases e:r (exB B ((aq B).getD i 0) t)=R
   .rw[OP e];have:=s.mp (OQ e);lia
   .rw[OO e];exact Pb λz=>e (O9 (s.mpr z))
 have q:¬kr r (G|||2^y) R:=λq=>no col m0 λS m zS=>by
  have hy:S.testBit y=false:=by
   cases e:S.testBit y with
   |false=>rfl
   |true=>rw[m y e]at g;cases g
  have z1:=gc (oN A (m.lt u)) (show y<8 by lia) hy;refine(wq M x v (λt a=>by rw[aW,st.sub t a];rfl) d rB P N q (Z:=S|||2^y) (λt a=> ?_) ()).symm;rw[aW,Px]at a⊢;rcases a with z|z
  .exact .inl (m t z)
  .exact .inr z
 obtain⟨k,w,ar,ax,J,Q,zw,ev⟩:=Gd M v x q;refine hk k w ar J (λt a=> ?_) (show((sz w:Nat):Int)=(R:Nat) - ((2:Nat):Int) by lia) ?_
 .rw[aG,Pq,OQ (aU ax a),P7];cases e:k.testBit t with
  |false=>rfl
  |true=>rw[Q t e]at a;cases a
 .rw[J];unfold fc;rw[OP ev]
inductive vv(Z:Hs)(vs:List V)(H:Hp)(Q:VK):Prop
 |mk(h:Addr) (n R:Nat) (r:Nat->Nat) (_:vs=[.ref h]) (_:Z.ho H h n r) (_:Mat n r) (_:r (2^n-1)=R) (_:(∀c l xs t H',Same H H'->H t=none->H' t=some (.tup [.str "table", .ref l])->H l=none->H' l=some (.lst xs)->a9 (hide H' l) xs (gO c n R)->tf H xs->oZ 2 n R r c->Q (.ref t) H')) (_:(∀s w t H',Same H H'->H t=none->H' t=some (.tup [.str "barred", .int (ao (ao (2^n-1) s) w:Nat), .int (w:Int), .str a8])->s<2^n->Sub w (ao (2^n-1) s)->fc (sz s) (cY r s w)= .str a8->Q (.ref t) H')):vv Z vs H Q
def wx(Z:Hs):Sp:=λvs H Q _=>vv Z vs H Q
def AF:aH ["house"] ["house"] (au jA):=aZ
def AV(bc:iC Z)(D:bC K mg "over_two" jA ["house"])(G:mg "TWO_OF_FOUR"=some (.str a8 t1))(J:Cal P w K mg base j "told_over" ["house","prime","kinds"] (oJ Z)):Cal P w K mg base (j+1) "over_two" ["house"] (wx Z):=by
 refine D.cal AF #[6] λf cdv A outer bk H vs Q E hr h=> ?_;obtain⟨h,n,R,r,rfl,hX,M,B,k1,k2⟩:=h;refine#[_,(aj (aF (wcal J hr (aa (pv 0) (aa af (aa (dU (aa (iy (aa (eS (v:= .str a8) ⋯ G #[7]) (aa af (aa af ah)))) ah)) ah)))))),6];refine#[7,OY (O4 3) ∅,λb hb=>#[OY (O4 1) ∅,λa u=> ?_]];have sb:Same H (upd H b (.tup [.str a8, .int 4, .int 2])):=Same.new hb;have g:=sb.trans (Same.new (o:= .lst [.ref b]) u);have ne:b≠a:=λe=>by rw[<-e,ak]at u;cases u
 refine#[h,a,n,R,(2),r,[(a8,4,2)],2,bc.same g hX,M,B,cU,44,#[[.ref b],ak,2,λi k p=> ?_],λc l xs t H' q y z hl a0 U O ho=> ?_,λk s w t H' q y z p hs hw ax=> ?_,λH' q nt nk=> ?_]
 .cases i with
  |zero=>cases p;exact#[b,2,by rw[aE ne,ak];rfl]
  |succ i=>simp at p
 .exact k1 c l xs t H' (g.trans q) (g.free y) z (g.free hl) a0 U (λx hx=>by obtain⟨a,L,N⟩:=O x hx;exact#[a,L,g.free N]) ho
 .obtain⟨m,d,p⟩:=p;cases Pu.mp p;exact k2 s w t H' (g.trans q) (g.free y) z hs hw ax
 .exact(CM M B nt (nk _ O6)).elim
def kZ:List (Str×Nat×Nat):=[(bz,5,2),(aY,5,3),(eO,7,3),(bg,7,4)]
def BM(M:Mat n r)(h:vF n R r)(i:∀k∈kZ,zU n R r k):False:=by
 obtain⟨s,w,f,g,h⟩:=h;have ev:∀ {q:Nat->Nat} {a b:Nat} {x y:Nat},a≠x->dX a q x y=false:=λ{q a b x y} h=>by unfold dX;rw[OR h];rfl
 rcases h with ⟨c,j,d⟩|⟨c,j,d⟩|⟨c,j,d⟩|⟨c,j,d⟩
 .refine i (bz,5,2) (by simp[kZ]) s w f c g (by show((sz w:Nat):Int)=(R:Nat) - ((2:Nat):Int);lia) ?_;rw[c];unfold fc;rw[ev (b:=0) ∅,OO ∅,OP d]
 .refine i (aY,5,3) (by simp[kZ]) s w f c g (by show((sz w:Nat):Int)=(R:Nat) - ((3:Nat):Int);lia) ?_;have top:cY r s w (2^5-1)=3:=by unfold dX at d;rw[Pc,Pc,O3,O3]at d;exact d.1.2
  have l:dX 5 (cY r s w) 5 2=false:=by unfold dX;rw[top];rfl
  rw[c];unfold fc;rw[ev (b:=0) ∅,OO ∅,l,OO ∅,OP d]
 .refine i (eO,7,3) (by simp[kZ]) s w f c g (by show((sz w:Nat):Int)=(R:Nat) - ((3:Nat):Int);lia) ?_;rw[c];unfold fc;rw[ev (b:=0) ∅,OO ∅,ev (b:=0) ∅,OO ∅,ev (b:=0) ∅,OO ∅,OP d]
 .refine i (bg,7,4) (by simp[kZ]) s w f c g (by show((sz w:Nat):Int)=(R:Nat) - ((4:Nat):Int);lia) ?_;have Mk:=M.minor f (g.lt ((cB _ _).lt (aJ n)));rw[c]at Mk;have p:bP 7 (cY r s w)=false:=by
   unfold bP at d⊢;rw[Pc,Pc,O3,O3]at d;have o:=Mk.de (aJ 7);have z:sz (2^7-1)=7:=∅
   have e:ao (2^7-1) (2^7-1)=0:=∅
   rw[e,Mk.zero,z]at o;have:¬cY r s w (2^7-1)=3:=()
   rw[OR this];rfl
  rw[c];unfold fc;rw[ev (b:=0) ∅,OO ∅,ev (b:=0) ∅,OO ∅,ev (b:=0) ∅,OO ∅,p,OO ∅];have m:bP 7 (iu 7 (cY r s w))=true:=d;rw[OP m]
def yN(M:Mat n r)(A:r (2^n-1)=R)(h:J4 3 n R r)(T:Tern n r):False:=by
 obtain⟨B,G,y,c,z,k,O,g,x,o,st,N⟩:=h;have m:=M.n8;have L:(aq B).length=R:=(aT B).trans k;have q:(fg r R B y).length=R:=by unfold fg;rw[My];exact k
 have Q:i0 (jS c) B R:=λi j a H=>by
  have s:i<(aq B).length:=by rw[L];exact a
  have e:bAt B i=(aq B)[i]:=by unfold bAt;simp[s]
  show(c (bAt B i)).getD j 0=_;rw[e,st.unit i _ (Po s),o7 H]
 obtain⟨v,u,U,v3⟩:=GQ M T A z k O g st.sub Q (λS d l=>by rw[<-qx (oN m (d.lt g)) l];exact st.good S d l) x o;have p:∀i,i<R->((List.range R).map v).getD i 0=v i:=λi a=>by rw[OV,Ph,Qp a];rfl
 refine N ((List.range R).map v) ((iA ∅ _ _).mpr #[by rw[My,O8,q],λi b f=> ?_]) λS d l=> ?_
 .have a:i<R:=by rw[<-q];exact(O1.mp f).1
  rw[yZ k a]at f;have f:=Qd f;rw[p i a,<-f,O3];exact#[(u i a).1,(u i a).2,(U i a).symm]
 .have J:S.testBit y=false:=by
   cases e:S.testBit y with
   |false=>rfl
   |true=>rw[d y e]at o;cases o
  have z1:=gc (oN m (d.lt g)) (show y<8 by lia) J;rw[qx (oN m (aP (d.lt g) x)) (),<-v3 S d l];refine xO λt _ i a=> ?_;show(3:Int)∣(dS c y ((List.range R).map v) t).getD i 0-D0 (jS c) y v t i;unfold dS D0;by_cases e:t=y
  .rw[OP e,OP e,p i a,Qu];exact PK _
  .rw[OO e,OO e];show(3:Int)∣(c t).getD i 0- (c t).getD i 0;rw[Qu];exact PK _
inductive qA(Z:Hs)(vs:List V)(H:Hp)(Q:VK):Prop
 |mk(h:Addr) (n R:Nat) (r:Nat->Nat) (_:vs=[.ref h]) (_:Z.ho H h n r) (_:Mat n r) (_:r (2^n-1)=R) (_:Cl3 n r) (_:(∀c l xs t H',Same H H'->H t=none->H' t=some (.tup [.str "table", .ref l])->H l=none->H' l=some (.lst xs)->a9 (hide H' l) xs (gO c n R)->tf H xs->oZ 3 n R r c->Q (.ref t) H')) (_:(∀k s w t H',Same H H'->H t=none->H' t=some (.tup [.str "barred", .int (ao (ao (2^n-1) s) w:Nat), .int (w:Int), .str k])->(∃m d,(k,m,d)∈kZ)->s<2^n->Sub w (ao (2^n-1) s)->fc (sz s) (cY r s w)= .str k->Q (.ref t) H')):qA Z vs H Q
def rH(Z:Hs):Sp:=λvs H Q _=>qA Z vs H Q
def oq:aH ["house","kinds"] ["house"] (au gS):=aZ
def vM(cm:iC Z)(D:bC K mg "over_three" gS ["house"])(O:mg "TWO_OF_FIVE"=some (.str bz t2))(N:mg "THREE_OF_FIVE"=some (.str aY t3))(ax:mg "SEVEN"=some (.str eO t4))(U:mg "OTHER_SEVEN"=some (.str bg t5))(ar:Cal P w K mg base j "told_over" ["house","prime","kinds"] (oJ Z)):Cal P w K mg base (j+1) "over_three" ["house"] (rH Z):=by
 refine D.cal oq #[6] λf cdv A outer cp H vs Q E hr h=> ?_;obtain⟨h,n,R,r,rfl,hX,M,J,cl,k1,k2⟩:=h;refine#[_,(ae (wset 1 oq.nd (dU (aa (iy (aa (eS (v:= .str bz) ⋯ O #[7]) (aa af (aa af ah)))) (aa (iy (aa (eS (v:= .str aY) ⋯ N #[7]) (aa af (aa af ah)))) (aa (iy (aa (eS (v:= .str eO) ⋯ ax #[7]) (aa af (aa af ah)))) (aa (iy (aa (eS (v:= .str bg) ⋯ U #[7]) (aa af (aa af ah)))) ah))))))
   (aj (aF (wcal ar hr (aa (pv 0) (aa af (aa (pv 1) ah))))))),6]
 refine#[OY (O4 3) ∅,λe bt=>#[OY (O4 3) ∅,λg bu=>#[OY (O4 3) ∅,λm bx=>#[OY (O4 3) ∅,λp bB=>#[OY (O4 4) ∅,λa ha=> ?_]]]]];have c1:=Same.new (o:= .tup [.str bz, .int 5, .int 2]) bt;have L:=Same.new (o:= .tup [.str aY, .int 5, .int 3]) bu;have z:=Same.new (o:= .tup [.str eO, .int 7, .int 3]) bx;have u:=Same.new (o:= .tup [.str bg, .int 7, .int 4]) bB;have q:=Same.new (o:= .lst [V.ref e,V.ref g,V.ref m,V.ref p]) ha;have d4:=q.at ak;have d3:=(u.trans q).at ak;have d2:=(z.trans (u.trans q)).at ak;have d1:=(L.trans (z.trans (u.trans q))).at ak;have d5:=ak (H:=upd (upd (upd (upd H e (.tup [.str bz, .int 5, .int 2])) g (.tup [.str aY, .int 5, .int 3])) m (.tup [.str eO, .int 7, .int 3])) p (.tup [.str bg, .int 7, .int 4])) (a:=a) (o:= .lst [V.ref e,V.ref g,V.ref m,V.ref p]);have d:=c1.trans (L.trans (z.trans (u.trans q)));generalize upd (upd (upd (upd (upd H e (.tup [.str bz, .int 5, .int 2])) g (.tup [.str aY, .int 5, .int 3])) m (.tup [.str eO, .int 7, .int 3])) p (.tup [.str bg, .int 7, .int 4])) a (.lst [V.ref e,V.ref g,V.ref m,V.ref p])=H1 at*;refine#[77,h,a,n,R,(3),r,kZ,2,cm.same d hX,M,J,aM,44,#[_,d5,2,λi k b=> ?_],λc l xs t H' y B G hl b8 hR hN ho=> ?_,λk s w t H' y B G b hs hw bN=> ?_,λH' y nt nk=> ?_]
 .match i,b with
  |0,b=>cases b;exact#[e,2,d1]
  |1,b=>cases b;exact#[g,2,d2]
  |2,b=>cases b;exact#[m,2,d3]
  |3,b=>cases b;exact#[p,2,d4]
  |i+4,b=>exact absurd b (by simp[kZ])
 .exact k1 c l xs t H' (d.trans y) (d.free B) G (d.free hl) b8 hR (λx hx=>by obtain⟨a,h1,h2⟩:=hN x hx;exact#[a,h1,d.free h2]) ho
 .exact k2 k s w t H' (d.trans y) (d.free B) G b hs hw bN
 .rcases cl with cl|cl
  .exact(yN M J nt cl).elim
  .exact(BM M (J▸cl) nk).elim
def IS(c:Nat->List Int):Nat->List Int:=λt=>(c t).map sg3
def Ed(c:Nat->List Int)(t i:Nat):(IS c t).getD i 0=sg3 ((c t).getD i 0):=by
 show((c t).map sg3).getD i 0=_;rw[OV,OV,Ph];cases (c t)[i]? with
 |none=>rfl
 |some z=>rfl
structure zN(n R:Nat)(r:Nat->Nat)(c:Nat->List Int):Prop where
 ex:∃B,BP n R r B (jS c)
 len:∀t,t<n->(c t).length=R
def oZ.bi2(h:oZ 2 n R r c)(M:Mat n r)(b:r (2^n-1)=R):Bi2 n r:=by obtain⟨⟨B,e,g,f,st⟩,_,_⟩:=h;exact NB (L:=bU (jS c) (List.range R)) M b (by unfold bU;rw[My,O8]) λS a d=>st.good S (bO a) d
def oZ.all(h:oZ 3 n R r c)(M:Mat n r)(x:r (2^n-1)=R)(b:Bi2 n r):zN n R r (IS c):=by
 obtain⟨⟨B,m,f,v,st⟩,k,u⟩:=h;have s:(aq B).length=R:=(aT B).trans f;have z:i0 (jS c) B R:=λi j a p=>by
  have g:i<(aq B).length:=by rw[s];exact a
  have e:bAt B i=(aq B)[i]:=by unfold bAt;simp[g]
  show(c (bAt B i)).getD j 0=_;rw[e,st.unit i _ (Po g),o7 p]
 have e:jS (IS c)=λt i=>sg3 (jS c t i):=funext λt=>funext λi=>Ed c t i;refine#[#[B,6],λt d=>by rw[<-k t d];exact My ..];rw[e];refine Kf M x b m f v z (λt d i a=> ?_) (λy q A i a=> ?_) λS o G=>st.good S (bO o) G
 .have l:i<(c t).length:=by rw[k t d];exact a
  have:=u t d ((c t).getD i 0) (by simp[l]);show(c t).getD i 0=0\/(c t).getD i 0=1\/(c t).getD i 0=2;lia
 .have:=((iA ∅ _ _).mp (st.fill y (by rw[Pq];exact OQ q) A)).2 i _ (yZ f a);rw[O3]at this;exact this.2.2.symm
def F2(h:fc n q= .str k)(g:k=bz\/k=aY):dX n q 5 2=true\/dX n q 5 3=true:=by
 have ne:∀x, .str x=V.str k->x∉ [a8,eO,bg]:=λx e i=>by have:=V.str.inj e;subst this;rcases g with rfl|rfl<;>revert i<;>decide+kernel
 unfold fc at h;by_cases a:dX n q 4 2=true
 .rw[OP a]at h;exact absurd #[5] (ne _ h)
 rw[OO a]at h;by_cases b:dX n q 5 2=true
 .exact .inl b
 rw[OO b]at h;by_cases c:dX n q 5 3=true
 .exact .inr c
 rw[OO c]at h;by_cases d:bP n q=true
 .rw[OP d]at h;exact absurd #[5] (ne _ h)
 rw[OO d]at h;by_cases f:bP n (iu n q)=true
 .rw[OP f]at h;exact absurd #[5] (ne _ h)
 rw[OO f]at h;cases h
def qW:List Str:=[a8,eO,bg]
inductive vy(Z:Hs)(vs:List V)(H:Hp)(Q:VK):Prop
 |mk(h:Addr) (n R:Nat) (r:Nat->Nat) (_:vs=[.ref h]) (_:Z.ho H h n r) (_:Mat n r) (_:r (2^n-1)=R) (_:(Bi2 n r->Cl3 n r)) (_:(∀c l xs t H',Same H H'->H t=none->H' t=some (.tup [.str "table", .ref l])->H l=none->H' l=some (.lst xs)->a9 (hide H' l) xs (gO c n R)->tf H xs->zN n R r c->Q (.ref t) H')) (_:(∀k s w t H',Same H H'->H t=none->H' t=some (.tup [.str "barred", .int (ao (ao (2^n-1) s) w:Nat), .int (w:Int), .str k])->k∈qW->s<2^n->Sub w (ao (2^n-1) s)->fc (sz s) (cY r s w)= .str k->Q (.ref t) H')):vy Z vs H Q
def wy(Z:Hs):Sp:=λvs H Q _=>vy Z vs H Q
def lU:aH ["house","two","three"] ["house"] (au jB):=aZ
def AW(dd:iC Z)(D:bC K mg "over_all" jB ["house"])(ag:Cal P w K mg base j "over_two" ["house"] (wx Z))(ab:Cal P w K mg base j "over_three" ["house"] (rH Z)):Cal P w K mg base (j+1) "over_all" ["house"] (wy Z):=by
 refine D.cal lU #[6] λf cdv A outer d7 H vs Q E hr h=> ?_;obtain⟨h,n,R,r,rfl,hX,M,B,cl,k1,k2⟩:=h;refine#[_,(ae (wset 1 lU.nd (wcal ag hr (aa (pv 0) ah)))
   (ae (bA (wpt a7 (i6 K (pv 1) af) gd)
     (aj (aF (pv 1)))
     aQ)
   (ae (wset 2 lU.nd (wcal ab hr (aa (pv 0) ah)))
   (ae (bA (wpt a7 (i6 K (pv 2) af) gd)
     (aj (aF (pv 2)))
     aQ)
   (aj (aF (iy (aa gd (aa (wlc ["row"] [] [] (wil K (i6 K (pv 2) af)) (wnC 0) cc (wlc ["number"] [] [] (wil K (pv 0)) (wnC 0) cc (mw (wpt a7 (pv 0) af) (jg f9 af) (pv 0)))) ah))))))))),6]
 have n8:=M.n8;refine#[7,h,n,R,r,2,hX,M,B,λc2 l2 d6 t2 H1 G dE cv dy dV dx dw ct=> ?_,λs w t H1 G ht g N hw ar=> ?_]
 .refine#[7,t2,3,SqT.of cv,227,cP (λp=>absurd (V.str.inj (O9 p)) #[9]) λ_=> ?_];have b:=ct.bi2 M B;refine#[7,h,n,R,r,2,dd.same G hX,M,B,cl b,λc l xs t H2 a6 ht g hl bS hR hN ho=> ?_,λk s w t H2 a6 ht g u N hw ar=> ?_]
  .refine#[7,t,3,SqT.of g,227,cP (λp=>absurd (V.str.inj (O9 p)) #[9]) λ_=> ?_];have xl:xs.length=R:=by rw[hR.1];unfold gO;rw[My,O8]
   have R8:R<=8:=by have:=M.jQ (2^n-1) (aJ n);have L:sz (2^n-1)<=8:=bj _;lia
   have sm:=G.trans a6;refine#[7,t,3,SqT.of g,2,l,2,#[_,SqL.of bS],6];refine Bi (λi y Hh=>∃a,y= .ref a/\H2 a=none/\Hh a=some (.lst (((List.range n).map λt=>(IS c t).getD i 0).map V.int))) (λ_ y Hh H' e ⟨a,J,h0,L⟩=>#[a,J,h0,e.at L]) (SqL.of bS) (by rw[xl];exact OY R8 ∅) (λi x vs D H' Rk Sk hx hv U hD u=> ?_) λD H' ys hD U bx b0 b1=> ?_
   .obtain⟨v,rfl⟩:=bq hv;have iR:i<R:=by rw[<-xl];exact(O1.mp hx).1
    obtain⟨a,d2,bN,rfl,ha⟩:=(hR.same fS).at hx;have cu:(gO c n R)[i]?=some ((List.range n).map λt=>(c t).getD i 0):=by unfold gO;rw[Ph,Qp iR];rfl
    rw[cu]at bN;cases bN;simp only[br,iM,OP];have bu:=U.at ha;obtain⟨dl,cg⟩:=hD;refine#[7,a,2,#[_,SqL.of bu],6];refine bT (λx=>(λ_=>true) (bG x)) (λx=> .int (sg3 (bG x))) (SqL.of bu) (by rw[My,My,O8];exact OY n8 ∅) (λj x d5 dj R2 S2 cK cy d3 cn=> ?_) λD2 b5 a5 c3 cp=> ?_
    .obtain⟨v2,rfl⟩:=bq cy;obtain⟨z,rfl,hz⟩:=bH cK;simp only[br,iM,OP];have o:=cn [some (.int z)] _ rfl (Same.refl _);rw[OP rfl]at o;replace o:R2 (V.int (sg3 z)) _ _:=o;unfold sg3 at o;refine#[727,cP (λp=> ?_) λp=> ?_]
     .rw[OP (V.int.inj (O9 p))]at o;exact#[(1),2,o]
     .rw[OO (λz=>p (OQ (by rw[z])))]at o;exact#[7,o]
    .refine u (.ref D2) [some (.ref a)] b5 #[D2,2,U.free a5,6] rfl c3;have nD:D2≠D:=λz=>by rw[z,cg]at a5;cases a5
     rw[eU nD,cp,show gr _ _ _=_ from bE (λ_=>true) sg3 _,Qq.mpr (λ_ _=>rfl),PJ,PJ,PJ];exact PN (λl=>some (HO.lst l)) (P4 λt _=>PN V.int (Ed c t i).symm)
   .refine#[OY (O4 2) ∅,λtt O=> ?_];have tD:tt≠D:=λe=>by rw[e,bx]at O;cases O
    have c4:Same H (upd H' tt (.tup [.str "table", .ref D])):=sm.trans (U.trans (Same.new O));refine k1 (IS c) D ys tt _ c4 (sm.free (U.free O)) ak (sm.free hD) (by rw[aE tD.symm];exact bx) ?_ (λx hx=> ?_) (ho.all M B b)
    .refine a9.of (by rw[b0,xl];unfold gO;rw[My,O8]) λj rr y J L=> ?_;obtain⟨a,rfl,h0,q⟩:=b1 j y L;have jl:j<R:=by rw[<-xl,<-b0];exact(O1.mp L).1
     unfold gO at J;rw[Ph,Qp jl]at J;cases J;refine#[a,26];have aD:a≠D:=λe=>by rw[e]at q;unfold hide at q;rw[OP rfl]at q;cases q
     rw[eU aD]at q⊢;exact(Same.new O).at q
    .obtain⟨j,hj⟩:=P2 hx;obtain⟨a,rfl,h0,_⟩:=b1 j x hj;exact#[a,2,sm.free h0]
  .refine#[7,t,3,SqT.of g,227,oS ?_];refine#[7,k2 k s w t H2 (G.trans a6) (G.free ht) g ?_ N hw ar];have wl:=hw.lt (kY (n:=n) (s:=s));have no:¬(k=bz\/k=aY):=λz=>by
    rcases F2 ar z with e|e
    .exact b.five M B N wl (.inl rfl) e
    .exact b.five M B N wl (.inr rfl) e
   obtain⟨m,d,u⟩:=u;simp only[kZ,OT,Pe,Qa,Prod.mk.injEq]at u;rcases u with h|h|h|h
   .exact absurd (.inl h.1) no
   .exact absurd (.inr h.1) no
   .simp[qW,h.1]
   .simp[qW,h.1]
 .refine#[7,t,3,SqT.of g,227,oS ?_];exact#[7,k2 a8 s w t H1 G ht g (by simp[qW]) N hw ar]
def sI:aH ["house","prime","columns","thing","column","whole","some","table"] ["house","prime","columns","thing","column"] (au tY):=aZ
def K3{Z:Hs}(T:Tb K mg)(cK:iC Z)(hc:∀C,Z.dom C->HC K C_House C)(D:bC K mg "fits" tY ["house","prime","columns","thing","column"])(ay:∀C,Z.dom C->dn P w K mg base 4 C "rank" ["self","s"] (jx Z C))
  (ab:Cal P w K mg base 5 "whole_rank" ["house"] (iO Z)) (ag:Cal P w K mg base 4 "choices" ["s","k"] kA) (ar:Cal P w K mg base 1 "set_of" ["some"] (xY K)) (ax:Cal P w K mg base 2 "things" ["s"] iP) (ai:Cal P w K mg base 3 "rank_of" ["rows","prime"] (Aq K)):
  Cal P w K mg base 6 "fits" ["house","prime","columns","thing","column"] (Hr Z):=by
 refine D.cal sI #[6] λf cdv A outer eR H vs Q E J h=> ?_;obtain⟨h,d,a,n,R,G,y,p,r,g,q,c,col,rfl,hX,n8,rR,R8,pm,p0,hC,M,hG,yn,cg,ha,cl,cn,k⟩:=h;refine#[_,(ae (wset 5 sI.nd (wcal ab J (aa (pv 0) ah)))
   (ae (wfor (wil K (wcal ag J (aa (wcal ar J (aa (fQ (BH ⋯) ⋯ T.list_ Rp (aa (pv 2) ah)) ah)) (aa (aw fJ (pv 5) af) ah)))) (wname 6 sI.nd)
     (ae (wset 7 sI.nd (aw qT (wlc ["before"] ["columns"] [2] (wil K (wcal ax J (aa (pv 6) ah))) (wnC 0) cc (Ea (Pd (Sn ∅ _) J.units) (pv 1) (pv 0) (by intro _ _;rfl))) (dU (aa (pv 4) ah))))
     (aj (bA (wpt jh (wpe a7 (wcal ai J (aa (pv 7) (aa (pv 1) ah))) (pv 5)) (wpe a7 (gu ay J ∅ (pv 0) (aa (aw ow (pv 6) (aw dG af (pv 3))) ah)) (pv 5)))
       (aj (aF iY))
       aQ))))
   (aj (aF iY)))),6]
 have hp:=oP n8;have G8:G<256:=oN n8 hG;refine#[7,h,n,r,2,hX,n8,λH1 aB=> ?_];rw[rR];have bc:=hC.same aB;refine#[7,d,7,bc.dict,λl hl=> ?_];have ek:(List.map (λt:Nat=>((t:Int),V.ref (q t))) g).map (·.1)=cJ g:=by rw[PJ];rfl
 rw[ek];have en:Same H1 (upd H1 l (.lst ((cJ g).map V.int))):=Same.new hl;have kb:∀t∈g,t<8:=λt m=>by have:=aU hG ((M.keys t).mp m);lia
 refine#[l,cJ g,2,SqL.of ak,λz N=>by obtain⟨s,hs,rfl⟩:=eC N;have:=kb s hs;lia,6];rw[Js M.keys];refine#[786];refine#[(G:Int),(R:Int) -1,299,λpc H3 eo eL bt=> ?_];rw[OU]at bt;have O:Same H1 H3:=en.trans eo;refine#[pc,2,#[_,SqL.of bt],6];refine cQ (K:=K) (a:=pc) (xs:=(fM G ((R:Int) -1)).map V.int) (λi σ U=>∃v6 v7:Option V,Same H3 U/\(∀S:Nat,(S:Int)∈(fM G ((R:Int) -1)).take i->(bQ p (bU (jS (dS c y col)) (List.range R)) (S|||2^y)=R↔r (S|||2^y)=R))/\σ=[rW h,xS p,rW d,rT y,rW a,rT R,v6,v7]) #[none,none,Same.refl _,λS b=>absurd b Pe,2] (λi σ U _ h=>by obtain⟨_,_,sm,_⟩:=h;exact SqL.of (sm.at bt)) ?_ ?_
 .rintro i x σ U hi ⟨v6,v7,aC,bp,rfl⟩;obtain⟨z,rfl,N⟩:=bH hi;obtain⟨S,rfl,b,zS⟩:=(gK G8).mp (O5 N);have S8:S<256:=b.lt (n:=8) G8;have zR:sz S+1=R:=()
  dsimp only[br];have dy:=bc.same (O.trans aC);refine#[7,(S:Int),299,λpt H5 bN eM bu=>#[pt,2,#[_,SqL.of bu],6]];rw[OU]at bu;refine bT (λx=>(λ_=>true) (bG x)) (λx=>V.ref (q (bG x).toNat)) (SqL.of bu) (by rw[My];exact OY (bj _) ∅) (λj x vs H' R' S' hx hv sm hk=> ?_) λD6 L eE ct cb=> ?_
  .obtain⟨v,rfl⟩:=bq hv;obtain⟨z,rfl,ef⟩:=bH hx;obtain⟨t,t8,o,rfl⟩:=cX.mp (O5 ef);simp only[br,iM,OP];have tk:t∈g:=(M.keys t).mpr (b t o);have q1:=hk [some (.int (t:Int))] H' rfl (Same.refl _);rw[OP rfl]at q1;exact#[77,d,7,(dy.same (bN.trans sm)).get tk,q1]
  have d1:=(aB.trans (O.trans (aC.trans (bN.trans ct)))).at ha;have e6:gr (λx=>(λ_=>true) (bG x)) (λx=>V.ref (q (bG x).toNat)) ((bits S).map V.int)=(aq S).map λt=>V.ref (q t):=by unfold gr bits aq;rw[Qq.mpr (λ_ _=>rfl),PJ,PJ];rfl
  rw[e6]at cb;refine#[7,OY (O4 1) ∅,λu hu=> ?_];have l8:(aq S).length<=8:=by rw[aT];lia
  have cw:Same L (upd L u (.lst [.ref a])):=Same.new hu;refine#[D6,u,8,cw.at cb,ak,by rw[My];exact OY (Nat.add_le_add_right l8 1) ∅,λo d7=> ?_];have cu:Same L (upd (upd L u (.lst [.ref a])) o (.lst ((aq S).map (λt=>V.ref (q t))++[.ref a]))):=cw.trans (Same.new d7);have a3:=aC.trans (bN.trans (ct.trans cu));have dE:=bc.same (O.trans a3);have ts:∀t∈aq S,t∈g:=λt m=>(M.keys t).mpr (b t (aK.mp m).2);have rows:=Fe (H:=upd (upd L u (.lst [.ref a])) o (.lst ((aq S).map (λt=>V.ref (q t))++[.ref a]))) (q:=q) (c:=c) (col:=col) (a:=a) (y:=y) (cs:=aq S) (λt m=>#[dE.cols t (ts t m),λz=>by rw[<-z,b t (aK.mp m).2]at cg;cases cg]) (cu.at d1);generalize dV:upd (upd L u (.lst [.ref a])) o (.lst ((aq S).map (λt=>V.ref (q t))++[.ref a]))=H7 at*;have ea:H7 o=some (.lst ((aq S).map (λt=>V.ref (q t))++[.ref a])):=by rw[<-dV];exact ak
  have cm:(aq S++[y]).length=R:=by rw[Pl,aT];exact zR
  refine#[77,o,_,(aq S++[y]).map (dS c y col),R,p,2,ea,rows,by rw[My,cm];exact R8,R8,λrr d4=> ?_,pm,λkk H8 bS hV hM=> ?_]
  .obtain⟨t,m,rfl⟩:=OX.mp d4;have ck:(dS c y col t).length=R/\∀z∈dS c y col t,0<=z/\z<p:=by
    unfold dS;by_cases e:t=y
    .rw[OP e];exact#[cl,cn]
    .rw[OO e];have tk:t∈g:=ts t (by rcases Pg.mp m with z|z;exact z;exact absurd (Pu.mp z) e);exact#[M.len t tk,M.num t tk]
   refine#[ck.1,λz N=> ?_];have:=ck.2 z N;have:=pm.lt;exact OW (show z.natAbs<2^7 by lia) (Pr ∅ ∅)
  have b8:=cK.same (aB.trans (O.trans (a3.trans bS))) hX;obtain⟨C,dm,d6⟩:=cK.shown b8;obtain⟨dx,fs,hh,fr,fe,fm⟩:=d6.ex;have sl:S|||2^y<2^n:=aP (b.lt hG) yn;refine#[726];refine#[7,h,C,dx,fs,2,hh,dm,fr,778,#[994],86];refine#[h,n,S|||2^y,r,6,b8,⟨dx,fs,hh⟩,n8,sl,λH9 cv=> ?_]
  ·(try dsimp only);rw[nG,fY]
  refine#[726];rw[PJ]at hV hM;have sq:=Ah pm (jS (dS c y col)) cm hV hM;have e8:rho p (bU (jS (dS c y col)) (List.range R)) (aq S++[y])=bQ p (bU (jS (dS c y col)) (List.range R)) (S|||2^y):=fO pm λj=>by rw[ig (),Pg,Pu,OT];exact Or.comm
  rw[e8]at sq;rw[aV,aV];refine#[27,cP (λh1=> ?_) λh1=> ?_]
  .have ne:¬(bQ p (bU (jS (dS c y col)) (List.range R)) (S|||2^y)=R↔r (S|||2^y)=R):=λz=>by have:decide (kk=R)=decide (r (S|||2^y)=R):=QG.mpr (sq.trans z);rw[this]at h1;simp at h1
   exact k false H9 (aB.trans (O.trans (a3.trans (bS.trans cv)))) #[λz=>(nomatch z),λz=>absurd (z S b zR) ne]
  .have e9:decide (kk=R)=decide (r (S|||2^y)=R):=by cases h3:decide (kk=R)<;>cases h4:decide (r (S|||2^y)=R)<;>rw[h3,h4]at h1<;>first|rfl|exact absurd rfl h1
   refine#[some (.int (S:Int)),some (.ref o),a3.trans (bS.trans cv),λS2 B=> ?_,2];rw[Ql,N]at B;rcases Pg.mp B with B|B
   .exact bp S2 B
   .have B:(S2:Int)=(S:Int):=#[5,B]
    have:S2=S:=()
    rw[this];exact sq.symm.trans (QG.mp e9)
 .rintro σ U ⟨v6,v7,aC,bp,rfl⟩;refine k true U (aB.trans (O.trans aC)) #[λ_ S b zS=> ?_,λ_=>rfl];refine bp S ?_;rw[My,Qo];exact(gK G8).mpr #[S,2,b,9]
def Fc:aH ["many","place"] ["many","place"] (au ma):=aZ
def FH(T:Tb K mg)(D:bC K mg "single" ma ["many","place"]):Cal P w K mg base 1 "single" ["many","place"] Am:=by
 refine D.cal Fc #[6] λf cdv A outer s H vs Q E o h=> ?_;obtain⟨n,p,rfl,j,k⟩:=h;refine#[_,(aj (aF (wlc ["row"] ["place"] [1] (wrng T.range_ (pv 0)) (wnC 0) cc (mw (wpt a7 (pv 0) (pv 1)) af af)))),6];refine#[77996];rw[OU];refine eD (λ_=>true) (λi=> .int (if i=p then 1 else 0)) (OY j ∅) (λi vs H' R S m g r b=> ?_) λq a d l c=> ?_
 .obtain⟨v,rfl⟩:=bq g;simp only[br,iM,OP];refine#[77276];have:=b [some (.int (0+(i:Nat)))] H' rfl (Same.refl _);rw[OP rfl]at this;by_cases e:i=p
  .subst e;rw[OP (OQ (by rw[Qk]))];rwa[OP rfl]at this
  .rw[OO (λz=>e (by have:=V.int.inj (O9 z);lia))];rwa[OO e]at this
 .refine k q a l d (c.trans ?_);unfold gI lA;rw[Qq.mpr (λ_ _=>rfl),PJ];rfl
def j5:aH ["self","house","out","drawn","kept"] ["self","house","out","drawn"] (au d8):=aZ
def qc{Z:Hs}(D:i5 K "__init__" "Minor.__init__" d8 ["self","house","out","drawn"] f)(N:mg "House"=some (.ref C_House))(g:Cls K a)(n1:bK K a "many")(n2:bK K a "house")(n3:bK K a "kept")(n4:bK K a "drawn")(n5:bK K a "drawn_rank")
  (z:iC Z) (hc:∀C,Z.dom C->HC K C_House C) (hj:3<=j) (L:GF P w K mg base 1 C_House "__init__" ["self","n"] (nF K)) (O:Cal P w K mg base 1 "less" ["s","t"] qK) (U:Cal P w K mg base 3 "size" ["s"] lO) (M:∀C,Z.dom C->dn P w K mg base 2 C "everything" ["self"] (eQ K)) (ay:∀C,Z.dom C->dn P w K mg base j C "rank" ["self","s"] (jx Z C)):
  jd P w K mg base (j+1) f ["self","house","out","drawn"] (Av Z a):=by
 refine D.fn j5 #[6] λcdv A outer b6 H vs Q E i h=> ?_;obtain⟨p,c,h,n,o,l,r,rfl,hp,x,G,hw,k⟩:=h;refine#[_,(ae (wset 4 j5.nd (wcal O i (aa (gq M i () (pv 1)) (aa (aw ow (pv 2) (pv 3)) ah))))
   (ae (dI (pX L i () (eS (v:= .ref C_House) ⋯ N rfl) (aa (pv 0) (aa (wcal U i (aa (pv 4) ah)) ah))))
   (ae (wsf K (pv 0) (pv 1))
   (ae (wsf K (pv 0) (pv 4))
   (ae (wsf K (pv 0) (pv 3))
   (aj (wsf K (pv 0) (gu ay i () (pv 1) (aa (pv 3) ah))))))))),6]
 obtain⟨C,s,B⟩:=z.shown x;have y:h≠p:=tR B;obtain⟨d,fs,a5,a3,aD,a0⟩:=B.ex;have t:H h=some (.ins C d fs):=(eU (H:=H) y).symm.trans a5;obtain⟨aB,bB,b5,b1⟩:=hc C s;have b4:0<2^n:=QU ();have p8:=ou G;have ef:(1*2^((n:Nat):Int).toNat-1:Int)=((2^n-1:Nat):Int):=by rw[c9];lia
 have kl:ao (2^n-1) (o|||l)<2^n:=kY;refine#[7,h,C,d,fs,2,t,s,aD,h,C,d,fs,(n:Int),2,t,aB,bB,a0,99778,2^n-1,o|||l,66]
 ·(try dsimp only);rw[ef,fY];rfl
 generalize ao (2^n-1) (o|||l)=kp at*;refine#[277,(kp:Int),299,λu q=> ?_];refine#[p,a,c,7,q.at hp,g,n1,6];rw[OU];have up:∀ {o:HO},upd u p o h=some (.ins C d fs):=λ{o}=>by rw[aE y];exact q.at t
 refine#[77,p,a,c,7,ak,g,n2,Pd (aS _ _ _) (by show 0+1<1000;decide),6];rw[nA];refine#[77,p,a,c,7,ak,g,n3,Pd (aS _ _ _) (Pd (QH (aS _ _ _)) (by show 0+1+1<1000;decide)),6];rw[nA];refine#[77,p,a,c,7,ak,g,n4,Pd (aS _ _ _) (Pd (QH (aS _ _ _)) (Pd (QH (QH (aS _ _ _))) (by show 0+1+1+1<1000;decide))),6];rw[nA];have bN:∀ {o:HO},Same (hide H p) (upd u p o):=λ{o} b o' e=>by
  unfold hide at e;split at e
  .cases e
  .rename_i m;rw[aE m];exact q.at e
 refine#[7,h,C,d,fs,2,up,s,a3,7,h,n,l,r,2,z.same bN x,#[d,fs,up],G,hw,λH5 J=> ?_];refine#[7,p,a,c,7,J.at ak,g,n5,66]
 .exact Pd (aS _ _ _) (Pd (QH (aS _ _ _)) (Pd (QH (QH (aS _ _ _))) (Pd (QH (QH (QH (aS _ _ _)))) (by show 0+1+1+1+1<1000;decide))))
 refine k _ (λb o e m=> ?_) ak;rw[aE m];exact J.at (by rw[aE m];exact q.at e)
def vK:aH ["self","s"] ["self","s"] (au ia):=aZ
def vV{Z:Hs}(D:i5 K "rank" "Minor.rank" ia ["self","s"] f)(d:Cls K b)(n2:bK K b "house")(n3:bK K b "kept")(n4:bK K b "drawn")(n5:bK K b "drawn_rank")(z:iC Z)(hj:3<=j)
  (G:Cal P w K mg base 3 "spread" ["s","kept"] Al) (J:∀C,Z.dom C->dn P w K mg base j C "rank" ["self","s"] (jx Z C)):
  jd P w K mg base (j+1) f ["self","s"] (jx (sy Z b) b):=by
 refine D.fn vK #[6] λcdv A outer bu H vs Q E t h=> ?_;obtain⟨a,n,s,r,rfl,M,⟨a3,bb,bc⟩,n8,u,k⟩:=h;refine#[_,(aj (aF (aw fJ (gu J t () (wfld K (pv 0)) (aa (aw ow (wcal G t (aa (pv 1) (aa (wfld K (pv 0)) ah))) (wfld K (pv 0))) ah)) (wfld K (pv 0))))),6];obtain⟨e,h,v,i,l,r',g,o,en,x,q,hw,O⟩:=M;have s2:=oN n8 u;have k2:=oN x q;obtain⟨C,L,U⟩:=z.shown o;obtain⟨m,fs,p,fr,fe,fm⟩:=U.ex;have sl:aO s i|||l<2^v:=PV ((cT s i).lt q) hw;refine#[7,a,b,e,17,g,d,n2,FP _ _ _ _ _,h,C,m,fs,2,p,L,fr,6];refine#[77,a,b,e,17,g,d,n3,Jc _ _ _ _ _,(s:Int),(i:Int),2999,λH1 c=> ?_];have N:=z.same c o;refine#[7,a,b,e,17,c.at g,d,n4,FQ _ _ _ _ _,8,h,v,aO s i|||l,r',6,N,⟨m,fs,c.at p⟩,x,sl,λB y=> ?_]
 ·(try dsimp only);rw[OU,OU,fY]
 refine#[7,a,b,e,17,y.at (c.at g),d,n5,Nb _ _ _ _ _,86];have:=k B (c.trans y);rwa[O s u]at this
def pC:aH ["self","house"] ["self","house"] (au dZ):=aZ
def j7{Z:Hs}(D:i5 K "__init__" "Other.__init__" dZ ["self","house"] f)(N:mg "House"=some (.ref C_House))(g:Cls K a)(n1:bK K a "many")(n2:bK K a "house")(z:bK K a "full")(n4:bK K a "full_rank")
  (hc:∀C,Z.dom C->HC K C_House C) (J:iC Z) (hj:2<=j) (L:GF P w K mg base 1 C_House "__init__" ["self","n"] (nF K)) (M:∀C,Z.dom C->dn P w K mg base 2 C "everything" ["self"] (eQ K)) (O:∀C,Z.dom C->dn P w K mg base j C "rank" ["self","s"] (jx Z C)):
  jd P w K mg base (j+1) f ["self","house"] (tP Z a):=by
 refine D.fn pC #[6] λcdv A outer bB H vs Q E m h=> ?_;obtain⟨p,c,h,n,r,rfl,hp,t,n8,k⟩:=h;refine#[_,(ae (dI (pX L m () (eS (v:= .ref C_House) ⋯ N rfl) (aa (pv 0) (aa (wfld K (pv 1)) ah))))
   (ae (wsf K (pv 0) (pv 1))
   (ae (wsf K (pv 0) (gq M m () (pv 1)))
   (aj (wsf K (pv 0) (gu O m () (pv 1) (aa (wfld K (pv 0)) ah))))))),6]
 obtain⟨C,l,y⟩:=J.shown t;have x:h≠p:=tR y;obtain⟨d,fs,aB,ay,ax,s⟩:=y.ex;have u:H h=some (.ins C d fs):=(eU (H:=H) x).symm.trans aB;obtain⟨q,B,bx,bp⟩:=hc C l;have bu:0<2^n:=QU ();refine#[277,h,C,d,fs,7,u,q,B,s,p,a,c,7,hp,g,n1,6];have up:∀ {o:HO},upd H p o h=some (.ins C d fs):=λ{o}=>by rw[aE x];exact u
 have aD:upd H p (.ins a c (cf "many" (.int (n:Int)) [])) p=some (.ins a c (cf "many" (.int (n:Int)) [])):=ak;refine#[77,p,a,c,7,aD,g,n2,Pd (aS _ _ _) (by show 0+1<1000;decide),6];rw[nA];refine#[7,h,C,d,fs,2,up,l,ax,h,C,d,fs,(n:Int),2,up,q,B,s,997,p,a,c,7,ak,g,z,66]
 .exact Pd (aS _ _ _) (Pd (QH (aS _ _ _)) (by show 0+1+1<1000;decide))
 rw[nA];have U:(1*2^((n:Nat):Int).toNat-1:Int)=((2^n-1:Nat):Int):=by rw[c9];lia
 rw[U];have lk:(cf "full" (V.int ((2^n-1:Nat):Int)) (cf "house" (V.ref h) (cf "many" (V.int (n:Int)) []))).lookup ("full":Str)=some (.int ((2^n-1:Nat):Int)):=aR _ _ _;have bb:∀ {o:HO},Same (hide H p) (upd H p o):=λ{o} b o' e=>by
  unfold hide at e;split at e
  .cases e
  .rename_i i;rw[aE i];exact e
 refine#[7,h,C,d,fs,2,up,l,ay,7,p,a,c,17,ak,g,z,lk,h,n,2^n-1,r,2,J.same bb t,#[d,fs,up],n8,9,λH5 G=> ?_];refine#[7,p,a,c,7,G.at ak,g,n4,66]
 .exact Pd (aS _ _ _) (Pd (QH (aS _ _ _)) (Pd (QH (QH (aS _ _ _))) (by show 0+1+1+1<1000;decide)))
 refine k _ (λb o e i=> ?_) ak;rw[aE i];exact G.at (by rw[aE i];exact e)
def ot:aH ["self","s","outside"] ["self","s"] (au hU):=aZ
def oz{f C_House b:Addr}{Z:Hs}{j:Nat}(D:i5 K "rank" "Other.rank" hU ["self","s"] f)(d:Cls K b)(n2:bK K b "house")(n3:bK K b "full")(n4:bK K b "full_rank")(p:iC Z)(O:∀C,Z.dom C->b≠C)(hj:3<=j)
  (B:Cal P w K mg base 1 "less" ["s","t"] qK) (G:Cal P w K mg base 3 "size" ["s"] lO) (J:∀C,Z.dom C->dn P w K mg base j C "rank" ["self","s"] (jx Z C)):
  jd P w K mg base (j+1) f ["self","s"] (jx (hsO Z b) b):=by
 refine D.fn ot #[6] λcdv A outer bc H vs Q E m h=> ?_;obtain⟨a,n,s,r,rfl,i,⟨aD,a5,N⟩,x,v,k⟩:=h;refine#[_,(ae (wset 2 ot.nd (wcal B m (aa (wfld K (pv 0)) (aa (pv 1) ah))))
   (aj (aF (aw fJ (aw eu (wcal G m (aa (pv 1) ah)) (gu J m () (wfld K (pv 0)) (aa (pv 2) ah))) (wfld K (pv 0)))))),6]
 rcases i with i|⟨g,h,r',l,L,U⟩
 .obtain⟨C,e,o⟩:=p.shown i;obtain⟨aC,a4,M,_⟩:=o.ex;exact absurd (sV N M) (O C e)
 .have s2:=oN x v;refine#[7,a,b,g,17,l,d,n3,Iz _ _ _ _,7,2^n-1,s,26];refine#[7,(s:Int),299,λH1 c=> ?_];rw[OU];have t:=p.same c L;obtain⟨C,e,o⟩:=p.shown t;obtain⟨q,fs,u,fr,fe,fm⟩:=o.ex;refine#[7,a,b,g,17,c.at l,d,n2,FC _ _ _ _,h,C,q,fs,2,u,e,fr,7,h,n,ao (2^n-1) s,r',2,t,#[q,fs,u],x,kY,λz y=> ?_];refine#[87,a,b,g,17,y.at (c.at l),d,n4,MV _ _ _ _,86];have:=k z (c.trans y);rwa[U s v]at this
def Cs:aH ["s","k"] ["s","k"] (au kG):=aZ
def CL(T:Tb K mg)(D:bC K mg "choices" kG ["s","k"])(o:Cal P w K mg base 3 "parts" ["s"] sG)(r:Cal P w K mg base 3 "size" ["s"] lO):Cal P w K mg base 4 "choices" ["s","k"] kA:=by
 refine D.cal Cs #[6] λf cdv A outer ay H vs Q E j h=> ?_;obtain⟨s,a,rfl,t,u,k⟩:=h;refine#[_,(aj (aF (wlc ["part"] ["k"] [1] (wil K (wcal o j (aa (pv 0) ah))) (wnC 0) (dH (wpt a7 (wcal r j (aa (pv 0) ah)) (pv 1))) (pv 0)))),6];refine#[7,s,2,t,u,λp H1 n ax g=>#[p,2,#[_,SqL.of g],6]];have G:=Fw s.toNat;have J:=AR (show s.toNat<256 by lia);refine bT (λx=>(λz:Int=>decide ((((bits z.toNat).length:Nat):Int)=a)) (bG x)) (λx=> .int ((λz:Int=>z) (bG x))) (SqL.of g) (by rw[My];exact OY G ∅) (λi x vs H' R S M L m B=> ?_) λD H' y m hl=> ?_
 .obtain⟨v,rfl⟩:=bq L;obtain⟨z,rfl,N⟩:=bH M;obtain⟨U,z1⟩:=J z (O5 N);refine#[7,z,2,U,z1,λc O=>#[7276]];have q:=B [some (.int z)] c rfl O;have b:if decide ((((bits z.toNat).length:Nat):Int)=a)=true then R (.int z) _ c else S _ c:=q;have e:decide (V.int (((bits z.toNat).length:Nat):Int)=V.int a)=decide ((((bits z.toNat).length:Nat):Int)=a):=QG.mpr #[λz=>V.int.inj z,λz=>by rw[z]];rw[e];show if decide ((((bits z.toNat).length:Nat):Int)=a)=true then _ else _;by_cases d:decide ((((bits z.toNat).length:Nat):Int)=a)=true
  .rw[OP d]at b⊢;exact#[7,b]
  .rw[OO d]at b⊢;exact b
 replace hl:=hl.trans (PN (λl=>some (HO.lst l)) (bE (λz:Int=>decide ((((bits z.toNat).length:Nat):Int)=a)) (λz:Int=>z) (kh s.toNat)));rw[show(λz:Int=>z)=id from rfl,Ru]at hl;exact k D H' (n.trans m) (n.free y) hl
def Cr:aH ["sets","s"] ["sets","s"] (au kE):=aZ
def CK(T:Tb K mg)(D:bC K mg "holders" kE ["sets","s"])(g:Cal P w K mg base 1 "within" ["s","t"] Aj):Cal P w K mg base 2 "holders" ["sets","s"] (wA K):=by
 refine D.cal Cr #[6] λf cdv A outer B H vs Q E o h=> ?_;obtain⟨a,p,L,rfl,c,m,k⟩:=h;refine#[_,(aj (aF (wlc ["t"] ["s"] [1] (wil K (pv 0)) (wnC 0) (dH (fj (wcal g o (aa (pv 1) (aa (pv 0) ah))))) (pv 0)))),6];refine#[7,a,2,#[_,c],6];refine bT (λx=>(λz:Int=>decide (p&&&z.toNat=p)) (bG x)) (λx=> .int ((λz:Int=>z) (bG x))) c (by rw[My,cA];exact OY m ∅) (λi x vs H' R S s r e n=> ?_) λD H' j e hl=> ?_
 .obtain⟨v,rfl⟩:=bq r;obtain⟨z,rfl,u⟩:=bH s;obtain⟨t,y,rfl⟩:=eC (O5 u);have q:=n [some (.int (t:Int))] H' rfl (Same.refl _);refine#[77,(p:Int),(t:Int),29976];rw[OU,OU];have b:if decide (p&&&t=p)=true then R (.int (t:Int)) _ H' else S _ H':=q;show if decide (p&&&t=p)=true then _ else _;by_cases d:decide (p&&&t=p)=true
  .rw[OP d]at b⊢;exact#[7,b]
  .rw[OO d]at b⊢;exact b
 replace hl:=hl.trans (PN (λl=>some (HO.lst l)) (bE (λz:Int=>decide (p&&&z.toNat=p)) (λz:Int=>z) (cJ L)));rw[show(λz:Int=>z)=id from rfl,Ru,fR]at hl;exact k D H' e j hl
def vI:aH ["house"] ["house"] (au gR):=aZ
def kj{Z:Hs}(v:iC Z)(s:∀C,Z.dom C->HC K C_House C)(D:bC K mg "whole_rank" gR ["house"])(x:2<=j)(l:∀C,Z.dom C->dn P w K mg base 2 C "everything" ["self"] (eQ K))(m:∀C,Z.dom C->dn P w K mg base j C "rank" ["self","s"] (jx Z C)):Cal P w K mg base (j+1) "whole_rank" ["house"] (iO Z):=by refine D.cal vI #[6] λf cdv A outer B H vs Q E g h=> ?_;obtain⟨a,n,r,rfl,e,i,k⟩:=h;refine#[_,(aj (aF (gu m g () (pv 0) (aa (gq l g () (pv 0)) ah)))),6];obtain⟨C,d,t⟩:=v.shown e;obtain⟨b,fs,c,fr,p,q⟩:=t.ex;obtain⟨o,u,_,_⟩:=s C d;have y:=oP i;have z:0<2^n:=QU ();refine#[7,a,C,b,fs,2,c,d,fr,7,a,C,b,fs,2,c,d,p,a,C,b,fs,n,2,c,o,u,q,996];rw[iZ];exact#[a,n,2^n-1,r,2,e,#[b,fs,c],i,9,k]
def Cq:aH ["house","n","k"] ["house","n","k"] (au kD):=aZ
def CJ{Z:Hs}(T:Tb K mg)(g:iC Z)(hc:∀C,Z.dom C->HC K C_House C)(D:bC K mg "is_even" kD ["house","n","k"])(hj:4<=j)(ab:∀C,Z.dom C->dn P w K mg base 2 C "everything" ["self"] (eQ K))(ar:∀C,Z.dom C->dn P w K mg base j C "rank" ["self","s"] (jx Z C))(ag:Cal P w K mg base (j+1) "whole_rank" ["house"] (iO Z))(ai:Cal P w K mg base 4 "choices" ["s","k"] kA):Cal P w K mg base (j+2) "is_even" ["house","n","k"] (Au Z):=by
 refine D.cal Cq #[6] λf cdv A outer cO H vs Q E o h=> ?_;obtain⟨a,n,m,b,r,rfl,t,e,k⟩:=h;refine#[_,(ae (bA (PW.pt (jf (wpt jh (wfld K (pv 0)) (pv 1)) (kg (wpt jh (wcal ag o (aa (pv 0) ah)) (pv 2)))))
     (aj (aF iY))
     aQ)
   (aj (aF (eh (vo (K:=K) ⋯ ⋯) ⋯ T.all_ PyProof.Rows.boot_all (aa (wlc ["s"] ["k","house"] [2,0] (wil K (wcal ai o (aa (gq ab o () (pv 0)) (aa (pv 2) ah)))) (wnC 0) cc (wpe a7 (gu ar o () (pv 2) (aa (pv 0) ah)) (pv 1))) ah))))),6]
 obtain⟨C,dm,b5⟩:=g.shown t;obtain⟨dx,fs,ha,fr,fe,fm⟩:=b5.ex;obtain⟨cl,nM,_,_⟩:=hc C dm;have hp:=oP e;have cM:0<2^n:=QU ();refine#[7,a,C,dx,fs,7,ha,cl,nM,fm,727,cP (λc=>oS ?_) λc=> ?_]
 .rw[aV]at c;have y:¬n=m:=#[5,c]
  have:=k H (Same.refl _);unfold dX at this;rwa[OR y,P6,P6]at this
 rw[aV]at c;have y:n=m:=#[5,c]
 refine#[7,a,n,r,2,t,e,λH1 G=>#[727,cP (λd=> ?_) λd=> ?_]]
 .rw[aV]at d;have b3:¬r (2^n-1)=b:=#[5,d]
  have:=k H1 G;unfold dX at this;rwa[OR b3,Qc,P6]at this
 rw[aV]at d;have b2:r (2^n-1)=b:=#[5,d]
 have ax:=g.same G t;obtain⟨C1,J,b7⟩:=g.shown ax;obtain⟨M,O,aA,cv,bx,bN⟩:=b7.ex;obtain⟨bk,ck,_,_⟩:=hc C1 J;refine#[7,a,C1,M,O,2,aA,J,bx,a,C1,M,O,n,2,aA,bk,ck,bN,996];rw[iZ];refine#[7,((2^n-1:Nat):Int),(b:Int),299,λp H2 aC cL u=>#[p,2,#[_,SqL.of u],6]];rw[OU,mY e]at u;refine bT (λx=>(λ_=>true) (bG x)) (λx=>V.bl ((λz:Int=>decide (r z.toNat=b)) (bG x))) (SqL.of u) (by rw[My,cA];exact OY (sZ n b e) ∅) (λi x vs H' R S hx hv B hk=> ?_) λD H' hD B hl=> ?_
 .obtain⟨v,rfl⟩:=bq hv;obtain⟨z,rfl,hz⟩:=bH hx;obtain⟨s,hs,rfl⟩:=eC (O5 hz);obtain⟨s1,s2⟩:=iJ.mp hs;have U:=g.same (aC.trans B) ax;obtain⟨C',bt,b6⟩:=g.shown U;obtain⟨L,N,ay,bS,ct,cu⟩:=b6.ex;simp only[br,iM,OP];refine#[7,a,C',L,N,2,ay,bt,bS,7,a,n,s,r,2,U,#[L,N,ay],e,s1,λH3 cn=>#[726]];have q:=hk [some (.int (s:Int))] H3 rfl cn;rw[OP rfl]at q;rw[aV];exact q
 replace hl:=hl.trans (PN (λl=>some (HO.lst l)) (qS (λz:Int=>decide (r z.toNat=b)) (cJ (eF n b))));refine#[D,7,SqL.of hl,6];rw[BO];have:=k H' (G.trans (aC.trans B));unfold dX at this;rwa[OQ y,OQ b2,P7,P7]at this
def lV:aH ["house","everything","lines"] ["house"] (au jC):=aZ
def AX{Z:Hs}(T:Tb K mg)(y:iC Z)(m:∀C,Z.dom C->HC K C_House C)(D:bC K mg "is_seven" jC ["house"])(hj:4<=j)(ag:∀C,Z.dom C->dn P w K mg base 2 C "everything" ["self"] (eQ K))(ax:∀C,Z.dom C->dn P w K mg base j C "rank" ["self","s"] (jx Z C))(ai:Cal P w K mg base (j+1) "whole_rank" ["house"] (iO Z))(ab:Cal P w K mg base 4 "choices" ["s","k"] kA)(ay:Cal P w K mg base 3 "size" ["s"] lO)
  (ar:Cal P w K mg base 2 "holders" ["sets","s"] (wA K)):Cal P w K mg base (j+2) "is_seven" ["house"] (wz Z):=by
 refine D.cal lV #[6] λf cdv A outer d2 H vs Q E c h=> ?_;obtain⟨a,n,r,rfl,N,b,k⟩:=h;refine#[_,(ae (bA (PW.pt (jf (wpt jh (wfld K (pv 0)) af) (kg (wpt jh (wcal ai c (aa (pv 0) ah)) af))))
     (aj (aF iY))
     aQ)
   (ae (wset 1 lV.nd (gq ag c () (pv 0)))
   (ae (wset 2 lV.nd (wlc ["s"] ["house"] [0] (wil K (wcal ab c (aa (pv 1) (aa af ah)))) (wnC 0) (dH (wpt pZ (gu ax c () (pv 1) (aa (pv 0) ah)) (wcal ay c (aa (pv 0) ah)))) (pv 0)))
   (aj (aF (eh (vo (K:=K) ⋯ ⋯) ⋯ T.all_ PyProof.Rows.boot_all (aa (wlc ["pair"] ["lines"] [2] (wil K (wcal ab c (aa (pv 1) (aa af ah)))) (wnC 0) cc (wpe a7 (wlen K T.len_ (wcal ar c (aa (pv 1) (aa (pv 0) ah)))) af)) ah))))))),6]
 obtain⟨C,dm,cN⟩:=y.shown N;obtain⟨dx,fs,ha,fr,fe,fm⟩:=cN.ex;obtain⟨cl,nM,_,_⟩:=m C dm;have hp:=oP b;have d0:0<2^n:=QU ();refine#[7,a,C,dx,fs,7,ha,cl,nM,fm,27,cP (λL=>oS ?_) λL=> ?_]
 .have d:(!decide (V.int (n:Int)=V.int ((7:Nat):Int)))=true:=L;rw[aV]at d;have hn:¬n=7:=#[5,d]
  have:=k H (Same.refl _);unfold bP at this;rwa[OR hn,P6,P6]at this
 have d:¬(!decide (V.int (n:Int)=V.int ((7:Nat):Int)))=true:=L;rw[aV]at d;have hn:n=7:=#[5,d]
 refine#[7,a,n,r,2,N,b,λH1 a3=>#[27,cP (λM=> ?_) λM=> ?_]]
 .have g:(!decide (V.int ((r (2^n-1):Nat):Int)=V.int ((3:Nat):Int)))=true:=M;rw[aV]at g;have cM:¬r (2^n-1)=3:=#[5,g]
  have:=k H1 a3;unfold bP at this;rwa[OR cM,Qc,P6]at this
 have g:¬(!decide (V.int ((r (2^n-1):Nat):Int)=V.int ((3:Nat):Int)))=true:=M;rw[aV]at g;have cK:r (2^n-1)=3:=#[5,g]
 have bu:=y.same a3 N;obtain⟨C1,a6,c1⟩:=y.shown bu;obtain⟨bc,bp,bB,dp,ct,cv⟩:=c1.ex;obtain⟨cg,c4,_,_⟩:=m C1 a6;refine#[7,a,C1,bc,bp,2,bB,a6,ct,a,C1,bc,bp,n,2,bB,cg,c4,cv,996];rw[iZ];refine#[7,((2^n-1:Nat):Int),((3:Nat):Int),299,λp H2 b0 dw U=>#[p,2,#[_,SqL.of U],6]];rw[OU,mY b]at U;refine bT (λx=>(λz:Int=>decide (r z.toNat<sz z.toNat)) (bG x)) (λx=> .int ((λz:Int=>z) (bG x))) (SqL.of U) (by rw[My,cA];exact OY (sZ n 3 b) ∅) (λi x vs H' R S hx hv u O=> ?_) λpl H3 dE a4 o=> ?_
 .obtain⟨v,rfl⟩:=bq hv;obtain⟨z,rfl,hz⟩:=bH hx;obtain⟨s,hs,rfl⟩:=eC (O5 hz);obtain⟨s1,s2⟩:=iJ.mp hs;have bt:=y.same (b0.trans u) bu;obtain⟨C',cm,cO⟩:=y.shown bt;obtain⟨bb,bk,bx,cw,dj,dk⟩:=cO.ex;refine#[7,a,C',bb,bk,2,bx,cm,cw,7,a,n,s,r,2,bt,#[bb,bk,bx],b,s1,λH3 a4=>#[7,(s:Int),299,λB J=>#[876]]];rw[OU];have q:=O [some (.int (s:Int))] B rfl (a4.trans J);have G:if decide (r s<sz s)=true then R (.int (s:Int)) _ B else S _ B:=q;have e:decide (((r s:Nat):Int)<(((bits s).length:Nat):Int))=decide (r s<sz s):=QG.mpr #[λz=>by show r s<(bits s).length;lia,λz=>by have:r s<(bits s).length:=z;lia];rw[e];show if decide (r s<sz s)=true then _ else _;by_cases m:decide (r s<sz s)=true
  .rw[OP m]at G⊢;exact#[7,G]
  .rw[OO m]at G⊢;exact G
 replace o:=o.trans (PN (λl=>some (HO.lst l)) (bE (λz:Int=>decide (r z.toNat<sz z.toNat)) (λz:Int=>z) (cJ (eF n 3))));rw[show(λz:Int=>z)=id from rfl,Ru,fR]at o;have eL:((eF n 3).filter λs:Nat=>decide (r (s:Int).toNat<sz (s:Int).toNat))=gD n r:=rfl;rw[eL]at o;have lL:(gD n r).length<=1000:=OY (Qy _ _) (OY (sZ n 3 b) ∅);refine#[7,((2^n-1:Nat):Int),((2:Nat):Int),299,λp4 B J dy aA=>#[p4,2,#[_,SqL.of aA],6]];rw[OU,mY b]at aA;refine bT (λx=>(λ_=>true) (bG x)) (λx=>V.bl ((λz:Int=>decide (((gD n r).filter λt=>decide (z.toNat&&&t=z.toNat)).length=1)) (bG x))) (SqL.of aA) (by rw[My,cA];exact OY (sZ n 2 b) ∅) (λi x vs H' R S hx hv u O=> ?_) λD H' hD u hl=> ?_
 .obtain⟨v,rfl⟩:=bq hv;obtain⟨z,rfl,hz⟩:=bH hx;obtain⟨s,hs,rfl⟩:=eC (O5 hz);simp only[br,iM,OP];refine#[77,pl,s,gD n r,2,SqL.of ((J.trans u).at o),lL,λq H5 c6 dV cL=>#[q,7, .inl (SqL.of cL),26]];have qq:=O [some (.int (s:Int))] H5 rfl c6;rw[OP rfl]at qq;rw[My,cA];have e:=aV ((gD n r).filter λt=>decide (s&&&t=s)).length 1;have e':decide (V.int ((((gD n r).filter λt=>decide (s&&&t=s)).length:Nat):Int)=V.int 1)=decide (((gD n r).filter λt=>decide (s&&&t=s)).length=1):=e;rw[e'];exact qq
 replace hl:=hl.trans (PN (λl=>some (HO.lst l)) (qS (λz:Int=>decide (((gD n r).filter λt=>decide (z.toNat&&&t=z.toNat)).length=1)) (cJ (eF n 2))));refine#[D,7,SqL.of hl,6];rw[BO];have:=k H' (a3.trans (b0.trans (a4.trans (J.trans u))));unfold bP at this;rwa[OQ hn,OQ cK,P7,P7]at this
def Cp:aH ["house"] ["house"] (au kC):=aZ
def CI{Z:Hs}{m C_House:Addr}{j:Nat}(i:iC Z)(D:bC K mg "kind_of" kC ["house"])(hj:4<=j){t1 t2 t3 t4 t5:Tok}(ar:mg "TWO_OF_FOUR"=some (.str a8 t1))(ax:mg "TWO_OF_FIVE"=some (.str bz t2))(ag:mg "THREE_OF_FIVE"=some (.str aY t3))(aA:mg "SEVEN"=some (.str eO t4))(ay:mg "OTHER_SEVEN"=some (.str bg t5))
  (t:Cal P w K mg base (j+2) "is_even" ["house","n","k"] (Au Z)) (aB:vE P w K mg base (j+1) "Other" m ["self","house"] (tP Z m)) (U:Cal P w K mg base (j+3) "is_seven" ["house"] (wz (hsO Z m))):Cal P w K mg base (j+4) "kind_of" ["house"] (As Z):=by
 refine D.cal Cp #[6] λf cdv A outer ck H vs Q E c h=> ?_;obtain⟨a,n,r,rfl,hX,d,rk,k⟩:=h;refine#[_,(ae (bA (fj (wcal t c (aa (pv 0) (aa af (aa af ah)))))
     (aj (aF (eS (v:= .str a8) ⋯ ar #[7])))
     aQ)
   (ae (bA (fj (wcal t c (aa (pv 0) (aa af (aa af ah)))))
     (aj (aF (eS (v:= .str bz) ⋯ ax #[7])))
     aQ)
   (ae (bA (fj (wcal t c (aa (pv 0) (aa af (aa af ah)))))
     (aj (aF (eS (v:= .str aY) ⋯ ag #[7])))
     aQ)
   (ae (bA (fj (wcal U c (aa (pv 0) ah)))
     (aj (aF (eS (v:= .str eO) ⋯ aA #[7])))
     aQ)
   (ae (bA (fj (wcal U c (aa (qP aB c () ⋯ (aa (pv 0) ah)) ah)))
     (aj (aF (eS (v:= .str bg) ⋯ ay #[7])))
     aQ)
   (aj (aF jJ))))))),6]
 unfold fc at k;refine#[7,a,n,(4),(2),r,2,hX,d,λH1 g=>#[7,cP (λu=> ?_) λu=> ?_]]
 .have:=k H1 g;rwa[OP u]at this
 rw[OO u]at k;have a0:=i.same g hX;refine#[7,a,n,(5),(2),r,2,a0,d,λH2 l=>#[7,cP (λx=> ?_) λx=> ?_]]
 .have:=k H2 (g.trans l);rwa[OP x]at this
 rw[OO x]at k;have a3:=i.same l a0;refine#[7,a,n,(5),(3),r,2,a3,d,λH3 p=>#[7,cP (λy=> ?_) λy=> ?_]]
 .have:=k H3 (g.trans (l.trans p));rwa[OP y]at this
 rw[OO y]at k;have a4:=i.same p a3;refine#[7,a,n,r,2, .inl a4,d,λN L=>#[7,cP (λz=> ?_) λz=> ?_]]
 .have:=k N (g.trans (l.trans (p.trans L)));rwa[OP z]at this
 rw[OO z]at k;have a5:=i.same L a4;have bc:=g.trans (l.trans (p.trans L));refine#[7,λJ aC G a6 cg=>#[J,aC,a,n,r,2,ak,i.same (nK G a6) a5,d,λq b4 b2=>#[26]]];have M:Same N q:=λb o e=>b4 b o (by rw[aE (aI e G),aE (aI e a6)];exact e) (aI e G);have hO:Oo m q (Z.ho q) J n (iu n r):=#[aC,a,r,b2,i.same M a5,λs hs=>by have:=rk.unit s hs;unfold iu;lia]
 refine#[J,n,iu n r,2, .inr hO,d,λO bb=>#[7,cP (λB=> ?_) λB=> ?_]]
 .have:=k O (bc.trans (M.trans bb));rwa[OP B]at this
 .have:=k O (bc.trans (M.trans bb));rwa[OO B]at this
def vL:aH ["self","s"] ["self","s"] (au ib):=aZ
def vW(D:i5 K "rank" "Known.rank" ib ["self","s"] f)(b:Cls K C)(i:bK K C "told"):jd P w K mg base 1 f ["self","s"] (DK C):=by refine D.fn vL #[6] λcdv A outer m H vs Q E j h=> ?_;obtain⟨a,n,s,r,rfl,⟨c,t,d,g⟩,l,e,k⟩:=h;refine#[_,(aj (aF (i6 K (wfld K (pv 0)) (pv 1)))),6];refine#[7,a,C,c,17,d,b,i,Jn _ _,6];exact#[7,t,3,SqT.of g,mD (by unfold gM;rw[Ph,Qp e];rfl),k]
def pD:aH ["self","house"] ["self","house"] (au d9):=aZ
def qd{Z:Hs}(T:Tb K mg)(D:i5 K "__init__" "Known.__init__" d9 ["self","house"] f)(L:mg "House"=some (.ref C_House))(m:Cls K C)(n1:bK K C "many")(n2:bK K C "told")
  (z:iC Z) (hc:∀C,Z.dom C->HC K C_House C) (J:GF P w K mg base 1 C_House "__init__" ["self","n"] (nF K)) (M:Cal P w K mg base 7 "ranks" ["house"] (Ap Z)):
  jd P w K mg base 8 f ["self","house"] (DQ Z C):=by
 refine D.fn pD #[6] λcdv A outer bx H vs Q E y h=> ?_;obtain⟨p,c,h,n,r,rfl,hp,u,n8,k⟩:=h;refine#[_,(ae (dI (pX J y ∅ (eS (v:= .ref C_House) ⋯ L rfl) (aa (pv 0) (aa (wfld K (pv 1)) ah))))
   (aj (wsf K (pv 0) (fQ (jT (K:=K) ⋯) ⋯ T.tuple_ RT (aa (wcal M y (aa (pv 1) ah)) ah))))),6]
 obtain⟨i,O,B⟩:=z.shown u;have aA:h≠p:=tR B;obtain⟨s,fs,ay,bc,bb,U⟩:=B.ex;have hh:H h=some (.ins i s fs):=(eU (H:=H) aA).symm.trans ay;obtain⟨N,a4,bu,bp⟩:=hc i O;refine#[277,h,i,s,fs,7,hh,N,a4,U,p,C,c,7,hp,m,n1,6];have a5:∀ {o:HO},Same (hide H p) (upd H p o):=λ{o} b o' e=>by
  unfold hide at e;split at e
  .cases e
  .rename_i d;rw[aE d];exact e
 refine#[7,h,n,r,2,z.same a5 u,n8,λq H2 j hq aB=> ?_];refine#[q,7, .inl #[SqL.of aB,λt g=> ?_]];have x:=j.at (ak (H:=H) (a:=p) (o:= .ins C c (cf "many" (.int (n:Int)) [])));have l:t≠p:=λe=>by rw[e,x]at g;cases g
 have G:H t=none:=by
  cases e:H t with
  |none=>rfl
  |some o=>rw[j.at (by rw[aE l];exact e)]at g;cases g
 refine#[7,p,C,c,7,(by rw[aE l.symm];exact x),m,n2,66]
 .exact Pd (aS _ _ _) (by show 0+1<1000;decide)
 refine k t _ G (λb o e d=> ?_) (by rw[aE l,ak]) ak;rw[aE d,aE (aI e G)];exact j.at (by rw[aE d];exact e)
def Hw:aH ["house"] ["house"] (au pG):=aZ
def IE{Z:Hs}(z:iC Z)(D:bC K mg "ranks" pG ["house"])(hc:∀C,Z.dom C->HC K C_House C)(J:∀C,Z.dom C->dn P w K mg base 6 C "rank" ["self","s"] (jx Z C))(B:∀C,Z.dom C->dn P w K mg base 2 C "everything" ["self"] (eQ K))
  (G:Cal P w K mg base 3 "parts" ["s"] sG):Cal P w K mg base 7 "ranks" ["house"] (Ap Z):=by
 refine D.cal Hw #[6] λf cdv A outer bk H vs Q E o h=> ?_;obtain⟨a,n,r,rfl,t,u,k⟩:=h;refine#[_,(aj (aF (wlc ["s"] ["house"] [0] (wil K (wcal G o (aa (gq B o ∅ (pv 0)) ah))) (wnC 0) cc (gu J o ∅ (pv 1) (aa (pv 0) ah))))),6];have p8:=ou u;have bc:0<2^n:=QU ();obtain⟨C,j,aB⟩:=z.shown t;obtain⟨d,fs,g,fr,M,N⟩:=aB.ex;obtain⟨L,nM,ty,bb⟩:=hc C j;refine#[7,a,_,d,fs,2,g,j,M,a,_,d,fs,(n:Int),2,g,L,nM,N,996];rw[iZ];refine#[799,λp H1 c a6 m=>#[p,2,#[_,SqL.of m],6]];rw[OU,qQ n ()]at m;refine bT (λx=>(λ_=>true) (bG x)) (λx=> .int ((λz:Int=>((r z.toNat:Nat):Int)) (bG x))) (SqL.of m) (by rw[My,My,O8];exact OY p8 ∅) (λi x vs H' R S hx hv b hk=> ?_) λD H' U b hl=> ?_
 .obtain⟨v,rfl⟩:=bq hv;obtain⟨z,rfl,hz⟩:=bH hx;obtain⟨s,hs,rfl⟩:=OX.mp (O5 hz);have aA:=OS.mp hs;simp only[br,iM,OP];have O:=z.same b (z.same c t);refine#[7,a,_,d,fs,2,b.at (c.at g),j,fr,7,a,n,s,r,2,O,#[d,fs,b.at (c.at g)],u,aA,λy a4=> ?_];have q:=hk [some (.int (s:Int))] y rfl a4;rwa[OP rfl]at q
 replace hl:=hl.trans (PN (λl=>some (HO.lst l)) (bE (λ_=>true) (λz:Int=>((r z.toNat:Nat):Int)) ((List.range (2^n)).map λk:Nat=>(k:Int))));have e:List.map (λz:Int=>((r z.toNat:Nat):Int)) (List.map (λk:Nat=>(k:Int)) (List.range (2^n)))=gM n r:=by unfold gM;rw[PJ];rfl
 rw[Qq.mpr (λ_ _=>rfl),e]at hl;exact k D H' (c.trans b) (c.free U) hl
def vJ:aH ["_law_found"] ["_law_found"] (au gU):=aZ
def vO(T:Tb K mg)(D:bC K mg "_law_whole" gU ["_law_found"]):Cal P w K mg base 1 "_law_whole" ["_law_found"] xX:=by refine D.cal vJ #[6] λf cdv A outer b H vs Q E a h=> ?_;obtain⟨i,rfl,k⟩:=h;refine#[_,(aj (aF (yt (eh (fX (K:=K) ⋯) ⋯ T.isinstance_ Rb (aa (pv 0) (aa (nQ (v:= .ty "int") ⋯ T.int_ PyProof.Rows.boot_int rfl) ah))) (Cy (MP (eh (fX (K:=K) ⋯) ⋯ T.isinstance_ Rb (aa (pv 0) (aa (nQ (v:= .ty "bool") ⋯ T.bool_ PyProof.Rows.boot_bool rfl) ah)))))))),6];refine#[7111,true,2, .int _,T.kII,true,2,oS ?_];exact#[7111,false,2, .int _,T.kIB,false,2,k]
def jj:aH ["_law_s","_law_many"] ["_law_s"] (au iU):=aZ
def yJ(D:bC K mg "_law_size" iU ["_law_s"]):Cal P w K mg base 1 "_law_size" ["_law_s"] ji:=by
 refine D.cal jj #[6] λf cdv A outer J H vs Q E z h=> ?_;obtain⟨s,rfl,t,y,k⟩:=h;refine#[_,(ae (wset 1 jj.nd af)
   (ae (Ii PassesOwn.never (wpt qb (pv 0) af)
     (ae (wset 1 jj.nd (aw eu (pv 1) (aw cF (pv 0) af)))
     (aj (wset 0 jj.nd (aw iI (pv 0) af)))))
   (aj (aF (pv 1))))),6]
 refine#[λm g a=>a=H/\∃(n c:Nat),n<256/\n=m/\c+(bits n).length=(bits s.toNat).length/\g=[some (.int (n:Int)),some (.int (c:Int))],#[s.toNat,2,s.toNat,0,9296],6]
 .show [some (V.int s),some (.int 0)]=_;rw[So t];rfl
 .intro m g a v;obtain⟨e,n,c,u,p,d,r⟩:=v;subst e p r;refine#[787,cP (λb=> ?_) λb=> ?_]
  .have G:0<n:=by have:=O9 b;lia
   have B:=E2 n u;refine#[λi H'=>H'=a/\i=[some (.int ((n/2:Nat):Int)),some (.int ((c+n % 2:Nat):Int))],λi H' q=>#[n/2,9,q.1,n/2,c+n % 2,929,q.2],6];refine#[778,(by show(0:Int)<2;decide),86];refine#[78,#[44],26];show [some (V.int ((n:Int) /2)),some (V.int ((c:Int)+(n:Int) % 2))]=_;have l:(n:Int) /2=((n/2:Nat):Int):=()
   have o:(c:Int)+(n:Int) % 2=((c+n % 2:Nat):Int):=()
   rw[l,o]
  .have x:n=0:=by have:=Ss (QV.mpr b);lia
   subst x;have j:(bits 0).length=0:=#[9]
   rw[j,Nat.add_zero]at d;refine#[76];rw[d];exact k
def gH:aH ["_law_cells","_law_many","_law_rank","_law_some","_law_picked","_law_cell","_law_one","_law_near"] ["_law_cells","_law_many","_law_rank"] (au jF):=aZ
def A1(T:Tb K mg)(D:bC K mg "_law_far" jF ["_law_cells","_law_many","_law_rank"])(ab:Cal P w K mg base 1 "_law_size" ["_law_s"] ji):Cal P w K mg base 2 "_law_far" ["_law_cells","_law_many","_law_rank"] (LU K):=by
 refine D.cal gH #[6] λf cdv A outer d4 H vs Q E hr h=> ?_;obtain⟨a,cs,n,r,rfl,ha,cL,dw,hn,c5,k⟩:=h;refine#[_,(ae (wls 3 gH.nd ["_law_s"] ["_law_rank"] [2] (wrng T.range_ (aw dG af (pv 1))) (wnC 0) (dH (wpt a7 (wcal ab hr (aa (pv 0) ah)) (pv 1))) (pv 0))
   (ae (wset 4 gH.nd (dU ah))
   (ae (bA (PW.pt (eg (wpt qb (pv 2) af) (eg (wpt pZ (pv 2) (pv 1)) (fP (wpt qb (aw cF (aw cF (aw jM (dg K (pv 0) af) af) af) af) af)))))
     (aj (wfor (wil K (mr (lP (K:=K) ⋯) (pv 0) pU (pT (aw cF (aw iI (aw cF (aw jM (dg K (pv 0) af) af) af) af) (wlen K T.len_ (pv 0)))))) (wname 5 gH.nd)
       (ae (wset 6 gH.nd (dg K (pv 3) (aw cF (aw cF (aw jM (pv 5) af) af) (wlen K T.len_ (pv 3)))))
       (ae (wls 7 gH.nd ["_law_s"] ["_law_rank","_law_one"] [2,6] (wil K (pv 4)) (wnC 0) (dH (wpt qb (wcal ab hr (aa (aw gB (pv 0) (pv 2)) ah)) (aw fJ (pv 1) af))) (pv 0))
       (aj (bA (wpt a7 (wlen K T.len_ (pv 7)) af)
         (aj (dI (iz (K:=K) ⋯ Qr Qv Qw dz (pv 4) (aa (pv 6) ah))))
         aQ))))))
     aQ)
   (aj (aF (wlc ["_law_s"] ["_law_picked"] [4] (wil K (pv 3)) (wnC 0) (dH (sM (ki (K:=K) ⋯) (pv 0) (pv 1) ⋯)) (pv 0))))))),6]
 have p8:=oP hn;have d2:=two_pow_pos n;refine#[78,#[994],76];rw[c9];refine#[996];rw[OU];refine eD (λi=>decide (sz i=r)) (λi=> .int (0+(i:Nat))) (OY p8 ∅) (λi vs H' R S hi hv sm hk=> ?_) λp3 H1 dE bB aC=> ?_
 .obtain⟨v,rfl⟩:=bq hv;have q:=hk [some (.int (0+(i:Nat)))] H' rfl (Same.refl _);refine#[77997276];have e:(0+(i:Int)).toNat=i:=()
  rw[e];have e2:decide (V.int ((((bits i).length:Nat):Int))=V.int (r:Int))=decide (sz i=r):=by
   by_cases h:sz i=r
   .have h':(bits i).length=r:=h;rw[OQ h,h',OQ rfl]
   .rw[OR h,OR λz=>h (by have:=V.int.inj z;show(bits i).length=r;lia)]
  rw[e2];show if decide (sz i=r)=true then _ else _;by_cases d:decide (sz i=r)=true
  .rw[OP d]at q⊢;exact#[7,q]
  .rw[OO d]at q⊢;exact q
 rw[gA]at aC;generalize a5:(List.map (λs:Nat=>(s:Int)) (List.filter (λi=>decide (sz i=r)) (List.range (2^n))))=b at aC;have ck:∀z∈b,∃s:Nat,s<2^n/\z=s:=λz g=>by rw[<-a5]at g;obtain⟨s,hs,rfl⟩:=OX.mp g;exact#[s,OS.mp (Pn.mp hs).1,2]
 have dk:b.length<=256:=by rw[<-a5,My];exact OY (Qy _ _) (by rw[O8];exact p8)
 have d3:0<b.length:=by
  obtain⟨s,h1,h2,_⟩:=DB (ps:=[]) hn c5 (.inl rfl);have:(s:Int)∈b:=by rw[<-a5];exact OX.mpr #[s,Pn.mpr #[OS.mpr h1,OQ h2],2]
  exact RD this
 refine#[Qj _,λq hq=> ?_];have cm:Same H1 (upd H1 q (.lst [])):=Same.new hq;have a3:upd H1 q (.lst []) q=some (.lst (([]:List Int).map V.int)):=ak;have b4:=cm.at aC;have bN:Same H (upd H1 q (.lst [])):=bB.trans cm;have c2:H q=none:=bB.free hq;generalize upd H1 q (.lst [])=H2 at*;(try dsimp only);refine wH (λcp H'=>∃(ps:List Int)(B G J:Option V),Same H H'/\H' p3=some (.lst (b.map V.int))/\H' q=some (.lst (ps.map V.int))/\(ps=[]\/(0<r/\r<n/\Far r ps))/\
  cp=[rW a,rT n,rT r,rW p3,rW q,B,G,J]) ?_ ?_
 .rintro cp H' ⟨ps,B,G,J,cn,p,L,U,rfl⟩;refine#[7,p3,2,#[_,SqL.of p],6];refine bT (λx=>(λz:Int=> !decide (z∈ps)) (bG x)) (λx=> .int ((λz:Int=>z) (bG x))) (SqL.of p) (by rw[My];exact OY dk ∅) (λi x vs m R S hx hv sm hk=> ?_) λD m hD sm hl=> ?_
  .obtain⟨v,rfl⟩:=bq hv;obtain⟨z,rfl,g⟩:=bH hx;have qq:=hk [some (.int z)] m rfl (Same.refl _);refine#[77,q,7, .inl (SqL.of (sm.at L)),2,rg _,76];have t:if(!decide (z∈ps))=true then R (.int z) _ m else S _ m:=qq;show if(!inV (.int z) (ps.map V.int))=true then _ else _;rw[uR];by_cases d:(!decide (z∈ps))=true
   .rw[OP d]at t⊢;exact#[7,t]
   .rw[OO d]at t⊢;exact t
  replace hl:=hl.trans (PN (λl=>some (HO.lst l)) (bE (λz:Int=> !decide (z∈ps)) (λz:Int=>z) b));rw[show(λz:Int=>z)=id from rfl,Ru]at hl;refine k D m ps (cn.trans sm) (cn.free hD) (hl.trans ?_) U;have e:b.filter (λz:Int=> !decide (z∈ps))=dY n r ps:=by rw[<-a5];unfold dY;rw[RI,Rm];refine PN (List.map λs:Nat=>(s:Int)) (Qi λs _=> ?_);unfold o9;show((!decide ((s:Int)∈ps))&&decide (sz s=r))=_;rw[Sg];by_cases h:(s:Int)∈ps<;>simp[h]
  rw[e]
 .intro a4;have stop:∀H',H'=H2->(∃(ps:List Int)(B G J:Option V),Same H H'/\H' p3=some (.lst (b.map V.int))/\H' q=some (.lst (ps.map V.int))/\(ps=[]\/(0<r/\r<n/\Far r ps))/\
   [some (V.ref a),some (.int (n:Int)),some (.int (r:Int)),some (.ref p3),some (.ref q),none,none,none]=[some (V.ref a),rT n,rT r,rW p3,rW q,B,G,J]):=λH' e=>by
   subst e;exact#[[],none,none,none,bN,b4,a3, .inl rfl,2]
  have b1:atI (cs.map V.int) 0=some (.int (cs.getD 0 0)):=cS (j:=0) cL;have aB:=bN.seq ha;refine#[787,cP (λd=> ?_) λd=>gE (a4 _ _ (stop _ rfl))];have r0:0<r:=by have:=O9 d;lia
  refine#[7787,cP (λd=> ?_) λd=>gE (a4 _ _ (stop _ rfl))];have r1:r<n:=by have:=O9 d;lia
  refine#[7,a,3,aB,b1,8, .inr #[44],8,(by show(0:Int)<65521;decide),8,(by show(0:Int)<3;decide),87,cP (λd=> ?_) λd=>a4 _ _ (stop _ rfl)];refine#[77,a,3,aB,b1,8, .inr #[44],8,(by show(0:Int)<65521;decide),8,#[44],7,a,7, .inl aB,867,a,7,aB,λM b7=> ?_]
  .show(0:Int)<(((cs.map V.int).length:Nat):Int);rw[My];lia
  obtain⟨O,ed,dx⟩:=JQ cs none (some (cs.getD 0 0*16807 % 65521/3 % (((cs.map V.int).length:Nat):Int)));rw[ed];have b8:upd H2 M (.lst (O.map V.int)) M=some (.lst (O.map V.int)):=ak;have bS:Same H2 (upd H2 M (.lst (O.map V.int))):=Same.new b7;generalize upd H2 M (.lst (O.map V.int))=H3 at*;have c3:q≠p3:=λe=>by have h1:=bB.free hq;rw[e]at h1;have:=hq;rw[e,aC]at this;cases this
  have c4:q≠M:=λe=>by rw[e,b7]at a3;cases a3
  refine#[M,2,#[_,SqL.of b8],6];refine cQ (K:=K) (a:=M) (xs:=O.map V.int) (λi σ H'=>∃(ps:List Int)(B G J:Option V),Same H H'/\H' p3=some (.lst (b.map V.int))/\H' M=some (.lst (O.map V.int))/\H' q=some (.lst (ps.map V.int))/\ps.length<=i/\(∀z∈ps,z∈b)/\Far r ps/\
   σ=[rW a,rT n,rT r,rW p3,rW q,B,G,J])
   #[[],none,none,none,bN.trans bS,bS.at b4,b8,bS.at a3,O4 _,(λz g=>by cases g),Lp _,2] (λi σ H' _ ⟨_,_,_,_,_,_,h,_⟩=>SqL.of h) ?_ ?_
  .rintro i y σ H' hi ⟨ps,B,G,J,bb,p,bt,L,cO,a6,U,rfl⟩;obtain⟨c,rfl,cM⟩:=bH hi;have dy:i<O.length:=(O1.mp cM).1;have cg:(0:Int)<(((b.map V.int).length:Nat):Int):=by rw[My];lia
   have j0:0<=c*48271 % 2147483647 % (((b.map V.int).length:Nat):Int):=QS _ ();have j1:c*48271 % 2147483647 % (((b.map V.int).length:Nat):Int)<(((b.map V.int).length:Nat):Int):=QL _ cg;obtain⟨j,hj⟩:=QM j0;have ar:j<b.length:=by rw[hj,My]at j1;lia
   have cq:atI (b.map V.int) (c*48271 % 2147483647 % (((b.map V.int).length:Nat):Int))=some (.int (b[j]'ar)):=by rw[hj];exact mD (by simp[ar])
   refine#[778, .inr #[44],8,(by show(0:Int)<2147483647;decide),7,p3,7, .inl (SqL.of p),8,cg,p3,3,SqL.of p,cq,6];have b6:b[j]'ar∈b:=Qt ar;generalize b[j]'ar=one at*;obtain⟨o,ho,rfl⟩:=ck one b6;have d1:o<256:=OW ho p8;refine#[7,q,2,#[_,SqL.of L],6];refine bT (λx=>(λz:Int=>decide ((sz (z.toNat&&& (o:Int).toNat):Int)>(r:Int) -2)) (bG x)) (λx=> .int ((λz:Int=>z) (bG x))) (SqL.of L) (by rw[My];exact OY (show ps.length<=64 by lia) ∅) (λi x vs m R S hx hv sm hk=> ?_) λpn H4 dV N aD=> ?_
   .obtain⟨v,rfl⟩:=bq hv;obtain⟨z,rfl,g⟩:=bH hx;obtain⟨u,hu,rfl⟩:=ck z (a6 z (O5 g));have qq:=hk [some (.int (u:Int))] m rfl (Same.refl _);have ea:Builtin.bitAnd (u:Int) (o:Int)=((u&&&o:Nat):Int):=by rw[fZ (Qg _) (Qg _),OU,OU]
    have la:u&&&o<256:=J2 (OW hu p8);refine#[778,Builtin.bitAnd (u:Int) (o:Int),2,(by rw[ea];lia),(by rw[ea];lia),78876];rw[ea,OU];have t:if decide ((sz (u&&&o):Int)>(r:Int) -2)=true then R (.int (u:Int)) _ m else S _ m:=qq;show if decide ((sz (u&&&o):Int)>(r:Int) -2)=true then _ else _;by_cases d:decide ((sz (u&&&o):Int)>(r:Int) -2)=true
    .rw[OP d]at t⊢;exact#[7,t]
    .rw[OO d]at t⊢;exact t
   replace aD:=aD.trans (PN (λl=>some (HO.lst l)) (bE (λz:Int=>decide ((sz (z.toNat&&& (o:Int).toNat):Int)>(r:Int) -2)) (λz:Int=>z) ps));rw[show(λz:Int=>z)=id from rfl,Ru]at aD;refine#[7,pn,7, .inl (SqL.of aD),27,cP (λd=> ?_) λd=> ?_]
   .have h0:(ps.filter λz:Int=>decide ((sz (z.toNat&&& (o:Int).toNat):Int)>(r:Int) -2))=[]:=by have h:=V.int.inj (O9 d);rw[My]at h;exact R4 ()
    have b9:=N.at L;refine#[7, .inl #[21,SqL.of b9],7,q,8,b9,(by rw[My];exact Pd (show ps.length<=64 by lia) ∅),6];refine#[ps++[(o:Int)],111,(bb.trans N).upd c2,6666662]
    .rw[aE c3.symm];exact N.at p
    .rw[aE c4.symm];exact N.at bt
    .rw[ak,PC];rfl
    .rw[Pl];show ps.length+1<=i+1;lia
    .intro z g;rcases Pg.mp g with g|g
     .exact a6 z g
     .have:z=(o:Int):=#[5,g]
      rw[this];exact b6
    .refine JA U λz g cN=> ?_;have:z∈ps.filter λz:Int=>decide ((sz (z.toNat&&& (o:Int).toNat):Int)>(r:Int) -2):=Pn.mpr #[g,OQ cN];rw[h0]at this;cases this
   .exact#[ps,111,bb.trans N,N.at p,N.at bt,N.at L,9,a6,U,2]
  .rintro σ H' ⟨ps,B,G,J,bb,p,bt,L,cO,a6,U,rfl⟩;exact a4 _ _ #[ps,B,G,J,bb,p,L, .inr #[r0,r1,U],2]
def dQ:aH ["_law_many","_law_told","_law_levels","_law_s","_law_rank","_law_k"] ["_law_many","_law_told"] (au gY):=aZ
def vS(T:Tb K mg)(D:bC K mg "_law_ranks" gY ["_law_many","_law_told"])(ab:Cal P w K mg base 1 "_law_size" ["_law_s"] ji):Cal P w K mg base 2 "_law_ranks" ["_law_many","_law_told"] (Ar K):=by
 refine D.cal dQ #[6] λf cdv A outer cp H vs Q E hr h=> ?_;obtain⟨a,ms,n,rfl,ha,b1,b0,bS,hn,k⟩:=h;refine#[_,(ae (wset 2 dQ.nd (dU ah))
   (ae (wfor (wrng T.range_ (aw dG af (pv 0))) (wname 3 dQ.nd)
     (ae (wset 4 dQ.nd af)
     (ae (bA (wpt qb (wlen K T.len_ (wlc ["_law_one"] ["_law_s"] [3] (wil K (pv 1)) (wnC 0) (dH (wpt a7 (aw gB (pv 0) (pv 1)) (pv 1))) (pv 0))) af)
       (aj (wset 4 dQ.nd (wcal ab hr (aa (pv 3) ah))))
       (aj (wfor (wrng T.range_ (pv 0)) (wname 5 dQ.nd)
         (aj (bA (wpt a7 (aw gB (aw jL (pv 3) (pv 5)) af) af)
           (aj (wset 4 dQ.nd (eh (Gu ⋯) ⋯ T.max_ PyProof.Rows.boot_max (aa (pv 4) (aa (dg K (pv 2) (aw CF (pv 3) (aw dG af (pv 5)))) ah)))))
           aQ)))))
     (aj (dI (iz (K:=K) ⋯ Qr Qv Qw dz (pv 2) (aa (pv 4) ah)))))))
   (aj (aF (pv 2))))),6]
 have p8:=oP hn;have cm:=two_pow_pos n;refine#[Qj _,λq hq=> ?_];refine#[78,#[994],76];rw[c9];refine#[996];rw[OU];refine cZ (n:=2^n) (λi d g=>∃(v3 v4 c:Option V),Same H g/\g q=some (.lst (((List.range i).map λs=>((cI ms s:Nat):Int)).map V.int))/\d=[rT n,rW a,rW q,v3,v4,c])
  #[none,none,none,Same.new hq,ak,2] ?_ ?_
 .rintro i d g hi ⟨v3,v4,c,y,u,rfl⟩;generalize U:((List.range i).map λs=>((cI ms s:Nat):Int))=r at u;have b7:r.length=i:=by rw[<-U,My,O8]
  have bu:∀t,t<i->r.getD t 0=((cI ms t:Nat):Int):=λt ht=>by rw[<-U,OV,Ph,Qp ht];rfl
  have ar:i<256:=()
  refine Hu (λa5 H'=>∃c:Option V,Same g H'/\a5=[rT n,rW a,rW q,some (.int (0+(i:Nat))),some (.int ((cI ms i:Nat):Int)),c]) ?_ ?_
  .rintro a5 H' ⟨c,a4,rfl⟩;have J:=a4.at u;refine#[7, .inl #[21,SqL.of J],7,q,8,J,(by rw[My,b7];exact Tf ar ∅),6];refine#[111,(y.trans a4).upd hq,62];rw[ak,QO,PC,U,PC];rfl
  .intro a0;have e0:(0+(i:Int)).toNat=i:=()
   refine#[7,a,2,#[_,y.seq ha],6];refine bT (λx=>(λm:Int=>decide (m.toNat&&&i=i)) (bG x)) (λx=> .int ((λz:Int=>z) (bG x))) (y.seq ha) (by rw[My];exact OY bS ∅) (λj x vs H' R S hx hv sm hk=> ?_) λpn H3 ck ax G=> ?_
   .obtain⟨v,rfl⟩:=bq hv;obtain⟨m,rfl,p⟩:=bH hx;obtain⟨m0,m1⟩:=b0 m (O5 p);have qq:=hk [some (.int m)] H' rfl (Same.refl _);have ea:Builtin.bitAnd m (0+(i:Int))=((m.toNat&&&i:Nat):Int):=by rw[fZ m0 (),e0]
    refine#[7787276];show if decide (V.int (Builtin.bitAnd m (0+(i:Int)))=V.int (0+(i:Int)))=true then _ else _;rw[ea];have N:decide (V.int ((m.toNat&&&i:Nat):Int)=V.int (0+(i:Int)))=decide (m.toNat&&&i=i):=by rw[Qk];exact aV _ _
    rw[N];have L:if decide (m.toNat&&&i=i)=true then R (.int m) _ H' else S _ H':=qq;show if decide (m.toNat&&&i=i)=true then _ else _;by_cases o:decide (m.toNat&&&i=i)=true
    .rw[OP o]at L⊢;exact#[7,L]
    .rw[OO o]at L⊢;exact L
   replace G:=G.trans (PN (λl=>some (HO.lst l)) (bE (λm:Int=>decide (m.toNat&&&i=i)) (λz:Int=>z) ms));rw[show(λz:Int=>z)=id from rfl,Ru]at G;refine#[pn,7, .inl (SqL.of G),87,cP (λo=> ?_) λo=> ?_]
   .have bx:∃m∈ms,m.toNat&&&i=i:=by
     have h:=O9 o;rw[My]at h;have:0<(ms.filter λm:Int=>decide (m.toNat&&&i=i)).length:=()
     obtain⟨m,p⟩:=List.exists_mem_of_length_pos this;exact#[m,(Pn.mp p).1,O9 (Pn.mp p).2]
    refine#[77996];refine a0 _ _ #[c,ax,6];rw[e0,<-N9 bx];rfl
   .have b2:∀m∈ms,¬(m.toNat&&&i=i):=λm p e=>by have h:=Ss (QV.mpr o);rw[My]at h;have:m∈ms.filter λm:Int=>decide (m.toNat&&&i=i):=Pn.mpr #[p,OQ e];have:=RD this;lia
    refine#[77996];rw[OU];have J:=ax.at u;refine cZ (n:=n) (λj d M=>M=H3/\∃v,d=[rT n,rW a,rW q,some (.int (0+(i:Nat))),some (.int (ie r i j)),v]) #[27] ?_ ?_
    .intro j d M hj hw;obtain⟨O,v,b⟩:=hw;subst b;subst O;refine#[778,(by show(0:Int)<=0+(j:Int);lia),8276];have eb:decide (V.int (Builtin.bitAnd ((0+(i:Int)) /2^(0+(j:Int)).toNat) 1)=V.int 1)=i.testBit j:=by rw[Qk];exact pq
     rw[eb];have b:=rQ r i j;refine cP (λB=> ?_) λB=> ?_
     .rw[OP B]at b;have j8:j<8:=()
      have dl:=gv i ar j j8 B;obtain⟨x1,x2⟩:=rN i ar j j8;have e1:(0+(j:Int)).toNat=j:=()
      have N:(1*2^(0+(j:Int)).toNat:Int)=((2^j:Nat):Int):=by rw[e1,Qs];simp
      have ex:Builtin.bitXor (0+(i:Int)) (1*2^(0+(j:Int)).toNat)=((i^^^2^j:Nat):Int):=by unfold Builtin.bitXor;rw[N,Qk,ng (Qg _) (Qg _),fZ (Qg _) (Qg _),OU,OU];lia
      have bc:atI (r.map V.int) (Builtin.bitXor (0+(i:Int)) (1*2^(0+(j:Int)).toNat))=some (.int (r.getD (i^^^2^j) 0)):=by rw[ex];exact cS ()
      refine#[77778,#[994],8,q,3,SqL.of J,bc,8,some (.int (0+(j:Nat))),6];rw[b];rfl
     .rw[OO B]at b;refine#[2,some (.int (0+(j:Nat))),6];rw[b];rfl
    .intro d M hw;obtain⟨O,v,b⟩:=hw;subst b;subst O;refine a0 _ _ #[v,ax,6];rw[Lc hn hi b1 b2 bu]
 .rintro d g ⟨v3,v4,c,y,u,rfl⟩;exact#[7,k q g y hq u]
def iE:aH ["_law_told","_law_lines","_law_j","_law_k"] ["_law_told"] (au gV):=aZ
def vP(T:Tb K mg)(D:bC K mg "_law_seven" gV ["_law_told"])(ab:Cal P w K mg base 1 "_law_size" ["_law_s"] ji):Cal P w K mg base 2 "_law_seven" ["_law_told"] (An K):=by
 refine D.cal iE #[6] λf cdv A outer cM H vs Q E hr h=> ?_;obtain⟨a,c,rfl,ha,k⟩:=h;refine#[_,(ae (wls 1 iE.nd ["_law_s"] ["_law_told"] [0] (wrng T.range_ af) (wnC 0) (dH (PW.pt (eg (wpt a7 (wcal ab hr (aa (pv 0) ah)) af) (fP (sM (ki (K:=K) ⋯) (pv 0) (pv 1) ⋯))))) (pv 0))
   (ae (bA (PW.pt (jf (wpt jh (wlen K T.len_ (pv 0)) af) (kg (wpt jh (wlen K T.len_ (pv 1)) af))))
     (aj (aF iY))
     aQ)
   (ae (wfor (wrng T.range_ af) (wname 2 iE.nd)
     (aj (wfor (wrng T.range_ (pv 2)) (wname 3 iE.nd)
       (aj (bA (wpt jh (wlen K T.len_ (wlc ["_law_s"] ["_law_j","_law_k"] [2,3] (wil K (pv 1)) (wnC 0) (dH (wpt a7 (aw gB (aw gB (aw jL (pv 0) (pv 1)) (aw jL (pv 0) (pv 2))) af) af)) (pv 0))) af)
         (aj (aF iY))
         aQ)))))
   (aj (aF iY))))),6]
 refine#[(128),2446];refine eD (n:=128) (λs=>decide (sz s=3)&& !decide (s∈c)) (λi=> .int (0+(i:Nat))) ∅ (λi vs H' R S G hv sm g=> ?_) λp1 y cK J aD=> ?_
 .obtain⟨v,rfl⟩:=bq hv;have q:=g [some (.int (0+(i:Nat)))] H' rfl (Same.refl _);have e:(0+(i:Int)).toNat=i:=()
  have cy:i<128:=G;refine#[7799276];rw[e,lint];have e3:decide ((((bits i).length:Nat):Int)=3)=decide (sz i=3):=QG.mpr #[λz=>by show(bits i).length=3;lia,λz=>by have:(bits i).length=3:=z;lia];rw[e3];by_cases M:sz i=3
  .rw[OQ M,P7]at q;rw[OQ M,OP rfl];refine#[77,a,7, .inl (sm.seq ha),2,rg _,76];rw[Qk]at q⊢;rw[Lm];show if(!decide (i∈c))=true then _ else _;by_cases B:(!decide (i∈c))=true
   .rw[OP B]at q⊢;exact#[7,q]
   .rw[OO B]at q⊢;exact q
  .rw[OR M,P6,OO ∅]at q;rw[OR M,OO ∅];exact q
 rw[gA]at aD;have ar:y p1=some (.lst ((cJ (i9 c)).map V.int)):=aD;have b9:=J.seq ha;have lL:(i9 c).length<=128:=OY (Qy _ _) (by rw[O8];exact O4 _);have mL:∀t∈i9 c,t<128:=λt ht=>OS.mp (Pn.mp ht).1;refine#[7,a,7, .inl b9,27,cP (λo=>oS ?_) λo=> ?_]
 .rw[My,cA,lint]at o;have:=k y J;unfold fz at this;rwa[OR (by intro z;rw[z]at o;exact absurd o ∅),P6]at this
 rw[My,cA,lint]at o;have b6:c.length=28:=by
  have b4:decide ((c.length:Int)=28)=true:=#[5,o]
  have:=O9 b4;lia
 refine#[7,p1,7, .inl (SqL.of ar),27,cP (λr=> ?_) λr=> ?_]
 .rw[My,cA,lint]at r;have:=k y J;unfold fz at this;rwa[OR (p:=(i9 c).length=7) (by intro z;rw[z]at r;exact absurd r ∅),P6,Qc]at this
 rw[My,cA,lint]at r;have h7:(i9 c).length=7:=by
  have b5:decide (((i9 c).length:Int)=7)=true:=#[5,r]
  have:=O9 b5;lia
 have ek:fz c=(List.range 7).all λj=>(List.range j).all λk=>decide (((i9 c).filter λt=>t.testBit j&&t.testBit k).length=1):=by unfold fz;rw[OQ b6,OQ h7,P7,P7]
 rw[ek]at k;generalize hL:i9 c=L at*;refine#[(7),244,cZ (n:=7) (λj m H'=>Same y H'/\(∀i,i<j->((List.range i).all λk=>decide ((L.filter λt=>t.testBit i&&t.testBit k).length=1))=true)/\∃v2 d,m=[rW a,rW p1,v2,d]) #[Same.refl _,(λi G=>()),none,none,2] ?_ ?_]
 .rintro j m H2 hj ⟨ay,ag,v2,d,rfl⟩;refine#[77996];have ej:(0+(j:Int)).toNat=j:=()
  rw[ej];refine cZ (n:=j) (λk m H'=>Same y H'/\(∀i,i<k->decide ((L.filter λt=>t.testBit j&&t.testBit i).length=1)=true)/\∃d,m=[rW a,rW p1,some (.int (0+(j:Int))),d]) #[ay,(λi G=>()),d,2] ?_ ?_
  .rintro b m H3 cm ⟨u,g,d,rfl⟩;refine#[7,p1,2,#[_,SqL.of (u.at ar)],6];refine bT (λx=>(λz:Int=>z.toNat.testBit j&&z.toNat.testBit b) (bG x)) (λx=> .int ((λz:Int=>z) (bG x))) (SqL.of (u.at ar)) (by rw[My,cA];exact OY lL ∅) (λi x vs H' R S hx hv sm g=> ?_) λD H4 hD a6 O=> ?_
   .obtain⟨v,rfl⟩:=bq hv;obtain⟨z,rfl,hz⟩:=bH hx;obtain⟨t,ht,rfl⟩:=eC (O5 hz);have q:=g [some (.int (t:Int))] H' rfl (Same.refl _);refine#[7789778988276];have e1:(0+(j:Int)).toNat=j:=()
    have e2:(0+(b:Int)).toNat=b:=()
    have eb:decide (V.int (Builtin.bitAnd (Builtin.bitAnd ((t:Int) /2^(0+(j:Int)).toNat) ((t:Int) /2^(0+(b:Int)).toNat)) 1)=V.int 1)=(t.testBit j&&t.testBit b):=by
     rw[e1,e2];have a1:((t:Int) /2^j)=((t/2^j:Nat):Int):=#[5]
     have a2:((t:Int) /2^b)=((t/2^b:Nat):Int):=#[5]
     rw[a1,a2,jU];have a3:Builtin.bitAnd (((t/2^j&&&t/2^b:Nat)):Int) 1=(((t/2^j&&&t/2^b)&&&1:Nat):Int):=jU _ 1;rw[a3,lint,gG,gG,Tu];have a4:(t/2^j&&&t/2^b) % 2=1↔(t/2^j) % 2=1/\(t/2^b) % 2=1:=by have:=PD (t/2^j) (t/2^b) 0;rwa[TU,TU,TU,QX,Pc,O3,O3,O3]at this
     rw[QX,Pc,O3,O3,O3,<-a4];lia
    rw[eb];have U:if(t.testBit j&&t.testBit b)=true then R (.int (t:Int)) _ H' else S _ H':=q;show if(t.testBit j&&t.testBit b)=true then _ else _;by_cases B:(t.testBit j&&t.testBit b)=true
    .rw[OP B]at U⊢;exact#[7,U]
    .rw[OO B]at U⊢;exact U
   replace O:=O.trans (PN (λl=>some (HO.lst l)) (bE (λz:Int=>z.toNat.testBit j&&z.toNat.testBit b) (λz:Int=>z) (cJ L)));rw[show(λz:Int=>z)=id from rfl,Ru,fR]at O;refine#[D,7, .inl (SqL.of O),276];rw[My,cA,lint];have ef:(L.filter λs:Nat=>(s:Int).toNat.testBit j&&(s:Int).toNat.testBit b)=L.filter λt=>t.testBit j&&t.testBit b:=rfl;rw[ef];refine cP (λN=> ?_) λN=> ?_
   .have cn:decide ((L.filter λt=>t.testBit j&&t.testBit b).length=1)=false:=OR λz=>by rw[z]at N;exact absurd N ∅
    have e:((List.range 7).all λj=>(List.range j).all λk=>decide ((L.filter λt=>t.testBit j&&t.testBit k).length=1))=false:=QV.mpr λz=>by have:=PR.mp (PR.mp z j (OS.mpr hj)) b (OS.mpr cm);rw[cn]at this;cases this
    rw[e]at k;exact k H4 (J.trans (u.trans a6))
   .refine#[u.trans a6,λi G=> ?_,7];by_cases cg:i<b
    .exact g i cg
    .have:i=b:=()
     subst this;have b7:decide (((L.filter λt=>t.testBit j&&t.testBit i).length:Int)=1)=true:=#[5,N]
     have:=O9 b7;exact OQ ()
  .rintro m H3 ⟨u,g,d,rfl⟩;refine#[u,λi G=> ?_,17];by_cases cb:i<j
   .exact ag i cb
   .have:i=j:=()
    subst this;exact PR.mpr λk ck=>g k (OS.mp ck)
 .rintro m H2 ⟨ay,ag,v2,d,rfl⟩;have e:((List.range 7).all λj=>(List.range j).all λk=>decide ((L.filter λt=>t.testBit j&&t.testBit k).length=1))=true:=PR.mpr λj hj=>ag j (OS.mp hj);rw[e]at k;exact k H2 (J.trans ay)
def pB:aH ["_law_levels","_law_told"] ["_law_levels"] (au iV):=aZ
def yK(T:Tb K mg)(D:bC K mg "_law_kind" iV ["_law_levels"])(ag:Cal P w K mg base 1 "_law_size" ["_law_s"] ji)(ab:Cal P w K mg base 2 "_law_seven" ["_law_told"] (An K)):Cal P w K mg base 3 "_law_kind" ["_law_levels"] (DN K):=by
 refine D.cal pB #[6] λf cdv A outer cm H vs Q E hr h=> ?_;obtain⟨a,n,r,rfl,B,M,k⟩:=h;refine#[_,(ae (wls 1 pB.nd ["_law_s"] ["_law_levels"] [0] (wrng T.range_ (wlen K T.len_ (pv 0))) (wnC 0) (dH (PW.pt (eg (wpt a7 (dg K (pv 1) (pv 0)) (wcal ag hr (aa (pv 0) ah))) (fP (wpt a7 (dg K (pv 1) (pv 0)) (dg K (pv 1) (jg f9 af))))))) (pv 0))
   (ae (bA (PW.pt (eg (wpt a7 (wlen K T.len_ (pv 0)) af) (eg (wpt a7 (dg K (pv 0) (jg f9 af)) af) (fP (wpt a7 (wlen K T.len_ (pv 1)) af)))))
     (aj (aF gd))
     aQ)
   (ae (bA (PW.pt (eg (wpt a7 (wlen K T.len_ (pv 0)) af) (eg (wpt a7 (dg K (pv 0) (jg f9 af)) af) (fP (wpt a7 (wlen K T.len_ (pv 1)) af)))))
     (aj (aF gd))
     aQ)
   (ae (bA (PW.pt (eg (wpt a7 (wlen K T.len_ (pv 0)) af) (eg (wpt a7 (dg K (pv 0) (jg f9 af)) af) (fP (wpt a7 (wlen K T.len_ (pv 1)) af)))))
     (aj (aF gd))
     aQ)
   (ae (bA (PW.pt (eg (wpt a7 (wlen K T.len_ (pv 0)) af) (eg (wpt a7 (dg K (pv 0) (jg f9 af)) af) (fP (fj (wcal ab hr (aa (pv 1) ah)))))))
     (aj (aF gd))
     aQ)
   (ae (bA (PW.pt (eg (wpt a7 (wlen K T.len_ (pv 0)) af) (eg (wpt a7 (dg K (pv 0) (jg f9 af)) af) (fP (fj (wcal ab hr (aa (wlc ["_law_s"] [] [] (wil K (pv 1)) (wnC 0) cc (aw fJ af (pv 0))) ah)))))))
     (aj (aF gd))
     aQ)
   (aj (aF jJ)))))))),6]
 have p8:=oP M;have ck:=two_pow_pos n;have G:((mj n r).map V.int).length=2^n:=by unfold mj;rw[My,My,O8]
 have bx:∀s:Nat,s<2^n->atI ((mj n r).map V.int) (s:Int)=some (.int ((r s:Nat):Int)):=λs hs=>mD (by unfold mj;rw[Ph,Qp hs];rfl);have J:atI ((mj n r).map V.int) (-1)=some (.int ((r (2^n-1):Nat):Int)):=LG (by
  rw[G,Ph];unfold mj;rw[Ph,Qp ()];rfl)
 refine#[7,a,7, .inl B,76];rw[G];refine#[996];rw[OU];refine eD (n:=2^n) (λs=>decide (r s=sz s)&&decide (r s=r (2^n-1))) (λi=> .int (0+(i:Nat))) (OY p8 ∅) (λi vs H' R S hi hv sm hk=> ?_) λp1 u cb p bc=> ?_
 .obtain⟨v,rfl⟩:=bq hv;have q:=hk [some (.int (0+(i:Nat)))] H' rfl (Same.refl _);have e:(0+(i:Int)).toNat=i:=()
  have a6:atI ((mj n r).map V.int) (0+(i:Int))=some (.int ((r i:Nat):Int)):=by rw[Qk];exact bx i hi
  have aB:=sm.seq B;refine#[77,a,3,aB,a6,7799276];rw[e,aV];show if decide (r i=sz i)=true then _ else _;by_cases h3:r i=sz i
  .rw[OQ h3,P7]at q;rw[OQ h3,OP rfl];refine#[77,a,3,aB,a6,77,a,3,aB,J,276];rw[aV];show if decide (r i=r (2^n-1))=true then _ else _;by_cases hc:decide (r i=r (2^n-1))=true
   .rw[OP hc]at q⊢;exact#[7,q]
   .rw[OO hc]at q⊢;exact q
  .rw[OR h3,P6,OO ∅]at q;rw[OR h3,OO ∅];exact q
 rw[gA]at bc;have L:u p1=some (.lst ((cJ (cE n r)).map V.int)):=bc;have mT:∀t∈cE n r,t<2^n:=λt ht=>OS.mp (Pn.mp ht).1;have lT:(cE n r).length<=256:=OY (Qy _ _) (by rw[O8];exact p8);unfold Bk at k;have U:(kinds n r).getD 0 false=(decide (n=4)&&(decide (r (2^n-1)=2)&&decide ((cE n r).length=6))):=rfl;(try dsimp only);refine wH (λo H'=>Same u H'/\(kinds n r).getD 0 false=false/\o=[rW a,rW p1]) ?_ ?_
 rotate_left
 .intro j;have m:=p.seq B;refine#[7,a,7, .inl m,276];rw[G];have g1:decide (V.int ((2^n:Nat):Int)=V.int 16)=decide (n=4):=(aV (2^n) 16).trans ((um M).1);rw[g1];by_cases c:n=4
  rotate_left
  .rw[OR c,OO ∅];exact gE (j _ _ #[(Same.refl _),by rw[U,OR c];rfl,2])
  rw[OQ c,OP rfl];refine#[77,a,3,m,J,276];have g2:decide (V.int ((r (2^n-1):Nat):Int)=V.int 2)=decide (r (2^n-1)=2):=aV _ 2;rw[g2];by_cases d:r (2^n-1)=2
  rotate_left
  .rw[OR d,OO ∅];exact gE (j _ _ #[(Same.refl _),by rw[U,OR d,P6,Qc],2])
  rw[OQ d,OP rfl];refine#[7,p1,7, .inl (SqL.of (L)),276];rw[My,cA];have g3:decide (V.int (((cE n r).length:Nat):Int)=V.int 6)=decide ((cE n r).length=6):=aV _ 6;rw[g3];by_cases g:(cE n r).length=6
  rotate_left
  .rw[OR g,OO ∅];exact j _ _ #[(Same.refl _),by rw[U,OR g,Qc,Qc],2]
  rw[OQ g,OP rfl];have:=k u p;rwa[OP (by rw[U,OQ c,OQ d,OQ g];rfl)]at this
 rintro o y ⟨b,bB,rfl⟩;rw[OO (by rw[bB];decide)]at k;have ai:(kinds n r).getD 1 false=(decide (n=5)&&(decide (r (2^n-1)=2)&&decide ((cE n r).length=10))):=rfl;(try dsimp only);refine gg (λo H'=>Same u H'/\(kinds n r).getD 1 false=false/\o=[rW a,rW p1]) ?_ ?_
 rotate_left
 .intro j;have m:=(p.trans b).seq B;refine#[7,a,7, .inl m,276];rw[G];have g1:decide (V.int ((2^n:Nat):Int)=V.int 32)=decide (n=5):=(aV (2^n) 32).trans ((um M).2.1);rw[g1];by_cases c:n=5
  rotate_left
  .rw[OR c,OO ∅];exact gE (j _ _ #[b,by rw[ai,OR c];rfl,2])
  rw[OQ c,OP rfl];refine#[77,a,3,m,J,276];have g2:decide (V.int ((r (2^n-1):Nat):Int)=V.int 2)=decide (r (2^n-1)=2):=aV _ 2;rw[g2];by_cases d:r (2^n-1)=2
  rotate_left
  .rw[OR d,OO ∅];exact gE (j _ _ #[b,by rw[ai,OR d,P6,Qc],2])
  rw[OQ d,OP rfl];refine#[7,p1,7, .inl (SqL.of (b.at L)),276];rw[My,cA];have g3:decide (V.int (((cE n r).length:Nat):Int)=V.int 10)=decide ((cE n r).length=10):=aV _ 10;rw[g3];by_cases g:(cE n r).length=10
  rotate_left
  .rw[OR g,OO ∅];exact j _ _ #[b,by rw[ai,OR g,Qc,Qc],2]
  rw[OQ g,OP rfl];have:=k y (p.trans b);rwa[OP (by rw[ai,OQ c,OQ d,OQ g];rfl)]at this
 clear b;rintro o y ⟨b,bN,rfl⟩;rw[OO (by rw[bN];decide)]at k;have ar:(kinds n r).getD 2 false=(decide (n=5)&&(decide (r (2^n-1)=3)&&decide ((cE n r).length=10))):=rfl;(try dsimp only);refine gg (λo H'=>Same u H'/\(kinds n r).getD 2 false=false/\o=[rW a,rW p1]) ?_ ?_
 rotate_left
 .intro j;have m:=(p.trans b).seq B;refine#[7,a,7, .inl m,276];rw[G];have g1:decide (V.int ((2^n:Nat):Int)=V.int 32)=decide (n=5):=(aV (2^n) 32).trans ((um M).2.1);rw[g1];by_cases c:n=5
  rotate_left
  .rw[OR c,OO ∅];exact gE (j _ _ #[b,by rw[ar,OR c];rfl,2])
  rw[OQ c,OP rfl];refine#[77,a,3,m,J,276];have g2:decide (V.int ((r (2^n-1):Nat):Int)=V.int 3)=decide (r (2^n-1)=3):=aV _ 3;rw[g2];by_cases d:r (2^n-1)=3
  rotate_left
  .rw[OR d,OO ∅];exact gE (j _ _ #[b,by rw[ar,OR d,P6,Qc],2])
  rw[OQ d,OP rfl];refine#[7,p1,7, .inl (SqL.of (b.at L)),276];rw[My,cA];have g3:decide (V.int (((cE n r).length:Nat):Int)=V.int 10)=decide ((cE n r).length=10):=aV _ 10;rw[g3];by_cases g:(cE n r).length=10
  rotate_left
  .rw[OR g,OO ∅];exact j _ _ #[b,by rw[ar,OR g,Qc,Qc],2]
  rw[OQ g,OP rfl];have:=k y (p.trans b);rwa[OP (by rw[ar,OQ c,OQ d,OQ g];rfl)]at this
 clear b;rintro o y ⟨b,bS,rfl⟩;rw[OO (by rw[bS];decide)]at k;have ax:(kinds n r).getD 3 false=(decide (n=7)&&(decide (r (2^n-1)=3)&&fz (cE n r))):=rfl;(try dsimp only);refine gg (λo H'=>Same u H'/\(kinds n r).getD 3 false=false/\o=[rW a,rW p1]) ?_ ?_
 rotate_left
 .intro j;have m:=(p.trans b).seq B;refine#[7,a,7, .inl m,276];rw[G];have g1:decide (V.int ((2^n:Nat):Int)=V.int 128)=decide (n=7):=(aV (2^n) 128).trans ((um M).2.2);rw[g1];by_cases c:n=7
  rotate_left
  .rw[OR c,OO ∅];exact gE (j _ _ #[b,by rw[ax,OR c];rfl,2])
  rw[OQ c,OP rfl];refine#[77,a,3,m,J,276];have g2:decide (V.int ((r (2^n-1):Nat):Int)=V.int 3)=decide (r (2^n-1)=3):=aV _ 3;rw[g2];by_cases d:r (2^n-1)=3
  rotate_left
  .rw[OR d,OO ∅];exact gE (j _ _ #[b,by rw[ax,OR d,P6,Qc],2])
  rw[OQ d,OP rfl];refine#[7,p1,cE n r,2,SqL.of (b.at L),λHY O=>#[76]];by_cases g:fz (cE n r)=true
  rotate_left
  .rw[OO g];exact j _ _ #[b.trans O,by rw[ax,QV.mpr g,Qc,Qc],2]
  rw[OP g];have:=k HY (p.trans (b.trans O));rwa[OP (by rw[ax,OQ c,OQ d,g];rfl)]at this
 clear b;rintro o y ⟨b,b0,rfl⟩;rw[OO (by rw[b0];decide)]at k;have ay:(kinds n r).getD 4 false=(decide (n=7)&&(decide (r (2^n-1)=4)&&fz ((cE n r).map (127- ·)))):=rfl;(try dsimp only);refine gg (λo H'=>Same u H'/\(kinds n r).getD 4 false=false/\o=[rW a,rW p1]) ?_ ?_
 rotate_left
 .intro j;have m:=(p.trans b).seq B;refine#[7,a,7, .inl m,276];rw[G];have g1:decide (V.int ((2^n:Nat):Int)=V.int 128)=decide (n=7):=(aV (2^n) 128).trans ((um M).2.2);rw[g1];by_cases c:n=7
  rotate_left
  .rw[OR c,OO ∅];exact gE (j _ _ #[b,by rw[ay,OR c];rfl,2])
  rw[OQ c,OP rfl];refine#[77,a,3,m,J,276];have g2:decide (V.int ((r (2^n-1):Nat):Int)=V.int 4)=decide (r (2^n-1)=4):=aV _ 4;rw[g2];by_cases d:r (2^n-1)=4
  rotate_left
  .rw[OR d,OO ∅];exact gE (j _ _ #[b,by rw[ay,OR d,P6,Qc],2])
  rw[OQ d,OP rfl];refine#[7,p1,2,#[_,SqL.of (b.at L)],6];refine bT (λx=>(λ_=>true) (bG x)) (λx=> .int ((λz:Int=>127-z) (bG x))) (SqL.of (b.at L)) (by rw[My,cA];exact OY lT ∅) (λi x vs H' R S hx hv sm hk=> ?_) λD HY hD O N=> ?_
  .obtain⟨v,rfl⟩:=bq hv;obtain⟨z,rfl,hz⟩:=bH hx;have q:=hk [some (.int z)] H' rfl (Same.refl _);rw[OP rfl]at q;simp only[br,iM,OP];exact#[78,q]
  replace N:=N.trans (PN (λl=>some (HO.lst l)) (bE (λ_=>true) (λz:Int=>127-z) (cJ (cE n r))));rw[Qq.mpr (λ_ _=>rfl)]at N;have em:(cJ (cE n r)).map (λz:Int=>127-z)=cJ ((cE n r).map (127- ·)):=by unfold cJ;rw[PJ,PJ];refine P4 λt ht=> ?_;have:=mT t ht;rw[c]at this;show(127:Int) - (t:Int)=((127-t:Nat):Int);have h7:2^7=128:=rfl;lia
  rw[em]at N;refine#[D,(cE n r).map (127- ·),2,SqL.of N,λHZ bp=>#[76]];by_cases g:fz ((cE n r).map (127- ·))=true
  rotate_left
  .rw[OO g];exact j _ _ #[b.trans (O.trans bp),by rw[ay,QV.mpr g,Qc,Qc],2]
  rw[OP g];have:=k HZ (p.trans (b.trans (O.trans bp)));rwa[OP (by rw[ay,OQ c,OQ d,g];rfl)]at this
 clear b;rintro o y ⟨b,b1,rfl⟩;rw[OO (by rw[b1];decide)]at k;exact k y (p.trans b)
def bo:aH ["_law_rows","_law_told","_law_s","_law_row","_law_total","_law_turn","_law_k"] ["_law_rows"] (au dB):=aZ
def nZ(T:Tb K mg)(D:bC K mg "_law_determinant" dB ["_law_rows"])(ab:Cal P w K mg base 1 "_law_size" ["_law_s"] ji):Cal P w K mg base 2 "_law_determinant" ["_law_rows"] (Ho K):=by
 refine D.cal bo #[6] λf cdv A outer ct H vs Q E hr h=> ?_;obtain⟨a,xs,M,n,rfl,u,hx,l,y,ai,k⟩:=h;refine#[_,(ae (wset 1 bo.nd (dU (aa af ah)))
   (ae (wfor (Ft ⋯ T.range_ (aa af (aa (aw dG af (wlen K T.len_ (pv 0))) ah))) (wname 2 bo.nd)
     (ae (wset 3 bo.nd (dg K (pv 0) (aw fJ (wcal ab hr (aa (pv 2) ah)) af)))
     (ae (wset 4 bo.nd af)
     (ae (wset 5 bo.nd af)
     (ae (wfor (ML ⋯ T.reversed_ (aa (Io ⋯ T.range_ (aa (wlen K T.len_ (pv 0)) ah)) ah)) (wname 6 bo.nd)
       (aj (bA (wpt a7 (aw gB (aw jL (pv 2) (pv 6)) af) af)
         (ae (wset 4 bo.nd (aw eu (pv 4) (aw sP (aw sP (pv 5) (dg K (pv 3) (pv 6))) (dg K (pv 1) (aw CF (pv 2) (aw dG af (pv 6)))))))
         (aj (wset 5 bo.nd (jg f9 (pv 5)))))
         aQ)))
     (aj (dI (iz (K:=K) ⋯ Qr Qv Qw dz (pv 1) (aa (pv 4) ah)))))))))
   (aj (aF (dg K (pv 1) (jg f9 af)))))),6]
 have ay:=hx.1;have p8:=oP y;have cq:=two_pow_pos n;refine#[(show(1:Nat)<=sizeLine by decide),λq v=> ?_];have b5:upd H q (.lst [V.int 1]) q=some (.lst [V.int 1]):=ak;refine#[7,a,7, .inl ((Same.new v).seq u),6];rw[ay,l];refine#[8,#[994],176];rw[c9];refine#[#[9999],6];rw[show(((2^n:Nat):Int) -1).toNat=2^n-1 by lia];refine cZ (n:=2^n-1) (λi d H'=>∃J L N O c:Option V,Same H H'/\H' q=some (.lst (((List.range (i+1)).map (dpD M n)).map V.int))/\d=[rW a,rW q,J,L,N,O,c]) #[none,none,none,none,none,Same.new v,62] ?_ ?_
 .rw[b5];have:dpD M n 0=1:=by
   have e:av n 0=[]:=by unfold av;simp
   unfold dpD;rw[e];rfl
  show _=some (HO.lst [V.int (dpD M n 0)]);rw[this]
 .rintro i d j hi ⟨J,L,N,O,c,g,r,rfl⟩;have es:(1:Int)+(i:Int)=((i+1:Nat):Int):=()
  rw[es];have hs:i+1<2^n:=()
  generalize cn:i+1=s at*;have B:s<256:=()
  have cb:=Gi y hs;have cp:=JR hs (show 0<s by lia);have cl:=zh n s;have hN:(av n s).length-1<M.length:=()
  have U:M[(av n s).length-1]?=some (M.getD ((av n s).length-1) []):=by simp[hN]
  obtain⟨b,b1,b2⟩:=(hx.same g).2 _ _ U;have z:=ai (M.getD ((av n s).length-1) []) (O5 U);have a3:atI xs (((bits ((s:Int)).toNat).length:Nat) -1:Int)=some (.ref b):=by rw[OU,cb,show(((av n s).length:Nat):Int) -1=(((av n s).length-1:Nat):Int) by lia];exact fv b1
  refine#[777998,a,3,g.seq u,a3,6];refine#[7,a,7, .inl (g.seq u),6];rw[ay,l];refine#[7,λp hp=>#[p,(n:Int),2,ak,996]];rw[OU];have G:Same j (upd j p (.rng 0 (n:Int))):=Same.new hp;generalize upd j p (.rng 0 (n:Int))=H3 at*;have x:=G.at r;have b3:=G.at b2;have b7:((List.range s).map (dpD M n)).length=s:=by rw[My,O8]
  refine C9 (n:=n) (λi d t=>t=H3/\∃c:Option V,d=[rW a,rW q,rT s,rW b,some (.int (bw (av n s).length (dpG M n s) -bw (av (n-i) s).length (dpG M n s))),some (.int (sgn ((av n s).length- (av (n-i) s).length))),c]) #[2,c,6] ?_ ?_
  .rw[Nat.sub_zero,Qu,TR];rfl
  .rintro i d t cm ⟨rfl,c,rfl⟩;have ek:(n:Int) -1+(i:Int)*(-1)=((n- (i+1):Nat):Int):=()
   rw[ek];have hm:n- (i+1)<n:=()
   have em:n-i=n- (i+1)+1:=()
   rw[em];generalize n- (i+1)=m at*;refine#[778,(by show(0:Int)<=(m:Int);lia),8276];rw[AA];refine cP (λo=> ?_) λo=> ?_
   .obtain⟨d1,d2,d3,d4⟩:=Ly (M:=M) hm o;have dl:=gv s B m () o;have aD:atI ((M.getD ((av n s).length-1) []).map V.int) (m:Int)=some (.int ((M.getD ((av n s).length-1) []).getD m 0)):=cS (by rw[z.1];exact hm);have a4:atI (((List.range s).map (dpD M n)).map V.int) (Builtin.bitXor (s:Int) (1*2^((m:Nat):Int).toNat))=some (.int (dpD M n (s^^^2^m))):=by rw[GG B ()];exact mD (by rw[Ph,Qp dl];rfl)
    rw[d1,Pl,SY]at*;have m1:jV (sgn ((av n s).length- ((av m s).length+1))) ((M.getD ((av n s).length-1) []).getD m 0):=jV.of (k:=1) (by rw[yc];decide) (z.at m) ∅;have m2:jV (sgn ((av n s).length- ((av m s).length+1))*(M.getD ((av n s).length-1) []).getD m 0) (dpD M n (s^^^2^m)):=jV.of (zL (k:=1) (by rw[yc];decide) (z.at m)) (Nv l y ai _) ∅;refine#[7777,b,3,SqL.of b3,aD,8,m1,7778,#[994],8,q,3,SqL.of x,a4,8,m2,86];refine#[772,some (.int (m:Int)),6];have e1:bw (av n s).length (dpG M n s) -bw ((av m s).length+1) (dpG M n s)+sgn ((av n s).length- ((av m s).length+1))*(M.getD ((av n s).length-1) []).getD m 0*dpD M n (s^^^2^m)=bw (av n s).length (dpG M n s) -bw (av m s).length (dpG M n s):=by have bc:dpG M n s (av m s).length=sgn ((av n s).length- ((av m s).length+1))*(M.getD ((av n s).length-1) []).getD m 0*dpD M n (s^^^2^m):=d4;rw[<-bc,bw];lia
    have e2: -sgn ((av n s).length- ((av m s).length+1))=sgn ((av n s).length- (av m s).length):=by rw[<-lQ,show(av n s).length- ((av m s).length+1)+1=(av n s).length- (av m s).length by lia]
    rw[<-e1,<-e2];rfl
   .refine#[2,some (.int (m:Int)),6];rw[fL,OO o,Qx];rfl
  .rintro d t ⟨rfl,c,rfl⟩;rw[TR];have e0:(av 0 s).length=0:=rfl;rw[e0,show bw 0 (dpG M n s)=0 from rfl,RF,<-Nt l cp];refine#[7, .inl #[21,SqL.of x],7,q,8,x,(by rw[My,b7];exact Tf B ∅),6];refine#[11111,(g.trans G).upd v,62];rw[ak,QO,PC,PC];rfl
 .rintro d j ⟨J,L,N,O,c,g,r,rfl⟩;rw[show 2^n-1+1=2^n by lia]at r;have ll:((List.range (2^n)).map (dpD M n)).length=2^n:=by rw[My,O8]
  have a0:atI (((List.range (2^n)).map (dpD M n)).map V.int) (-1)=some (.int (aN (M.map dD) (List.range n))):=by
   rw[Dr (by rw[ll];lia) ∅,ll,show((-1:Int)+((2^n:Nat):Int)).toNat=2^n-1 by lia,<-Nu l];have h2:2^n-1<2^n:=()
   simp[h2]
  exact#[77,q,3,SqL.of r,a0,k j g]
def FT(M:Mat n r)(h:∀s,s<2^n->r' s=r s):Mat n r':=by
 refine#[M.n8,by rw[h 0 (QU ()),M.zero],λs k a b=> ?_,λs j k a c b d e=> ?_]
 .rw[h s a,h _ (aP a b)];exact M.step s k a b
 .rw[h _ (aP (aP a c) b),h s a];rw[h _ (aP a c),h s a]at d;rw[h _ (aP a b),h s a]at e;exact M.sub s j k a c b d e
def z9(a:n<=8):sz (2^n-1)=n:=by show(bits (2^n-1)).length=n;rw[Gx n (),My,O8]
def wQ(g:n<=8)(l:m<=n)(h:vC n m ps)(z:Int):
  z∈dY n m ps↔∃b:Nat,b<2^n/\z=(b:Int)/\rkG m ps b=sz b/\rkG m ps b=rkG m ps (2^n-1):=by
 have i:rkG m ps (2^n-1)=m:=by
  unfold rkG;rw[z9 g];rcases h.mid with e|⟨a,c⟩
  .rw[e,OO #[5]];lia
  .rw[OO (h.not (by rw[z9 g];lia))];lia
 rw[qU,i];constructor
 .rintro⟨s,a,c,d,rfl⟩;refine#[s,a,266]<;>(unfold rkG;rw[OO d];lia)
 .rintro⟨b,a,rfl,c,d⟩;refine#[b,a,9,λf=> ?_,2];obtain⟨s,_,e,o⟩:=h.size _ f;have:b=s:=()
  subst this;unfold rkG at c d;rw[OP f]at c d;rcases h.mid with e|⟨j,k⟩
  .rw[e]at f;cases f
  .lia
def z7:∃b:List Int,dY n m ps=dY n m b/\(∀z∈b,z∈ps)/\∀z∈b,∃s:Nat,s<2^n/\z=(s:Int)/\sz s=m:=by
 refine#[ps.filter λz=>decide (0<=z/\z.toNat<2^n/\sz z.toNat=m),6,λz a=>(Pn.mp a).1,λz a=> ?_]
 .unfold dY;refine PN (List.map λs:Nat=>(s:Int)) (Qi λs c=> ?_);have d:=OS.mp c;unfold o9;by_cases e:sz s=m
  .have:((s:Int)∈ps.filter λz=>decide (0<=z/\z.toNat<2^n/\sz z.toNat=m))↔(s:Int)∈ps:=by rw[Pn,O3,OU];exact#[λh=>h.1,λh=>#[h,9,d,e]]
   exact PN (λx=>decide (sz s=m)&&x) (QG.mpr (not_congr this.symm))
  .simp[e]
 .have:=O9 (Pn.mp a).2;exact#[z.toNat,this.2.1,9,this.2.2]
def Lq{n m:Nat}{ps:List Int}(p:n<=8)(q:m<=n)(h:ps=[]\/(0<m/\m<n/\Far m ps)):
  Mat n (cI (dY n m ps))/\∀b,b∈(List.range (2^n)).filter (o9 m ps)↔Ce n (cI (dY n m ps)) b:=by
 obtain⟨r,e,l,hsz⟩:=z7 (n:=n) (m:=m) (ps:=ps);have G:vC n m r:=by
  refine#[hsz,66]
  .rcases h with rfl|⟨_,_,g⟩
   .intro a i;exact absurd (l a i) #[5]
   .exact λa i b k=>g a (l a i) b (l b k)
  .rcases h with rfl|⟨o,d,_⟩
   .exact .inl (Tj.mpr λa i=>absurd (l a i) #[5])
   .exact .inr #[o,d]
 have M:=Jd p G;have f:∀s,s<2^n->cI (dY n m ps) s=rkG m r s:=λs v=>by rw[e];exact M.qu (wQ p q G) v
 refine#[FT M f,λb=> ?_];have k:=wQ p q G (b:Int);rw[<-e]at k;have o:b∈(List.range (2^n)).filter (o9 m ps)↔(b:Int)∈dY n m ps:=by
  unfold dY;constructor
  .intro h;exact OX.mpr #[b,h,2]
  .intro h;obtain⟨c,u,t⟩:=OX.mp h;have:c=b:=()
   exact this▸u
 rw[o,k];constructor
 .rintro⟨c,d,t,g,j⟩;have:b=c:=()
  subst this;exact#[d,by rw[f b d];exact g,by rw[f b d,f _ (aJ n)];exact j]
 .rintro⟨d,g,j⟩;rw[f b d]at g;rw[f b d,f _ (aJ n)]at j;exact#[b,d,2,g,j]
inductive EF(K:Frag)(vs:List V)(H:Hp)(Q:VK):Prop
 |mk(b:Addr) (n o w:Nat) (r:Nat->Nat) (_:vs=[.int (n:Int), .ref b, .int (o:Int), .int (w:Int)]) (_:SqL K H b ((gM n r).map V.int)) (_:Mat n r) (_:o<2^n) (_:w<2^n) (_:∀p H',Same H H'->H p=none->H' p=some (.lst ((gM (sz (ao (2^n-1) (o|||w))) (cY r (ao (2^n-1) (o|||w)) w)).map V.int))->Q (.ref p) H'):EF K vs H Q
def Hm(K:Frag):Sp:=λvs H Q _=>EF K vs H Q
def FX{n s:Nat}(k:n<=8):((List.range n).filter λj:Nat=>decide (V.int (Builtin.bitAnd ((s:Int) /2^(0+(j:Int)).toNat) 1)=V.int 0)).map (λj:Nat=>(j:Int))=bits (ao (2^n-1) s):=by
 have a:(λj:Nat=>decide (V.int (Builtin.bitAnd ((s:Int) /2^(0+(j:Int)).toNat) 1)=V.int 0))=λj=> !s.testBit j:=by
  funext j;have b:(0+(j:Int)).toNat=j:=()
  have c:((s:Int) /2^j)=((s/2^j:Nat):Int):=#[5]
  rw[b,c,fZ (Qg _) ∅,OU,show((1:Int).toNat)=1 from rfl,Tu,gG];by_cases f:s/2^j % 2=1
  .rw[f];rfl
  .have:s/2^j % 2=0:=()
   rw[this];rfl
 rw[a];unfold bits;refine PN _ ?_;have d:∀m,n<=m->(List.range m).filter (ao (2^n-1) s).testBit=(List.range n).filter λj=> !s.testBit j:=λm=>by
  induction m with
  |zero=>intro h;rw[show n=0 by lia];rfl
  |succ m i=>
   intro h;by_cases e:n=m+1
   .rw[e];refine Qi λj g=> ?_;rw[aG,Pq,OQ (OS.mp g)];rfl
   .rw[QO,Rt,i ()];have:(ao (2^n-1) s).testBit m=false:=by rw[aG,Pq,OR ()];rfl
    simp[this]
 exact(d 8 k).symm
def dR:aH ["_law_many","_law_levels","_law_out","_law_drawn","_law_left","_law_found","_law_s","_law_wide","_law_j"] ["_law_many","_law_levels","_law_out","_law_drawn"] (au gZ):=aZ
def vT(T:Tb K mg)(D:bC K mg "_law_minor" gZ ["_law_many","_law_levels","_law_out","_law_drawn"]):Cal P w K mg base 1 "_law_minor" ["_law_many","_law_levels","_law_out","_law_drawn"] (Hm K):=by
 refine D.cal dR #[6] λf cdv A outer cg H vs Q E hr h=> ?_;obtain⟨b,n,o,a,r,rfl,hb,M,ho,hw,k⟩:=h;refine#[_,(ae (wls 4 dR.nd ["_law_k"] ["_law_out","_law_drawn"] [2,3] (wrng T.range_ (pv 0)) (wnC 0) (dH (wpt a7 (aw gB (aw jL (aw ow (pv 1) (pv 2)) (pv 0)) af) af)) (pv 0))
   (ae (wset 5 dR.nd (dU ah))
   (ae (wfor (wrng T.range_ (aw dG af (wlen K T.len_ (pv 4)))) (wname 6 dR.nd)
     (ae (wset 7 dR.nd (pv 3))
     (ae (wfor (wrng T.range_ (wlen K T.len_ (pv 4))) (wname 8 dR.nd)
       (aj (bA (wpt a7 (aw gB (aw jL (pv 6) (pv 8)) af) af)
         (aj (wset 7 dR.nd (aw ow (pv 7) (aw dG af (dg K (pv 4) (pv 8))))))
         aQ)))
     (aj (dI (iz (K:=K) ⋯ Qr Qv Qw dz (pv 5) (aa (aw fJ (dg K (pv 1) (pv 7)) (dg K (pv 1) (pv 3))) ah)))))))
   (aj (aF (pv 5)))))),6]
 have n8:=M.n8;have p8:=ou n8;refine#[77996];rw[OU];refine eD (λj=>decide (V.int (Builtin.bitAnd (((o|||a:Nat):Int) /2^(0+(j:Int)).toNat) 1)=V.int 0)) (λj=> .int (0+(j:Nat))) (OY n8 ∅) (λj vs H' R S hj hv sm hk=> ?_) λq x hq O ag=> ?_
 .obtain⟨v,rfl⟩:=bq hv;have N:=hk [some (.int (0+(j:Nat)))] H' rfl (Same.refl _);refine#[77878,by show(0:Int)<=0+(j:Int);lia,8276];(try dsimp only);rw[fY];show if decide (V.int (Builtin.bitAnd (((o|||a:Nat):Int) /2^(0+(j:Int)).toNat) 1)=V.int 0)=true then _ else _;by_cases hc:decide (V.int (Builtin.bitAnd (((o|||a:Nat):Int) /2^(0+(j:Int)).toNat) 1)=V.int 0)=true
  .rw[OP hc]at N⊢;exact#[7,N]
  .rw[OO hc]at N⊢;exact N
 have el:gI (λj=>decide (V.int (Builtin.bitAnd (((o|||a:Nat):Int) /2^(0+(j:Int)).toNat) 1)=V.int 0)) (λj=>V.int (0+(j:Nat))) n=(bits (ao (2^n-1) (o|||a))).map V.int:=by rw[<-FX n8];exact gA _ n
 rw[el]at ag;have kl:ao (2^n-1) (o|||a)<2^n:=kY;generalize ao (2^n-1) (o|||a)=g at*;refine#[Qj _,λl hl=> ?_];have ax:Same x (upd x l (.lst [])):=Same.new hl;have bx:upd x l (.lst []) l=some (.lst (((List.range 0).map λs=>((cY r g a s:Nat):Int)).map V.int)):=ak;generalize upd x l (.lst [])=H2 at*;have b4:=(O.trans ax).seq hb;have bB:=ax.at ag;have zl:((bits g).map V.int).length=sz g:=My _;have z8:sz g<=8:=bj g;have pz:=ou z8;have b8:0<2^sz g:=QU ();refine#[7,q,7, .inl (SqL.of bB),6];rw[zl];refine#[8,#[994],76];rw[c9];refine#[996];rw[OU];refine cZ (n:=2^sz g) (λi u H'=>∃v6 v7 p:Option V,Same x H'/\H' l=some (.lst (((List.range i).map λs=>((cY r g a s:Nat):Int)).map V.int))/\u=[rT n,rW b,rT o,rT a,rW q,rW l,v6,v7,p]) #[none,none,none,ax,bx,2] ?_ ?_
 .rintro i u U hi ⟨v6,v7,p,y,L,rfl⟩;dsimp only[br];rw[Qk];have a4:=y.at ag;refine#[77,q,7, .inl (SqL.of a4),6];rw[zl];refine#[7996];rw[OU];refine cZ (n:=sz g) (λj u H'=>H'=U/\∃(W:Nat)(p:Option V),W<2^n/\(∀t:Nat,W.testBit t=true↔a.testBit t=true\/∃m,m<j/\(bits g)[m]?=some (t:Int)/\i.testBit m=true)/\u=[rT n,rW b,rT o,rT a,rW q,rW l,rT i,rT W,p]) #[2,a,p,hw,λt=>#[5],2] ?_ ?_
  .rintro j u H4 hj ⟨rfl,W,p,G,J,rfl⟩;dsimp only[br];have a3:j<(bits g).length:=hj;have z:=Po a3;obtain⟨t,t8,tb,et⟩:=cX.mp (Qt a3);rw[et]at z;have tn:=aU kl tb;refine#[778,(by show(0:Int)<=0+(j:Int);lia),8276];rw[pq];refine cP (λab=> ?_) λab=> ?_
   .refine#[777,q,3,SqL.of a4,by rw[Qk];exact mD z,8,#[994],82,W|||2^t,some (.int (0+(j:Nat))),aP G tn,λs=> ?_,6]
    .rw[aW,Px,O3,J s];constructor
     .rintro((h|⟨m,B,c,d⟩)|h)
      .exact .inl h
      .exact .inr #[m,9,c,d]
      .exact .inr #[j,9,by rw[<-h];exact z,ab]
     .rintro(h|⟨m,B,c,d⟩)
      .exact .inl (.inl h)
      .by_cases e:m=j
       .subst e;rw[z]at c;have:=Qd c;exact .inr ()
       .exact .inl (.inr #[m,9,c,d])
    .show [_,_,_,_,_,_,_,some (V.int (Builtin.bitOr (W:Int) (1*2^((t:Nat):Int).toNat))),_]=_;rw[nG,fY]
   .refine#[2,W,_,G,λs=> ?_,2];rw[J s];refine RM #[λ⟨m,B,c,d⟩=>#[m,9,c,d],λ⟨m,B,c,d⟩=>#[m,6,c,d]];by_cases e:m=j
    .subst e;exact absurd d ab
    .lia
  .rintro u H4 ⟨rfl,W,p,G,J,rfl⟩;have eW:W=aO i g|||a:=O2 λt=>by
    rw[QX,J t,O7,Px,bJ];constructor
    .rintro(h|⟨m,B,c,d⟩)
     .exact .inr h
     .exact .inl #[m,c,d]
    .rintro(⟨m,c,d⟩|h)
     .exact .inr #[m,(O1.mp c).1,c,d]
     .exact .inl h
   subst eW;have aC:=(O.trans y).seq hb;refine#[7, .inl #[21,SqL.of L],77,b,3,aC,pf r G,77,b,3,aC,pf r hw,8,l,8,L,66]
   .rw[My,My,O8];exact OW hi (OY pz ∅)
   .refine#[111,y.upd hl,62];rw[ak,QO,PC,PC,<-M.min_int kl hw i];rfl
 .rintro u U ⟨v6,v7,p,y,L,rfl⟩;exact#[7,k l U (O.trans y) (O.free hl) L]
def xU(a:i<R):(gO c n R)[i]?=some ((List.range n).map λt=>(c t).getD i 0):=by unfold gO;rw[Ph,Qp a];rfl
def xR(c:Nat->List Int)(n R:Nat):(gO c n R).length=R:=by unfold gO;rw[My,O8]
def wK(r:Nat->Nat):atI ((gM n r).map V.int) (-1)=some (.int (r (2^n-1):Nat)):=by
 have b:=two_pow_pos n;rw[Dr (by rw[pe];lia) ∅,pe];have e:((-1:Int)+((2^n:Nat):Int)).toNat=2^n-1:=()
 rw[e];have a:2^n-1<2^n:=()
 unfold gM;simp[a]
def i8(c:Nat->List Int)(R S:Nat):List (List Int):=(List.range R).map λi=>(aq S).map λt=>(c t).getD i 0
def Iq(h:sz S=R):aN ((i8 c R S).map dD) (List.range R)=aN (bU (jS c) (List.range R)) (aq S):=by
 have d:(aq S).length=R:=(aT S).trans h;have a:=vf (λj=>(aq S).getD j 0) (List.range R) (bU (jS c) (List.range R));have b:=ud (aq S);rw[d]at b;rw[b]at a;rw[<-a];refine iB (List.range R) _ _ (by unfold i8 bU;simp) λi j f=> ?_;have g:j<(aq S).length:=by rw[d];exact OS.mp f
 unfold i8 bU;rw[PJ,PJ,OV,OV,Ph,Ph];by_cases e:i<R
 .rw[Qp e];show((aq S).map λt=>(c t).getD i 0).getD j 0=(c ((aq S).getD j 0)).getD i 0;simp[g]
 .rw[Sa (by rw[O8];lia)];rfl
def Fx{c:Nat->List Int}{n R S:Nat}(d:n<=8)(a:S<2^n){i:Nat}:((List.range n).filter S.testBit).map (λt=>((List.range n).map λt=>(c t).getD i 0).getD t 0)=(aq S).map λt=>(c t).getD i 0:=by rw[ue d a];refine P4 λt b=> ?_;have e:=aU a (aK.mp b).2;simp[e]
inductive EA(K:Frag)(vs:List V)(H:Hp)(Q:VK):Prop
 |mk(l b:Addr) (xs:List V) (n R:Nat) (r:Nat->Nat) (c:Nat->List Int) (_:vs=[.ref l, .int (n:Int), .ref b]) (_:H l=some (.lst xs)) (_:a9 H xs (gO c n R)) (_:SqL K H b ((gM n r).map V.int)) (_:Mat n r) (_:r (2^n-1)=R) (_:zN n R r c) (_:∀H',Same H H'->Q (.bl true) H'):EA K vs H Q
def Hj(K:Frag):Sp:=λvs H Q _=>EA K vs H Q
def bV:aH ["_law_rows","_law_many","_law_levels","_law_row","_law_number","_law_s","_law_part"] ["_law_rows","_law_many","_law_levels"] (au dA):=aZ
def nY(T:Tb K mg)(D:bC K mg "_law_table_right" dA ["_law_rows","_law_many","_law_levels"])(ai:Cal P w K mg base 1 "_law_size" ["_law_s"] ji)(ag:Cal P w K mg base 1 "_law_whole" ["_law_found"] xX)(ab:Cal P w K mg base 2 "_law_determinant" ["_law_rows"] (Ho K)):
  Cal P w K mg base 3 "_law_table_right" ["_law_rows","_law_many","_law_levels"] (Hj K):=by
 refine D.cal bV #[6] λf cdv A outer dm H vs Q E p h=> ?_;obtain⟨l,b,xs,n,R,r,c,rfl,hl,hR,hb,M,rR,⟨⟨B,A3⟩,c6⟩,k⟩:=h;refine#[_,(ae (bA (PW.pt (jf (oO (fj (eh (fX (K:=K) ⋯) ⋯ T.isinstance_ Rb (aa (pv 0) (aa (nQ (v:= .ty "list") ⋯ T.list_ Rp rfl) ah))))) (kg (wpt jh (wlen K T.len_ (pv 0)) (dg K (pv 2) (jg f9 af))))))
     (aj (aF iY))
     aQ)
   (ae (wfor (wil K (pv 0)) (wname 3 bV.nd)
     (ae (bA (PW.pt (jf (oO (fj (eh (fX (K:=K) ⋯) ⋯ T.isinstance_ Rb (aa (pv 3) (aa (nQ (v:= .ty "list") ⋯ T.list_ Rp rfl) ah))))) (kg (wpt jh (wlen K T.len_ (pv 3)) (pv 1)))))
       (aj (aF iY))
       aQ)
     (aj (wfor (wil K (pv 3)) (wname 4 bV.nd)
       (aj (bA (PW.pt (jf (oO (fj (wcal ag p (aa (pv 4) ah)))) (jf (wpt pZ (pv 4) (jg f9 af)) (kg (wpt qb (pv 4) af)))))
         (aj (aF iY))
         aQ))))))
   (ae (wfor (wrng T.range_ (aw dG af (pv 1))) (wname 5 bV.nd)
     (aj (bA (wpt a7 (wcal ai p (aa (pv 5) ah)) (wlen K T.len_ (pv 0)))
       (ae (wset 6 bV.nd (dU ah))
       (ae (wfor (wil K (pv 0)) (wname 3 bV.nd)
         (aj (dI (iz (K:=K) ⋯ Qr Qv Qw dz (pv 6) (aa (wlc ["_law_k"] ["_law_row","_law_s"] [3,5] (wrng T.range_ (pv 1)) (wnC 0) (dH (wpt a7 (aw gB (aw jL (pv 2) (pv 0)) af) af)) (dg K (pv 1) (pv 0))) ah)))))
       (ae (wset 4 bV.nd (wcal ab p (aa (pv 6) ah)))
       (aj (bA (PW.pt (jf (wpt pZ (pv 4) (jg f9 af)) (jf (wpt qb (pv 4) af) (kg (wpt jh (wpe jh (pv 4) af) (wpe a7 (dg K (pv 2) (pv 5)) (wlen K T.len_ (pv 0))))))))
         (aj (aF iY))
         aQ)))))
       aQ)))
   (aj (aF iY))))),6]
 have n8:=M.n8;have p8:=ou n8;have xl:xs.length=R:=by rw[hR.1,xR]
 have R8:R<=8:=by have:=M.jQ (2^n-1) (aJ n);have h2:sz (2^n-1)<=8:=bj _;lia
 refine#[7111,true,2, .lst hl,T.kLL,true,2,gE ?_];refine#[7,l,7, .inl (SqL.of hl),7,(1),2,b,3,hb,wK r,276];rw[xl,rR];refine wN rfl ?_;refine#[7,l,2,#[_,SqL.of hl],6];refine cQ (K:=K) (a:=l) (xs:=xs) (λi d N=>N=H/\∃o m,d=[rW l,rT n,rW b,o,m,none,none]) #[2,none,none,2] (λi d N _ h=>by rw[h.1];exact SqL.of hl) ?_ ?_
 .rintro i x d N y ⟨rfl,o,m,rfl⟩;obtain⟨a,cO,a0,rfl,U⟩:=hR.at y;have s:i<R:=by rw[<-xl];exact(O1.mp y).1
  rw[xU s]at a0;cases a0;dsimp only[br];refine#[7111,true,2, .lst U,T.kLL,true,2,gE ?_];refine#[7,a,7, .inl (SqL.of U),7276];rw[My,My,O8];refine wN rfl ?_;refine#[7,a,2,#[_,SqL.of U],6];refine cQ (K:=K) (a:=a) (xs:=((List.range n).map λt=>(c t).getD i 0).map V.int) (λj d g=>g=N/\∃m,d=[rW l,rT n,rW b,rW a,m,none,none]) #[2,m,2] (λj d g _ h=>by rw[h.1];exact SqL.of U) ?_ ?_
  .rintro j x d g hj ⟨rfl,m,rfl⟩;obtain⟨z,rfl,hz⟩:=bH hj;obtain⟨t,ht,ez⟩:=OX.mp (O5 hz);have tn:=OS.mp ht;have:Sm z:=ez▸A3.sm t tn i s;unfold Sm at this;dsimp only[br];refine#[7,z,27,gE ?_];refine#[7,(1),2876];rw[OO (by simp;lia)];refine#[7876];rw[OO (by simp;lia)];exact#[27]
  .rintro d g ⟨rfl,m,rfl⟩;exact#[217]
 .rintro d N ⟨rfl,o,m,rfl⟩;have dc:=two_pow_pos n;refine#[78,#[994],76];rw[c9];refine#[996];rw[OU];refine cZ (n:=2^n) (λi d g=>Same N g/\∃o m v5 v6:Option V,d=[rW l,rT n,rW b,o,m,v5,v6]) #[Same.refl _,o,m,none,none,2] ?_ ?_
  .rintro S d g hS ⟨G,o,m,v5,v6,rfl⟩;dsimp only[br];rw[Qk];have a6:=G.at hl;have cp:=hR.same G;refine#[7,(S:Int),2997,l,7, .inl (SqL.of a6),276];rw[xl,OU,aV];refine cP (λhz=> ?_) λhz=>#[G,o,m,_,v6,2];have zS:sz S=R:=O9 hz;refine#[Qj _,λq hq=> ?_];have b5:Same g (upd g q (.lst [])):=Same.new hq;have cw:upd g q (.lst []) q=some (.lst []):=ak;have cy:a9 (hide (upd g q (.lst [])) q) [] ((i8 c R S).take 0):=#[2,λi r p=>by simp at p];generalize upd g q (.lst [])=H4 at*;refine#[7,l,2,#[_,SqL.of (b5.at a6)],6];have pl:(i8 c R S).length=R:=by unfold i8;rw[My,O8]
   refine cQ (K:=K) (a:=l) (xs:=xs) (λi d O=>∃(L:List V)(o:Option V),Same g O/\O q=some (.lst L)/\a9 (hide O q) L ((i8 c R S).take i)/\d=[rW l,rT n,rW b,o,m,rT S,rW q]) #[[],o,b5,cw,cy,2] (λi d O _ h=>by obtain⟨_,_,sm,_⟩:=h;exact SqL.of (sm.at a6)) ?_ ?_
   .rintro i x d O y ⟨L,o,ax,aD,hY,rfl⟩;obtain⟨a,cO,a0,rfl,U⟩:=(cp.same ax).at y;have s:i<R:=by rw[<-xl];exact(O1.mp y).1
    rw[xU s]at a0;cases a0;dsimp only[br];refine#[7, .inl #[21,SqL.of aD],77996];rw[OU];refine eD S.testBit (λt=> .int (((List.range n).map λt=>(c t).getD i 0).getD t 0)) (OY n8 ∅) (λt vs H' Rk Sk ht hv sm hk=> ?_) λD6 H6 b1 J b2=> ?_
    .obtain⟨v,rfl⟩:=bq hv;have q1:=hk [some (.int (0+(t:Nat)))] H' rfl (Same.refl _);refine#[778,(by show(0:Int)<=0+(t:Int);lia),8276];rw[pq];by_cases hb:S.testBit t=true
     .rw[OP hb]at q1⊢;refine#[77,a,3,SqL.of (sm.at U),by rw[Qk];exact cS (by rw[My,O8];exact ht),q1]
     .rw[OO hb]at q1⊢;exact q1
    .have e6:gI S.testBit (λt=>V.int (((List.range n).map λt=>(c t).getD i 0).getD t 0)) n=((aq S).map λt=>(c t).getD i 0).map V.int:=by rw[<-Fx (R:=R) n8 hS];unfold gI;rw[PJ];rfl
     rw[e6]at b2;have yl:L.length=i:=by rw[hY.1,Pz,pl];lia
     have nD:D6≠q:=λz=>by rw[z,aD]at b1;cases b1
     refine#[q,8,J.at aD,by rw[yl];exact OW (OW s R8) ∅,6];refine#[L++[.ref D6],_,(ax.trans J).upd hq,ak,62];have gi:(i8 c R S)[i]?=some ((aq S).map λt=>(c t).getD i 0):=by unfold i8;rw[Ph,Qp s];rfl
     rw[mN,Ql,gi];refine rK (hY.same (kK J)) #[2,λj r p=> ?_];cases j with
     |zero=>cases p;exact#[D6,2,by rw[eU nD];exact b2]
     |succ j=>simp at p
   .rintro d O ⟨L,o,ax,aD,hY,rfl⟩;rw[xl,Ro (Nat.le_of_eq pl)]at hY;have cq:=hY.same fS;have lS:(aq S).length=R:=(aT S).trans zS;have dd:=A3.det hS zS;rw[<-Iq zS]at dd;refine#[7,q,L,i8 c R S,R,2,SqL.of aD,cq,pl,R8,λrr b4=> ?_,λH6 J=> ?_]
    .unfold i8 at b4;obtain⟨i,y,rfl⟩:=OX.mp b4;have s:=OS.mp y;refine#[by rw[My,lS],λz hz=> ?_];obtain⟨t,ht,rfl⟩:=OX.mp hz;have tn:=aU hS (aK.mp ht).2;have:Sm ((c t).getD i 0):=A3.sm t tn i s;unfold Sm at this;exact OW (show((c t).getD i 0).natAbs<2^7 by lia) (Pr ∅ ∅)
    generalize aN ((i8 c R S).map dD) (List.range R)=dt at*;have ct:=(G.trans (ax.trans J)).seq hb;have dk: -1<=dt/\dt<=1:=by
     by_cases u:r S=R
     .rcases dd.1 u with e|e<;>lia
     .have:=dd.2 u;lia
    refine#[7,(1),2876];rw[OO (by simp;lia)];refine#[7876];rw[OO (by simp;lia)];refine#[7277,b,3,ct,pf r hS,7,l,7, .inl (SqL.of (J.at (ax.at a6))),2276];rw[xl,aV];have e1:(!decide (V.int dt=V.int 0))=decide (r S=R):=by
     by_cases u:r S=R
     .have h3:¬dt=0:=by rcases dd.1 u with e|e<;>lia
      rw[OQ u,OR (λz=>h3 (V.int.inj z))];rfl
     .rw[OR u,dd.2 u];rfl
    rw[e1];refine wN rfl ?_;exact#[G.trans (ax.trans J),1117]
  .rintro d g ⟨G,o,m,v5,v6,rfl⟩;exact k g G
inductive BS(K:Frag)(vs:List V)(H:Hp)(Q:VK):Prop
 |mk(t b:Addr) (n R:Nat) (r:Nat->Nat) (_:vs=[.ref t, .int (n:Int), .ref b]) (_:SqL K H b ((gM n r).map V.int)) (_:Mat n r) (_:r (2^n-1)=R) (_:((∃l xs c,H t=some (.tup [.str "table", .ref l])/\H l=some (.lst xs)/\a9 H xs (gO c n R)/\zN n R r c)\/(∃kd s w,H t=some (.tup [.str "barred", .int (ao (ao (2^n-1) s) w:Nat), .int (w:Int), .str kd])/\kd∈qW/\s<2^n/\Sub w (ao (2^n-1) s)/\fc (sz s) (cY r s w)= .str kd))) (_:∀H',Same H H'->Q (.bl true) H'):BS K vs H Q
def DG(K:Frag):Sp:=λvs H Q _=>BS K vs H Q
def iF:aH ["_law_found","_law_many","_law_levels","_law_out","_law_drawn","_law_kind_here"] ["_law_found","_law_many","_law_levels"] (au gX):=aZ
def vR(T:Tb K mg)(D:bC K mg "_law_right" gX ["_law_found","_law_many","_law_levels"])(x:Cal P w K mg base 1 "_law_whole" ["_law_found"] xX)(ar:Cal P w K mg base 3 "_law_kind" ["_law_levels"] (DN K))(ai:Cal P w K mg base 1 "_law_minor" ["_law_many","_law_levels","_law_out","_law_drawn"] (Hm K))(ag:Cal P w K mg base 3 "_law_table_right" ["_law_rows","_law_many","_law_levels"] (Hj K)):
  Cal P w K mg base 4 "_law_right" ["_law_found","_law_many","_law_levels"] (DG K):=by
 refine D.cal iF #[6] λf cdv A outer b2 H vs Q E g h=> ?_;obtain⟨t,b,n,R,r,rfl,y,M,rR,h1,k⟩:=h;refine#[_,(ae (bA (PW.pt (jf (oO (fj (eh (fX (K:=K) ⋯) ⋯ T.isinstance_ Rb (aa (pv 0) (aa (nQ (v:= .ty "tuple") ⋯ T.tuple_ RT rfl) ah))))) (kg (wpt pZ (wlen K T.len_ (pv 0)) af))))
     (aj (aF iY))
     aQ)
   (ae (bA (wpt a7 (i6 K (pv 0) af) gd)
     (aj (aF (yt (wpe a7 (wlen K T.len_ (pv 0)) af) (Cy (wcal ag g (aa (i6 K (pv 0) af) (aa (pv 1) (aa (pv 2) ah))))))))
     aQ)
   (ae (bA (PW.pt (jf (wpt jh (i6 K (pv 0) af) gd) (jf (wpt jh (wlen K T.len_ (pv 0)) af) (jf (oO (fj (wcal x g (aa (i6 K (pv 0) af) ah)))) (kg (oO (fj (wcal x g (aa (i6 K (pv 0) af) ah)))))))))
     (aj (aF iY))
     aQ)
   (ae (wset 3 iF.nd (i6 K (pv 0) af))
   (ae (wset 4 iF.nd (i6 K (pv 0) af))
   (ae (bA (PW.pt (jf (wpt pZ (pv 3) af) (jf (wpt pZ (pv 4) af) (jf (wpt N7 (aw ow (pv 3) (pv 4)) (aw dG af (pv 1))) (kg (wpt jh (aw gB (pv 3) (pv 4)) af))))))
     (aj (aF iY))
     aQ)
   (ae (wset 5 iF.nd (wcal ar g (aa (wcal ai g (aa (pv 1) (aa (pv 2) (aa (pv 3) (aa (pv 4) ah))))) ah)))
   (aj (aF (yt (eh (fX (K:=K) ⋯) ⋯ T.isinstance_ Rb (aa (i6 K (pv 0) af) (aa (nQ (v:= .ty "str") ⋯ T.str_ PyProof.Rows.boot_str rfl) ah))) (yt (wpe a7 (i6 K (pv 0) af) (pv 5)) (Cy (Eb (CG (K:=K) ⋯) (pv 5) (iy (aa gd (aa gd (aa gd ah)))) ⋯))))))))))))),6]
 rcases h1 with ⟨l,xs,c,a,hl,hR,ho⟩|⟨m,s,d,a,B,J,N,bb⟩
 .refine#[7111,true,2, .tup a,T.kTT,true,2,gE ?_];refine#[7,t,7, .inr (SqT.of a),87,gE ?_];refine#[7,t,3,SqT.of a,227,oS ?_];refine#[7,t,7, .inr (SqT.of a),26];refine#[7,oS ?_];exact#[7,t,3,SqT.of a,277,l,b,xs,n,R,r,c,2,hl,hR,y,M,rR,ho,k]
 .have n8:=M.n8;have p8:=ou n8;have O:ao (2^n-1) s<2^n:=kY;have q:d<2^n:=N.lt O;have U:ao (ao (2^n-1) s) d<2^n:=Pd (iK _ _) O;have dj:ao (ao (2^n-1) s) d&&&d=0:=O2 λj=>by rw[PD,aG,Pw];cases d.testBit j<;>simp
  have ke:=Eh J N;have b1:ao (ao (2^n-1) s) d|||d<2^n:=PV U q;generalize ao (ao (2^n-1) s) d=o at*;refine#[7111,true,2, .tup a,T.kTT,true,2,gE ?_];refine#[7,t,7, .inr (SqT.of a),87,gE ?_];refine#[7,t,3,SqT.of a,227,cP (λi=> ?_) λ_=> ?_]
  .exact absurd (O9 i) (by intro z;exact absurd (V.str.inj z) #[9])
  refine#[7,t,3,SqT.of a,227,wN rfl ?_];refine#[7,t,7, .inr (SqT.of a),27,wN rfl ?_];refine#[7,t,3,SqT.of a,277,gE ?_];refine#[7,t,3,SqT.of a,277,gE ?_];refine#[7,t,3,SqT.of a,26];refine#[7,t,3,SqT.of a,26];refine#[7876];rw[OO #[5]];refine#[7876];rw[OO #[5]];refine#[77878,#[994],876];refine cP (λi=> ?_) λ_=> ?_
  .have:=O9 i;rw[nG,fY]at this;lia
  refine#[778276];rw[jU,dj];refine wN rfl ?_;refine#[7777,b,n,o,d,r,2,y,M,U,q,λp H1 ax hp G=> ?_];rw[ke]at G;have kd:Bk (sz s) (cY r s d)= .str m:=(Lh (HN (M.minor J q))).symm.trans bb;refine#[p,sz s,cY r s d,2,SqL.of G,bj _,λH2 ay=> ?_];rw[kd];have L:=ay.at (ax.at a);refine#[7,t,3,SqT.of L,2111,true,2, .str _,T.kSS,7,oS ?_];refine#[7,t,3,SqT.of L,2727,cP (λ_=> ?_) λhn=>absurd (OQ rfl) hn];refine#[7,OY (O4 3) ∅,λu hu=> ?_];refine#[u,7, .inr (SqT.of ak),226];have e:inV (V.str m) [V.str "two of four",V.str "seven",V.str "other seven"]=true:=by
   have e1:(("two of four":Str))=a8:=#[9]
   have e3:(("seven":Str))=eO:=#[9]
   have e4:(("other seven":Str))=bg:=#[9]
   rw[e1,e3,e4];simp only[qW,OT,Pe,Qa]at B;rcases B with h|h|h<;>rw[h]<;>simp[inV,eqV]
  show Q (.bl (inV (V.str m) [V.str "two of four",V.str "seven",V.str "other seven"])) _;rw[e];exact k _ (ax.trans (ay.trans (Same.new hu)))
structure bX(n:Nat)(r:Nat->Nat)(ms:List Int):Prop where
 mat:Mat n r
 mem:∀z,z∈ms↔∃b:Nat,b<2^n/\z=(b:Int)/\sz b=r (2^n-1)/\r b=r (2^n-1)
 few:ms.length<=2^n
def iq(a:Int)(n p:Nat)(r:Nat->Nat)(s:Nat):Nat:=if a=1 then r (bI p s)+(if s.testBit p=true then 1 else 0)else if a=2/\p<n then r (f6 p s)else r (bI p s)
def i7(a:Int)(n p s:Nat):List Int:=(if a=1 then [((ba p s+2^p:Nat):Int)]else [((ba p s:Nat):Int)])++if a=2/\p<n/\s.testBit p=true then [((ba p s-2^p:Nat):Int)]else []
def AN(a:Int)(n p s:Nat):(i7 a n p s).length<=2:=by unfold i7;rw[Pl];split<;>split<;>simp
def qF(a:p<=n):bI p (2^(n+1) -1)=2^n-1:=O2 λj=>by
 rw[cW,Pq,Pq,Pq];by_cases h:j<p
 .rw[OP h,OQ (),OQ ()]
 .rw[OO h];exact QG.mpr ()
def JZ(a:p<n):f6 p (2^(n+1) -1)=2^n-1:=by unfold f6;rw[qF (),Pq,OQ (),OP rfl];exact fH (by rw[Pq];exact OQ a)
def Ek(M:Mat n r)(f:p<=n)(d:n<8)(a:Int):Mat (n+1) (iq a n p r):=by
 by_cases b:a=1
 .have e:iq a n p r=λs=>r (bI p s)+if s.testBit p=true then 1 else 0:=funext λs=>by unfold iq;rw[OP b]
  rw[e];exact M.inAll f d
 .by_cases c:a=2/\p<n
  .have e:iq a n p r=λs=>r (f6 p s):=funext λs=>by unfold iq;rw[OO b,OP c]
   rw[e];exact M.beside c.2 d
  .have e:iq a n p r=λs=>r (bI p s):=funext λs=>by unfold iq;rw[OO b,OO c]
   rw[e];exact M.loop f d
def rj{ms:List Int}(h:bX n r ms)(m:p<=n)(q:n<8)(c:Int):bX (n+1) (iq c n p r) (ms.flatMap λz=>i7 c n p z.toNat):=by
 have M:=h.mat;have top:∀s,s<2^n->r s<=r (2^n-1):=λs a=>M.mono (bO a) (aJ n);refine#[Ek M m q c,λz=> ?_,6]
 .have G:∀(v:Nat)(g:Nat->Nat)(u:Nat->Nat->Prop),v=g (2^(n+1) -1)->(∀t,t<2^(n+1)->((sz t=v/\g t=v)↔∃s,s<2^n/\sz s=r (2^n-1)/\r s=r (2^n-1)/\u s t))->(∀s t,s<2^n->u s t->t<2^(n+1))->
    (∀s,s<2^n->∀z,z∈i7 c n p s↔∃t:Nat,u s t/\z=(t:Int))->(z∈ms.flatMap (λz=>i7 c n p z.toNat)↔∃b:Nat,b<2^(n+1)/\z=(b:Int)/\sz b=g (2^(n+1) -1)/\g b=g (2^(n+1) -1)):=λv g u eR i j L=>by
   subst eR;rw[List.mem_flatMap];constructor
   .rintro⟨y,hy,N⟩;obtain⟨b,B,rfl,U,b3⟩:=(h.mem y).mp hy;rw[OU]at N;obtain⟨t,Q,t2⟩:=(L b B z).mp N;have A:=j b t B Q;obtain⟨H,J⟩:=(i t A).mpr #[b,B,U,b3,Q];exact#[t,A,t2,H,J]
   .rintro⟨t,A,rfl,H,J⟩;obtain⟨s,O,s2,s3,s4⟩:=(i t A).mp #[H,J];exact#[(s:Int),(h.mem _).mpr #[s,O,2,s2,s3],by rw[OU];exact(L s O _).mpr #[t,s4,2]]
  by_cases i:c=1
  .have e:iq c n p r=λs=>r (bI p s)+if s.testBit p=true then 1 else 0:=funext λs=>by unfold iq;rw[OP i]
   rw[e];refine G (r (2^n-1)+1) _ (λs t=>t=ba p s+2^p) ?_ (λt o=>M.inAll_bases top m q o) (λs t a e=> ?_) λs a z=> ?_
   .rw[qF m,Pq,OQ (),OP rfl]
   .rw[e,zY s (oB q a) p ()];exact aP (ny a m) ()
   .unfold i7;rw[OP i,OO (λz=>by have:=z.1;lia),Qx,Pu];exact#[λe=>#[7,e],λ⟨t,d,l⟩=>by rw[l,d]]
  .by_cases j:c=2/\p<n
   .have e:iq c n p r=λs=>r (f6 p s):=funext λs=>by unfold iq;rw[OO i,OP j]
    rw[e];refine G (r (2^n-1)) _ (λs t=>t=ba p s\/s.testBit p=true/\t=ba p s-2^p) ?_ (λt o=>M.beside_bases j.2 q o) (λs t a e=> ?_) λs a z=> ?_
    .rw[JZ j.2]
    .have:=ny a m;rcases e with e|⟨_,e⟩
     .rw[e];exact this
     .rw[e];exact Pd (Nat.sub_le _ _) this
    .unfold i7;rw[OO i,Pg,Pu];by_cases x:s.testBit p=true
     .rw[OP #[j.1,j.2,x],Pu];constructor
      .rintro(e|e)
       .exact#[_, .inl rfl,e]
       .exact#[_, .inr #[x,2],e]
      .rintro⟨t,d|⟨_,d⟩,l⟩
       .exact .inl (by rw[l,d])
       .exact .inr (by rw[l,d])
     .rw[OO (λz=>x z.2.2)];constructor
      .rintro(e|e)
       .exact#[_, .inl rfl,e]
       .cases e
      .rintro⟨t,d|⟨e0,_⟩,l⟩
       .exact .inl (by rw[l,d])
       .exact absurd e0 x
   .have e:iq c n p r=λs=>r (bI p s):=funext λs=>by unfold iq;rw[OO i,OO j]
    rw[e];refine G (r (2^n-1)) _ (λs t=>t=ba p s) ?_ (λt o=>M.loop_bases m q o) (λs t a e=>by rw[e];exact ny a m) λs a z=> ?_
    .rw[qF m]
    .unfold i7;rw[OO i,OO (λz=>j #[z.1,z.2.1]),Qx,Pu];exact#[λe=>#[7,e],λ⟨t,d,l⟩=>by rw[l,d]]
 .have:=mP (f:=λz:Int=>i7 c n p z.toNat) (k:=2) (λz=>AN _ _ _ _) ms;have:=h.few;rw[R7];lia
inductive J8(K:Frag)(vs:List V)(H:Hp)(Q:VK):Prop
 |mk(a:Addr) (ms:List Int) (n p:Nat) (kd:Int) (r:Nat->Nat) (_:vs=[.ref a, .int (n:Int), .int (p:Int), .int kd]) (_:SqL K H a (ms.map V.int)) (_:bX n r ms) (_:n<8) (_:p<=n) (_:∀q H',Same H H'->H q=none->H' q=some (.lst ((ms.flatMap λz=>i7 kd n p z.toNat).map V.int))->Q (.ref q) H'):J8 K vs H Q
def LR(K:Frag):Sp:=λvs H Q _=>J8 K vs H Q
def GH{p s:Nat}:((s:Int) /2^((p:Nat):Int).toNat*2^(((p:Nat):Int)+1).toNat+(s:Int) % (1*2^((p:Nat):Int).toNat):Int)=((ba p s:Nat):Int):=by
 have a:(((p:Nat):Int)+1).toNat=p+1:=()
 rw[c9,a,OU];unfold ba;have b:((s:Int) /2^p)=((s/2^p:Nat):Int):=#[5]
 have c:((2:Int)^(p+1))=((2^(p+1):Nat):Int):=#[5]
 rw[b,c,T4,Int.natCast_mul,Int.natCast_emod,P5]
def j4:aH ["_law_told","_law_many","_law_at","_law_kind_here","_law_found","_law_s","_law_wide"] ["_law_told","_law_many","_law_at","_law_kind_here"] (au jD):=aZ
def AZ(D:bC K mg "_law_put" jD ["_law_told","_law_many","_law_at","_law_kind_here"]):Cal P w K mg base 1 "_law_put" ["_law_told","_law_many","_law_at","_law_kind_here"] (LR K):=by
 refine D.cal j4 #[6] λf cdv A outer b6 H vs Q E hr h=> ?_;obtain⟨a,ms,n,p,b,r,rfl,U,O,n8,hp,k⟩:=h;refine#[_,(ae (wset 4 j4.nd (dU ah))
   (ae (wfor (wil K (pv 0)) (wname 5 j4.nd)
     (ae (wset 6 j4.nd (aw eu (aw dG (aw jL (pv 5) (pv 2)) (aw eu (pv 2) af)) (aw cF (pv 5) (aw dG af (pv 2)))))
     (ae (bA (wpt a7 (pv 3) af)
       (aj (dI (iz (K:=K) ⋯ Qr Qv Qw dz (pv 4) (aa (aw eu (pv 6) (aw dG af (pv 2))) ah))))
       (aj (dI (iz (K:=K) ⋯ Qr Qv Qw dz (pv 4) (aa (pv 6) ah)))))
     (aj (bA (PW.pt (eg (wpt a7 (pv 3) af) (eg (wpt pZ (pv 2) (pv 1)) (fP (wpt a7 (aw gB (aw jL (pv 5) (pv 2)) af) af)))))
       (aj (dI (iz (K:=K) ⋯ Qr Qv Qw dz (pv 4) (aa (aw fJ (pv 6) (aw dG af (pv 2))) ah))))
       aQ)))))
   (aj (aF (pv 4))))),6]
 refine#[Qj _,λq j=> ?_];have ax:Same H (upd H q (.lst [])):=Same.new j;have bp:upd H q (.lst []) q=some (.lst (((ms.take 0).flatMap λz=>i7 b n p z.toNat).map V.int)):=ak;generalize upd H q (.lst [])=H0 at*;have a5:∀i,((ms.take i).flatMap λz=>i7 b n p z.toNat).length<=512:=λi=>by have e:=mP (f:=λz:Int=>i7 b n p z.toNat) (k:=2) (λz=>AN _ _ _ _) (ms.take i);have o:=O.few;have t:=ou (show n<=8 by lia);rw[Pz]at e;lia
 refine#[7,a,2,#[_,ax.seq U],6];refine cQ (K:=K) (a:=a) (xs:=ms.map V.int) (λi v d=>∃l m,Same H d/\d q=some (.lst (((ms.take i).flatMap λz=>i7 b n p z.toNat).map V.int))/\v=[rW a,rT n,rT p,xS b,rW q,l,m]) #[none,none,ax,bp,2] (λi v d _ h=>by obtain⟨_,_,sm,_⟩:=h;exact sm.seq U) ?_ ?_
 .rintro i x v d hi ⟨l,m,u,c,rfl⟩;obtain⟨z,rfl,hz⟩:=bH hi;obtain⟨s,s1,rfl,s2,s3⟩:=(O.mem z).mp (O5 hz);dsimp only[br];refine#[778,(by show(0:Int)<=(p:Int);lia),6];have s8:s<256:=oN (show n<=8 by lia) s1;have e0:((s:Int) /2^((p:Nat):Int).toNat)=((s/2^p:Nat):Int):=by rw[OU];simp
  have e1:s/2^p<=s:=Nat.div_le_self _ _;have cp:Ov ((s:Int) /2^((p:Nat):Int).toNat) ((p:Int)+1):=#[99,by rw[e0,Int.natAbs_natCast];exact Pd e1 (Tf s8 ∅)];have pp:(0:Int)<1*2^((p:Nat):Int).toNat:=by rw[c9];exact Int.natCast_pos.mpr (two_pow_pos p)
  refine#[788,cp,778,#[994],8,pp,86];rw[GH];have w1:=kQ s (oB n8 s1) p ();have tk:(ms.take (i+1)).flatMap (λz=>i7 b n p z.toNat)=((ms.take i).flatMap λz=>i7 b n p z.toNat)++i7 b n p s:=by rw[Ql,hz,List.flatMap_append];simp
  have M:=a5 i;generalize hL:(ms.take i).flatMap (λz=>i7 b n p z.toNat)=L at*;unfold LO;dsimp only;refine gg (λaA H'=>Same H H'/\H' q=some (.lst ((L++if b=1 then [((ba p s+2^p:Nat):Int)]else [((ba p s:Nat):Int)]).map V.int))/\aA=[rW a,rT n,rT p,xS b,rW q,rT s,some (.int ((ba p s:Nat):Int))]) ?_ ?_
  .rintro aA J ⟨ar,B,rfl⟩;have l3:(L++if b=1 then [((ba p s+2^p:Nat):Int)]else [((ba p s:Nat):Int)]).length<=513:=by rw[Pl];split<;>simp<;>lia
   have G:∀ {A:Prop},¬(b=2/\p<n/\s.testBit p=true)->(∃l m,Same H J/\J q=some (.lst (((ms.take (i+1)).flatMap λz=>i7 b n p z.toNat).map V.int))/\[some (V.ref a),some (.int (n:Int)),some (.int (p:Int)),some (.int b),some (.ref q),some (.int (s:Int)),some (.int ((ba p s:Nat):Int))]=[rW a,rT n,rT p,xS b,rW q,l,m]):=λ{A} hn=>by refine#[11,ar,62];rw[B,tk];unfold i7;rw[OO hn,Qx]
   refine#[727,cP (λo=> ?_) λo=>G (A:=True) λz=>o (OQ (by rw[z.1]))];refine#[7787,cP (λt=> ?_) λt=>G (A:=True) λz=>t (OQ (by have:=z.2.1;lia))];refine#[778,(by show(0:Int)<=(p:Int);lia),8276];rw[AA];refine cP (λg=> ?_) λg=>G (A:=True) λz=>g z.2.2;have c2:b=2:=V.int.inj (O9 o);have c3:p<n:=by have:=O9 t;lia
   have wb:2^p<=ba p s:=by
    have N:s/2^p % 2=1:=by rw[gG]at g;exact O9 g
    have h6:1<=s/2^p:=Nat.one_le_iff_ne_zero.mpr λz=>by rw[z]at N;cases N
    have h7:=Nat.mul_le_mul_left (2^(p+1)) h6;unfold ba;rw[R7]at h7⊢;lia
   refine#[7, .inl #[21,SqL.of B],778,#[994],8,q,8,B,by rw[My];exact Pd l3 ∅,6];refine#[11,ar.upd j,62];rw[ak,tk,c9];unfold i7;have c1:¬b=1:=()
   rw[OO c1,OP (show b=2/\p<n/\s.testBit p=true from#[c2,c3,g]),PC,PC,PC,Int.natCast_sub wb,QI];rfl
  .intro ab;refine#[727,cP (λy=> ?_) λy=> ?_]
   .have e:b=1:=V.int.inj (O9 y);refine#[7, .inl #[21,SqL.of c],778,#[994],8,q,8,c,by rw[My];exact Pd M ∅,6];refine ab _ _ #[u.upd j,62];rw[ak,OP e,PC,c9];rfl
   .have e:¬b=1:=λz=>y (OQ (by rw[z]));refine#[7, .inl #[21,SqL.of c],7,q,8,c,by rw[My];exact Pd M ∅,6];refine ab _ _ #[u.upd j,62];rw[ak,OO e,PC];rfl
 .rintro v d ⟨l,m,u,c,rfl⟩;rw[My,Qo]at c;exact#[7,k q d u j c]
inductive Dw(n:Nat)(r:Nat->Nat):Nat->(Nat->Nat)->Prop where
 |base:Dw n r n r
 |step {m:Nat} {q:Nat->Nat} (kd:Int) (p:Nat):Dw n r m q->m<8->p<=m->Dw n r (m+1) (iq kd m p q)
inductive EH(K:Frag)(vs:List V)(H:Hp)(Q:VK):Prop
 |mk(c a:Addr) (cs ms:List Int) (n:Nat) (r:Nat->Nat) (_:vs=[.ref c, .int (n:Int), .ref a]) (_:SqL K H c (cs.map V.int)) (_:0<cs.length) (_:H a=some (.lst (ms.map V.int))) (_:bX n r ms) (_:∀(t a':Addr)(n':Nat)(r':Nat->Nat)(ms':List Int) H',Same H H'->H' t=some (.tup [.int (n':Int), .ref a'])->H' a'=some (.lst (ms'.map V.int))->bX n' r' ms'->Dw n r n' r'->Q (.ref t) H'):EH K vs H Q
def Hq(K:Frag):Sp:=λvs H Q _=>EH K vs H Q
def gQ:aH ["_law_cells","_law_many","_law_told","_law_turn","_law_k"] ["_law_cells","_law_many","_law_told"] (au iW):=aZ
def yM(T:Tb K mg)(D:bC K mg "_law_idle" iW ["_law_cells","_law_many","_law_told"])(J:Cal P w K mg base 1 "_law_put" ["_law_told","_law_many","_law_at","_law_kind_here"] (LR K)):Cal P w K mg base 2 "_law_idle" ["_law_cells","_law_many","_law_told"] (Hq K):=by
 refine D.cal gQ #[6] λf cdv A outer aD H vs Q E hr h=> ?_;obtain⟨c,a,cs,ms,n,r,rfl,O,c0,N,M,k⟩:=h;refine#[_,(ae (wset 3 gQ.nd (aw cF (aw jM (dg K (pv 0) af) af) af))
   (ae (wfor (wrng T.range_ (aw cF (pv 3) af)) (wname 4 gQ.nd)
     (aj (bA (wpt pZ (pv 1) af)
       (ae (wset 2 gQ.nd (wcal J hr (aa (pv 2) (aa (pv 1) (aa (aw cF (aw iI (pv 3) (aw eu af (aw jM af (pv 4)))) (aw eu (pv 1) af)) (aa (aw cF (aw iI (pv 3) (aw eu af (pv 4))) af) ah))))))
       (aj (wset 1 gQ.nd (aw eu (pv 1) af))))
       aQ)))
   (aj (aF (iy (aa (pv 1) (aa (pv 2) ah))))))),6]
 have L:atI (cs.map V.int) 0=some (.int (cs.getD 0 0)):=cS (j:=0) c0;refine#[7,c,3,O,L,8, .inr #[44],846];generalize ht:cs.getD 0 0*69621 % 65519=t;have t0:0<=t:=by rw[<-ht];exact QS _ ∅
 refine#[78476];have m0:0<=t % 3:=QS _ ∅;have m3:t % 3<3:=QL _ ∅;refine#[996];refine cZ (n:=(t % 3).toNat) (λi B s=>∃(d:Addr)(b:Nat)(g:Nat->Nat)(l:List Int)(z:Option V),Same H s/\s d=some (.lst (l.map V.int))/\bX b g l/\Dw n r b g/\B=[rW c,rT b,rW d,xS t,z]) #[a,n,r,ms,none,Same.refl _,N,M, .base,2] ?_ ?_
 .rintro i B s hi ⟨d,b,g,l,z,x,o,m,ex,rfl⟩;dsimp only[br];refine#[787,cP (λG=> ?_) λG=>#[d,b,g,l,_,x,o,m,ex,2]];have y:b<8:=by have:=O9 G;lia
  refine#[776];refine#[778, .inl #[44],88,#[99],6];have p0:0<=t/(3+8*(0+(i:Int))) % ((b:Int)+1):=QS _ ();have p1:t/(3+8*(0+(i:Int))) % ((b:Int)+1)<(b:Int)+1:=QL _ ();refine#[78896];generalize u:t/(3+8*(0+(i:Int))) % ((b:Int)+1)=p at*;refine#[7788,#[99],846];generalize t/(27+(0+(i:Int))) % 3=v;refine#[d,l,b,p.toNat,v,g,by rw[So p0];rfl,SqL.of o,m,y,9,λq H3 ax hq U=> ?_];refine#[78,q,b+1,iq v b p.toNat g,11,x.trans ax,U,rj m () y v, .step v p.toNat ex y (),2]
 .rintro B s ⟨d,b,g,l,z,x,o,m,ex,rfl⟩;refine#[77,OY (O4 2) ∅,λp u=> ?_];have np:d≠p:=λe=>by rw[<-e,o]at u;cases u
  exact k p d b g l _ (x.trans (Same.new u)) ak (by rw[aE np];exact o) m ex
inductive EE(K:Frag)(cN:Addr)(vs:List V)(H:Hp)(Q:VK):Prop
 |mk(c:Addr) (cs:List Int) (n:Nat) (_:vs=[.ref c, .int (n:Int)]) (_:SqL K H c (cs.map V.int)) (_:0<cs.length) (_:cs.length<=64) (_:n<=8) (_:∀(t q h:Addr)(p:Nat) (ts:List (Nat×Nat)) (ms:List Int) H',Same H H'->H' t=some (.tup [.ref q, .ref h])->H' q=some (.lst (ms.map V.int))->bX n (rkC (ts.map cR)) ms->Ou cN H' h n (rkC (ts.map cR))->ts.length=n->oY p ts->Q (.ref t) H'):EE K cN vs H Q
def Hl(K:Frag)(a:Addr):Sp:=λvs H Q _=>EE K a vs H Q
def GZ(ts:List (Nat×Nat)):(ts.map λt=>(t.2,t.1)).map cR=ts.map cR:=by rw[PJ];refine P4 λt _=> ?_;show 2^t.2^^^2^t.1=2^t.1^^^2^t.2;exact RE _ _
def Cm(p:Nat):gI (λ_=>true) (λi=>V.int (0+(i:Nat))) p=(Bh.start p).map V.int:=by rw[gA];unfold Bh.start;rw[Qq.mpr (λ_ _=>rfl)]
def A7(p:Nat)(ts:List (Nat×Nat))(s i:Nat):(uG p ts s i).length=p:=mE _ _ _
def GO(n:Nat)(r:Nat->Nat):List Nat:=(List.range (2^n)).filter λs=>decide (sz s=r (2^n-1))&&decide (r s=r (2^n-1))
def Ci(M:Mat n r):bX n r (cJ (GO n r)):=by
 refine#[M,λz=> ?_,6]
 .unfold GO;constructor
  .intro h;obtain⟨s,a,rfl⟩:=eC h;have a:=Pn.mp a;rw[Pc,O3,O3]at a;exact#[s,OS.mp a.1,2,a.2.1,a.2.2]
  .rintro⟨b,c,rfl,d,e⟩;exact OX.mpr #[b,Pn.mpr #[OS.mpr c,by rw[Pc,O3,O3];exact#[d,e]],2]
 .rw[cA];exact OY (Qy _ _) (by rw[O8];exact O4 _)
def cz:aH ["_law_cells","_law_many","_law_points","_law_ties","_law_k","_law_mixed","_law_levels","_law_s","_law_heads","_law_at","_law_one","_law_other","_law_told"] ["_law_cells","_law_many"] (au jE):=aZ
def A0(T:Tb K mg)(D:bC K mg "_law_net" jE ["_law_cells","_law_many"])(ab:Cal P w K mg base 1 "_law_size" ["_law_s"] ji)(ag:vE P w K mg base 2 "Net" cN ["self","n","points","ties"] (DO K cN)):Cal P w K mg base 4 "_law_net" ["_law_cells","_law_many"] (Hl K cN):=by
 refine D.cal cz #[6] λf cdv A outer e8 H vs Q E hr h=> ?_;obtain⟨c,cs,n,rfl,hc,c0,eP,n8,k⟩:=h;refine#[_,(ae (wset 2 cz.nd (aw eu af (aw cF (aw cF (aw jM (dg K (pv 0) af) af) af) af)))
   (ae (wset 3 cz.nd (dU ah))
   (ae (wfor (wrng T.range_ (pv 1)) (wname 4 cz.nd)
     (ae (wset 5 cz.nd (aw cF (aw jM (aw eu (dg K (pv 0) (aw cF (pv 4) (wlen K T.len_ (pv 0)))) (pv 4)) (aw eu af (aw jM (aw jM af (pv 4)) (pv 4)))) af))
     (aj (dI (iz (K:=K) ⋯ Qr Qv Qw dz (pv 3) (aa (iy (aa (aw cF (pv 5) (pv 2)) (aa (aw cF (aw iI (pv 5) af) (pv 2)) ah))) ah))))))
   (ae (wset 6 cz.nd (dU ah))
   (ae (wfor (wrng T.range_ (aw dG af (pv 1))) (wname 7 cz.nd)
     (ae (wls 8 cz.nd ["_law_k"] [] [] (wrng T.range_ (pv 2)) (wnC 0) cc (pv 0))
     (ae (wfor (wrng T.range_ (pv 1)) (wname 9 cz.nd)
       (aj (bA (wpt a7 (aw gB (aw jL (pv 7) (pv 9)) af) af)
         (ae (wset 10 cz.nd (dg K (pv 8) (i6 K (dg K (pv 3) (pv 9)) af)))
         (ae (wset 11 cz.nd (dg K (pv 8) (i6 K (dg K (pv 3) (pv 9)) af)))
         (aj (wls 8 cz.nd ["_law_head"] ["_law_one","_law_other"] [10,11] (wil K (pv 8)) (wnC 0) cc (mw (wpt a7 (pv 0) (pv 2)) (pv 1) (pv 0))))))
         aQ)))
     (aj (dI (iz (K:=K) ⋯ Qr Qv Qw dz (pv 6) (aa (aw fJ (pv 2) (eh vn ⋯ T.len_ T6 (aa (fQ (vm (K:=K) ⋯ ⋯) ⋯ T.set_ PyProof.Rows.boot_set (aa (pv 8) ah)) ah))) ah)))))))
   (ae (wls 12 cz.nd ["_law_s"] ["_law_levels"] [6] (wrng T.range_ (aw dG af (pv 1))) (wnC 0) (dH (PW.pt (eg (wpt a7 (wcal ab hr (aa (pv 0) ah)) (dg K (pv 1) (jg f9 af))) (fP (wpt a7 (dg K (pv 1) (pv 0)) (dg K (pv 1) (jg f9 af))))))) (pv 0))
   (aj (aF (iy (aa (pv 12) (aa (qP ag hr ∅ ⋯ (aa (pv 1) (aa (pv 2) (aa (pv 3) ah)))) ah))))))))))),6]
 have dx:atI (cs.map V.int) 0=some (.int (cs.getD 0 0)):=cS (j:=0) c0;refine#[7,c,3,hc,dx,8, .inr #[44],848486];obtain⟨p,hp,p0,p6⟩:∃p:Nat,(1+cs.getD 0 0*16807 % 65521 % 6:Int)=(p:Int)/\0<p/\p<=6:=by have h1:=QS (cs.getD 0 0*16807 % 65521) (show(6:Int)≠0 by decide);have h2:=QL (cs.getD 0 0*16807 % 65521) (show(0:Int)<6 by decide);exact#[(1+cs.getD 0 0*16807 % 65521 % 6).toNat,999]
 rw[hp];refine#[Qj _,λq d=> ?_];have ez:Same H (upd H q (.lst [])):=Same.new d;have eb:upd H q (.lst []) q=some (.lst []):=ak;generalize upd H q (.lst [])=H0 at*;refine#[7,(n:Int),2996];rw[OU];refine cZ (n:=n) (λi B a=>∃(ys:List V) (ts:List (Nat×Nat)) (v4 v5:Option V),Same H a/\a q=some (.lst ys)/\dO a ys ts/\ts.length=i/\oY p ts/\B=[rW c,rT n,rT p,rW q,v4,v5,none,none,none,none,none,none,none]) #[[],[],none,none,ez,eb,dO.nil,2,λt ht=>absurd ht Pe,2] ?_ ?_
 .rintro i B a hi ⟨ys,ts,v4,v5,cb,aD,hP,hl,O,rfl⟩;dsimp only[br];rw[Qk];have b7:=cb.seq hc;have il:(i:Int) % ((cs.map V.int).length:Nat)=((i % cs.length:Nat):Int):=by rw[My];rfl
  have ai:atI (cs.map V.int) ((i:Int) % ((cs.map V.int).length:Nat))=some (.int (cs.getD (i % cs.length) 0)):=by rw[il];exact cS (T9 _ c0)
  refine#[777,c,7, .inl b7,8,by rw[My];lia,c,3,b7,ai,786];have ej:i<8:=()
  refine#[78, .inl #[44],78, .inr #[99],88, .inr #[66],846]
  .have:(0:Int)<=31*(i:Int)*(i:Int):=Int.mul_nonneg () ();lia
  .have:31*(i:Int)*(i:Int)<=31*8*8:=Int.mul_le_mul () () () ∅;lia
  generalize ((cs.getD (i % cs.length) 0+(i:Int))*(48271+31*(i:Int)*(i:Int)) % 2147483629)=r;have pp:(0:Int)<(p:Int):=()
  have eG:ys.length=i:=hP.1.trans hl;refine#[7, .inl #[21,SqL.of aD],778,pp,78,#[44],78,pp,OY (O4 2) ∅,λu hu=> ?_];have m1:=QS r (Int.ne_of_gt pp);have m2:=QL r pp;have m3:=QS (r/1009) (Int.ne_of_gt pp);have m4:=QL (r/1009) pp;have J:Same a (upd a u (.tup [.int (r % (p:Int)), .int (r/1009 % (p:Int))])):=Same.new hu;refine#[q,8,J.at aD,by rw[eG];exact OW ej ∅,6];have nu:u≠q:=λe=>by rw[e,aD]at hu;cases hu
  refine#[ys++[.ref u],ts++[((r % (p:Int)).toNat,(r/1009 % (p:Int)).toNat)],11,(cb.trans J).upd d,ak,dO.snoc (hP.ts λb xs e=> ?_) ?_,by rw[Pl,hl];rfl,λt ht=> ?_,2]
  .have:=J.at e;rw[aE (kJ this (J.at aD) λz=>by cases z)];exact this
  .rw[aE nu,ak];show some (HO.tup [V.int (r % (p:Int)),V.int (r/1009 % (p:Int))])=some (HO.tup [V.int ((r % (p:Int)).toNat:Int),V.int ((r/1009 % (p:Int)).toNat:Int)]);rw[So m1,So m3]
  .rcases Pg.mp ht with h|h
   .exact O t h
   .rw[Pu.mp h];exact#[99]
 .rintro B a ⟨ys,ts,v4,v5,cb,aD,hP,hl,O,rfl⟩;have eo:oY p (ts.map λt=>(t.2,t.1)):=λt ht=>by obtain⟨t',dd,rfl⟩:=OX.mp ht;exact#[(O t' dd).2,(O t' dd).1]
  have lS:(ts.map λt=>(t.2,t.1)).length=n:=by rw[My];exact hl
  refine#[Qj _,λg c5=> ?_];have ey:Same a (upd a g (.lst [])):=Same.new c5;have ed:upd a g (.lst []) g=some (.lst (((List.range 0).map λs=>((rkC (ts.map cR) s:Nat):Int)).map V.int)):=ak;generalize upd a g (.lst [])=H3 at*;have p8:=ou n8;have e7:=two_pow_pos n;refine#[78,#[994],76];rw[c9];refine#[996];rw[OU];refine cZ (n:=2^n) (λs B H4=>∃v7 v8 v9 ar aA:Option V,Same a H4/\H4 g=some (.lst (((List.range s).map λs=>((rkC (ts.map cR) s:Nat):Int)).map V.int))/\B=[rW c,rT n,rT p,rW q,v4,v5,rW g,v7,v8,v9,ar,aA,none]) #[none,none,none,none,none,ey,ed,2] ?_ ?_
  .rintro s B H4 hs ⟨v7,v8,v9,ar,aA,bk,cp,rfl⟩;dsimp only[br];rw[Qk];refine#[7,(p:Int),2996];rw[OU];refine eD (λ_=>true) (λi=> .int (0+(i:Nat))) (OY p6 ∅) (λi vs H' R S hi hv sm hk=> ?_) λp1 H5 e1 b2 bx=> ?_
   .obtain⟨v,rfl⟩:=bq hv;have q:=hk [some (.int (0+(i:Nat)))] H' rfl (Same.refl _);rw[OP rfl]at q;simp only[br,iM,OP];exact#[7,q]
   rw[Cm]at bx;refine#[7,(n:Int),2996];rw[OU];refine cZ (n:=n) (λi B G=>∃(d:Addr)(v9 ar aA:Option V),Same H4 G/\G d=some (.lst ((uG p (ts.map λt=>(t.2,t.1)) s i).map V.int))/\B=[rW c,rT n,rT p,rW q,v4,v5,rW g,rT s,rW d,v9,ar,aA,none]) #[p1,v9,ar,aA,b2,bx,2] ?_ ?_
   .rintro i B G hi ⟨d,v9,ar,aA,L,N,rfl⟩;dsimp only[br];have ms:=FO p (ts.map λt=>(t.2,t.1)) s i;have ml:(uG p (ts.map λt=>(t.2,t.1)) s i).length=p:=A7 _ _ _ _;refine#[778,(by show(0:Int)<=0+(i:Int);lia),8276];rw[pq];refine cP (λhb=> ?_) λhb=> ?_
    .rw[OP hb]at ms;have cn:i<ts.length:=()
     obtain⟨ca,d3,b7⟩:=hP.2 i ts[i] (Po cn);have et:(ts.map λt=>(t.2,t.1)).getD i (0,0)=(ts[i].2,ts[i].1):=by simp[cn]
     have bt:=O ts[i] (Qt cn);rw[et]at ms;generalize ts[i]=t at*;have dp:=bk.trans L;have c3:=dp.at b7;have c6:=dp.at aD;have cK:atI ys (0+(i:Int))=some (.ref ca):=by rw[Qk];exact fv d3
     have t0:atI [V.int (t.1:Int),V.int (t.2:Int)] 0=some (.int t.1):=fv (j:=0) rfl;have t1:atI [V.int (t.1:Int),V.int (t.2:Int)] 1=some (.int t.2):=fv (j:=1) rfl;generalize uG p (ts.map λt=>(t.2,t.1)) s i=y at*;have ax:atI (y.map V.int) (t.1:Int)=some (.int (y.getD t.1 0)):=cS (by rw[ml];exact bt.1);have ay:atI (y.map V.int) (t.2:Int)=some (.int (y.getD t.2 0)):=cS (by rw[ml];exact bt.2);refine#[777,q,3,SqL.of c6,cK,ca,3,SqT.of c3,t0,d,3,SqL.of N,ax,6];refine#[777,q,3,SqL.of c6,cK,ca,3,SqT.of c3,t1,d,3,SqL.of N,ay,6];refine#[7,d,2,#[_,SqL.of N],6];refine bT (λx=>(λ_=>true) (bG x)) (λv=> .int ((λh:Int=>if h=y.getD t.2 0 then y.getD t.1 0 else h) (bG v))) (SqL.of N) (by rw[My,ml];exact OY p6 ∅) (λj v vs H' R S b0 hv sm hk=> ?_) λq2 H7 e3 ew b8=> ?_
     .obtain⟨v,rfl⟩:=bq hv;obtain⟨m,rfl,hm⟩:=bH b0;simp only[br,iM,OP];have q':=hk [some (.int m)] _ rfl (Same.refl _);rw[OP rfl]at q';replace q':R (V.int (if m=y.getD t.2 0 then y.getD t.1 0 else m)) _ _:=q';refine#[7727,cP (λhc=> ?_) λhc=> ?_]
      .rw[OP (V.int.inj (O9 hc))]at q';exact#[7,q']
      .rw[OO (λz=>hc (OQ (by rw[z])))]at q';exact#[7,q']
     replace b8:=b8.trans (PN (λl=>some (HO.lst l)) (bE (λ_=>true) (λh:Int=>if h=y.getD t.2 0 then y.getD t.1 0 else h) y));rw[Qq.mpr (λ_ _=>rfl)]at b8;refine#[q2,111,L.trans ew,62];rw[ms];exact b8
    .rw[OO hb]at ms;exact#[d,111,L,by rw[ms];exact N,2]
   .rintro B G ⟨d,v9,ar,aA,L,N,rfl⟩;have ml:(uG p (ts.map λt=>(t.2,t.1)) s n).length=p:=A7 _ _ _ _;have ea:=IZ (p:=p) (ts:=ts.map λt=>(t.2,t.1)) (s:=s) (by rw[lS];exact n8) (by rw[lS];exact hs);rw[lS]at ea;rw[ea]at N ml;have rk:=IP (s:=s) eo (by rw[lS];exact hs);rw[GZ]at rk;have dj:=L.at cp;refine#[7, .inl #[21,SqL.of dj],77,d,7,SqL.of N,by rw[ml];lia,λl d4=>#[l,17,ak,6]];rw[k4,ml];have dr:∀ {o:HO},Same G (upd G l o):=λ{o}=>Same.new d4;refine#[8,g,8,dr.at dj,by rw[My,My,O8];exact OW hs (OY p8 ∅),6];refine#[11111,(bk.trans (L.trans dr)).upd c5,62];rw[ak,QO,PC,PC];have e2:((rkC (ts.map cR) s:Nat):Int)=(p:Int) - (og (λi=>(wI p (ts.map λt=>(t.2,t.1)) s).getD i 0) p:Nat):=rk;show _=some (HO.lst (_++[V.int ((rkC (ts.map cR) s:Nat):Int)]));rw[e2]
  .rintro B H4 ⟨v7,v8,v9,ar,aA,bk,cp,rfl⟩;have M:Mat n (rkC (ts.map cR)):=qi _ n8;have ef:H4 g=some (.lst ((gM n (rkC (ts.map cR))).map V.int)):=cp;have dk:=wK (n:=n) (rkC (ts.map cR));refine#[78,#[994],76];rw[c9];refine#[996];rw[OU];refine eD (λs=>decide (sz s=rkC (ts.map cR) (2^n-1))&&decide (rkC (ts.map cR) s=rkC (ts.map cR) (2^n-1))) (λi=> .int (0+(i:Nat))) (OY p8 ∅) (λs vs H' R S hs hv sm hk=> ?_) λtq H5 e4 b2 bx=> ?_
   .obtain⟨v,rfl⟩:=bq hv;have U:=hk [some (.int (0+(s:Nat)))] H' rfl (Same.refl _);rw[Qk]at U⊢;have b0:=SqL.of (K:=K) (sm.at ef);refine#[7,(s:Int),2997,(1),2,g,3,b0,dk,276];rw[OU,aV];show if decide (sz s=rkC (ts.map cR) (2^n-1))=true then _ else _;by_cases c1:sz s=rkC (ts.map cR) (2^n-1)
    .rw[OQ c1,OP rfl];rw[OQ c1,P7]at U;refine#[77,g,3,b0,pf _ hs,7,(1),2,g,3,b0,dk,276];rw[aV];by_cases c2:rkC (ts.map cR) s=rkC (ts.map cR) (2^n-1)
     .rw[OQ c2,OP rfl]at U⊢;exact#[7,U]
     .rw[OR c2,OO Pf]at U⊢;exact U
    .rw[OR c1,OO Pf];rwa[OR c1,P6,OO Pf]at U
   rw[gA]at bx;have d5:H5 tq=some (.lst ((cJ (GO n (rkC (ts.map cR)))).map V.int)):=bx;have es:=cb.trans (bk.trans b2);have ec:=(bk.trans b2).at aD;have d1:=hP.ts (bk.trans b2).tups;refine#[7777,λpo b6 dm el e6=> ?_];have cu:Same H5 (upd (upd H5 b6 (.own po)) po (.ins cN b6 [])):=λb o e=>by rw[aE (aI e dm),aE (aI e el)];exact e
   refine#[po,b6,q,(n:Int),(p:Int),ys,ts,2,ak,SqL.of (cu.at ec),d1.ts cu.tups,by rw[hP.1,hl];lia,λtt zs G e5 ep d7 ei d2=> ?_];have L:Same H5 G:=λb o e=>ep b o (cu.at e) (aI e dm);refine#[2,OY (O4 2) ∅,λu hu=> ?_];have J:Same G (upd G u (.tup [.ref tq, .ref po])):=Same.new hu;refine k u tq po p ts _ _ (es.trans (L.trans J)) ak (J.at (L.at d5)) (Ci M) #[p,ts,#[b6,tt,zs,J.at d7,J.at ei,d2.ts J.tups],O,9,hl,λs hs=>IP O (by rw[hl];exact hs)] hl O
def t7(st i m:Nat):Nat:=(([0,1,3]:List Nat).take m).foldl (λs j=>s|||2^((i+j)*(1+st) % 7)) 0
def gw(r st i:Nat):Int:=if r=4 then 127- (t7 st i 3:Nat)else(t7 st i 3:Nat)
def Fg:∀st:Nat,st<6->(∀a∈(List.range 7).map (gw 3 st),∀b∈(List.range 7).map (gw 3 st),a≠b->(sz (a.toNat&&&b.toNat):Int)<=((3:Nat):Int) -2)/\∀a∈(List.range 7).map (gw 4 st),∀b∈(List.range 7).map (gw 4 st),a≠b->(sz (a.toNat&&&b.toNat):Int)<=((4:Nat):Int) -2:=#[9]
inductive xt(K:Frag)(vs:List V)(H:Hp)(Q:VK):Prop
 |mk(a:Addr) (cs:List Int) (k:Nat) (_:vs=[.ref a, .int (k:Int)]) (_:SqL K H a (cs.map V.int)) (_:0<cs.length) (_:∀p H' (st:Nat),st<6->Same H H'->H p=none->H' p=some (.lst ((dY 7 k ((List.range 7).map (gw k st))).map V.int))->Q (.ref p) H'):xt K vs H Q
def Ao(K:Frag):Sp:=λvs H Q _=>xt K vs H Q
def dq:aH ["_law_cells","_law_rank","_law_step","_law_lines","_law_k","_law_made","_law_j"] ["_law_cells","_law_rank"] (au gW):=aZ
def vQ(T:Tb K mg)(D:bC K mg "_law_round" gW ["_law_cells","_law_rank"])(ab:Cal P w K mg base 1 "_law_size" ["_law_s"] ji):Cal P w K mg base 2 "_law_round" ["_law_cells","_law_rank"] (Ao K):=by
 refine D.cal dq #[6] λf cdv A outer b4 H vs Q E hr h=> ?_;obtain⟨a,cs,r,rfl,ha,aB,k⟩:=h;refine#[_,(ae (wset 2 dq.nd (aw eu af (aw cF (aw cF (aw jM (dg K (pv 0) af) af) af) af)))
   (ae (wset 3 dq.nd (dU ah))
   (ae (wfor (wrng T.range_ af) (wname 4 dq.nd)
     (ae (wset 5 dq.nd af)
     (ae (wfor (wil K (dU (aa af (aa af (aa af ah))))) (wname 6 dq.nd)
       (aj (wset 5 dq.nd (aw ow (pv 5) (aw dG af (aw cF (aw jM (aw eu (pv 4) (pv 6)) (pv 2)) af))))))
     (ae (bA (wpt a7 (pv 1) af)
       (aj (wset 5 dq.nd (aw fJ af (pv 5))))
       aQ)
     (aj (dI (iz (K:=K) ⋯ Qr Qv Qw dz (pv 3) (aa (pv 5) ah))))))))
   (aj (aF (wlc ["_law_s"] ["_law_rank","_law_lines"] [1,3] (wrng T.range_ af) (wnC 0) (dH (PW.pt (eg (wpt a7 (wcal ab hr (aa (pv 0) ah)) (pv 1)) (fP (sM (ki (K:=K) ⋯) (pv 0) (pv 2) ⋯))))) (pv 0))))))),6]
 have ax:atI (cs.map V.int) 0=some (.int (cs.getD 0 0)):=cS (j:=0) aB;refine#[7,a,3,ha,ax,8, .inr #[44],8,(by show(0:Int)<65519;decide),8,(by show(0:Int)<6;decide),86];have s0:=QS (cs.getD 0 0*69621 % 65519) (show(6:Int)≠0 by decide);have s1:=QL (cs.getD 0 0*69621 % 65519) (show(0:Int)<6 by decide);(try dsimp only);generalize cs.getD 0 0*69621 % 65519 % 6=b3 at*;obtain⟨st,rfl⟩:=QM s0;refine#[Qj _,λq L=> ?_];have a4:upd H q (.lst []) q=some (.lst (((List.range 0).map (gw r st)).map V.int)):=ak;have bB:Same H (upd H q (.lst [])):=Same.new L;generalize upd H q (.lst [])=H1 at*;refine#[(7),244,cZ (n:=7) (λi d H'=>∃(x B c:Option V),Same H H'/\H' q=some (.lst (((List.range i).map (gw r st)).map V.int))/\d=[rW a,rT r,some (.int (1+(st:Int))),rW q,x,B,c])
  #[none,none,none,bB,a4,2] ?_ ?_]
 .rintro i d H' s ⟨x,B,c,bx,a3,rfl⟩;refine#[by show 3<=sizeLine;decide,λu hu=>#[u,2,#[_,SqL.of ak],6]];have bc:upd H' u (.lst [.int 0, .int 1, .int 3]) u=some (.lst (([0,1,3]:List Int).map V.int)):=ak;have O:Same H' (upd H' u (.lst [.int 0, .int 1, .int 3])):=Same.new hu;generalize upd H' u (.lst [.int 0, .int 1, .int 3])=H2 at*;refine cQ (K:=K) (a:=u) (xs:=([0,1,3]:List Int).map V.int) (λj d g=>g=H2/\∃c:Option V,d=[rW a,rT r,some (.int (1+(st:Int))),rW q,some (.int (0+(i:Nat))),some (.int (t7 st i j:Nat)),c]) #[2,c,2] (λj d g _ z=>by rw[z.1];exact SqL.of bc) ?_ ?_
  .rintro j y d g b ⟨rfl,c,rfl⟩;have hz:∃z:Nat,y= .int (z:Int)/\t7 st i (j+1)=t7 st i j|||2^((i+z)*(1+st) % 7):=by
    match j,b with
    |0,b=>cases b;exact#[0,22]
    |1,b=>cases b;exact#[(1),22]
    |2,b=>cases b;exact#[(3),22]
    |j+3,b=>simp at b
   obtain⟨z,rfl,ez⟩:=hz;have o:(0+(i:Int)+(z:Int))*(1+(st:Int)) % 7=(((i+z)*(1+st) % 7:Nat):Int):=by rw[Qk,<-T4,show(1+(st:Int))=((1+st:Nat):Int) by lia,<-Int.natCast_mul];lia
   have e7:(i+z)*(1+st) % 7<7:=T9 _ ∅;refine#[777878, .inr #[99],8,(by show(0:Int)<7;decide),8,#[by rw[o];lia,by rw[o];lia,4],82,some (.int (z:Int)),6];rw[o,nG,fY,ez];rfl
  .rintro d g ⟨rfl,c,rfl⟩;(try dsimp only);refine gg (λag H'=>H'=g/\ag=[rW a,rT r,some (.int (1+(st:Int))),rW q,some (.int (0+(i:Nat))),some (.int (gw r st i)),c]) ?_ ?_
   rotate_left
   .intro N;refine#[727,cP (λl=> ?_) λl=>N _ _ #[26]]
    .have t:r=4:=by have:=V.int.inj (O9 l);lia
     refine#[78,N _ _ #[26]];unfold gw;rw[OP t];rfl
    .have t:¬r=4:=λe=>l (by rw[e];rfl);unfold gw;rw[OO t];rfl
   rintro ag G ⟨rfl,rfl⟩;have M:=O.at a3;refine#[7, .inl #[21,SqL.of M],7,q,8,M,(by rw[My,My,O8];exact OW s ∅),6];exact#[111,(bx.trans O).upd L,by rw[ak,QO,PC,PC];rfl,2]
 .rintro d g ⟨x,B,c,U,a5,rfl⟩;(try dsimp only);generalize aD:(List.range 7).map (gw r st)=m at*;refine#[(128),2446];refine eD (n:=128) (o9 r m) (λi=> .int (0+(i:Nat))) ∅ (λi vs H' R S s hv sm hk=> ?_) λp4 G a0 bN J=> ?_
  .obtain⟨v,rfl⟩:=bq hv;have q:=hk [some (.int (0+(i:Nat)))] H' rfl (Same.refl _);have e:(0+(i:Int)).toNat=i:=()
   have b1:i<128:=s;refine#[77997276];rw[e,aV];unfold o9 at q;show if decide (sz i=r)=true then _ else _;by_cases p:sz i=r
   .rw[OQ p,P7]at q;rw[OQ p,OP rfl];refine#[7717, .inl (SqL.of (sm.at a5)),2,rg _,76];rw[Qk]at q⊢;rw[uR];have o:(!decide ((i:Int)∈m))=decide ((i:Int)∉m):=by by_cases h:(i:Int)∈m<;>simp[h]
    rw[o];show if decide ((i:Int)∉m)=true then _ else _;by_cases l:decide ((i:Int)∉m)=true
    .rw[OP l]at q⊢;exact#[7,q]
    .rw[OO l]at q⊢;exact q
   .rw[OR p,P6,OO ∅]at q;rw[OR p,OO ∅];exact q
  rw[gA]at J;exact k p4 G st () (U.trans bN) (U.free a0) (by rw[aD];exact J)
def za{n m:Nat}{ps:List Int}(e:n<=8)(d:m<=n)(h:ps=[]\/(0<m/\m<n/\Far m ps)):bX n (cI (dY n m ps)) (dY n m ps):=by
 obtain⟨M,a⟩:=Lq e d h;refine#[M,λz=> ?_,by unfold dY;rw[My];exact OY (Qy _ _) (by rw[O8];exact O4 _)];unfold dY;rw[OX];constructor
 .rintro⟨b,c,rfl⟩;obtain⟨g1,g2,g3⟩:=(a b).mp c;exact#[b,g1,2,g2.symm.trans g3,g3]
 .rintro⟨b,g1,rfl,g2,g3⟩;exact#[b,(a b).mpr #[g1,g3.trans g2.symm,g3],2]
def bX.ne(h:bX n r ms):ms≠[]:=by
 obtain⟨B,d⟩:=r6 h.mat;obtain⟨b,c,a⟩:=oR.mp d;exact λe=>by have:=(h.mem (B:Int)).mpr #[B,b,2,a,c.trans a];rw[e]at this;cases this
def bX.bd(h:bX n r ms):∀m∈ms,0<=m/\m<256:=λm c=>by obtain⟨b,a,rfl,_⟩:=(h.mem m).mp c;have:=oN h.mat.n8 a;lia
def bX.rk(h:bX n r ms)(hl:∀z,z∈ls↔z∈ms)(f:s<2^n):cI ls s=r s:=h.mat.qu (λz=>by
 rw[hl,h.mem];constructor
 .rintro⟨b,c,d,e,a⟩;exact#[b,c,d,a.trans e.symm,a]
 .rintro⟨b,c,d,e,a⟩;exact#[b,c,d,e.symm.trans a,a]) f
def DE:List Nat:=[4,5,6,5,6,7,3,8,2,1,0]
def Mo:∀j:Nat,j<11->([4,5,6,5,6,7,3,8,2,1,0]:List Int)[j]?=some ((DE.getD j 0:Nat):Int):=∅
def Mm:∀j:Nat,j<11->DE.getD j 0<=8:=∅
def CB(n:Nat)(r:Nat->Nat):Prop:=Bi2 n r->Cl3 n r
def Dc{n m:Nat}{ps:List Int}(k:n<=8)(j:m<=n)(h:ps=[]\/(0<m/\m<n/\Far m ps)):CB n (cI (dY n m ps)):=λp=>by
 have B:=za k j h;have M:=B.mat;have o:cI (dY n m ps) (2^n-1)=m:=by
  obtain⟨s,a,c,d⟩:=DB k j h;obtain⟨b,_,e,g1,_⟩:=(B.mem (s:Int)).mp (qU.mpr #[s,a,c,d,2]);have:s=b:=()
  subst this;lia
 have l:∀S,Sub S (2^n-1)->sz S=m->¬cI (dY n m ps) S=m->(S:Int)∈ps:=λS f i g=>Pb λz=>g (by
  obtain⟨b,_,e,_,g2⟩:=(B.mem (S:Int)).mp (qU.mpr #[S,f.lt (aJ n),i,z,2]);have:S=b:=()
  subst this;lia)
 have:=vZ M o p λS T f q i t g r ne=>by
  have a:=l S f i g;have c:=l T q t r;rcases h with rfl|⟨_,_,d⟩
  .cases a
  .have:=d _ a _ c (λe=>ne ());rw[OU,OU]at this;lia
 rw[Cl3,o];exact this
def Ls(M:Mat n r)(f:p<=n)(d:n<8)(a:Int)(h:Cl3 n r):Cl3 (n+1) (iq a n p r):=by
 by_cases b:a=1
 .have e:iq a n p r=λs=>r (bI p s)+if s.testBit p=true then 1 else 0:=funext λs=>by unfold iq;rw[OP b]
  rw[e];exact Ny M f d h
 .by_cases c:a=2/\p<n
  .have e:iq a n p r=λs=>r (f6 p s):=funext λs=>by unfold iq;rw[OO b,OP c]
   rw[e];exact LB M c.2 d h
  .have e:iq a n p r=λs=>r (bI p s):=funext λs=>by unfold iq;rw[OO b,OO c]
   rw[e];exact JT M f d h
def JC(g:n<8)(d:p<=n)(f:s<2^n)(a:Int):iq a n p r (ba p s)=r s:=by
 have e:(ba p s).testBit p=false:=by rw[eX,OO (QN _),OP rfl]
 unfold iq;by_cases b:a=1
 .rw[OP b,e,gF];rfl
 .rw[OO b];by_cases c:a=2/\p<n
  .rw[OP c,BK g d f]
  .rw[OO c,gF]
def Dd(M:Mat n r)(a:p<=n)(d:n<8)(c:Int)(h:CB n r):CB (n+1) (iq c n p r):=λb=>Ls M a d c (h (JY d a (λs e=>JC d a e c) b))
def Dw.cb(e:Dw n r m q)(M:Mat n r)(h:CB n r):Mat m q/\CB m q:=by
 induction e with
 |base=>exact#[M,h]
 |step c p _ m8 b a=>exact#[Ek a.1 b m8 c,Dd a.1 b m8 c a.2]
def bX.dual{ms:List Int}(h:bX n r ms):bX n (ir n r) (ms.map λz=>((2^n:Nat):Int) -1-z):=by
 have M:=h.mat;have u:=two_pow_pos n;have k:=M.aX (aJ n);have j:∀b,b<2^n->ao (2^n-1) b=2^n-1-b:=λb m=>O2 λt=>by rw[cD,show 2^n-1-b=2^n- (b+1) by lia,Nat.testBit_two_pow_sub_succ m]
 have le:=M.jQ (2^n-1) (aJ n);have eq:∀S,S<2^n->((sz S=ir n r (2^n-1)/\ir n r S=ir n r (2^n-1))↔sz (ao (2^n-1) S)=r (2^n-1)/\r (ao (2^n-1) S)=r (2^n-1)):=λS i=>by
  have p:=cj k (bO i);have q:=M.mono (cB (2^n-1) S) (aJ n);have s:=M.de i;have l:=M.de (aJ n);have:ao (2^n-1) (2^n-1)=0:=O2 λt=>by rw[aG,Pw];simp
  rw[this,M.zero]at l;lia
 refine#[M.dual,λz=> ?_,by rw[My];exact h.few];rw[OX];constructor
 .rintro⟨y,o,rfl⟩;obtain⟨b,a,rfl,c,d⟩:=(h.mem y).mp o;have e:ao (2^n-1) (2^n-1-b)=b:=by rw[j _ ()];lia
  obtain⟨f,g⟩:=(eq (2^n-1-b) ()).mpr (by rw[e];exact#[c,d]);exact#[2^n-1-b,99,f,g]
 .rintro⟨b,a,rfl,c,d⟩;obtain⟨f,g⟩:=(eq b a).mp #[c,d];refine#[((ao (2^n-1) b:Nat):Int),(h.mem _).mpr #[_,(cB _ _).lt (aJ n),2,f,g],6];rw[j b a];lia
def NF:∀s:Nat,s<128->ba 7 s=s:=#[9]
def bX.seven{ms:List Int}(h:bX 7 r ms):bX 8 (iq 0 7 7 r) ms/\bX 8 (iq 1 7 7 r) (ms.map λz=>z+128):=by
 have w:∀z∈ms,((ba 7 z.toNat:Nat):Int)=z:=λz g=>by obtain⟨b,f,rfl,_⟩:=(h.mem z).mp g;rw[OU,NF b f]
 have d:=rj h (p:=7) ∅ ∅ 0;have e:=rj h (p:=7) ∅ ∅ 1;have f0:ms.flatMap (λz=>i7 0 7 7 z.toNat)=ms:=by
  have:∀l:List Int,(∀z∈l,z∈ms)->l.flatMap (λz=>i7 0 7 7 z.toNat)=l:=λl=>by
   induction l with
   |nil=>intro _;rfl
   |cons z l c=>
    intro hl;rw[SM,c λy a=>hl y (OZ _ a)];have:=w z (hl z O6);show((ba 7 z.toNat:Nat):Int)::l=_;rw[this]
  exact this ms λ_ h=>h
 have f1:ms.flatMap (λz=>i7 1 7 7 z.toNat)=ms.map λz=>z+128:=by
  have:∀l:List Int,(∀z∈l,z∈ms)->l.flatMap (λz=>i7 1 7 7 z.toNat)=l.map λz=>z+128:=λl=>by
   induction l with
   |nil=>intro _;rfl
   |cons z l c=>
    intro hl;rw[SM,c λy a=>hl y (OZ _ a)];have:=w z (hl z O6);show((ba 7 z.toNat+2^7:Nat):Int)::_=_;rw[T4,this];rfl
  exact this ms λ_ h=>h
 rw[f0]at d;rw[f1]at e;exact#[d,e]
def fD:aH ["_law_script","_law_cells","_law_many","_law_told","_law_house","_law_turn","_law_levels","_law_found","_law_row"] ["_law_script"] (au eZ):=aZ
def NR:PSp (zf CX0 P w K mg base ["_law_script","_law_cells","_law_many","_law_told","_law_house","_law_turn","_law_levels","_law_found","_law_row"] "law" (au eZ) f cdv A outer s H E).nox ((bF eZ).getD 1 (.Pass #[0,0,0,0]))
  (Cj (tOp (Ig K) (NK (LQ [4,5,6,5,6,7,3,8,2,1,0])) (tOp (rI (λ_ j=>0<j) λi j=> .int (i % j)) (tOp (Ig K) (Mr 1) (tC (.int 0))) (tC (.int 11)))) (br 2)):=by
 have a:rE (De (Dq (HQ ((bF eZ).getD 1 (.Pass #[0,0,0,0]))))) [4,5,6,5,6,7,3,8,2,1,0]:=ql #[9];obtain⟨p1,p2,p3,p4,p5,p6,p7,p8,d,b,c,e⟩:∃(p1 p2 p3 p4 p5 p6 p7 p8 d:Pos)(b c:Nat),(bF eZ).getD 1 (.Pass ⟨0,0,0,0⟩)= .Assign [.Name "_law_many" p1] (.Subscript (.List (De (Dq (HQ ((bF eZ).getD 1 (.Pass ⟨0,0,0,0⟩))))) p2) (.BinOp (.Subscript (.Name "_law_cells" p3) (.Constant (.int 0) b p4) p5) .Mod (.Constant (.int 11) c p6) p7) p8) d:=#[11111111117];generalize De (Dq (HQ ((bF eZ).getD 1 (.Pass #[0,0,0,0]))))=g at a e;rw[e];refine#[?_];exact Ij (i:=2) fD.nd ⋯ (by first|exact Ta rfl|exact Or.inr rfl) (D9 (uO (K:=K) ⋯) (dU (Fz a)) (aw cF (D9 (uO (K:=K) ⋯) (pv 1) af (λ_ _=>rfl)) af) (λ_ _=>rfl))
def OJ:bF eZ=(bF eZ).getD 0 (.Pass #[0,0,0,0])::(bF eZ).getD 1 (.Pass #[0,0,0,0])::(bF eZ).drop 2:=⋯
def OI:∃a,a=(bF eZ).getD 1 (.Pass #[0,0,0,0])/\bF eZ=(bF eZ).getD 0 (.Pass #[0,0,0,0])::a::(bF eZ).drop 2:=#[7,OJ]
def MY(F:Fun K "law" "law" eZ f fd)(T:Tb K mg)(a0:vE P w K mg base 2 "Listed" M ["self","n","some"] (DP K M))(ay:Cal P w K mg base 2 "_law_far" ["_law_cells","_law_many","_law_rank"] (LU K))(ai:Cal P w K mg base 2 "_law_ranks" ["_law_many","_law_told"] (Ar K))
  (a3:vE P w K mg base 6 "Other" cO ["self","house"] (tP (mH M cN) cO)) (aD:Cal P w K mg base 4 "_law_net" ["_law_cells","_law_many"] (Hl K cN)) (ar:Cal P w K mg base 2 "_law_round" ["_law_cells","_law_rank"] (Ao K)) (ax:Cal P w K mg base 2 "_law_idle" ["_law_cells","_law_many","_law_told"] (Hq K)) (ag:Cal P w K mg base 14 "over_all" ["house"] (wy (hsO (mH M cN) cO))) (ab:Cal P w K mg base 4 "_law_right" ["_law_found","_law_many","_law_levels"] (DG K)):lr P w K mg base CX0 15 f fd ["_law_script"] (DM K):=by
 refine F.ok fD #[6] λcdv A outer mI H vs Q E G h=> ?_;obtain⟨a,ns,rfl,ha,hn,k⟩:=h;have hp:=NR (P:=P) (w:=w) (K:=K) (mg:=mg) (base:=base) (f:=f) (cdv:=cdv) (A:=A) (outer:=outer) (s:=mI) (H:=H) (E:=E);obtain⟨nT,h1,iv⟩:=OI;rw[<-h1]at hp;rw[iv];refine#[_,(ae (wset 1 fD.nd (aw qT (mr (lP (K:=K) ⋯) (pv 0) pU (pT af)) (dU (aa af ah))))
   (ae (hp.h)
   (ae (wset 3 fD.nd (wcal ay G (aa (pv 1) (aa (pv 2) (aa (aw cF (aw iI (dg K (pv 1) af) af) (aw eu (pv 2) af)) ah)))))
   (ae (bA (PW.pt (eg (wpt qb (pv 2) af) (fP (wpt a7 (aw cF (aw iI (dg K (pv 1) af) af) af) af))))
     (ae (wset 3 fD.nd (wcal ar G (aa (pv 1) (aa (aw eu af (aw cF (aw iI (dg K (pv 1) af) af) af)) ah))))
     (aj (bA (PW.pt (eg (wpt a7 (pv 2) af) (fP (wpt a7 (aw cF (aw iI (dg K (pv 1) af) af) af) af))))
       (aj (wls 3 fD.nd ["_law_s"] [] [] (wil K (pv 3)) (wnC 0) cc (aw eu (pv 0) af)))
       aQ)))
     aQ)
   (ae (Ik (wcal ax G (aa (pv 1) (aa (pv 2) (aa (pv 3) ah)))) (nP (K:=K) (n:=2) ⋯ ⋯ (fb (wname 2 fD.nd) (fb (wname 3 fD.nd) nO))))
   (ae (wset 4 fD.nd (qP a0 G ∅ ⋯ (aa (pv 2) (aa (aw qT (KQ (K:=K) ⋯ (pv 3) (jg f9 af)) (mr (lP (K:=K) ⋯) (pv 3) pU (pT af))) ah))))
   (ae (wset 5 fD.nd (aw cF (dg K (pv 1) (aw fJ (jg f9 af) (aw iI (wlen K T.len_ (pv 1)) af))) af))
   (ae (bA (wpt qb (pv 5) af)
     (aj (Ik (wcal aD G (aa (pv 1) (aa (pv 2) ah))) (nP (K:=K) (n:=2) ⋯ ⋯ (fb (wname 3 fD.nd) (fb (wname 4 fD.nd) nO)))))
     aQ)
   (ae (bA (wpt a7 (pv 5) af)
     (ae (wls 3 fD.nd ["_law_s"] ["_law_many"] [2] (wil K (pv 3)) (wnC 0) cc (aw fJ (aw fJ (aw dG af (pv 1)) af) (pv 0)))
     (aj (wset 4 fD.nd (qP a3 G ∅ ⋯ (aa (pv 4) ah)))))
     aQ)
   (ae (wset 6 fD.nd (wcal ai G (aa (pv 2) (aa (pv 3) ah))))
   (ae (wset 7 fD.nd (wcal ag G (aa (pv 4) ah)))
   (ae (bA (oO (fj (wcal ab G (aa (pv 7) (aa (pv 2) (aa (pv 6) ah))))))
     (aj (aF iY))
     aQ)
   (ae (bA (wpt a7 (i6 K (pv 7) af) gd)
     (ae (wfor (wil K (i6 K (pv 7) af)) (wname 8 fD.nd)
       (aj (dI (iz (K:=K) ⋯ Qr Qv Qw dz (pv 8) (aa af ah)))))
     (aj (aF (wcal ab G (aa (wcal ag G (aa (pv 4) ah)) (aa (pv 2) (aa (pv 6) ah)))))))
     aQ)
   (aj (aF iY))))))))))))))),6]
 refine j3 λm g=> ?_;refine#[77,a,7,ha,λp1 nu=> ?_];rw[JN ∅];refine#[by show 1<=sizeLine;decide,λp2 ks=> ?_];have h1:upd H p1 (.lst ((ns.take (63:Int).toNat).map V.int)) p1=some (.lst ((ns.take (63:Int).toNat).map V.int)):=ak;refine#[p1,p2,8,(by rw[aE (aI h1 ks)];exact h1),ak,6,λp3 nv=> ?_]
 .rw[My,Pz];show min _ _+1<=sizeLine;exact OY (show min (63:Int).toNat ns.length+1<=64 by lia) ∅
 generalize upd (upd H p1 (.lst ((ns.take (63:Int).toNat).map V.int))) p2 (.lst [V.int 0])=H1 at*;have ec:(ns.take (63:Int).toNat).map V.int++[V.int 0]=(ns.take (63:Int).toNat++[0]).map V.int:=by rw[PC];rfl
 rw[ec];have fs:(ns.take (63:Int).toNat++[0]).length<=64:=by rw[Pl,Pz];show min _ _+1<=64;lia
 have cp:0<(ns.take (63:Int).toNat++[0]).length:=by rw[Pl];show 0<_+1;lia
 generalize ns.take (63:Int).toNat++[0]=cs at*;have fw:upd H1 p3 (.lst (cs.map V.int)) p3=some (.lst (cs.map V.int)):=ak;generalize upd H1 p3 (.lst (cs.map V.int))=u at*;have b5:atI (cs.map V.int) 0=some (.int (cs.getD 0 0)):=cS (j:=0) cp;generalize cs.getD 0 0=c at*;refine g [rW a,rW p3,none,none,none,none,none,none,none] _ ?_;clear g m;refine j3 λm g=> ?_;refine#[by rw[My];decide,λpd ky=> ?_];have me:Same u (upd u pd (.lst (List.map V.int [4,5,6,5,6,7,3,8,2,1,0]))):=Same.new ky;have fy:upd u pd (.lst (List.map V.int [4,5,6,5,6,7,3,8,2,1,0])) pd=some (.lst (List.map V.int [4,5,6,5,6,7,3,8,2,1,0])):=ak;have dd:=me.at fw;obtain⟨j,hj⟩:=QM (show 0<=c % 11 from QS _ ∅);have fu:j<11:=by have:=QL c (show(0:Int)<11 by decide);lia
 have eW:atI (List.map V.int [4,5,6,5,6,7,3,8,2,1,0]) (c % 11)=some (.int ((DE.getD j 0:Nat):Int)):=by rw[hj];exact mD (Mo j fu)
 have d7:=Mm j fu;generalize DE.getD j 0=n at*;refine#[7,p3,3,SqL.of dd,b5,8,(by show(0:Int)<11;decide),pd,3,SqL.of fy,eW,6];generalize upd u pd (.lst (List.map V.int [4,5,6,5,6,7,3,8,2,1,0]))=H3 at*;refine g [rW a,rW p3,rT n,none,none,none,none,none,none] _ ?_;clear g m;refine j3 λm g=> ?_;refine#[777,p3,3,SqL.of dd,b5,8,#[44],788,(by show(0:Int)<(n:Int)+1;lia),6];obtain⟨r0,k2⟩:=QM (show 0<=c/11 % ((n:Int)+1)from QS _ ());have eb:r0<=n:=by have:=QL (c/11) (show(0:Int)<(n:Int)+1 by lia);lia
 (try dsimp only);rw[k2];refine#[p3,cs,n,r0,2,SqL.of dd,cp,fs,d7,eb,λpt H4 ps lT nx d5 d1=> ?_];have B0:=za d7 eb d1;have C0:=Dc d7 eb d1;generalize dY n r0 ps=m0 at*;generalize cI m0=rB at*;have cq:=lT.at dd;clear eW fy fw d1;refine g [rW a,rW p3,rT n,rW pt,none,none,none,none,none] _ ?_;clear g m;refine gg (λbu H'=>∃(a':Addr)(L:Nat->Nat)(bk:List Int),Same H4 H'/\H' a'=some (.lst (bk.map V.int))/\bX n L bk/\CB n L/\bu=[rW a,rW p3,rT n,rW a',none,none,none,none,none]) ?_ λJ=> ?_
 rotate_left
 .refine#[787,cP (λh6=> ?_) λ_=>gE (J _ _ #[pt,rB,m0,Same.refl _,d5,B0,C0,2])];have n6:6<n:=by have:=O9 h6;lia
  refine#[7,p3,3,SqL.of cq,b5,8,#[44],8427,cP (λ_=> ?_) λ_=>J _ _ #[pt,rB,m0,Same.refl _,d5,B0,C0,2]];refine#[77,p3,3,SqL.of cq,b5,8,#[44],8486];obtain⟨r,kc,i3⟩:∃r:Nat,3+c/176 % 2=(r:Int)/\(r=3\/r=4):=by
   rcases Int.emod_two_eq (c/176)with h|h
   .exact#[(3),by rw[h];rfl, .inl rfl]
   .exact#[(4),by rw[h];rfl, .inr rfl]
  dsimp only;rw[kc];refine#[p3,cs,r,2,SqL.of cq,cp,λq HC st k8 bt hq p=> ?_];have F7:bX 7 (cI (dY 7 r ((List.range 7).map (gw r st)))) (dY 7 r ((List.range 7).map (gw r st)))/\CB 7 (cI (dY 7 r ((List.range 7).map (gw r st)))):=by
   have rf:=Fg st k8;rcases i3 with rfl|rfl
   .exact#[za ∅ ∅ (.inr #[44,rf.1]),Dc ∅ ∅ (.inr #[44,rf.1])]
   .exact#[za ∅ ∅ (.inr #[44,rf.2]),Dc ∅ ∅ (.inr #[44,rf.2])]
  generalize dY 7 r ((List.range 7).map (gw r st))=m7 at*;generalize cI m7=r7 at*;obtain⟨B7,C7⟩:=F7;have kk:=bt.at cq;refine#[727,cP (λh8=> ?_) λh8=>gE ?_]
  .have e8:n=8:=by have:=V.int.inj (O9 h8);lia
   subst e8;obtain⟨hE,hF⟩:=B7.seven;refine#[7,p3,3,SqL.of kk,b5,8,#[44],8427,cP (λ_=> ?_) λ_=>J _ _ #[q,_,m7,bt,p,hE,Dd B7.mat ∅ ∅ 0 C7,2]];have f7:=B7.few;refine#[7,q,2,#[_,SqL.of p],6];refine bT (λx=>(λ_=>true) (bG x)) (λx=> .int ((λz:Int=>z+128) (bG x))) (SqL.of p) (by rw[My];exact OY (show m7.length<=256 by lia) ∅) (λi x vs H' R S hx hv sm hk=> ?_) λq2 H' nz sm hl=> ?_
   .obtain⟨v,rfl⟩:=bq hv;obtain⟨z,rfl,N⟩:=bH hx;simp only[br,iM,OP];have q':=hk [some (.int z)] _ rfl (Same.refl _);rw[OP rfl]at q';exact#[78,q']
   replace hl:=hl.trans (PN (λl=>some (HO.lst l)) (bE (λ_=>true) (λz:Int=>z+128) m7));rw[Qq.mpr (λ_ _=>rfl)]at hl;exact J _ _ #[q2,11,bt.trans sm,hl,hF,Dd B7.mat ∅ ∅ 1 C7,2]
  .have e7:n=7:=by have:¬n=8:=λe=>h8 (OQ (by rw[e];rfl));lia
   subst e7;exact J _ _ #[q,r7,m7,bt,p,B7,C7,2]
 rintro bu HC ⟨aC,rC,mC,bt,fm,BC,CC,rfl⟩;have p:=bt.at cq;clear b5 d5 B0 C0;refine j3 λm g=> ?_;refine#[777,p3,aC,cs,mC,n,rC,2,SqL.of p,cp,fm,BC,λti a5 d r5 m5 H5 lW lg c5 B5 e5=> ?_];have C5:=(e5.cb BC.mat CC).2;have ct:=B5.mat.n8;refine#[ti,7,SqT.of lg,21786];have ke:=lW.at p;clear fm BC CC e5;refine g [rW a,rW p3,rT d,rW a5,none,none,none,none,none] _ ?_;clear g m;refine j3 λm g=> ?_;refine#[77,(1),22,a5,7,SqL.of c5,λp6 ku=> ?_];have hg:Same H5 (upd H5 p6 (.lst (m5.map V.int).reverse)):=Same.new ku;have h6:upd H5 p6 (.lst (m5.map V.int).reverse) p6=some (.lst (m5.reverse.map V.int)):=by rw[ak,List.map_reverse]
 generalize upd H5 p6 (.lst (m5.map V.int).reverse)=H6 at*;refine#[77,a5,7,SqL.of (hg.at c5),λp7 kv=> ?_];rw[JN ∅];have hh:Same H6 (upd H6 p7 (.lst ((m5.take (1:Int).toNat).map V.int))):=Same.new kv;have h7:upd H6 p7 (.lst ((m5.take (1:Int).toNat).map V.int)) p7=some (.lst ((m5.take (1:Int).toNat).map V.int)):=ak;generalize upd H6 p7 (.lst ((m5.take (1:Int).toNat).map V.int))=H7 at*;have f5:=B5.few;have i2:=ou ct;refine#[p6,p7,8,hh.at h6,h7,6,λp8 kx=> ?_]
 .rw[My,My,Sj,Pz];exact OY (show m5.length+min (1:Int).toNat m5.length<=257 by lia) ∅
 have l1:Same H7 (upd H7 p8 (.lst (m5.reverse.map V.int++(m5.take (1:Int).toNat).map V.int))):=Same.new kx;have h8:upd H7 p8 (.lst (m5.reverse.map V.int++(m5.take (1:Int).toNat).map V.int)) p8=some (.lst ((m5.reverse++m5.take (1:Int).toNat).map V.int)):=by rw[ak,PC]
 generalize upd H7 p8 (.lst (m5.reverse.map V.int++(m5.take (1:Int).toNat).map V.int))=H8 at*;have eo:∀z,z∈m5.reverse++m5.take (1:Int).toNat↔z∈m5:=λz=>by rw[Pg,List.mem_reverse];exact#[λh=>by rcases h with h|h;exact h;exact Ry h, .inl]
 have f3:(m5.reverse++m5.take (1:Int).toNat).length<=1000:=by rw[Pl,Sj,Pz];lia
 generalize m5.reverse++m5.take (1:Int).toNat=l5 at*;intro O bB bS cu lC;have ey:Same H8 (upd (upd H8 bB (.own O)) O (.ins M bB [])):=λb o e=>by rw[aE (aI e bS),aE (aI e cu)];exact e
 refine#[O,bB,p8,d,l5,2,ak,SqL.of (ey.at h8),f3,λtt H9 bN dj ea lk=>#[26]];have mb:Same H8 H9:=λb o e=>dj b o (ey.at e) (aI e bS);have gN:=hg.trans (hh.trans (l1.trans mb));have fl:=gN.at c5;have d6:=gN.at ke;have fa:(mH M cN).ho H9 O d r5:= .inl #[l5,#[bB,tt,ea,lk,f3],λe=>B5.ne (Tj.mpr λz N=>by have:=(eo z).mpr N;rw[e]at this;cases this),λz N=>B5.bd z ((eo z).mp N),λs U=>(B5.rk eo U).symm];clear ey dj bS cu h8 h7 h6;refine g [rW a,rW p3,rT d,rW a5,rW O,none,none,none,none] _ ?_;clear g m;refine j3 λm g=> ?_;have e0:atI (cs.map V.int) (-1- ((cs.map V.int).length:Nat) /2)=some (.int (cs.getD (-1- (cs.length:Int) /2+cs.length).toNat 0)):=by rw[My];exact Dr () ()
 refine#[7,(1),27,p3,7, .inl (SqL.of d6),8,#[44],8,p3,3,SqL.of d6,e0,846];generalize cs.getD (-1- (cs.length:Int) /2+cs.length).toNat 0 % 4=turn;refine g [rW a,rW p3,rT d,rW a5,rW O,xS turn,none,none,none] _ ?_;clear g m e0;refine gg (λbu H'=>∃(a' h':Addr)(L:Nat->Nat)(bk:List Int),Same H9 H'/\H' a'=some (.lst (bk.map V.int))/\bX d L bk/\(mH M cN).ho H' h' d L/\CB d L/\(1<turn->Tern d L)/\bu=[rW a,rW p3,rT d,rW a',rW h',xS turn,none,none,none]) ?_ λJ=> ?_
 rotate_left
 .refine#[787,cP (λ_=> ?_) λhc=>J _ _ #[a5,O,r5,m5,Same.refl _,fl,B5,fa,C5,λh=>absurd (OQ h) hc,2]];refine#[77,p3,cs,d,2,SqL.of d6,cp,fs,ct,λtn qn kl pn mu lz Hn mi lj k0 Bn j0 ln ok=> ?_];have tr:Tern d (rkC (mu.map cR)):=by have:=IM ok ();rwa[ln]at this
  refine#[tn,7,SqT.of lj,21786];exact J _ _ #[qn,kl,_,lz,mi,k0,Bn, .inr j0,λ_=> .inl tr,λ_=>tr,2]
 rintro bu HA ⟨aA,hA,rA,mA,nM,c6,BA,c4,CA,tA,rfl⟩;clear c5 fl B5 fa C5;refine gg (λbu H'=>∃(a' h':Addr)(L:Nat->Nat)(bk:List Int),Same HA H'/\H' a'=some (.lst (bk.map V.int))/\bX d L bk/\(hsO (mH M cN) cO).ho H' h' d L/\CB d L/\bu=[rW a,rW p3,rT d,rW a',rW h',xS turn,none,none,none]) ?_ λJ=> ?_
 rotate_left
 .refine#[727,cP (λhc=> ?_) λ_=>J _ _ #[aA,hA,rA,mA,Same.refl _,c6,BA, .inl c4,CA,2]];have e3:turn=3:=V.int.inj (O9 hc);have fA:=BA.few;have i2:=ou ct;refine#[7,aA,2,#[_,SqL.of c6],6];refine bT (λx=>(λ_=>true) (bG x)) (λx=> .int ((λz:Int=>((2^d:Nat):Int) -1-z) (bG x))) (SqL.of c6) (by rw[My];exact OY (show mA.length<=256 by lia) ∅) (λi x vs H' R S hx hv sm hk=> ?_) λq H' hq sm hl=> ?_
  .obtain⟨v,rfl⟩:=bq hv;obtain⟨z,rfl,N⟩:=bH hx;simp only[br,iM,OP];have q':=hk [some (.int z)] _ rfl (Same.refl _);rw[OP rfl]at q';refine#[78,#[994],8786];rw[c9];exact q'
  replace hl:=hl.trans (PN (λl=>some (HO.lst l)) (bE (λ_=>true) (λz:Int=>((2^d:Nat):Int) -1-z) mA));rw[Qq.mpr (λ_ _=>rfl)]at hl;refine#[7,λO bB bS cu lC=>#[O,bB,hA,d,rA,2,ak,(sW M cN).same (sm.trans (nK bS cu)) c4,ct,λHR dj ea=>#[26]]];have ew:Same H' HR:=λb o e=>dj b o (by rw[aE (aI e bS),aE (aI e cu)];exact e) (aI e bS);exact J _ _ #[q,O,11,sm.trans ew,ew.at hl,BA.dual, .inr #[bB,hA,rA,ea,(sW M cN).same (sm.trans ew) c4,λs U=>BA.mat.de U],λ_=> .inl (EU BA.mat (tA ())),2]
 rintro bu HB ⟨aB,hB,bp,mB,nS,j2,B,js,eH,rfl⟩;clear c6 BA c4 CA tA;have fB:=B.few;refine j3 λm g=> ?_;refine#[77,aB,mB,d,2,SqL.of j2,B.ne,B.bd,9,ct,λlv HC bt nq p=> ?_];have eL:(List.range (2^d)).map (λs=>((cI mB s:Nat):Int))=gM d bp:=by unfold gM;refine P4 λs U=> ?_;rw[B.rk (λ_=>Iff.rfl) (OS.mp U)]
 rw[eL]at p;have hD:=CZ (sW M cN) cO;have fe:=hD.same bt js;refine g [rW a,rW p3,rT d,rW aB,rW hB,xS turn,rW lv,none,none] _ ?_;clear g m;refine j3 λm g=> ?_;refine#[7,hB,d,_,bp,2,fe,B.mat,2,eH,λc l xs t HD dm ht bN hl fV hR hN ho=> ?_,λkd s w t HD dm ht bN d4 U hw d3=> ?_]
 .refine g [rW a,rW p3,rT d,rW aB,rW hB,xS turn,rW lv,rW t,none] _ ?_;refine#[777,t,lv,d,_,bp,2,SqL.of (dm.at p),B.mat,2, .inl #[l,xs,c,bN,fV,hR.same fS,ho],λHE b1=> ?_];refine#[7,gE ?_];refine#[7,t,3,SqT.of (b1.at bN),227,oS ?_];have fI:=b1.at bN;have fU:=b1.at fV;refine#[7,t,3,SqT.of fI,2,l,2,#[_,SqL.of fU],6];refine cQ (K:=K) (a:=l) (xs:=xs) (λi σ u=>∃v8:Option V,Same HC u/\u t=some (.tup [.str "table", .ref l])/\u l=some (.lst xs)/\(∀x∈xs,∃(b:Addr)(zs:List V),x= .ref b/\b≠l/\HC b=none/\u b=some (.lst zs)/\zs.length<=8+i)/\σ=[rW a,rW p3,rT d,rW aB,rW hB,xS turn,rW lv,rW t,v8]) #[none,dm.trans b1,fI,fU,λx hx=> ?_,2] (λi σ u _ h=>by obtain⟨_,_,_,h2,_⟩:=h;exact SqL.of h2) ?_ ?_
  .obtain⟨b,e1,e2⟩:=hN x hx;obtain⟨i,hi⟩:=P2 hx;obtain⟨b',rr,h1,h2,h3⟩:=hR.at hi;rw[e1]at h2;cases h2;have nl:b≠l:=λe=>by rw[e]at h3;unfold hide at h3;rw[OP rfl]at h3;cases h3
   rw[eU nl]at h3;have iR:i<(gO c d (bp (2^d-1))).length:=(O1.mp h1).1;rw[xR]at iR;rw[xU iR]at h1;cases h1;exact#[b,_,e1,nl,e2,b1.at h3,by rw[My,My,O8];lia]
  .rintro i x σ u hi ⟨v8,cy,ef,fx,ed,rfl⟩;have il:i<xs.length:=(O1.mp hi).1;have xl:xs.length<=8:=by rw[hR.1,xR];have:=B.mat.jQ (2^d-1) (aJ d);have h2:sz (2^d-1)<=8:=bj _;lia
   obtain⟨b,zs,rfl,nb,hb,N,zl⟩:=ed x (O5 hi);dsimp only[br];refine#[7, .inl #[21,SqL.of N],b,8,N,Pd zl (OW (show 8+i<17 by lia) ∅),6];refine#[_,cy.upd hb,by rw[aE (kJ ef N λz=>by cases z)];exact ef,by rw[aE nb.symm];exact fx,λy hy=> ?_,2];obtain⟨b2,mz,rfl,lB,j8,el,n1⟩:=ed y hy;by_cases e:b2=b
   .subst e;rw[N]at el;cases el;exact#[b2,7,nb,hb,ak,by rw[Pl];show zs.length+1<=_;lia]
   .exact#[b2,mz,2,lB,j8,by rw[aE e];exact el,9]
  .rintro σ u ⟨v8,cy,ef,fx,ed,rfl⟩;refine#[7,hB,d,_,bp,2,hD.same cy fe,B.mat,2,eH,λc2 l2 mx t2 HG et lb ei nk ll jl ni kp=> ?_,λkd s w t2 HG et lb ei d4 U hw d3=> ?_]
   .exact#[77,t2,lv,d,_,bp,2,SqL.of (et.at (cy.at p)),B.mat,2, .inl #[l2,mx,c2,ei,ll,jl.same fS,kp],λHH mc=>k _]
   .exact#[77,t2,lv,d,_,bp,2,SqL.of (et.at (cy.at p)),B.mat,2, .inr #[kd,s,w,ei,d4,U,hw,d3],λHH mc=>k _]
 .refine g [rW a,rW p3,rT d,rW aB,rW hB,xS turn,rW lv,rW t,none] _ ?_;refine#[777,t,lv,d,_,bp,2,SqL.of (dm.at p),B.mat,2, .inr #[kd,s,w,bN,d4,U,hw,d3],λHE b1=> ?_];refine#[7,gE ?_];refine#[7,t,3,SqT.of (b1.at bN),227,cP (λhc=> ?_) λ_=> ?_]
  .exact absurd (V.str.inj (O9 hc)) #[9]
  .exact k _
end
inductive HD(K:Frag)(n:Str)(st:Stmt):Prop
 |mk{f:Addr} {oc:Value} {od an:Option Addr} {sl:Array (Option Value)} {kV dc pm cd ct:Value} (a:nsIn K mainGlobals n=some (some (.ref f))) (l:K.lookup f=some ⟨oc,od, .func (fnOf n n (eV st) (bF st) (au st) .none kV dc pm an cd ct),sl⟩) (c:codeIn K cd n=true) (k:keepIn K (.ref f)=true):HD K n st
def HD.at{K:Frag}{n:Str}{st:Stmt}{h:Heap}{mg:Str->Option Value}(X:K.In h)(G:h.Ns mainGlobals mg)(d:HD K n st){ps:List Str}(b:∀(kV g i:Value)(e:Option Addr)(cdv f:Value)(us:List Value),us.length=ps.length->bindArgs (fnOf n n (eV st) (bF st) (au st) .none kV g i e cdv f) #[us,[]]=pure (ps.zip us):=by intro _ _ _ _ _ _;first|exact Nj rfl|exact Ni λ_=>rfl|exact Nh λ_ _=>rfl|exact Ng λ_ _ _=>rfl|exact Nf λ_ _ _ _=>rfl|exact Oa λ_ _ _ _ _=>rfl):bC K mg n st ps:=by obtain⟨a,l,c,k⟩:=d;exact Nx (st:=st) (ps:=ps) X G a l c k b
inductive HM(K:Frag)(C:Addr)(n q:Str)(st:Stmt)(f:Addr):Prop
 |mk{oc:Value} {od an:Option Addr} {sl:Array (Option Value)} {kV dc pm cd ct:Value} (a:findIn K (.ref C) n=some (some (.ref f))) (i:isFn K (.ref f)=true) (l:K.lookup f=some ⟨oc,od, .func (fnOf n q (eV st) (bF st) (au st) .none kV dc pm an cd ct),sl⟩) (c:codeIn K cd q=true) (k:keepIn K (.ref f)=true):HM K C n q st f
def HM.at{K:Frag}{C:Addr}{n q:Str}{st:Stmt}{f:Addr}(d:HM K C n q st f){ps:List Str}(b:∀(kV h j:Value)(e:Option Addr)(cdv g:Value)(us:List Value),us.length=ps.length->bindArgs (fnOf n q (eV st) (bF st) (au st) .none kV h j e cdv g) #[us,[]]=pure (ps.zip us):=by intro _ _ _ _ _ _;first|exact Nj rfl|exact Ni λ_=>rfl|exact Nh λ_ _=>rfl|exact Ng λ_ _ _=>rfl|exact Nf λ_ _ _ _=>rfl|exact Oa λ_ _ _ _ _=>rfl):i5 K n q st ps f/\findIn K (.ref C) n=some (some (.ref f))/\isFn K (.ref f)=true/\keepIn K (.ref f)=true:=by obtain⟨a,i,l,c,k⟩:=d;exact#[Nc (st:=st) (ps:=ps) l c k b,a,i,k]
structure HL(K:Frag)(n:Str)(C:Addr):Prop where
 a:nsIn K mainGlobals n=some (some (.ref C))
 pg:plainGet K C Str.empty=true
 hd:hasDictIn K C=true
 po:plainOver K C=true
 sa:findIn K (.ref C) "__setattr__"=some (some (.builtin "object.__setattr__"))
 mi:makesIn K C=true
 kc:keepIn K (.ref C)=true
structure HI(K:Frag)(C:Addr):Prop where
 a:findIn K (.ref C) "__class__"=some (some (.builtin "object.__class__"))
 b:specialIn K (.builtin "object.__class__") "__get__"=some (some (.builtin "getset_descriptor.__get__"))
 c:takesIn K (.builtin "object.__class__")=some true
 d:mroIn K C (.type "object")=some true
def all_mk{l:PySem.W.OpenLaw}{K:Frag}{h:Heap}(X:K.In h)(G:h.Ns mainGlobals mg)(w5:mg "law"=some (.ref fa))
  
  
  
  
  
  (HA:HL K "House" c)
  (Hb:HL K "Listed" i)
  (Hn:HL K "Other" b)
  (Hh:HL K "Minor" f)
  (Hd:HL K "Known" d)
  (HB:HL K "Net" g)
  (cp:HM K c "__init__" "House.__init__" ee aD)
  (bt:HM K c "everything" "House.everything" dC ab)
  (KX:findIn K (.ref c) "many"=some none)
  (zt:HI K c)
  (I7:kitOne K (.ref c) (.ref c)=some true)
  (b6:HM K i "__init__" "Listed.__init__" dN b5)
  (dv:HM K i "rank" "Listed.rank" gp dt)
  (xn:findIn K (.ref i) "everything"=some (some (.ref ab)))
  (mI:findIn K (.ref i) "many"=some none)
  (mC:findIn K (.ref i) "listed"=some none)
  (zm:HI K i)
  (zv:kitOne K (.ref i) (.ref c)=some true)
  (ed:HM K b "rank" "Other.rank" hU ec)
  (cq:HM K b "__init__" "Other.__init__" dZ cn)
  (me:findIn K (.ref b) "everything"=some (some (.ref ab)))
  (k0:findIn K (.ref b) "many"=some none)
  (kz:findIn K (.ref b) "house"=some none)
  (kx:findIn K (.ref b) "full"=some none)
  (ky:findIn K (.ref b) "full_rank"=some none)
  (zr:HI K b)
  (mv:kitOne K (.ref b) (.ref c)=some true)
  (ct:HM K f "__init__" "Minor.__init__" d8 cm)
  (ef:HM K f "rank" "Minor.rank" ia eb)
  (xw:findIn K (.ref f) "everything"=some (some (.ref ab)))
  (nf:findIn K (.ref f) "many"=some none)
  (nc:findIn K (.ref f) "house"=some none)
  (nd:findIn K (.ref f) "kept"=some none)
  (mS:findIn K (.ref f) "drawn"=some none)
  (mT:findIn K (.ref f) "drawn_rank"=some none)
  (zp:HI K f)
  (zx:kitOne K (.ref f) (.ref c)=some true)
  (cu:HM K d "__init__" "Known.__init__" d9 ck)
  (ei:HM K d "rank" "Known.rank" ib ea)
  (xv:findIn K (.ref d) "everything"=some (some (.ref ab)))
  (mJ:findIn K (.ref d) "many"=some none)
  (mL:findIn K (.ref d) "told"=some none)
  (zo:HI K d)
  (zw:kitOne K (.ref d) (.ref c)=some true)
  (c5:HM K g "__init__" "Net.__init__" fF c4)
  (ej:HM K g "pieces" "Net.pieces" h9 d7)
  (f3:HM K g "rank" "Net.rank" jG fW)
  (xy:findIn K (.ref g) "everything"=some (some (.ref ab)))
  (ni:findIn K (.ref g) "many"=some none)
  (k3:findIn K (.ref g) "points"=some none)
  (nk:findIn K (.ref g) "ties"=some none)
  (zu:HI K g)
  (zy:kitOne K (.ref g) (.ref c)=some true)
  (hV:HD K "holds" pI)
  (hD:HD K "things" lY)
  (ij:HD K "size" tW)
  (hE:HD K "set_of" md)
  (hF:HD K "within" lX)
  (hW:HD K "parts" pH)
  (hp:HD K "choices" kG)
  (hG:HD K "spread" lZ)
  (hH:HD K "all_of" mf)
  (il:HD K "less" tX)
  (fl:HD K "exchanged" iT)
  (iv:HD K "tied" tV)
  (hX:HD K "ranks" pG)
  (hY:HD K "rests" pF)
  (dw:HD K "pivot_place" gh)
  (hq:HD K "cleared" kF)
  (dx:HD K "all_cleared" gn)
  (hr:HD K "rank_of" kB)
  (a0:HD K "whole_rank" gR)
  (hZ:HD K "frees" pJ)
  (h1:HD K "bases" pK)
  (hs:HD K "is_even" kD)
  (ht:HD K "holders" kE)
  (f5:HD K "is_seven" jC)
  (hu:HD K "kind_of" kC)
  (c6:HD K "columns_with" fE)
  (iR:HD K "fits" tY)
  (ek:HD K "column_for" gT)
  (hI:HD K "single" ma)
  (fm:HD K "table_for" iS)
  (dy:HD K "left_barred" gm)
  (fp:HD K "told_over" iQ)
  (f7:HD K "over_two" jA)
  (el:HD K "over_three" gS)
  (gb:HD K "over_all" jB)
  (en:HD K "_law_whole" gU)
  (fs:HD K "_law_size" iU)
  (gi:HD K "_law_far" jF)
  (eo:HD K "_law_ranks" gY)
  (bu:HD K "_law_determinant" dB)
  (ep:HD K "_law_minor" gZ)
  (er:HD K "_law_seven" gV)
  (fu:HD K "_law_kind" iV)
  (bx:HD K "_law_table_right" dA)
  (es:HD K "_law_right" gX)
  (gj:HD K "_law_net" jE)
  (gk:HD K "_law_put" jD)
  (fw:HD K "_law_idle" iW)
  (et:HD K "_law_round" gW)
  (nS:nsIn K mainGlobals "law"=some (some (.ref lT)))
  (B5:K.lookup lT=some #[ocn6,odn6, .func (fnOf "law" "law" (eV eZ) (bF eZ) (au eZ) .none z3 q2 D3 nT lB pg),K8])
  (o4:codeIn K lB "law"=true)
  (BC:keepIn K (.ref lT)=true)
  (js:nsIn K mainGlobals "len"=some none)
  (h2:nsIn K mainGlobals "range"=some none)
  (ew:nsIn K mainGlobals "isinstance"=some none)
  (j0:nsIn K mainGlobals "int"=some none)
  (i1:nsIn K mainGlobals "bool"=some none)
  (i2:nsIn K mainGlobals "list"=some none)
  (j1:nsIn K mainGlobals "set"=some none)
  (h3:nsIn K mainGlobals "tuple"=some none)
  (j2:nsIn K mainGlobals "max"=some none)
  (j8:nsIn K mainGlobals "min"=some none)
  (kb:nsIn K mainGlobals "zip"=some none)
  (fx:nsIn K mainGlobals "enumerate"=some none)
  (kc:nsIn K mainGlobals "sum"=some none)
  (hJ:nsIn K mainGlobals "sorted"=some none)
  (i3:nsIn K mainGlobals "dict"=some none)
  (kd:nsIn K mainGlobals "all"=some none)
  (ke:nsIn K mainGlobals "str"=some none)
  (gy:nsIn K mainGlobals "reversed"=some none)
  (zT:kitOne K (.type "int") (.type "int")=some true)
  (zS:kitOne K (.type "int") (.type "bool")=some false)
  (z2:kitOne K (.type "tuple") (.type "tuple")=some true)
  (zW:kitOne K (.type "list") (.type "list")=some true)
  (zZ:kitOne K (.type "str") (.type "str")=some true)
  (B:specialIn K (.ref c) "__getattribute__"=some (some (.builtin "type.__getattribute__")))
  (L:PySem.W.readsIn K c (.type "type")=true)
  (A:PySem.W.findCls K (.ref c) (.type "type") "__init__"=some (.val (.ref aD)))
  (kp:i≠g/\b≠f/\b≠i/\b≠g)
  (dE:nsIn K mainGlobals "TWO_OF_FOUR"=some (some (.str a8 t1)))
  (dK:nsIn K mainGlobals "TWO_OF_FIVE"=some (some (.str bz t2)))
  (c3:nsIn K mainGlobals "THREE_OF_FIVE"=some (some (.str aY t3)))
  (h4:nsIn K mainGlobals "SEVEN"=some (some (.str eO t4)))
  (dT:nsIn K mainGlobals "OTHER_SEVEN"=some (some (.str bg t5))):
  ∃fd:FuncData,(∀(s:Shared)(v:Value),BindsTo s fd #[[v],[]] [("_law_script",v)])/\∀base:Heap,K.In base->base.Ns mainGlobals mg->lr l.prog w K mg base CX0 15 fa fd ["_law_script"] (DM K):=by
 have e:=w5.symm.trans (Q9 X G nS);cases e;have T:Tb K mg:=#[Qh X G js,Qh X G h2,Qh X G ew,Qh X G j0,Qh X G i1,Qh X G i2,Qh X G j1,Qh X G h3,Qh X G j2,Qh X G j8,Qh X G kb,Qh X G fx,Qh X G kc,Qh X G hJ,Qh X G i3,Qh X G kd,Qh X G ke,Qh X G gy,zT,zS,z2,zW,zZ];obtain⟨nI,Dn,w2,F7,HT,I9,I8⟩:=HA;have H:=Q9 X G nI;have H4:Cls K c:=#[Dn,w2,F7,HT];obtain⟨I3,I4,I5,I6⟩:=zt;obtain⟨nx,C0,wh,D6,HE,B8,A3⟩:=Hb;have tr:=Q9 X G nx;have O:Cls K i:=#[C0,wh,D6,HE];obtain⟨yL,y1,y5,y9⟩:=zm;obtain⟨nD,C7,w1,F1,HR,mB,mx⟩:=Hn;have lW:=Q9 X G nD;have m:Cls K b:=#[C7,w1,F1,HR];obtain⟨mi,ml,mm,mu⟩:=zr;obtain⟨nB,C5,w0,E8,HH,CC,Bn⟩:=Hh;have tw:=Q9 X G nB;have U:Cls K f:=#[C5,w0,E8,HH];obtain⟨yT,y3,y7,ze⟩:=zp;obtain⟨nz,C2,wi,D8,HG,CA,Bh⟩:=Hd;have ts:=Q9 X G nz;have Q:Cls K d:=#[C2,wi,D8,HG];obtain⟨yS,y2,y6,zc⟩:=zo;obtain⟨nJ,D2,w3,Ha,HX,CX,Bs⟩:=HB;have tA:=Q9 X G nJ;have p:Cls K g:=#[D2,w3,Ha,HX];obtain⟨y0,y4,y8,zg⟩:=zu;obtain⟨cv,hK,hL,hM⟩:=cp.at (ps:=["self","n"]);obtain⟨bB,hv,t,u⟩:=bt.at (ps:=["self"]);obtain⟨b7,b8,b9,hC⟩:=b6.at (ps:=["self","n","some"]);obtain⟨dV,d0,d1,d2⟩:=dv.at (ps:=["self","s"]);obtain⟨dc,dd,dj,h5⟩:=c5.at (ps:=["self","n","points","ties"]);obtain⟨ey,ez,eA,eB⟩:=ej.at (ps:=["self","s"]);obtain⟨gN,ha,hb,hc⟩:=f3.at (ps:=["self","s"]);obtain⟨cw,cy,cK,hN⟩:=cu.at (ps:=["self","house"]);obtain⟨eE,eG,eH,eL⟩:=ei.at (ps:=["self","s"]);obtain⟨cL,cM,cN,hO⟩:=ct.at (ps:=["self","house","out","drawn"]);obtain⟨eM,eN,eP,eR⟩:=ef.at (ps:=["self","s"]);obtain⟨bN,bS,b0,b1⟩:=ed.at (ps:=["self","s"]);obtain⟨a3,a4,a5,hP⟩:=cq.at (ps:=["self","house"]);have nv:=uV (st:=eZ) B5 o4 BC;refine#[fnOf "law" "law" (eV eZ) (bF eZ) (au eZ) .none z3 q2 D3 nT lB pg,λs v=> .of_eq rfl,λbase KB GB=> ?_];have bk:=Q9 X G dE;have bl:=Q9 X G dK;have a6:=Q9 X G c3;have fU:=Q9 X G h4;have bp:=Q9 X G dT;have z0:=sW i g;have M:=CZ z0 b;have k:=Nq d;have N:=Ln k f;have zO:=CZ N b;have l1:∀C,(mH i g).dom C->HC K c C:=λC a=>by(rcases a with rfl|rfl);exact#[O,mI,#[yL,y1,y5,y9],zv];exact#[p,ni,#[y0,y4,y8,zg],zy]
 have nt:∀C,(mH i g).dom C->b≠C:=λC a=>by(rcases a with rfl|rfl);exact kp.2.2.1;exact kp.2.2.2
 have mb:∀C,(hsO (mH i g) b).dom C->HC K c C:=λC a=>by(rcases a with a|rfl);exact l1 C a;exact#[m,k0,#[mi,ml,mm,mu],mv]
 have r:∀C,(hsN d).dom C->HC K c C:=λC a=>by cases a;exact#[Q,mJ,#[yS,y2,y6,zc],zw]
 have ku:∀C,(sy (hsN d) f).dom C->HC K c C:=λC a=>by cases a;exact#[U,nf,#[yT,y3,y7,ze],zx]
 have mc:∀C,(hsO (sy (hsN d) f) b).dom C->HC K c C:=λC a=>by(rcases a with a|rfl);exact ku C a;exact#[m,k0,#[mi,ml,mm,mu],mv]
 have nq:∀C,(sy (hsN d) f).dom C->b≠C:=λC a=>by cases a;exact kp.2.1
 have fV:=IG l.prog w base (hV.at X G);have q:=FF l.prog w base T (hD.at X G) fV;have n:=K1 l.prog w base T (ij.at X G) q;have eW:=FI l.prog w base (hE.at X G);have hQ:=FE l.prog w base (hF.at X G);have dk:=IF l.prog w base T (hW.at X G) q;have bb:=CL l.prog w base T (hp.at X G) dk n;have hR:=FG l.prog w base T (hG.at X G) eW q fV;have hS:=FJ l.prog w base (hH.at X G);have z:=K2 l.prog w base (il.at X G);have fy:=yI l.prog w base (fl.at X G) z;have y:=qe l.prog w base (mg:=mg) cv;have x:=n9 l.prog w base bB hS;have cb:=oQ l.prog w base T b7 H O mI mC #[#[_,y,A],B,L];have d3:=uD l.prog w base T dV O mC n;have i4:=K0 l.prog w base (iv.at X G);have dp:=su l.prog w base T dc H p ni k3 nk #[#[_,y,A],B,L];have e0:=vU l.prog w base T ey p k3 nk q i4;have hg:=A2 l.prog w base gN p k3 (λC h=>by subst h;exact#[p,_,#[ez,eA,eB],e0]);have mz:∀C,(mH i g).dom C->dn l.prog w K mg base 2 C "everything" ["self"] (eQ K):=λC a=>by(rcases a with rfl|rfl);exact#[O,_,#[xn,t,u],x];exact#[p,_,#[xy,t,u],x]
 have m0:∀C,(mH i g).dom C->dn l.prog w K mg base 5 C "rank" ["self","s"] (jx (mH i g) C):=λC a=>by(rcases a with rfl|rfl);exact dn.imp (dn.mono #[O,_,#[d0,d1,d2],d3] ∅) (Kn kp.1);exact dn.imp (dn.mono #[p,_,#[ha,hb,hc],hg] ∅) (Km kp.1)
 have B7:∀C,(hsO (mH i g) b).dom C->dn l.prog w K mg base 2 C "everything" ["self"] (eQ K):=λC a=>by(rcases a with a|rfl);exact mz C a;exact#[m,_,#[me,t,u],x]
 have HZ:=oz l.prog w base (C_House:=c) bN m kz kx ky z0 nt ∅ z n m0;have HY:=j7 l.prog w base a3 H m k0 kz kx ky l1 z0 ∅ #[#[_,y,A],B,L] mz m0;have m1:∀C,(hsO (mH i g) b).dom C->dn l.prog w K mg base 6 C "rank" ["self","s"] (jx (hsO (mH i g) b) C):=λC a=>by(rcases a with a|rfl);exact dn.imp (dn.mono (m0 C a) ∅) (wu (nt C a));exact#[m,_,#[bS,b0,b1],HZ]
 have h6:=IE l.prog w base M (hX.at X G) mb m1 B7 dk;have h7:=ID l.prog w base T (hY.at X G);have d4:=uB l.prog w base T (dw.at X G);have hx:=AY l.prog w base T (hq.at X G);have d5:=sr l.prog w base T (dx.at X G) hx;have hy:=CH l.prog w base T (hr.at X G) h7 d4 d5;have cO:=qd l.prog w base T cw H Q mJ mL M mb #[#[_,y,A],B,L] h6;have e1:=vW l.prog w base (mg:=mg) eE Q mL;have kn:∀C,(hsN d).dom C->dn l.prog w K mg base 2 C "everything" ["self"] (eQ K):=λC a=>by cases a;exact#[Q,_,#[xv,t,u],x]
 have J:∀C,(hsN d).dom C->dn l.prog w K mg base 4 C "rank" ["self","s"] (jx (hsN d) C):=λC a=>by cases a;exact dn.imp (dn.mono #[Q,_,#[eG,eH,eL],e1] ∅) Mu
 have aA:=kj l.prog w base k r (a0.at X G) ∅ kn J;have h8:=IH l.prog w base k r (hZ.at X G) J kn dk n;have ih:=II l.prog w base k (h1.at X G) aA h8 n;have c1:=qc l.prog w base cL H U nf nc nd mS mT k r ∅ #[#[_,y,A],B,L] z n kn J;have e2:=vV l.prog w base eM U nc nd mS mT k ∅ hR J;have kv:∀C,(sy (hsN d) f).dom C->dn l.prog w K mg base 2 C "everything" ["self"] (eQ K):=λC a=>by cases a;exact#[U,_,#[xw,t,u],x]
 have mM:∀C,(sy (hsN d) f).dom C->dn l.prog w K mg base 5 C "rank" ["self","s"] (jx (sy (hsN d) f) C):=λC a=>by cases a;exact#[U,_,#[eN,eP,eR],e2]
 have e3:=oz l.prog w base (C_House:=c) bN m kz kx ky N nq ∅ z n mM;have c2:=j7 l.prog w base a3 H m k0 kz kx ky ku N ∅ #[#[_,y,A],B,L] kv mM;have mA:∀C,(hsO (sy (hsN d) f) b).dom C->dn l.prog w K mg base 2 C "everything" ["self"] (eQ K):=λC a=>by(rcases a with a|rfl);exact kv C a;exact#[m,_,#[me,t,u],x]
 have mO:∀C,(hsO (sy (hsN d) f) b).dom C->dn l.prog w K mg base 6 C "rank" ["self","s"] (jx (hsO (sy (hsN d) f) b) C):=λC a=>by(rcases a with a|rfl);exact dn.imp (dn.mono (mM C a) ∅) (wu (nq C a));exact#[m,_,#[bS,b0,b1],e3]
 have wM:=kj l.prog w base N ku (a0.at X G) ∅ kv mM;have wO:=kj l.prog w base zO mc (a0.at X G) ∅ mA mO;have hz:=CJ l.prog w base T N ku (hs.at X G) ∅ kv mM wM bb;have hA:=CK l.prog w base T (ht.at X G) hQ;have hh:=AX l.prog w base T zO mc (f5.at X G) ∅ mA mO wO bb n hA;have hB:=CI l.prog w base (C_House:=c) (j:=5) N (hu.at X G) ∅ bk bl a6 fU bp hz #[#[_,#[mB,a4,a5,mx],c2],lW] hh;have dr:=sk l.prog w base T (c6.at X G);have jl:=K3 l.prog w base T k r (iR.at X G) J aA bb eW q hy;have e4:=vN l.prog w base T k r (ek.at X G) J aA q fy dr jl;have hT:=FH l.prog w base T (hI.at X G);have fA:=yH l.prog w base T k r (fm.at X G) kn aA q z ih hT e4;have d6:=uC l.prog w base (j:=8) T k r (dy.at X G) ∅ kn aA bb z #[#[_,#[CC,cM,cN,Bn],c1],tw] hB;have cg:=yF l.prog w base T M k (fp.at X G) ∅ #[#[_,#[CA,cy,cK,Bh],cO],ts] fA d6;have hi:=AV l.prog w base M (f7.at X G) bk cg;have e5:=vM l.prog w base M (el.at X G) bl a6 fU bp cg;have hj:=AW l.prog w base M (gb.at X G) hi e5;have b2:=vO l.prog w base T (en.at X G);have o:=yJ l.prog w base (fs.at X G);have hk:=A1 l.prog w base T (gi.at X G) o;have e6:=vS l.prog w base T (eo.at X G) o;have b3:=nZ l.prog w base T (bu.at X G) o;have e7:=vT l.prog w base T (ep.at X G);have e8:=vP l.prog w base T (er.at X G) o;have fB:=yK l.prog w base T (fu.at X G) o e8;have b4:=nY l.prog w base T (bx.at X G) o b2 b3;have e9:=vR l.prog w base T (es.at X G) b2 fB e7 b4;have hn:=A0 l.prog w base T (gj.at X G) o #[#[_,#[CX,dd,dj,Bs],dp],tA];have ho:=AZ l.prog w base (gk.at X G);have fI:=yM l.prog w base T (fw.at X G) ho;have fe:=vQ l.prog w base T (et.at X G) o;exact MY l.prog w base nv T #[#[_,#[B8,b8,b9,A3],cb],tr] hk e6 #[#[_,#[mB,a4,a5,mx],HY],lW] hn fe fI hj e9
def walk{l:PySem.W.OpenLaw}{q:Program}{loose:List Str}{XP:(Str->Option Value)->Heap->Prop}{YP:World->Heap->Prop}{d:DefRec}{K:Params->Frag}(j:l.most=some 63)(i:d.params.defaults=[])
  (g:∀(w:World)(h:Heap),YP w h->(K w.params).In h)
  (F:∀(w:World)(mg:Str->Option Value)(b:Addr)(h:Heap),(K w.params).In h->h.Ns mainGlobals mg->mg d.name=some (.ref b)->
   ∃c:FuncData,(∀(s:Shared)(u:Value),BindsTo s c #[[u],[]] [("_law_script",u)])/\∀base:Heap,(K w.params).In base->base.Ns mainGlobals mg->lr l.prog w (K w.params) mg base CX0 15 b c ["_law_script"] (DM (K w.params))):
  PySem.W.WalkO q loose XP YP l.row.toRowW d [] (λf vs=>PySem.call f vs):=
 L2.DA (n:=63) (k:=15) (x:= "_law_script") (CX:=λ_=>CX0) (sp:=λw=>DM (K w.params)) j ∅ i #[244] g F (λ_ _ a ns hl _ e=>#[a,ns,2,e,hl,λ_=>rfl]) λ_ _ _ _ _ z=>z
end BhK
end
namespace Hd
open PySem PySem.W PySem.Calls PyProof.Rows
theorem _root_.PySem.W.Fast.te7239439084724097079:True:=trivial
open PySem.W.Fast PySem.Challenge BhK
noncomputable section
noncomputable abbrev R(a:Nat):Value:= .ref a
noncomputable abbrev V(x:Str)(t:Nat):Value:= .str x t
noncomputable abbrev I(i:Int):Value:= .int i 0
noncomputable abbrev E(P:Params)(x:Str)(t:Nat)(v:Value):DictEntry:=⟨PyData.keyHash P x, .str x t,v⟩
noncomputable abbrev Y:Obj:=⟨.type "tuple",none, .seq #[] 0, #[]⟩
noncomputable abbrev T(l:List Value):Obj:=⟨.type "tuple",none, .seq ⟨l⟩ 0, #[]⟩
noncomputable abbrev Z:Obj:=⟨.none,none, .fields #[], #[]⟩
noncomputable abbrev W(l:List Value):Obj:=⟨.none,none, .fields ⟨l⟩, #[]⟩
noncomputable abbrev F(n q:Str)(s:Stmt)(g:Nat)(dv kv doc pm:Value)(an:Option Nat)(cd ct:Value)(b:Nat):FuncData:=⟨n,q,L2.eV s, .stmts (L2.bF s),L2.au s,g,[],dv,kv,doc,pm,an,cd,ct,b⟩
noncomputable abbrev C(n q:Str)(t:Nat)(l k g:Int)(x:Nat)(b:Bool)(u v w:Value)(d:Nat):Obj:=⟨.type "code",none, .fields ⟨[.str n t, .str q (t.add 1), .str "/claim/cut.py" (t.add 2), .int l 0, .int k 0, .int 0 0, .int 0 0, .int g 0, .ref x, .bool b, .int 181 0, .ref (x.add 1), .none,u,v,w, .int d 0, .int l 0, .str "/claim/cut.py" (d.add 1)]⟩, #[]⟩
abbrev ff(n q:Str)(s:Stmt):Obj:=⟨.none,none, .func (F n q s 0 .none .none .none .none none .none .none 0), #[]⟩
abbrev fk(n q:Str)(s:Stmt)(m:Value)(c:Nat):Obj:=⟨.type "function",none, .func (F n q s 3 .none .none .none m none (.ref c) .none 0), #[]⟩
abbrev f1(n:Str)(s:Stmt):Obj:=ff n n s
abbrev f2(n:Str)(s:Stmt)(m:Value)(c:Nat):Obj:=fk n n s m c
abbrev C1(n:Str)(t:Nat)(l k g:Int)(x:Nat)(b:Bool)(u v w:Value)(d:Nat):Obj:=C n n t l k g x b u v w d
abbrev D(l:List DictEntry)(k:Nat):Obj:=⟨.type "dict",none, .dict ⟨l⟩ k, #[]⟩
abbrev fr(a b:Nat)(m:Value):Obj:=⟨.type "frame",none,Data.plain, #[some (R a),some (R 3),some (R b),none,some m,none,some (R 0)]⟩
abbrev bf(n:String)(v:Value):Obj:=⟨.type "builtin_function_or_method",none, .fields ⟨[.builtin n,v]⟩, #[]⟩
abbrev m0:=V "basehouse.houses" 271
abbrev m1:=V "basehouse.sets" 187
abbrev m2:=V "House" 281
abbrev m3:=V "House" 273
abbrev m4:=V "basehouse.turned" 376
abbrev m5:=V "basehouse.tellings" 349
abbrev m6:=V "basehouse.barred" 453
abbrev m7:=V "basehouse.fields" 526
abbrev m8:=V "basehouse.pivots" 490
abbrev m9:=V "basehouse.nets" 639
abbrev m10:=V "law_basehouse_k43_tables_over_all" 689
abbrev o13:=C1 "<module>" 182 1 0 0 11 false .none .none .none 185
abbrev o14:=fr 13 3 (V "__main__" 164)
abbrev g0(P:Params):List DictEntry:=[E P "__name__" 165 m0]
abbrev g1(P:Params):List DictEntry:=[E P "__doc__" 166 .none,E P "__package__" 167 .none,E P "__loader__" 168 (.builtin "__main__.__loader__#opaque"),E P "__spec__" 169 .none,E P "__annotations__" 170 (R 6),E P "__builtins__" 171 (R 4),E P "__file__" 173 (V "/claim/cut.py" 172),E P "__cached__" 174 .none,E P "holds" 196 (R 21),E P "things" 202 (R 26),E P "size" 209 (R 33),E P "set_of" 218 (R 40),E P "within" 226 (R 47),E P "parts" 232 (R 52),E P "choices" 238 (R 57),E P "spread" 244 (R 62),E P "all_of" 251 (R 69),E P "less" 259 (R 76),E P "exchanged" 270 (R 83)]
abbrev o3v1(P:Params):=D ((g0 P).append (g1 P)) 20
abbrev g2:=[I 2]
abbrev g3:=[I 0,R 20,I 4,I 0,R 25,I 6,I 0,R 32,I 8,I 0,R 39,I 13,I 0,R 46,I 15,I 0,R 51,I 20,I 0,R 56,I 22,I 0,R 61,I 24,I 0,R 68,I 26,I 0,R 75,I 29,I 0,R 82]
abbrev o12v1:=W (g2.append g3)
abbrev o17:=T [V "s" 192,V "thing" 193]
abbrev o19:=f1 "holds" pI
abbrev o20:=C1 "holds" 189 2 2 3 15 true (R 17) (R 18) (R 19) 194
abbrev o21:=f2 "holds" pI m1 20
abbrev o24:=f1 "things" lY
abbrev o25:=C1 "things" 197 4 1 3 22 true .none .none (R 24) 200
abbrev o26:=f2 "things" lY m1 25
abbrev o29:=T [V "s" 206]
abbrev o31:=f1 "size" tW
abbrev o32:=C1 "size" 203 6 1 3 27 true (R 29) (R 30) (R 31) 207
abbrev o33:=f2 "size" tW m1 32
abbrev o36:=T [V "some" 213,V "s" 214,V "thing" 215]
abbrev o38:=f1 "set_of" md
abbrev o39:=C1 "set_of" 210 8 1 3 34 true (R 36) (R 37) (R 38) 216
abbrev o40:=f2 "set_of" md m1 39
abbrev o43:=T [V "s" 222,V "t" 223]
abbrev o45:=f1 "within" lX
abbrev o46:=C1 "within" 219 13 2 3 41 true (R 43) (R 44) (R 45) 224
abbrev o47:=f2 "within" lX m1 46
abbrev o50:=f1 "parts" pH
abbrev o51:=C1 "parts" 227 15 1 3 48 true .none .none (R 50) 230
abbrev o52:=f2 "parts" pH m1 51
abbrev o55:=f1 "choices" kG
abbrev o56:=C1 "choices" 233 20 2 3 53 true .none .none (R 55) 236
abbrev o57:=f2 "choices" kG m1 56
abbrev o60:=f1 "spread" lZ
abbrev o61:=C1 "spread" 239 22 2 3 58 true .none .none (R 60) 242
abbrev o62:=f2 "spread" lZ m1 61
abbrev o65:=T [V "n" 248]
abbrev o67:=f1 "all_of" mf
abbrev o68:=C1 "all_of" 245 24 1 3 63 true (R 65) (R 66) (R 67) 249
abbrev o69:=f2 "all_of" mf m1 68
abbrev o72:=T [V "s" 255,V "t" 256]
abbrev o74:=f1 "less" tX
abbrev o75:=C1 "less" 252 26 2 3 70 true (R 72) (R 73) (R 74) 257
abbrev o76:=f2 "less" tX m1 75
abbrev o79:=T [V "s" 265,V "thing" 266,V "y" 267]
abbrev o81:=f1 "exchanged" iT
abbrev o82:=C1 "exchanged" 262 29 3 3 77 true (R 79) (R 80) (R 81) 268
abbrev o83:=f2 "exchanged" iT (V "basehouse.breaks" 260) 82
abbrev g4(P:Params):List DictEntry:=[E P "House" 316 (R 114)]
abbrev o3v2(P:Params):=D ((g0 P).append ((g1 P).append (g4 P))) 21
abbrev g5:=[I 32,I 0,R 89]
abbrev o12v2:=W (g2.append (g3.append g5))
abbrev o85:=bf "type.__prepare__" (.type "type")
abbrev o86(P:Params):=D ([E P "__module__" 280 m0,E P "__qualname__" 282 m2,E P "__firstlineno__" 284 (.int 32 283),E P "__init__" 292 (R 97),E P "rank" 300 (R 104),E P "everything" 307 (R 111),E P "__static_attributes__" 309 (R 112)]) 7
abbrev o88:=W [I 34,I 4,R 96,I 37,I 4,R 103,I 40,I 4,R 110]
abbrev o89:=C1 "House" 275 32 0 0 87 false .none .none .none 278
abbrev o90:=fr 89 86 m0
abbrev o93:=T [V "self" 288,V "n" 289]
abbrev o95:=ff "__init__" "House.__init__" ee
abbrev o96:=C "__init__" "House.__init__" 285 34 2 3 91 true (R 93) (R 94) (R 95) 290
abbrev o97:=fk "__init__" "House.__init__" ee m0 96
abbrev o100:=T [V "self" 296,V "s" 297]
abbrev o102:=ff "rank" "House.rank" pL
abbrev o103:=C "rank" "House.rank" 293 37 2 3 98 true (R 100) (R 101) (R 102) 298
abbrev o104:=fk "rank" "House.rank" pL m0 103
abbrev o107:=T [V "self" 304]
abbrev o109:=ff "everything" "House.everything" dC
abbrev o110:=C "everything" "House.everything" 301 40 1 3 105 true (R 107) (R 108) (R 109) 305
abbrev o111:=fk "everything" "House.everything" dC m0 110
abbrev o112:=T [V "many" 308]
abbrev o113(P:Params):=D ([E P "__module__" 280 m0,E P "__firstlineno__" 284 (.int 32 283),E P "__init__" 292 (R 97),E P "rank" 300 (R 104),E P "everything" 307 (R 111),E P "__static_attributes__" 309 (R 112),E P "__dict__" 311 (R 115),E P "__weakref__" 313 (R 116),E P "__doc__" 314 .none]) 4
abbrev o114:Obj:=⟨(.type "type"),none,Data.cls {name:=Str.ofString "House",bases:=[Value.type "object"],mro:=[Value.ref 114,Value.type "object"],ns:=113,qualname:=Str.ofString "House"}, #[none,none,some m3,some m2,some (.builtin "object.__new__"),some (.bool true)]⟩
abbrev o115:Obj:=⟨(.type "getset_descriptor"),none, .fields ⟨[V "__dict__" 310,R 114,(.builtin "function.__dict__"),(.builtin "function.__dict__#set")]⟩, #[]⟩
abbrev o116:Obj:=⟨(.type "getset_descriptor"),none, .fields ⟨[V "__weakref__" 312,R 114,(.builtin "ExceptionGroup.__weakref__"), .none]⟩, #[]⟩
abbrev o117:Obj:=⟨(.type "super"),none, .fields ⟨[R 114,R 114,R 114]⟩, #[]⟩
abbrev o118:=bf "object.__init_subclass__" (R 114)
abbrev g6(P:Params):List DictEntry:=[E P "__name__" 165 m4]
abbrev g7(P:Params):List DictEntry:=[E P "Listed" 348 (R 140),E P "whole_rank" 357 (R 149),E P "ranks" 363 (R 154),E P "frees" 369 (R 159),E P "bases" 375 (R 164)]
abbrev o3v3(P:Params):=D ((g6 P).append ((g1 P).append ((g4 P).append (g7 P)))) 26
abbrev g8:=[I 42,I 0,R 124,I 51,I 0,R 148,I 53,I 0,R 153,I 55,I 0,R 158,I 57,I 0,R 163]
abbrev o12v3:=W (g2.append (g3.append (g5.append g8)))
abbrev o114v1:Obj:=⟨(.type "type"),none,Data.cls {name:=Str.ofString "House",bases:=[Value.type "object"],mro:=[Value.ref 114,Value.type "object"],ns:=113,qualname:=Str.ofString "House",subclasses:=[Value.ref 140]}, #[none,none,some m3,some m2,some (.builtin "object.__new__"),some (.bool true)]⟩
abbrev o119:=T [R 114]
abbrev o120:=bf "type.__prepare__" (.type "type")
abbrev o121(P:Params):=D ([E P "__module__" 324 m0,E P "__qualname__" 326 (V "Listed" 325),E P "__firstlineno__" 328 (.int 42 327),E P "__init__" 337 (R 132),E P "rank" 343 (R 137),E P "__static_attributes__" 345 (R 138)]) 6
abbrev o123:=W [I 44,I 4,R 131,I 48,I 4,R 136]
abbrev o124:=C1 "Listed" 319 42 0 0 122 false .none .none .none 322
abbrev o125:=fr 124 121 m0
abbrev o128:=T [V "self" 332,V "n" 333,V "some" 334]
abbrev o130:=ff "__init__" "Listed.__init__" dN
abbrev o131:=C "__init__" "Listed.__init__" 329 44 3 3 126 true (R 128) (R 129) (R 130) 335
abbrev o132:=fk "__init__" "Listed.__init__" dN m0 131
abbrev o135:=ff "rank" "Listed.rank" gp
abbrev o136:=C "rank" "Listed.rank" 338 48 2 3 133 true .none .none (R 135) 341
abbrev o137:=fk "rank" "Listed.rank" gp m0 136
abbrev o138:=T [V "listed" 344]
abbrev o139(P:Params):=D ([E P "__module__" 324 m0,E P "__firstlineno__" 328 (.int 42 327),E P "__init__" 337 (R 132),E P "rank" 343 (R 137),E P "__static_attributes__" 345 (R 138),E P "__doc__" 346 .none]) 2
abbrev o140:Obj:=⟨(.type "type"),none,Data.cls {name:=Str.ofString "Listed",bases:=[Value.ref 114],mro:=[Value.ref 140,Value.ref 114,Value.type "object"],ns:=139,qualname:=Str.ofString "Listed"}, #[some (R 119),none,some (V "Listed" 317),some (V "Listed" 325),some (.builtin "object.__new__"),some (.bool true)]⟩
abbrev o141:Obj:=⟨(.type "super"),none, .fields ⟨[R 140,R 140,R 140]⟩, #[]⟩
abbrev o142:=bf "object.__init_subclass__" (R 140)
abbrev o145:=T [V "house" 354]
abbrev o147:=f1 "whole_rank" gR
abbrev o148:=C1 "whole_rank" 351 51 1 3 143 true (R 145) (R 146) (R 147) 355
abbrev o149:=f2 "whole_rank" gR m5 148
abbrev o152:=f1 "ranks" pG
abbrev o153:=C1 "ranks" 358 53 1 3 150 true .none .none (R 152) 361
abbrev o154:=f2 "ranks" pG m5 153
abbrev o157:=f1 "frees" pJ
abbrev o158:=C1 "frees" 364 55 1 3 155 true .none .none (R 157) 367
abbrev o159:=f2 "frees" pJ m5 158
abbrev o162:=f1 "bases" pK
abbrev o163:=C1 "bases" 370 57 1 3 160 true .none .none (R 162) 373
abbrev o164:=f2 "bases" pK m5 163
abbrev g9(P:Params):List DictEntry:=[E P "Other" 413 (R 188)]
abbrev o3v4(P:Params):=D ((g6 P).append ((g1 P).append ((g4 P).append ((g7 P).append (g9 P))))) 27
abbrev g10:=[I 61,I 0,R 170]
abbrev o12v4:=W (g2.append (g3.append (g5.append (g8.append g10))))
abbrev o114v2:Obj:=⟨(.type "type"),none,Data.cls {name:=Str.ofString "House",bases:=[Value.type "object"],mro:=[Value.ref 114,Value.type "object"],ns:=113,qualname:=Str.ofString "House",subclasses:=[Value.ref 140,Value.ref 188]}, #[none,none,some m3,some m2,some (.builtin "object.__new__"),some (.bool true)]⟩
abbrev o165:=T [R 114]
abbrev o166:=bf "type.__prepare__" (.type "type")
abbrev o167(P:Params):=D ([E P "__module__" 385 m4,E P "__qualname__" 387 (V "Other" 386),E P "__firstlineno__" 389 (.int 61 388),E P "__init__" 397 (R 178),E P "rank" 406 (R 185),E P "__static_attributes__" 410 (R 186)]) 6
abbrev o169:=W [I 63,I 4,R 177,I 69,I 4,R 184]
abbrev o170:=C1 "Other" 380 61 0 0 168 false .none .none .none 383
abbrev o171:=fr 170 167 m4
abbrev o174:=T [V "self" 393,V "house" 394]
abbrev o176:=ff "__init__" "Other.__init__" dZ
abbrev o177:=C "__init__" "Other.__init__" 390 63 2 3 172 true (R 174) (R 175) (R 176) 395
abbrev o178:=fk "__init__" "Other.__init__" dZ m4 177
abbrev o181:=T [V "self" 401,V "s" 402,V "outside" 403]
abbrev o183:=ff "rank" "Other.rank" hU
abbrev o184:=C "rank" "Other.rank" 398 69 2 3 179 true (R 181) (R 182) (R 183) 404
abbrev o185:=fk "rank" "Other.rank" hU m4 184
abbrev o186:=T [V "full" 407,V "full_rank" 408,V "house" 409]
abbrev o187(P:Params):=D ([E P "__module__" 385 m4,E P "__firstlineno__" 389 (.int 61 388),E P "__init__" 397 (R 178),E P "rank" 406 (R 185),E P "__static_attributes__" 410 (R 186),E P "__doc__" 411 .none]) 2
abbrev o188:Obj:=⟨(.type "type"),none,Data.cls {name:=Str.ofString "Other",bases:=[Value.ref 114],mro:=[Value.ref 188,Value.ref 114,Value.type "object"],ns:=187,qualname:=Str.ofString "Other"}, #[some (R 165),none,some (V "Other" 378),some (V "Other" 386),some (.builtin "object.__new__"),some (.bool true)]⟩
abbrev o189:Obj:=⟨(.type "super"),none, .fields ⟨[R 188,R 188,R 188]⟩, #[]⟩
abbrev o190:=bf "object.__init_subclass__" (R 188)
abbrev g11(P:Params):List DictEntry:=[E P "__name__" 165 m6]
abbrev g12(P:Params):List DictEntry:=[E P "Minor" 452 (R 214),E P "TWO_OF_FOUR" 456 (V "two of four" 455),E P "TWO_OF_FIVE" 458 (V "two of five" 457),E P "THREE_OF_FIVE" 460 (V "three of five" 459),E P "SEVEN" 462 (V "seven" 461),E P "OTHER_SEVEN" 464 (V "other seven" 463),E P "is_even" 470 (R 221),E P "holders" 476 (R 226)]
abbrev o3v5(P:Params):=D ((g11 P).append ((g1 P).append ((g4 P).append ((g7 P).append ((g9 P).append (g12 P)))))) 35
abbrev g13:=[I 72,I 0,R 196,I 90,I 0,R 220,I 94,I 0,R 225]
abbrev o12v5:=W (g2.append (g3.append (g5.append (g8.append (g10.append g13)))))
abbrev o114v3:Obj:=⟨(.type "type"),none,Data.cls {name:=Str.ofString "House",bases:=[Value.type "object"],mro:=[Value.ref 114,Value.type "object"],ns:=113,qualname:=Str.ofString "House",subclasses:=[Value.ref 140,Value.ref 188,Value.ref 214]}, #[none,none,some m3,some m2,some (.builtin "object.__new__"),some (.bool true)]⟩
abbrev o191:=T [R 114]
abbrev o192:=bf "type.__prepare__" (.type "type")
abbrev o193(P:Params):=D ([E P "__module__" 421 m4,E P "__qualname__" 423 (V "Minor" 422),E P "__firstlineno__" 425 (.int 72 424),E P "__init__" 436 (R 204),E P "rank" 444 (R 211),E P "__static_attributes__" 449 (R 212)]) 6
abbrev o195:=W [I 74,I 4,R 203,I 82,I 4,R 210]
abbrev o196:=C1 "Minor" 416 72 0 0 194 false .none .none .none 419
abbrev o197:=fr 196 193 m4
abbrev o200:=T [V "self" 429,V "house" 430,V "out" 431,V "drawn" 432,V "kept" 433]
abbrev o202:=ff "__init__" "Minor.__init__" d8
abbrev o203:=C "__init__" "Minor.__init__" 426 74 4 3 198 true (R 200) (R 201) (R 202) 434
abbrev o204:=fk "__init__" "Minor.__init__" d8 m4 203
abbrev o207:=T [V "self" 440,V "s" 441]
abbrev o209:=ff "rank" "Minor.rank" ia
abbrev o210:=C "rank" "Minor.rank" 437 82 2 3 205 true (R 207) (R 208) (R 209) 442
abbrev o211:=fk "rank" "Minor.rank" ia m4 210
abbrev o212:=T [V "drawn" 445,V "drawn_rank" 446,V "house" 447,V "kept" 448]
abbrev o213(P:Params):=D ([E P "__module__" 421 m4,E P "__firstlineno__" 425 (.int 72 424),E P "__init__" 436 (R 204),E P "rank" 444 (R 211),E P "__static_attributes__" 449 (R 212),E P "__doc__" 450 .none]) 2
abbrev o214:Obj:=⟨(.type "type"),none,Data.cls {name:=Str.ofString "Minor",bases:=[Value.ref 114],mro:=[Value.ref 214,Value.ref 114,Value.type "object"],ns:=213,qualname:=Str.ofString "Minor"}, #[some (R 191),none,some (V "Minor" 414),some (V "Minor" 422),some (.builtin "object.__new__"),some (.bool true)]⟩
abbrev o215:Obj:=⟨(.type "super"),none, .fields ⟨[R 214,R 214,R 214]⟩, #[]⟩
abbrev o216:=bf "object.__init_subclass__" (R 214)
abbrev o219:=f1 "is_even" kD
abbrev o220:=C1 "is_even" 465 90 3 3 217 true .none .none (R 219) 468
abbrev o221:=f2 "is_even" kD m6 220
abbrev o224:=f1 "holders" kE
abbrev o225:=C1 "holders" 471 94 2 3 222 true .none .none (R 224) 474
abbrev o226:=f2 "holders" kE m6 225
abbrev g14(P:Params):List DictEntry:=[E P "__name__" 165 m7]
abbrev g15(P:Params):List DictEntry:=[E P "is_seven" 482 (R 231),E P "kind_of" 489 (R 238),E P "rests" 497 (R 243),E P "pivot_place" 507 (R 250),E P "cleared" 513 (R 255),E P "all_cleared" 519 (R 260),E P "rank_of" 525 (R 265)]
abbrev o3v6(P:Params):=D ((g14 P).append ((g1 P).append ((g4 P).append ((g7 P).append ((g9 P).append ((g12 P).append (g15 P))))))) 42
abbrev g16:=[I 96,I 0,R 230,I 102,I 0,R 237,I 115,I 0,R 242,I 119,I 0,R 249,I 124,I 0,R 254,I 128,I 0,R 259,I 132,I 0,R 264]
abbrev o12v6:=W (g2.append (g3.append (g5.append (g8.append (g10.append (g13.append g16))))))
abbrev o229:=f1 "is_seven" jC
abbrev o230:=C1 "is_seven" 477 96 1 3 227 true .none .none (R 229) 480
abbrev o231:=f2 "is_seven" jC m6 230
abbrev o234:=T [V "house" 486]
abbrev o236:=f1 "kind_of" kC
abbrev o237:=C1 "kind_of" 483 102 1 3 232 true (R 234) (R 235) (R 236) 487
abbrev o238:=f2 "kind_of" kC m6 237
abbrev o241:=f1 "rests" pF
abbrev o242:=C1 "rests" 492 115 2 3 239 true .none .none (R 241) 495
abbrev o243:=f2 "rests" pF m8 242
abbrev o246:=T [V "rows" 501,V "column" 502,V "place" 503,V "row" 504]
abbrev o248:=f1 "pivot_place" gh
abbrev o249:=C1 "pivot_place" 498 119 2 3 244 true (R 246) (R 247) (R 248) 505
abbrev o250:=f2 "pivot_place" gh m8 249
abbrev o253:=f1 "cleared" kF
abbrev o254:=C1 "cleared" 508 124 4 3 251 true .none .none (R 253) 511
abbrev o255:=f2 "cleared" kF m8 254
abbrev o258:=f1 "all_cleared" gn
abbrev o259:=C1 "all_cleared" 514 128 4 3 256 true .none .none (R 258) 517
abbrev o260:=f2 "all_cleared" gn m8 259
abbrev o263:=f1 "rank_of" kB
abbrev o264:=C1 "rank_of" 520 132 2 3 261 true .none .none (R 263) 523
abbrev o265:=f2 "rank_of" kB m8 264
abbrev g17(P:Params):List DictEntry:=[E P "Known" 560 (R 289),E P "columns_with" 566 (R 296),E P "fits" 572 (R 301),E P "column_for" 578 (R 306),E P "single" 584 (R 311)]
abbrev o3v7(P:Params):=D ((g14 P).append ((g1 P).append ((g4 P).append ((g7 P).append ((g9 P).append ((g12 P).append ((g15 P).append (g17 P)))))))) 47
abbrev g18:=[I 148,I 0,R 271,I 156,I 0,R 295,I 165,I 0,R 300,I 172,I 0,R 305,I 179,I 0,R 310]
abbrev o12v7:=W (g2.append (g3.append (g5.append (g8.append (g10.append (g13.append (g16.append g18)))))))
abbrev o114v4:Obj:=⟨(.type "type"),none,Data.cls {name:=Str.ofString "House",bases:=[Value.type "object"],mro:=[Value.ref 114,Value.type "object"],ns:=113,qualname:=Str.ofString "House",subclasses:=[Value.ref 140,Value.ref 188,Value.ref 214,Value.ref 289]}, #[none,none,some m3,some m2,some (.builtin "object.__new__"),some (.bool true)]⟩
abbrev o266:=T [R 114]
abbrev o267:=bf "type.__prepare__" (.type "type")
abbrev o268(P:Params):=D ([E P "__module__" 535 m7,E P "__qualname__" 537 (V "Known" 536),E P "__firstlineno__" 539 (.int 148 538),E P "__init__" 547 (R 279),E P "rank" 555 (R 286),E P "__static_attributes__" 557 (R 287)]) 6
abbrev o270:=W [I 150,I 4,R 278,I 154,I 4,R 285]
abbrev o271:=C1 "Known" 530 148 0 0 269 false .none .none .none 533
abbrev o272:=fr 271 268 m7
abbrev o275:=T [V "self" 543,V "house" 544]
abbrev o277:=ff "__init__" "Known.__init__" d9
abbrev o278:=C "__init__" "Known.__init__" 540 150 2 3 273 true (R 275) (R 276) (R 277) 545
abbrev o279:=fk "__init__" "Known.__init__" d9 m7 278
abbrev o282:=T [V "self" 551,V "s" 552]
abbrev o284:=ff "rank" "Known.rank" ib
abbrev o285:=C "rank" "Known.rank" 548 154 2 3 280 true (R 282) (R 283) (R 284) 553
abbrev o286:=fk "rank" "Known.rank" ib m7 285
abbrev o287:=T [V "told" 556]
abbrev o288(P:Params):=D ([E P "__module__" 535 m7,E P "__firstlineno__" 539 (.int 148 538),E P "__init__" 547 (R 279),E P "rank" 555 (R 286),E P "__static_attributes__" 557 (R 287),E P "__doc__" 558 .none]) 2
abbrev o289:Obj:=⟨(.type "type"),none,Data.cls {name:=Str.ofString "Known",bases:=[Value.ref 114],mro:=[Value.ref 289,Value.ref 114,Value.type "object"],ns:=288,qualname:=Str.ofString "Known"}, #[some (R 266),none,some (V "Known" 528),some (V "Known" 536),some (.builtin "object.__new__"),some (.bool true)]⟩
abbrev o290:Obj:=⟨(.type "super"),none, .fields ⟨[R 289,R 289,R 289]⟩, #[]⟩
abbrev o291:=bf "object.__init_subclass__" (R 289)
abbrev o294:=f1 "columns_with" fE
abbrev o295:=C1 "columns_with" 561 156 2 3 292 true .none .none (R 294) 564
abbrev o296:=f2 "columns_with" fE m7 295
abbrev o299:=f1 "fits" tY
abbrev o300:=C1 "fits" 567 165 5 3 297 true .none .none (R 299) 570
abbrev o301:=f2 "fits" tY m7 300
abbrev o304:=f1 "column_for" gT
abbrev o305:=C1 "column_for" 573 172 5 3 302 true .none .none (R 304) 576
abbrev o306:=f2 "column_for" gT m7 305
abbrev o309:=f1 "single" ma
abbrev o310:=C1 "single" 579 179 2 3 307 true .none .none (R 309) 582
abbrev o311:=f2 "single" ma m7 310
abbrev g19(P:Params):List DictEntry:=[E P "__name__" 165 m9]
abbrev g20(P:Params):List DictEntry:=[E P "table_for" 590 (R 316),E P "left_barred" 604 (R 323),E P "told_over" 617 (R 330),E P "over_two" 624 (R 337),E P "over_three" 632 (R 344),E P "over_all" 638 (R 349),E P "tied" 646 (R 354)]
abbrev o3v8(P:Params):=D ((g19 P).append ((g1 P).append ((g4 P).append ((g7 P).append ((g9 P).append ((g12 P).append ((g15 P).append ((g17 P).append (g20 P))))))))) 54
abbrev g21:=[I 181,I 0,R 315,I 193,I 0,R 322,I 201,I 0,R 329,I 211,I 0,R 336,I 213,I 0,R 343,I 216,I 0,R 348,I 225,I 0,R 353]
abbrev o12v8:=W (g2.append (g3.append (g5.append (g8.append (g10.append (g13.append (g16.append (g18.append g21))))))))
abbrev o314:=f1 "table_for" iS
abbrev o315:=C1 "table_for" 585 181 2 3 312 true .none .none (R 314) 588
abbrev o316:=f2 "table_for" iS m7 315
abbrev o319:=T [V "house" 594,V "kind" 595,V "many" 596,V "rank" 597,V "kept" 598,V "rest" 599,V "drawn" 600,V "out" 601]
abbrev o321:=f1 "left_barred" gm
abbrev o322:=C1 "left_barred" 591 193 4 3 317 true (R 319) (R 320) (R 321) 602
abbrev o323:=f2 "left_barred" gm m7 322
abbrev o326:=T [V "house" 608,V "prime" 609,V "kinds" 610,V "known" 611,V "rows" 612,V "kind" 613,V "found" 614]
abbrev o328:=f1 "told_over" iQ
abbrev o329:=C1 "told_over" 605 201 3 3 324 true (R 326) (R 327) (R 328) 615
abbrev o330:=f2 "told_over" iQ m7 329
abbrev o333:=T [V "house" 621]
abbrev o335:=f1 "over_two" jA
abbrev o336:=C1 "over_two" 618 211 1 3 331 true (R 333) (R 334) (R 335) 622
abbrev o337:=f2 "over_two" jA m7 336
abbrev o340:=T [V "house" 628,V "kinds" 629]
abbrev o342:=f1 "over_three" gS
abbrev o343:=C1 "over_three" 625 213 1 3 338 true (R 340) (R 341) (R 342) 630
abbrev o344:=f2 "over_three" gS m7 343
abbrev o347:=f1 "over_all" jB
abbrev o348:=C1 "over_all" 633 216 1 3 345 true .none .none (R 347) 636
abbrev o349:=f2 "over_all" jB m7 348
abbrev o352:=f1 "tied" tV
abbrev o353:=C1 "tied" 641 225 2 3 350 true .none .none (R 352) 644
abbrev o354:=f2 "tied" tV m9 353
abbrev g22(P:Params):List DictEntry:=[E P "__name__" 165 m10]
abbrev g23(P:Params):List DictEntry:=[E P "Net" 688 (R 383),E P "_law_whole" 697 (R 392),E P "_law_size" 705 (R 399)]
abbrev o3v9(P:Params):=D ((g22 P).append ((g1 P).append ((g4 P).append ((g7 P).append ((g9 P).append ((g12 P).append ((g15 P).append ((g17 P).append ((g20 P).append (g23 P)))))))))) 57
abbrev g24:=[I 229,I 0,R 360,I 245,I 0,R 391,I 247,I 0,R 398]
abbrev o12v9:=W (g2.append (g3.append (g5.append (g8.append (g10.append (g13.append (g16.append (g18.append (g21.append g24)))))))))
abbrev o114v5:Obj:=⟨(.type "type"),none,Data.cls {name:=Str.ofString "House",bases:=[Value.type "object"],mro:=[Value.ref 114,Value.type "object"],ns:=113,qualname:=Str.ofString "House",subclasses:=[Value.ref 140,Value.ref 188,Value.ref 214,Value.ref 289,Value.ref 383]}, #[none,none,some m3,some m2,some (.builtin "object.__new__"),some (.bool true)]⟩
abbrev o355:=T [R 114]
abbrev o356:=bf "type.__prepare__" (.type "type")
abbrev o357(P:Params):=D ([E P "__module__" 654 m9,E P "__qualname__" 656 (V "Net" 655),E P "__firstlineno__" 658 (.int 229 657),E P "__init__" 664 (R 366),E P "pieces" 674 (R 373),E P "rank" 682 (R 380),E P "__static_attributes__" 685 (R 381)]) 7
abbrev o359:=W [I 231,I 4,R 365,I 236,I 4,R 372,I 242,I 4,R 379]
abbrev o360:=C1 "Net" 649 229 0 0 358 false .none .none .none 652
abbrev o361:=fr 360 357 m9
abbrev o364:=ff "__init__" "Net.__init__" fF
abbrev o365:=C "__init__" "Net.__init__" 659 231 4 3 362 true .none .none (R 364) 662
abbrev o366:=fk "__init__" "Net.__init__" fF m9 365
abbrev o369:=T [V "self" 668,V "s" 669,V "marks" 670,V "thing" 671]
abbrev o371:=ff "pieces" "Net.pieces" h9
abbrev o372:=C "pieces" "Net.pieces" 665 236 2 3 367 true (R 369) (R 370) (R 371) 672
abbrev o373:=fk "pieces" "Net.pieces" h9 m9 372
abbrev o376:=T [V "self" 678,V "s" 679]
abbrev o378:=ff "rank" "Net.rank" jG
abbrev o379:=C "rank" "Net.rank" 675 242 2 3 374 true (R 376) (R 377) (R 378) 680
abbrev o380:=fk "rank" "Net.rank" jG m9 379
abbrev o381:=T [V "points" 683,V "ties" 684]
abbrev o382(P:Params):=D ([E P "__module__" 654 m9,E P "__firstlineno__" 658 (.int 229 657),E P "__init__" 664 (R 366),E P "pieces" 674 (R 373),E P "rank" 682 (R 380),E P "__static_attributes__" 685 (R 381),E P "__doc__" 686 .none]) 2
abbrev o383:Obj:=⟨(.type "type"),none,Data.cls {name:=Str.ofString "Net",bases:=[Value.ref 114],mro:=[Value.ref 383,Value.ref 114,Value.type "object"],ns:=382,qualname:=Str.ofString "Net"}, #[some (R 355),none,some (V "Net" 647),some (V "Net" 655),some (.builtin "object.__new__"),some (.bool true)]⟩
abbrev o384:Obj:=⟨(.type "super"),none, .fields ⟨[R 383,R 383,R 383]⟩, #[]⟩
abbrev o385:=bf "object.__init_subclass__" (R 383)
abbrev o388:=T [V "_law_found" 694]
abbrev o390:=f1 "_law_whole" gU
abbrev o391:=C1 "_law_whole" 691 245 1 3 386 true (R 388) (R 389) (R 390) 695
abbrev o392:=f2 "_law_whole" gU m10 391
abbrev o395:=T [V "_law_s" 701,V "_law_many" 702]
abbrev o397:=f1 "_law_size" iU
abbrev o398:=C1 "_law_size" 698 247 1 3 393 true (R 395) (R 396) (R 397) 703
abbrev o399:=f2 "_law_size" iU m10 398
abbrev g25(P:Params):List DictEntry:=[E P "_law_far" 711 (R 404),E P "_law_ranks" 717 (R 409),E P "_law_determinant" 730 (R 416),E P "_law_minor" 736 (R 421),E P "_law_seven" 742 (R 426),E P "_law_kind" 748 (R 431),E P "_law_table_right" 754 (R 436),E P "_law_right" 766 (R 443),E P "_law_net" 772 (R 448),E P "_law_put" 785 (R 455),E P "_law_idle" 796 (R 462),E P "_law_round" 802 (R 467),E P "law" 808 (R 472)]
abbrev o3v10(P:Params):=D ((g22 P).append ((g1 P).append ((g4 P).append ((g7 P).append ((g9 P).append ((g12 P).append ((g15 P).append ((g17 P).append ((g20 P).append ((g23 P).append (g25 P))))))))))) 70
abbrev g26:=[I 253,I 0,R 403,I 263,I 0,R 408,I 275,I 0,R 415,I 287,I 0,R 420,I 297,I 0,R 425,I 306,I 0,R 430,I 319,I 0,R 435,I 337,I 0,R 442,I 350,I 0,R 447,I 367,I 0,R 454,I 378,I 0,R 461,I 385,I 0,R 466,I 396,I 0,R 471]
abbrev o12v10:=W (g2.append (g3.append (g5.append (g8.append (g10.append (g13.append (g16.append (g18.append (g21.append (g24.append g26))))))))))
abbrev o402:=f1 "_law_far" jF
abbrev o403:=C1 "_law_far" 706 253 3 3 400 true .none .none (R 402) 709
abbrev o404:=f2 "_law_far" jF m10 403
abbrev o407:=f1 "_law_ranks" gY
abbrev o408:=C1 "_law_ranks" 712 263 2 3 405 true .none .none (R 407) 715
abbrev o409:=f2 "_law_ranks" gY m10 408
abbrev o412:=T [V "_law_rows" 721,V "_law_told" 722,V "_law_s" 723,V "_law_row" 724,V "_law_total" 725,V "_law_turn" 726,V "_law_k" 727]
abbrev o414:=f1 "_law_determinant" dB
abbrev o415:=C1 "_law_determinant" 718 275 1 3 410 true (R 412) (R 413) (R 414) 728
abbrev o416:=f2 "_law_determinant" dB m10 415
abbrev o419:=f1 "_law_minor" gZ
abbrev o420:=C1 "_law_minor" 731 287 4 3 417 true .none .none (R 419) 734
abbrev o421:=f2 "_law_minor" gZ m10 420
abbrev o424:=f1 "_law_seven" gV
abbrev o425:=C1 "_law_seven" 737 297 1 3 422 true .none .none (R 424) 740
abbrev o426:=f2 "_law_seven" gV m10 425
abbrev o429:=f1 "_law_kind" iV
abbrev o430:=C1 "_law_kind" 743 306 1 3 427 true .none .none (R 429) 746
abbrev o431:=f2 "_law_kind" iV m10 430
abbrev o434:=f1 "_law_table_right" dA
abbrev o435:=C1 "_law_table_right" 749 319 3 3 432 true .none .none (R 434) 752
abbrev o436:=f2 "_law_table_right" dA m10 435
abbrev o439:=T [V "_law_found" 758,V "_law_many" 759,V "_law_levels" 760,V "_law_out" 761,V "_law_drawn" 762,V "_law_kind_here" 763]
abbrev o441:=f1 "_law_right" gX
abbrev o442:=C1 "_law_right" 755 337 3 3 437 true (R 439) (R 440) (R 441) 764
abbrev o443:=f2 "_law_right" gX m10 442
abbrev o446:=f1 "_law_net" jE
abbrev o447:=C1 "_law_net" 767 350 2 3 444 true .none .none (R 446) 770
abbrev o448:=f2 "_law_net" jE m10 447
abbrev o451:=T [V "_law_told" 776,V "_law_many" 777,V "_law_at" 778,V "_law_kind_here" 779,V "_law_found" 780,V "_law_s" 781,V "_law_wide" 782]
abbrev o453:=f1 "_law_put" jD
abbrev o454:=C1 "_law_put" 773 367 4 3 449 true (R 451) (R 452) (R 453) 783
abbrev o455:=f2 "_law_put" jD m10 454
abbrev o458:=T [V "_law_cells" 789,V "_law_many" 790,V "_law_told" 791,V "_law_turn" 792,V "_law_k" 793]
abbrev o460:=f1 "_law_idle" iW
abbrev o461:=C1 "_law_idle" 786 378 3 3 456 true (R 458) (R 459) (R 460) 794
abbrev o462:=f2 "_law_idle" iW m10 461
abbrev o465:=f1 "_law_round" gW
abbrev o466:=C1 "_law_round" 797 385 2 3 463 true .none .none (R 465) 800
abbrev o467:=f2 "_law_round" gW m10 466
abbrev o470:=f1 "law" eZ
abbrev o471:=C1 "law" 803 396 1 3 468 true .none .none (R 470) 806
abbrev o472:=f2 "law" eZ m10 471
abbrev ub(x:Obj)(P:Params):List Obj:=[boot_o_0 P,boot_o_1 P,boot_o_2 P,x,boot_o_4 P,boot_o_5 P,boot_o_6 P,boot_o_7 P,boot_o_8 P,boot_o_9 P,boot_o_10 P,Y]
abbrev u0(P:Params):=ub (boot_o_3 P) P
abbrev u1(P:Params):=[Z,o13,o14]
abbrev u2(P:Params):=ub (o3v1 P) P
abbrev u3(P:Params):=[o12v1,o13,o14,Y,Z,o17,Y,o19,o20,o21,Y,Z]
abbrev u4(P:Params):=[o24,o25,o26,Y,Z,o29,Y,o31,o32,o33,Y,Z]
abbrev u5(P:Params):=[o36,Y,o38,o39,o40,Y,Z,o43,Y,o45,o46,o47]
abbrev u6(P:Params):=[Y,Z,o50,o51,o52,Y,Z,o55,o56,o57,Y,Z]
abbrev u7(P:Params):=[o60,o61,o62,Y,Z,o65,Y,o67,o68,o69,Y,Z]
abbrev u8(P:Params):=[o72,Y,o74,o75,o76,Y,Z,o79,Y,o81,o82,o83]
abbrev u9(P:Params):=ub (o3v2 P) P
abbrev u10(P:Params):=[o12v2,o13,o14,Y,Z,o17,Y,o19,o20,o21,Y,Z]
abbrev u11(P:Params):=[Y,o85,o86 P,Y,o88,o89,o90,Y,Z,o93,Y,o95]
abbrev u12(P:Params):=[o96,o97,Y,Z,o100,Y,o102,o103,o104,Y,Z,o107]
abbrev u13(P:Params):=[Y,o109,o110,o111,o112,o113 P,o114,o115,o116,o117,o118]
abbrev u14(P:Params):=ub (o3v3 P) P
abbrev u15(P:Params):=[o12v3,o13,o14,Y,Z,o17,Y,o19,o20,o21,Y,Z]
abbrev u16(P:Params):=[Y,o109,o110,o111,o112,o113 P,o114v1,o115,o116,o117,o118,o119]
abbrev u17(P:Params):=[o120,o121 P,Y,o123,o124,o125,Y,Z,o128,Y,o130,o131]
abbrev u18(P:Params):=[o132,Y,Z,o135,o136,o137,o138,o139 P,o140,o141,o142,Y]
abbrev u19(P:Params):=[Z,o145,Y,o147,o148,o149,Y,Z,o152,o153,o154,Y]
abbrev u20(P:Params):=[Z,o157,o158,o159,Y,Z,o162,o163,o164]
abbrev u21(P:Params):=ub (o3v4 P) P
abbrev u22(P:Params):=[o12v4,o13,o14,Y,Z,o17,Y,o19,o20,o21,Y,Z]
abbrev u23(P:Params):=[Y,o109,o110,o111,o112,o113 P,o114v2,o115,o116,o117,o118,o119]
abbrev u24(P:Params):=[Z,o157,o158,o159,Y,Z,o162,o163,o164,o165,o166,o167 P]
abbrev u25(P:Params):=[Y,o169,o170,o171,Y,Z,o174,Y,o176,o177,o178,Y]
abbrev u26(P:Params):=[Z,o181,Y,o183,o184,o185,o186,o187 P,o188,o189,o190]
abbrev u27(P:Params):=ub (o3v5 P) P
abbrev u28(P:Params):=[o12v5,o13,o14,Y,Z,o17,Y,o19,o20,o21,Y,Z]
abbrev u29(P:Params):=[Y,o109,o110,o111,o112,o113 P,o114v3,o115,o116,o117,o118,o119]
abbrev u30(P:Params):=[Z,o181,Y,o183,o184,o185,o186,o187 P,o188,o189,o190,o191]
abbrev u31(P:Params):=[o192,o193 P,Y,o195,o196,o197,Y,Z,o200,Y,o202,o203]
abbrev u32(P:Params):=[o204,Y,Z,o207,Y,o209,o210,o211,o212,o213 P,o214,o215]
abbrev u33(P:Params):=[o216,Y,Z,o219,o220,o221,Y,Z,o224,o225,o226]
abbrev u34(P:Params):=ub (o3v6 P) P
abbrev u35(P:Params):=[o12v6,o13,o14,Y,Z,o17,Y,o19,o20,o21,Y,Z]
abbrev u36(P:Params):=[o216,Y,Z,o219,o220,o221,Y,Z,o224,o225,o226,Y]
abbrev u37(P:Params):=[Z,o229,o230,o231,Y,Z,o234,Y,o236,o237,o238,Y]
abbrev u38(P:Params):=[Z,o241,o242,o243,Y,Z,o246,Y,o248,o249,o250,Y]
abbrev u39(P:Params):=[Z,o253,o254,o255,Y,Z,o258,o259,o260,Y,Z,o263]
abbrev u40(P:Params):=[o264,o265]
abbrev u41(P:Params):=ub (o3v7 P) P
abbrev u42(P:Params):=[o12v7,o13,o14,Y,Z,o17,Y,o19,o20,o21,Y,Z]
abbrev u43(P:Params):=[Y,o109,o110,o111,o112,o113 P,o114v4,o115,o116,o117,o118,o119]
abbrev u44(P:Params):=[o264,o265,o266,o267,o268 P,Y,o270,o271,o272,Y,Z,o275]
abbrev u45(P:Params):=[Y,o277,o278,o279,Y,Z,o282,Y,o284,o285,o286,o287]
abbrev u46(P:Params):=[o288 P,o289,o290,o291,Y,Z,o294,o295,o296,Y,Z,o299]
abbrev u47(P:Params):=[o300,o301,Y,Z,o304,o305,o306,Y,Z,o309,o310,o311]
abbrev u48(P:Params):=ub (o3v8 P) P
abbrev u49(P:Params):=[o12v8,o13,o14,Y,Z,o17,Y,o19,o20,o21,Y,Z]
abbrev u50(P:Params):=[Y,Z,o314,o315,o316,Y,Z,o319,Y,o321,o322,o323]
abbrev u51(P:Params):=[Y,Z,o326,Y,o328,o329,o330,Y,Z,o333,Y,o335]
abbrev u52(P:Params):=[o336,o337,Y,Z,o340,Y,o342,o343,o344,Y,Z,o347]
abbrev u53(P:Params):=[o348,o349,Y,Z,o352,o353,o354]
abbrev u54(P:Params):=ub (o3v9 P) P
abbrev u55(P:Params):=[o12v9,o13,o14,Y,Z,o17,Y,o19,o20,o21,Y,Z]
abbrev u56(P:Params):=[Y,o109,o110,o111,o112,o113 P,o114v5,o115,o116,o117,o118,o119]
abbrev u57(P:Params):=[o348,o349,Y,Z,o352,o353,o354,o355,o356,o357 P,Y,o359]
abbrev u58(P:Params):=[o360,o361,Y,Z,o364,o365,o366,Y,Z,o369,Y,o371]
abbrev u59(P:Params):=[o372,o373,Y,Z,o376,Y,o378,o379,o380,o381,o382 P,o383]
abbrev u60(P:Params):=[o384,o385,Y,Z,o388,Y,o390,o391,o392,Y,Z,o395]
abbrev u61(P:Params):=[Y,o397,o398,o399]
abbrev u62(P:Params):=ub (o3v10 P) P
abbrev u63(P:Params):=[o12v10,o13,o14,Y,Z,o17,Y,o19,o20,o21,Y,Z]
abbrev u64(P:Params):=[Y,o397,o398,o399,Y,Z,o402,o403,o404,Y,Z,o407]
abbrev u65(P:Params):=[o408,o409,Y,Z,o412,Y,o414,o415,o416,Y,Z,o419]
abbrev u66(P:Params):=[o420,o421,Y,Z,o424,o425,o426,Y,Z,o429,o430,o431]
abbrev u67(P:Params):=[Y,Z,o434,o435,o436,Y,Z,o439,Y,o441,o442,o443]
abbrev u68(P:Params):=[Y,Z,o446,o447,o448,Y,Z,o451,Y,o453,o454,o455]
abbrev u69(P:Params):=[Y,Z,o458,Y,o460,o461,o462,Y,Z,o465,o466,o467]
abbrev u70(P:Params):=[Y,Z,o470,o471,o472]
theorem yu0:([u0,u1,u2,u3,u4,u5,u6,u7,u8,u9,u10,u11,u12,u13,u14,u15,u16,u17,u18,u19,u20,u21,u22,u23,u24,u25,u26,u27,u28,u29]:List (Params->List Obj)).all (λ_=>true)=true:=by k_qdec
theorem yu30:([u30,u31,u32,u33,u34,u35,u36,u37,u38,u39,u40,u41,u42,u43,u44,u45,u46,u47,u48,u49,u50,u51,u52,u53,u54,u55,u56,u57,u58,u59]:List (Params->List Obj)).all (λ_=>true)=true:=by k_qdec
theorem yu60:([u60,u61,u62,u63,u64,u65,u66,u67,u68,u69,u70]:List (Params->List Obj)).all (λ_=>true)=true:=by k_qdec
abbrev spl(l:List Obj):List Obj×List Obj:= @List.rec Obj (λ_=>List Obj×List Obj) ([],[]) (λx _ ih=>(x::ih.2,ih.1)) l
abbrev mkT(n:Nat):List Obj->BT:= @Nat.rec (λ_=>List Obj->BT) (λ_=> .nil) (λ_ ih l=> @List.rec Obj (λ_=>BT) .nil (λx r _=> .node x (ih (spl r).1) (ih (spl r).2)) l) n
theorem qh{α:Sort u}{a b c d:α}(h:a=b)(k:d=c)(e:b=c):a=d:=h.trans (e.trans k.symm)
abbrev l0(P:Params):=(tw13894225608423057668 P).append (tw17531079430653816501 P)
abbrev p0(P:Params):=(tw1912701158020654693 P).append ((tw2188347355606102534 P).append ((tw16368670287772101220 P).append (tw14842115654739255404 P)))
abbrev l2(P:Params):=(tw13809737476558091540 P).append ((tw2367299412457286945 P).append ((p0 P).append (tw4717311838995323452 P)))
abbrev p1(P:Params):=(p0 P).append ((tw4717311838995323452 P).append ((tw10037743213843438893 P).append (tw10009084784789568687 P)))
abbrev l3(P:Params):=(tw594758545415977400 P).append ((tw10895325593200808953 P).append ((p1 P).append (tw5084553986333570498 P)))
abbrev p2(P:Params):=(p1 P).append ((tw1672153094372761355 P).append ((tw4580522010931877059 P).append ((tw15163288008780518816 P).append (tw2560371371167247513 P))))
abbrev l4(P:Params):=(tw16641277437810104112 P).append ((tw11875653558476324687 P).append ((p2 P).append (tw13463505119322665063 P)))
abbrev p3(P:Params):=(p1 P).append ((tw6492967895434240573 P).append ((tw4580522010931877059 P).append ((tw15163288008780518816 P).append ((tw2560371371167247513 P).append ((tw537001028611820367 P).append (tw9833210585337712870 P))))))
abbrev l5(P:Params):=(tw18077194039007663117 P).append ((tw17755462387555777923 P).append ((p3 P).append (tw12708430989920435073 P)))
abbrev p4(P:Params):=(p1 P).append ((tw12419440788177488941 P).append ((tw4580522010931877059 P).append ((tw15163288008780518816 P).append ((tw2560371371167247513 P).append ((tw537001028611820367 P).append ((tw9833210585337712870 P).append ((tw13144694907161067814 P).append ((tw9051403873925241803 P).append (tw9532798600492905429 P)))))))))
abbrev l6(P:Params):=(tw3132545959879029114 P).append ((tw15893686080707579532 P).append ((p4 P).append (tw13540884194310252285 P)))
abbrev p5(P:Params):=(p4 P).append ((tw108614505241798827 P).append ((tw13403271955525184085 P).append ((tw9008512798899243008 P).append (tw5233117687303994960 P))))
abbrev l7(P:Params):=(tw7924019476267374970 P).append ((tw4163898066171597766 P).append ((p5 P).append (tw15952828016916965751 P)))
abbrev p6(P:Params):=(p1 P).append ((tw11379478403280837710 P).append ((tw4580522010931877059 P).append ((tw15163288008780518816 P).append ((tw2560371371167247513 P).append ((tw537001028611820367 P).append ((tw9833210585337712870 P).append ((tw13144694907161067814 P).append ((tw9051403873925241803 P).append ((tw9532798600492905429 P).append ((tw108614505241798827 P).append ((tw13403271955525184085 P).append ((tw9008512798899243008 P).append ((tw5233117687303994960 P).append ((tw1829372832393830862 P).append ((tw15315517357904613441 P).append (tw464002682377336327 P))))))))))))))))
abbrev l8(P:Params):=(tw15380438544845262330 P).append ((tw3498231505995959436 P).append ((p6 P).append (tw9818214866579459264 P)))
abbrev p7(P:Params):=(p6 P).append ((tw9818214866579459264 P).append ((tw14515330622082756866 P).append ((tw14785798428834493632 P).append (tw18201935550050738069 P))))
abbrev l9(P:Params):=(tw12500792342951176350 P).append ((tw13796877066481274120 P).append ((p7 P).append (tw10454839870730503995 P)))
abbrev p8(P:Params):=(p1 P).append ((tw11561923852052835483 P).append ((tw4580522010931877059 P).append ((tw15163288008780518816 P).append ((tw2560371371167247513 P).append ((tw537001028611820367 P).append ((tw9833210585337712870 P).append ((tw13144694907161067814 P).append ((tw9051403873925241803 P).append ((tw9532798600492905429 P).append ((tw108614505241798827 P).append ((tw13403271955525184085 P).append ((tw9008512798899243008 P).append ((tw5233117687303994960 P).append ((tw1829372832393830862 P).append ((tw15315517357904613441 P).append ((tw464002682377336327 P).append ((tw9818214866579459264 P).append ((tw14515330622082756866 P).append ((tw14785798428834493632 P).append ((tw18201935550050738069 P).append ((tw6372914150048047727 P).append ((tw5599453077622544939 P).append ((tw4093087934762282484 P).append (tw17158561351216856475 P))))))))))))))))))))))))
abbrev l10(P:Params):=(tw5571871322767964819 P).append ((tw15018400351400277463 P).append ((p8 P).append (tw9474750161309284266 P)))
abbrev l11(P:Params):=(tw3358886378142609072 P).append ((tw8941747231313380785 P).append ((tw1912701158020654693 P).append ((tw2188347355606102534 P).append ((tw16368670287772101220 P).append ((tw14842115654739255404 P).append ((tw4717311838995323452 P).append ((tw10037743213843438893 P).append ((tw10009084784789568687 P).append ((tw11561923852052835483 P).append ((tw4580522010931877059 P).append ((tw15163288008780518816 P).append ((tw2560371371167247513 P).append ((tw537001028611820367 P).append ((tw9833210585337712870 P).append ((tw13144694907161067814 P).append ((tw9051403873925241803 P).append ((tw9532798600492905429 P).append ((tw108614505241798827 P).append ((tw13403271955525184085 P).append ((tw9008512798899243008 P).append ((tw5233117687303994960 P).append ((tw1829372832393830862 P).append ((tw15315517357904613441 P).append ((tw464002682377336327 P).append ((tw9818214866579459264 P).append ((tw14515330622082756866 P).append ((tw14785798428834493632 P).append ((tw18201935550050738069 P).append ((tw6372914150048047727 P).append ((tw5599453077622544939 P).append ((tw4093087934762282484 P).append ((tw17158561351216856475 P).append ((tw16960971988522890112 P).append ((tw9734856250973436408 P).append ((tw13209480288670547452 P).append ((tw9060986387787648095 P).append ((tw10640993332368450643 P).append ((tw2076947277569861509 P).append (tw16153011758492227516 P)))))))))))))))))))))))))))))))))))))))
abbrev env:Env:={scope:=(pw_basehouse_k43_tables_over_all).main.scope,locals:=mainNs,globals:=mainNs,cells:=[],code:=Value.ref 13,frame:=some 14}
abbrev G0:List Stmt:=[top 0,top 1,top 2,top 3,top 4,top 5,top 6,top 7,top 8,top 9,top 10,top 11,top 12,top 13]
abbrev G1:List Stmt:=[top 14]
abbrev G2:List Stmt:=[top 15,top 16,top 17,top 18,top 19,top 20,top 21]
abbrev G3:List Stmt:=[top 22]
abbrev G4:List Stmt:=[top 23,top 24,top 25,top 26,top 27,top 28,top 29,top 30,top 31]
abbrev G5:List Stmt:=[top 32,top 33,top 34,top 35,top 36,top 37,top 38,top 39,top 40]
abbrev G6:List Stmt:=[top 41,top 42,top 43,top 44,top 45]
abbrev G7:List Stmt:=[top 46,top 47,top 48,top 49,top 50,top 51,top 52,top 53]
abbrev G8:List Stmt:=[top 54,top 55,top 56,top 57]
abbrev G9:List Stmt:=[top 58,top 59,top 60,top 61,top 62,top 63,top 64,top 65,top 66,top 67,top 68,top 69,top 70]
abbrev B0:List Stmt:=G0++(G1++(G2++(G3++(G4++(G5++(G6++(G7++(G8++(G9++([]))))))))))
abbrev c0:Code:= .body B0 env
abbrev f0:List Frame:=[topFrame ⟨0,0,0,0⟩]
def L0:World->OsState->Option (Shared×Thread):=λw os=>topGo treeTable pw_basehouse_k43_tables_over_all w 11 (some (Value.ref 6)) 12 ⟨boot_heap w.params,⟨[]⟩,boot_drawn,boot_toks,os⟩ (topStub pw_basehouse_k43_tables_over_all)
def M0:World->OsState->Option (Shared×Thread):=λw os=>some (⟨⟨⟨l0 w.params⟩,{}⟩,⟨[]⟩,{},187,os⟩,⟨denote treeTable c0,c0,⟨0,0,0,0⟩,f0⟩)
theorem yL0:((λ_=>true) L0&&(λ_=>true) M0)=true:=by k_qdec
theorem qL0:L0=M0:=qh te4453942571644881324 te7285866895703208684 (by kernel_rfl)
def L1:World->OsState->Option (Flow×Shared×Code×Pos):=λw os=>segRun treeTable pw_basehouse_k43_tables_over_all w 11 (some (Value.ref 6)) 1 1 ⟨⟨⟨l0 w.params⟩,{}⟩,⟨[]⟩,{},187,os⟩ (blockOf B0 env c0 ⟨0,0,0,0⟩ f0)
def M1:World->OsState->Option (Flow×Shared×Code×Pos):=λw os=>some (.next,(SharedT.mk (mkT 12 (l0 w.params)) 15 {} ⟨[]⟩ {} 187 os).abs,c0,⟨0,0,0,0⟩)
theorem yL1:((λ_=>true) L1&&(λ_=>true) M1)=true:=by k_qdec
theorem qL1:L1=M1:=qh te6387051279210280424 te10385057629971820802 (by kernel_rfl)
def L2:World->OsState->Option (Flow×SharedT×Code×Pos):=λw os=>segRunT treeTable pw_basehouse_k43_tables_over_all w 11 (some (Value.ref 6)) 1 342 (SharedT.mk (mkT 12 (l0 w.params)) 15 {} ⟨[]⟩ {} 187 os) (piecesOf G0 env c0 ⟨0,0,0,0⟩ f0)
def M2:World->OsState->Option (Flow×SharedT×Code×Pos):=λw os=>some (.next,(SharedT.mk (mkT 12 (l2 w.params)) 84 {} ⟨[]⟩ {} 273 os),c0,⟨31,0,31,8⟩)
theorem yL2:((λ_=>true) L2&&(λ_=>true) M2)=true:=by k_qdec
theorem qL2:L2=M2:=qh te9171306275460833034 te1760210624324108040 (by kernel_rfl)
def L3:World->OsState->Option (Flow×SharedT×Code×Pos):=λw os=>segRunT treeTable pw_basehouse_k43_tables_over_all w 11 (some (Value.ref 6)) 1 286 (SharedT.mk (mkT 12 (l2 w.params)) 84 {} ⟨[]⟩ {} 273 os) (piecesOf G1 env c0 ⟨31,0,31,8⟩ f0)
def M3:World->OsState->Option (Flow×SharedT×Code×Pos):=λw os=>some (.next,(SharedT.mk (mkT 12 (l3 w.params)) 119 {} ⟨[]⟩ {} 317 os),c0,⟨32,0,41,32⟩)
theorem yL3:((λ_=>true) L3&&(λ_=>true) M3)=true:=by k_qdec
theorem qL3:L3=M3:=qh te6196771281854559479 te2789812635788466785 (by kernel_rfl)
def L4:World->OsState->Option (Flow×SharedT×Code×Pos):=λw os=>segRunT treeTable pw_basehouse_k43_tables_over_all w 11 (some (Value.ref 6)) 1 400 (SharedT.mk (mkT 12 (l3 w.params)) 119 {} ⟨[]⟩ {} 317 os) (piecesOf G2 env c0 ⟨32,0,41,32⟩ f0)
def M4:World->OsState->Option (Flow×SharedT×Code×Pos):=λw os=>some (.next,(SharedT.mk (mkT 12 (l4 w.params)) 165 {} ⟨[]⟩ {} 378 os),c0,⟨60,0,60,8⟩)
theorem yL4:((λ_=>true) L4&&(λ_=>true) M4)=true:=by k_qdec
theorem qL4:L4=M4:=qh te18063231807419426806 te4793386113839911487 (by kernel_rfl)
def L5:World->OsState->Option (Flow×SharedT×Code×Pos):=λw os=>segRunT treeTable pw_basehouse_k43_tables_over_all w 11 (some (Value.ref 6)) 1 281 (SharedT.mk (mkT 12 (l4 w.params)) 165 {} ⟨[]⟩ {} 378 os) (piecesOf G3 env c0 ⟨60,0,60,8⟩ f0)
def M5:World->OsState->Option (Flow×SharedT×Code×Pos):=λw os=>some (.next,(SharedT.mk (mkT 12 (l5 w.params)) 191 {} ⟨[]⟩ {} 414 os),c0,⟨61,0,71,66⟩)
theorem yL5:((λ_=>true) L5&&(λ_=>true) M5)=true:=by k_qdec
theorem qL5:L5=M5:=qh te7289443652863241282 te11685339832826840484 (by kernel_rfl)
def L6:World->OsState->Option (Flow×SharedT×Code×Pos):=λw os=>segRunT treeTable pw_basehouse_k43_tables_over_all w 11 (some (Value.ref 6)) 1 390 (SharedT.mk (mkT 12 (l5 w.params)) 191 {} ⟨[]⟩ {} 414 os) (piecesOf G4 env c0 ⟨61,0,71,66⟩ f0)
def M6:World->OsState->Option (Flow×SharedT×Code×Pos):=λw os=>some (.next,(SharedT.mk (mkT 12 (l6 w.params)) 227 {} ⟨[]⟩ {} 477 os),c0,⟨94,0,95,44⟩)
theorem yL6:((λ_=>true) L6&&(λ_=>true) M6)=true:=by k_qdec
theorem qL6:L6=M6:=qh te11518265509499319272 te9035903999391717805 (by kernel_rfl)
def L7:World->OsState->Option (Flow×SharedT×Code×Pos):=λw os=>segRunT treeTable pw_basehouse_k43_tables_over_all w 11 (some (Value.ref 6)) 1 210 (SharedT.mk (mkT 12 (l6 w.params)) 227 {} ⟨[]⟩ {} 477 os) (piecesOf G5 env c0 ⟨94,0,95,44⟩ f0)
def M7:World->OsState->Option (Flow×SharedT×Code×Pos):=λw os=>some (.next,(SharedT.mk (mkT 12 (l7 w.params)) 266 {} ⟨[]⟩ {} 528 os),c0,⟨147,0,147,8⟩)
theorem yL7:((λ_=>true) L7&&(λ_=>true) M7)=true:=by k_qdec
theorem qL7:L7=M7:=qh te9490284035958612641 te1675962113473143740 (by kernel_rfl)
def L8:World->OsState->Option (Flow×SharedT×Code×Pos):=λw os=>segRunT treeTable pw_basehouse_k43_tables_over_all w 11 (some (Value.ref 6)) 1 382 (SharedT.mk (mkT 12 (l7 w.params)) 266 {} ⟨[]⟩ {} 528 os) (piecesOf G6 env c0 ⟨147,0,147,8⟩ f0)
def M8:World->OsState->Option (Flow×SharedT×Code×Pos):=λw os=>some (.next,(SharedT.mk (mkT 12 (l8 w.params)) 312 {} ⟨[]⟩ {} 585 os),c0,⟨179,0,180,60⟩)
theorem yL8:((λ_=>true) L8&&(λ_=>true) M8)=true:=by k_qdec
theorem qL8:L8=M8:=qh te7116466485190837356 te8127398886225657409 (by kernel_rfl)
def L9:World->OsState->Option (Flow×SharedT×Code×Pos):=λw os=>segRunT treeTable pw_basehouse_k43_tables_over_all w 11 (some (Value.ref 6)) 1 218 (SharedT.mk (mkT 12 (l8 w.params)) 312 {} ⟨[]⟩ {} 585 os) (piecesOf G7 env c0 ⟨179,0,180,60⟩ f0)
def M9:World->OsState->Option (Flow×SharedT×Code×Pos):=λw os=>some (.next,(SharedT.mk (mkT 12 (l9 w.params)) 355 {} ⟨[]⟩ {} 647 os),c0,⟨225,0,228,59⟩)
theorem yL9:((λ_=>true) L9&&(λ_=>true) M9)=true:=by k_qdec
theorem qL9:L9=M9:=qh te16134767483146388640 te1028310481701075085 (by kernel_rfl)
def L10:World->OsState->Option (Flow×SharedT×Code×Pos):=λw os=>segRunT treeTable pw_basehouse_k43_tables_over_all w 11 (some (Value.ref 6)) 1 377 (SharedT.mk (mkT 12 (l9 w.params)) 355 {} ⟨[]⟩ {} 647 os) (piecesOf G8 env c0 ⟨225,0,228,59⟩ f0)
def M10:World->OsState->Option (Flow×SharedT×Code×Pos):=λw os=>some (.next,(SharedT.mk (mkT 12 (l10 w.params)) 400 {} ⟨[]⟩ {} 706 os),c0,⟨247,0,252,20⟩)
theorem yL10:((λ_=>true) L10&&(λ_=>true) M10)=true:=by k_qdec
theorem qL10:L10=M10:=qh te8817224096938630680 te4223366021984358877 (by kernel_rfl)
def L11:World->OsState->Option (Flow×SharedT×Code×Pos):=λw os=>segRunT treeTable pw_basehouse_k43_tables_over_all w 11 (some (Value.ref 6)) 1 372 (SharedT.mk (mkT 12 (l10 w.params)) 400 {} ⟨[]⟩ {} 706 os) (piecesOf G9 env c0 ⟨247,0,252,20⟩ f0)
def M11:World->OsState->Option (Flow×SharedT×Code×Pos):=λw os=>some (.next,(SharedT.mk (mkT 12 (l11 w.params)) 473 {} ⟨[]⟩ {} 809 os),c0,⟨396,0,420,15⟩)
theorem yL11:((λ_=>true) L11&&(λ_=>true) M11)=true:=by k_qdec
theorem qL11:L11=M11:=qh te6997996825916537589 te5514423481259190630 (by kernel_rfl)
def L12:World->OsState->Option Shared:=λw os=>topRun treeTable pw_basehouse_k43_tables_over_all w 11 (some (Value.ref 6)) 2 (SharedT.mk (mkT 12 (l11 w.params)) 473 {} ⟨[]⟩ {} 809 os).abs (restOf [] env c0 ⟨396,0,420,15⟩ f0)
def M12:World->OsState->Option Shared:=λw os=>some ⟨⟨⟨l11 w.params⟩,{}⟩,⟨[]⟩,{},809,os⟩
theorem yL12:((λ_=>true) L12&&(λ_=>true) M12)=true:=by k_qdec
theorem qL12:L12=M12:=qh te15962966748412412817 te13323495729323226626 (by kernel_rfl)
abbrev Hf(P:Params):Heap:=⟨⟨l11 P⟩,{}⟩
abbrev Mn:Nat:=12+(1+(342+(286+(400+(281+(390+(210+(382+(218+(377+(372+(2))))))))))))
theorem rn(w:World)(os:OsState):topRun treeTable pw_basehouse_k43_tables_over_all w 11 (some (Value.ref 6)) Mn ⟨boot_heap w.params,⟨[]⟩,boot_drawn,boot_toks,os⟩ (topStub pw_basehouse_k43_tables_over_all)=some ⟨Hf w.params,⟨[]⟩,{},809,os⟩:=go_top (P0 (P0 qL0 w) os) (piece_block (P0 (P0 qL1 w) os) (RX (RY (P0 (P0 qL2 w) os)) (RX (RY (P0 (P0 qL3 w) os)) (RX (RY (P0 (P0 qL4 w) os)) (RX (RY (P0 (P0 qL5 w) os)) (RX (RY (P0 (P0 qL6 w) os)) (RX (RY (P0 (P0 qL7 w) os)) (RX (RY (P0 (P0 qL8 w) os)) (RX (RY (P0 (P0 qL9 w) os)) (RX (RY (P0 (P0 qL10 w) os)) (RX (RY (P0 (P0 qL11 w) os)) (P0 (P0 qL12 w) os))))))))))))
abbrev vw:Program:={(pw_basehouse_k43_tables_over_all)with main:={(pw_basehouse_k43_tables_over_all).main with body:=[top 1,top 2,top 3,top 4,top 5,top 6,top 7,top 8,top 9,top 10,top 12,top 14,top 15,top 17,top 18,top 19,top 20,top 22,top 23,top 25,top 26,top 27,top 28,top 29,top 30,top 31,top 32,top 33,top 35,top 36,top 37,top 38,top 39,top 41,top 42,top 43,top 44,top 45,top 46,top 47,top 48,top 49,top 50,top 51,top 53,top 54,top 56,top 57,top 58,top 59,top 60,top 61,top 62,top 63,top 64,top 65,top 66,top 67,top 68,top 69,top 70]}}
abbrev KF:Params->Frag:=λP=>(nat_lit 2,boot_o_2 P)::(nat_lit 3,o3v10 P)::(nat_lit 15,Y)::(nat_lit 17,o17)::(nat_lit 18,Y)::(nat_lit 20,o20)::(nat_lit 21,o21)::(nat_lit 22,Y)::(nat_lit 25,o25)::(nat_lit 26,o26)::(nat_lit 27,Y)::(nat_lit 29,o29)::(nat_lit 30,Y)::(nat_lit 32,o32)::(nat_lit 33,o33)::(nat_lit 34,Y)::(nat_lit 36,o36)::(nat_lit 37,Y)::(nat_lit 39,o39)::(nat_lit 40,o40)::(nat_lit 41,Y)::(nat_lit 43,o43)::(nat_lit 44,Y)::(nat_lit 46,o46)::(nat_lit 47,o47)::(nat_lit 48,Y)::(nat_lit 51,o51)::(nat_lit 52,o52)::(nat_lit 53,Y)::(nat_lit 56,o56)::(nat_lit 57,o57)::(nat_lit 58,Y)::(nat_lit 61,o61)::(nat_lit 62,o62)::(nat_lit 63,Y)::(nat_lit 65,o65)::(nat_lit 66,Y)::(nat_lit 68,o68)::(nat_lit 69,o69)::(nat_lit 70,Y)::(nat_lit 72,o72)::(nat_lit 73,Y)::(nat_lit 75,o75)::(nat_lit 76,o76)::(nat_lit 77,Y)::(nat_lit 79,o79)::(nat_lit 80,Y)::(nat_lit 82,o82)::(nat_lit 83,o83)::(nat_lit 91,Y)::(nat_lit 93,o93)::(nat_lit 94,Y)::(nat_lit 96,o96)::(nat_lit 97,o97)::(nat_lit 98,Y)::(nat_lit 100,o100)::(nat_lit 101,Y)::(nat_lit 103,o103)::(nat_lit 104,o104)::(nat_lit 105,Y)::(nat_lit 107,o107)::(nat_lit 108,Y)::(nat_lit 110,o110)::(nat_lit 111,o111)::(nat_lit 112,o112)::(nat_lit 113,o113 P)::(nat_lit 114,o114v5)::(nat_lit 115,o115)::(nat_lit 116,o116)::(nat_lit 119,o119)::(nat_lit 126,Y)::(nat_lit 128,o128)::(nat_lit 129,Y)::(nat_lit 131,o131)::(nat_lit 132,o132)::(nat_lit 133,Y)::(nat_lit 136,o136)::(nat_lit 137,o137)::(nat_lit 138,o138)::(nat_lit 139,o139 P)::(nat_lit 140,o140)::(nat_lit 143,Y)::(nat_lit 145,o145)::(nat_lit 146,Y)::(nat_lit 148,o148)::(nat_lit 149,o149)::(nat_lit 150,Y)::(nat_lit 153,o153)::(nat_lit 154,o154)::(nat_lit 155,Y)::(nat_lit 158,o158)::(nat_lit 159,o159)::(nat_lit 160,Y)::(nat_lit 163,o163)::(nat_lit 164,o164)::(nat_lit 165,o165)::(nat_lit 172,Y)::(nat_lit 174,o174)::(nat_lit 175,Y)::(nat_lit 177,o177)::(nat_lit 178,o178)::(nat_lit 179,Y)::(nat_lit 181,o181)::(nat_lit 182,Y)::(nat_lit 184,o184)::(nat_lit 185,o185)::(nat_lit 186,o186)::(nat_lit 187,o187 P)::(nat_lit 188,o188)::(nat_lit 191,o191)::(nat_lit 198,Y)::(nat_lit 200,o200)::(nat_lit 201,Y)::(nat_lit 203,o203)::(nat_lit 204,o204)::(nat_lit 205,Y)::(nat_lit 207,o207)::(nat_lit 208,Y)::(nat_lit 210,o210)::(nat_lit 211,o211)::(nat_lit 212,o212)::(nat_lit 213,o213 P)::(nat_lit 214,o214)::(nat_lit 217,Y)::(nat_lit 220,o220)::(nat_lit 221,o221)::(nat_lit 222,Y)::(nat_lit 225,o225)::(nat_lit 226,o226)::(nat_lit 227,Y)::(nat_lit 230,o230)::(nat_lit 231,o231)::(nat_lit 232,Y)::(nat_lit 234,o234)::(nat_lit 235,Y)::(nat_lit 237,o237)::(nat_lit 238,o238)::(nat_lit 239,Y)::(nat_lit 242,o242)::(nat_lit 243,o243)::(nat_lit 244,Y)::(nat_lit 246,o246)::(nat_lit 247,Y)::(nat_lit 249,o249)::(nat_lit 250,o250)::(nat_lit 251,Y)::(nat_lit 254,o254)::(nat_lit 255,o255)::(nat_lit 256,Y)::(nat_lit 259,o259)::(nat_lit 260,o260)::(nat_lit 261,Y)::(nat_lit 264,o264)::(nat_lit 265,o265)::(nat_lit 266,o266)::(nat_lit 273,Y)::(nat_lit 275,o275)::(nat_lit 276,Y)::(nat_lit 278,o278)::(nat_lit 279,o279)::(nat_lit 280,Y)::(nat_lit 282,o282)::(nat_lit 283,Y)::(nat_lit 285,o285)::(nat_lit 286,o286)::(nat_lit 287,o287)::(nat_lit 288,o288 P)::(nat_lit 289,o289)::(nat_lit 292,Y)::(nat_lit 295,o295)::(nat_lit 296,o296)::(nat_lit 297,Y)::(nat_lit 300,o300)::(nat_lit 301,o301)::(nat_lit 302,Y)::(nat_lit 305,o305)::(nat_lit 306,o306)::(nat_lit 307,Y)::(nat_lit 310,o310)::(nat_lit 311,o311)::(nat_lit 312,Y)::(nat_lit 315,o315)::(nat_lit 316,o316)::(nat_lit 317,Y)::(nat_lit 319,o319)::(nat_lit 320,Y)::(nat_lit 322,o322)::(nat_lit 323,o323)::(nat_lit 324,Y)::(nat_lit 326,o326)::(nat_lit 327,Y)::(nat_lit 329,o329)::(nat_lit 330,o330)::(nat_lit 331,Y)::(nat_lit 333,o333)::(nat_lit 334,Y)::(nat_lit 336,o336)::(nat_lit 337,o337)::(nat_lit 338,Y)::(nat_lit 340,o340)::(nat_lit 341,Y)::(nat_lit 343,o343)::(nat_lit 344,o344)::(nat_lit 345,Y)::(nat_lit 348,o348)::(nat_lit 349,o349)::(nat_lit 350,Y)::(nat_lit 353,o353)::(nat_lit 354,o354)::(nat_lit 355,o355)::(nat_lit 362,Y)::(nat_lit 365,o365)::(nat_lit 366,o366)::(nat_lit 367,Y)::(nat_lit 369,o369)::(nat_lit 370,Y)::(nat_lit 372,o372)::(nat_lit 373,o373)::(nat_lit 374,Y)::(nat_lit 376,o376)::(nat_lit 377,Y)::(nat_lit 379,o379)::(nat_lit 380,o380)::(nat_lit 381,o381)::(nat_lit 382,o382 P)::(nat_lit 383,o383)::(nat_lit 386,Y)::(nat_lit 388,o388)::(nat_lit 389,Y)::(nat_lit 391,o391)::(nat_lit 392,o392)::(nat_lit 393,Y)::(nat_lit 395,o395)::(nat_lit 396,Y)::(nat_lit 398,o398)::(nat_lit 399,o399)::(nat_lit 400,Y)::(nat_lit 403,o403)::(nat_lit 404,o404)::(nat_lit 405,Y)::(nat_lit 408,o408)::(nat_lit 409,o409)::(nat_lit 410,Y)::(nat_lit 412,o412)::(nat_lit 413,Y)::(nat_lit 415,o415)::(nat_lit 416,o416)::(nat_lit 417,Y)::(nat_lit 420,o420)::(nat_lit 421,o421)::(nat_lit 422,Y)::(nat_lit 425,o425)::(nat_lit 426,o426)::(nat_lit 427,Y)::(nat_lit 430,o430)::(nat_lit 431,o431)::(nat_lit 432,Y)::(nat_lit 435,o435)::(nat_lit 436,o436)::(nat_lit 437,Y)::(nat_lit 439,o439)::(nat_lit 440,Y)::(nat_lit 442,o442)::(nat_lit 443,o443)::(nat_lit 444,Y)::(nat_lit 447,o447)::(nat_lit 448,o448)::(nat_lit 449,Y)::(nat_lit 451,o451)::(nat_lit 452,Y)::(nat_lit 454,o454)::(nat_lit 455,o455)::(nat_lit 456,Y)::(nat_lit 458,o458)::(nat_lit 459,Y)::(nat_lit 461,o461)::(nat_lit 462,o462)::(nat_lit 463,Y)::(nat_lit 466,o466)::(nat_lit 467,o467)::(nat_lit 468,Y)::(nat_lit 471,o471)::(nat_lit 472,o472)::[]
abbrev aL:List Addr:=2::3::15::17::18::20::21::22::25::26::27::29::30::32::33::34::36::37::39::40::41::43::44::46::47::48::51::52::53::56::57::58::61::62::63::65::66::68::69::70::72::73::75::76::77::79::80::82::83::91::93::94::96::97::98::100::101::103::104::105::107::108::110::111::112::113::114::115::116::119::126::128::129::131::132::133::136::137::138::139::140::143::145::146::148::149::150::153::154::155::158::159::160::163::164::165::172::174::175::177::178::179::181::182::184::185::186::187::188::191::198::200::201::203::204::205::207::208::210::211::212::213::214::217::220::221::222::225::226::227::230::231::232::234::235::237::238::239::242::243::244::246::247::249::250::251::254::255::256::259::260::261::264::265::266::273::275::276::278::279::280::282::283::285::286::287::288::289::292::295::296::297::300::301::302::305::306::307::310::311::312::315::316::317::319::320::322::323::324::326::327::329::330::331::333::334::336::337::338::340::341::343::344::345::348::349::350::353::354::355::362::365::366::367::369::370::372::373::374::376::377::379::380::381::382::383::386::388::389::391::392::393::395::396::398::399::400::403::404::405::408::409::410::412::413::415::416::417::420::421::422::425::426::427::430::431::432::435::436::437::439::440::442::443::444::447::448::449::451::452::454::455::456::458::459::461::462::463::466::467::468::471::472::[]
theorem eK(P:Params):aL=(KF P).map (·.1):=by kernel_rfl
abbrev HK:Hook:=kHook KF aL eK
abbrev lsN:List Str:=[]
abbrev rw0:RowW:=OpenRow.toRowW (OpenLaw.row rw_basehouse_k43_tables_over_all)
abbrev Xt(s:Shared):Bool:=xlAt vw [] s&&recOk (RowW.records rw0) s
def Lz:World->OsState->Bool×Nat×Option Value:=λw os=>((boot_heap w.params).isNs mainGlobals&&(⟨[]⟩:Array GenState).size==0,(boot_heap w.params).objs.size,(boot_heap w.params).nsMap mainGlobals "__annotations__")
def Mz:World->OsState->Bool×Nat×Option Value:=λw os=>(true,11,(some (Value.ref 6)))
theorem yLz:((λ_=>true) Lz&&(λ_=>true) Mz)=true:=by k_qdec
theorem qLz:Lz=Mz:=Eq.trans te17831390912981975158 (by kernel_rfl:tw17831390912981975158=Mz)
def Ll:=λ(w:World) (os:OsState)=>((staticsOk (importedModules (pw_basehouse_k43_tables_over_all).main.body) (boot_heap w.params) (Hf w.params)&&namesBound pw_basehouse_k43_tables_over_all (Hf w.params)&&gensDone ⟨Hf w.params,⟨[]⟩,{},809,os⟩&&laidKept (boot_heap w.params) (Hf w.params)),openSeen vw lsN (importedModules (pw_basehouse_k43_tables_over_all).main.body) Xt true ⟨Hf w.params,⟨[]⟩,{},809,os⟩,aL.map (Hf w.params).get?)
def Ml:=λ(w:World) (_:OsState)=>(true,openGood vw lsN,(KF w.params).map λp=>some p.2)
theorem yLl:((λ_=>true) Ll&&(λ_=>true) Ml)=true:=by k_qdec
abbrev tL:=tw17448342430068451512
abbrev tv:=tw7000725165481098050
theorem x0:(λw os=>(tL w os).1)=λw _=>true:=by kernel_rfl
theorem x1:(λw os=>(tL w os).2.1.1)=λw _=>expectedOf tv:=by kernel_rfl
theorem x2:(λw os=>(tL w os).2.1.2.1)=λw _=>bltViewBooted:=by kernel_rfl
theorem x3:(λw os=>(tL w os).2.1.2.2.1)=λw _=>true:=by kernel_rfl
theorem x4:(λw os=>(tL w os).2.1.2.2.2.1)=λw _=>true:=by kernel_rfl
theorem x5:(λw os=>(tL w os).2.1.2.2.2.2.1)=λw _=>pinGoodD (drecsOf tv):=by kernel_rfl
theorem x6:(λw os=>(tL w os).2.1.2.2.2.2.2.1)=λw _=>plainGoodE tv (looseW tv lsN):=by kernel_rfl
theorem x7:(λw os=>(tL w os).2.1.2.2.2.2.2.2.1)=λw _=>plainGoodD tv lsN:=by kernel_rfl
theorem x8:(λw os=>(tL w os).2.1.2.2.2.2.2.2.2.1)=λw _=>wideGood tv:=by kernel_rfl
theorem x9:(λw os=>(tL w os).2.1.2.2.2.2.2.2.2.2)=λw _=>clsGoodW tv lsN:=by kernel_rfl
theorem x10:(λw os=>(tL w os).2.2)=λw _=>(KF w.params).map λp=>some p.2:=by kernel_rfl
theorem xx{A B C D E F G H I J K:Type}{x:A× (B×C×D×E×F×G×H×I×J)×K}{a b c d e f g h i j k}(y0:x.1=a)(y1:x.2.1.1=b)(y2:x.2.1.2.1=c)(y3:x.2.1.2.2.1=d)(y4:x.2.1.2.2.2.1=e)(y5:x.2.1.2.2.2.2.1=f)(y6:x.2.1.2.2.2.2.2.1=g)(y7:x.2.1.2.2.2.2.2.2.1=h)(y8:x.2.1.2.2.2.2.2.2.2.1=i)(y9:x.2.1.2.2.2.2.2.2.2.2=j)(y10:x.2.2=k):x=(a,(b,c,d,e,f,g,h,i,j),k):=by obtain⟨_,⟨_,_,_,_,_,_,_,_,_⟩,_⟩:=x;cases y0;cases y1;cases y2;cases y3;cases y4;cases y5;cases y6;cases y7;cases y8;cases y9;cases y10;rfl
theorem qLl:Ll=Ml:=qh te17448342430068451512 te15266112935050528847 (funext λw=>funext λos=>xx (P0 (P0 x0 w) os) (P0 (P0 x1 w) os) (P0 (P0 x2 w) os) (P0 (P0 x3 w) os) (P0 (P0 x4 w) os) (P0 (P0 x5 w) os) (P0 (P0 x6 w) os) (P0 (P0 x7 w) os) (P0 (P0 x8 w) os) (P0 (P0 x9 w) os) (P0 (P0 x10 w) os))
theorem hl:LeftO pw_basehouse_k43_tables_over_all vw lsN Xt HK.obs HK.val 6622:=LeftO.of_pieces (m₀:=11) (ann:=(some (Value.ref 6))) (boot_open (by kernel_rfl) (by decide) (λs=>by kernel_rfl)) (λw=>P0 (P0 qLz w) default) rn (by decide+kernel) (λw=>P0 qLl w)
end
end Hd
open PySem PySem.W PyProof.Rows
set_option maxRecDepth 100000 in
set_option maxHeartbeats 0 in
theorem PySem.Challenge.cw_basehouse_k43_tables_over_all_holds : PySem.Challenge.rw_basehouse_k43_tables_over_all.Holds := by
 w_on;o_law
 refine holds_open (q:=Hd.vw) (loose:=Hd.lsN) (Xt:=Hd.Xt) (XP:=XL Hd.vw []) (Yf:=Hd.HK.obs) (Ya:=Hd.HK.val) (YP:=(kHook Hd.KF Hd.aL Hd.eK).says) (N:=6622) Hd.hl Hd.HK.of Hd.HK.keeps (λs e=>xl_of s (Bool.and_eq_true_iff.mp e).1) XL.keeps (by rfl) (by rfl) (by rfl) (λs e=>recFacts_of (Bool.and_eq_true_iff.mp e).2) (by rfl) (by first|assumption|decide+kernel) (by decide+kernel) ⟨rfl,rfl,rfl,rfl,rfl,by decide+kernel⟩ ?hw ?hc
 (case hw=>w_witness2)
 k_fill
 refine BhK.walk (l:=PySem.Challenge.rw_basehouse_k43_tables_over_all) rfl rfl (λw h Y=>PySem.W.kIn_of Y) ?F
 case F=>
  intro w mg fa h KX G hmg
  refine' BhK.all_mk KX G hmg ?_ ?_ ?_ ?_ ?_ ?_ ?_ ?_ ?_ ?_ ?_ ?_ ?_ ?_ ?_ ?_ ?_ ?_ ?_ ?_ ?_ ?_ ?_ ?_ ?_ ?_ ?_ ?_ ?_ ?_ ?_ ?_ ?_ ?_ ?_ ?_ ?_ ?_ ?_ ?_ ?_ ?_ ?_ ?_ ?_ ?_ ?_ ?_ ?_ ?_ ?_ ?_ ?_ ?_ ?_ ?_ ?_ ?_ ?_ ?_ ?_ ?_ ?_ ?_ ?_ ?_ ?_ ?_ ?_ ?_ ?_ ?_ ?_ ?_ ?_ ?_ ?_ ?_ ?_ ?_ ?_ ?_ ?_ ?_ ?_ ?_ ?_ ?_ ?_ ?_ ?_ ?_ ?_ ?_ ?_ ?_ ?_ ?_ ?_ ?_ ?_ ?_ ?_ ?_ ?_ ?_ ?_ ?_ ?_ ?_ ?_ ?_ ?_ ?_ ?_ ?_ ?_ ?_ ?_ ?_ ?_ ?_ ?_ ?_ ?_ ?_ ?_ ?_ ?_ ?_ ?_ ?_ ?_ ?_ ?_ ?_ ?_ ?_
  all_goals try first|k_is|kit_is|decide|kernel_rfl|(refine' BhK.HL.mk ?_ ?_ ?_ ?_ ?_ ?_ ?_<;>try k_is)|(refine' BhK.HM.mk ?_ ?_ ?_ ?_ ?_<;>try k_is)|(refine' BhK.HD.mk ?_ ?_ ?_ ?_<;>try k_is)|(refine' BhK.HI.mk ?_ ?_ ?_ ?_<;>try k_is)
#print axioms PySem.Challenge.cw_basehouse_k43_tables_over_all_holds
