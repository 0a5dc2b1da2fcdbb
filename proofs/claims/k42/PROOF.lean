import PyProof.Rows.All
import Wide.All
import OpenK.AllK
import Wide.FinOn
import Lean
import PyProof.EqAt
import PyProof.EqKinds
import PyProof.TupleCall
import PyProof.AttrMissHeap
import PySem.Challenge.RW_basehouse_k42_tables_over_three
set_option Elab.async false
set_option linter.all false
set_option maxRecDepth 100000
open PySem.W(instObj methodObj lookIn plainGet hasDictIn findIn isFn plainOver takerIn makesIn emptyDict keepIn specialIn takesIn mroIn kitOne fnOf codeIn nsIn)
section
local macro_rules|`(#[$x,*])=>`(⟨$x,*⟩)
local macro_rules|`(#v[$x,*])=>`(List.toArray [$x,*])
local macro_rules|`(())=>`(by lia)
local macro_rules|`(∅)=>`(by decide)
local macro_rules|`(⋯)=>`(by rfl)
abbrev J2:=@List.length_map
abbrev J3:=@decide_eq_true
abbrev J4:=@if_neg
abbrev J5:=@if_pos
abbrev J6:=@decide_eq_false
abbrev J7:=@List.mem_cons
abbrev J8:=@Int.toNat_natCast
abbrev J9:=@List.mem_range
abbrev Ka:=@List.mem_map
abbrev Kb:=@Nat.lt_of_lt_of_le
abbrev Kc:=@List.getD_eq_getElem?_getD
abbrev Kd:=@Nat.le_trans
abbrev Ke:=@List.mem_cons_of_mem
abbrev Kf:=@decide_eq_true_iff
abbrev Kg:=@Int.dvd_mul_of_dvd_right
abbrev Kh:=@List.getElem?_eq_some_iff
abbrev Ki:=@List.not_mem_nil
abbrev Kj:=@Nat.eq_of_testBit_eq
abbrev Kk:=@Nat.le_refl
abbrev Kl:=@Nat.testBit_or
abbrev Km:=@List.mem_of_getElem?
abbrev Kn:=@Bool.and_eq_true
abbrev Ko:=@of_decide_eq_true
abbrev Kp:=@List.mem_cons_self
abbrev Kq:=@List.length_range
abbrev Kr:=@Classical.byContradiction
abbrev Ks:=@Nat.lt_of_le_of_lt
abbrev Kt:=@Nat.testBit_two_pow
abbrev Ku:=@Bool.false_ne_true
abbrev Kv:=@List.getElem?_map
abbrev Kw:=@Nat.pow_le_pow_right
abbrev Kx:=@List.mem_filter
abbrev Ky:=@List.getElem?_eq_getElem
abbrev Kz:=@List.length_append
abbrev KA:=@List.length_cons
abbrev KC:=@List.mem_append
abbrev KD:=@Nat.testBit_two_pow_sub_one
abbrev KG:=@Int.mul_comm
abbrev KH:=@Bool.or_eq_true
abbrev KI:=@Nat.zero_testBit
abbrev KJ:=@Int.mul_assoc
abbrev KL:=@List.length_take
abbrev KN:=@List.getElem?_append_right
abbrev KO:=@PySem.Heap.lt_size
abbrev KP:=@List.map_append
abbrev KQ:=@Nat.testBit_and
abbrev KR:=@List.getElem?_append_left
abbrev KS:=@List.map_cons
abbrev KU:=@PySem.Heap.get?_push_of_some
abbrev KW:=@Int.dvd_mul_of_dvd_left
abbrev KY:=@Int.dvd_zero
abbrev KZ:=@List.mem_singleton
abbrev K0:=@or_false
abbrev K1:=@Nat.testBit_lt_two_pow
abbrev K2:=@List.all_eq_true
abbrev K3:=@congrArg
abbrev K4:=@Nat.or_lt_two_pow
abbrev K5:=@List.map_map
abbrev K6:=@congrFun
abbrev K7:=@List.size_toArray
abbrev K9:=@Int.mul_left_comm
abbrev La:=@List.nodup_range
abbrev Lb:=@PySem.wpAny_bind
abbrev Lc:=@Bool.false_and
abbrev Ld:=@Bool.and_false
abbrev Le:=@List.length_eraseIdx_of_lt
abbrev Lf:=@Option.some.inj
abbrev Lg:=@List.nodup_cons
abbrev Lh:=@PySem.F.plainAttrs_list
abbrev Li:=@List.filter_congr
abbrev Lj:=@List.mem_append_right
abbrev Lk:=@Int.zero_add
abbrev Lm:=@PySem.F.slot_list_append
abbrev Ln:=@PySem.F.type_list_append
abbrev Lo:=@Bool.true_and
abbrev Lp:=@Nat.ne_of_lt
abbrev Lq:=@PySem.W.mg_none_of
abbrev Lr:=@Bool.not_eq_true'
abbrev Ls:=@Nat.zero_le
abbrev Lu:=@List.length_filter_le
abbrev Lv:=@Int.natCast_nonneg
abbrev Lw:=@PySem.Heap.get?_push_size
abbrev Lx:=@List.take_add_one
abbrev Ly:=@List.take_length
abbrev LA:=@List.filter_cons
abbrev LB:=@List.map_congr_left
abbrev LC:=@Int.dvd_sub
abbrev LD:=@List.getElem_mem
abbrev LF:=@List.append_nil
abbrev LG:=@List.getElem?_range
abbrev LH:=@Int.one_mul
abbrev LJ:=@Int.sub_self
abbrev LK:=@PySem.wpAny_pure
abbrev LL:=@PySem.mem_of_lookup
abbrev LM:=@List.filter_eq_self
abbrev LN:=@Nat.lt_succ_self
abbrev LO:=@Nat.le_antisymm
abbrev LP:=@Nat.le_of_not_lt
abbrev LQ:=@List.getElem?_of_mem
abbrev LR:=@Nat.pow_lt_pow_right
abbrev LS:=@decide_eq_decide
abbrev LU:=@Int.neg_mul
abbrev LV:=@Int.eq_ofNat_of_zero_le
abbrev LW:=@Nat.sub_lt_sub_left
abbrev LX:=@List.range_succ
abbrev LY:=@Nat.succ_le_succ
abbrev LZ:=@List.mem_append_left
abbrev Ma:=@PyProof.Rows.callWith_type1
abbrev Mb:=@Int.emod_lt_of_pos
abbrev Mc:=@Bool.not_eq_true
abbrev Me:=@Int.emod_nonneg
abbrev Mf:=@Nat.pow_pos
abbrev Mg:=@Bool.eq_false_iff
abbrev Mh:=@List.append_assoc
abbrev Mi:=@Int.dvd_add
abbrev Mj:=@Int.mul_sub
abbrev Mm:=@Nat.lt_irrefl
abbrev Mo:=@Ne.symm
abbrev Mp:=@Bool.or_false
abbrev Mq:=@Bool.eq_iff_iff
abbrev Mr:=@List.filter_append
abbrev Ms:=@Int.mul_zero
abbrev Mt:=@PyProof.Rows.boot_isinstance
abbrev Mu:=@PySem.W.kia_one
abbrev Mv:=@Int.mul_add
abbrev Mw:=@List.nil_append
abbrev Mx:=@Int.sub_add_cancel
abbrev My:=@PySem.W.mg_of
abbrev MA:=@Int.zero_mul
abbrev MB:=@List.nodup_iff_pairwise_ne
abbrev MC:=@Nat.lt_pow_two_of_testBit
abbrev MD:=@List.getElem?_take_of_lt
abbrev ME:=@List.length_drop
abbrev MF:=@List.filter_filter
abbrev MG:=@Int.mul_one
abbrev MH:=@List.take_of_length_le
abbrev MI:=@Int.add_zero
abbrev MJ:=@True.intro
abbrev MK:=@List.lookup_cons
abbrev ML:=@Int.sub_sub_self
abbrev MN:=@List.mem_of_mem_take
abbrev MO:=@decide_eq_false_iff_not
abbrev MP:=@Int.dvd_of_emod_eq_zero
abbrev MQ:=@Nat.lt_of_not_le
abbrev MR:=@PyProof.Rows.boot_list
abbrev MS:=@List.map_id
abbrev MT:=@PySem.wpAny_passesOwn
abbrev MU:=@List.find?_cons
abbrev MV:=@List.foldl_cons
abbrev MW:=@List.filter_map
abbrev MX:=@List.getElem?_eq_none
abbrev MY:=@PySem.wpAny_truthy_bool
abbrev MZ:=@Nat.le_of_succ_le
abbrev Na:=@Nat.or_comm
abbrev Nb:=@or_congr_right
abbrev Nc:=@Nat.or_assoc
abbrev Nd:=@beq_eq_false_iff_ne
abbrev Nf:=@List.sum_cons
abbrev Ng:=@eq_comm
abbrev Nh:=@PySem.wpAny_Call_Name_kw
abbrev Ni:=@Nat.testBit_xor
abbrev Nj:=@Nat.not_lt_zero
abbrev Nk:=@List.getElem?_set_self
abbrev Nl:=@List.length_pos_of_mem
abbrev Nm:=@List.getElem?_eraseIdx
abbrev Nn:=@List.eq_nil_of_length_eq_zero
abbrev Np:=@PySem.Heap.size_push
abbrev Nq:=@List.map_nil
abbrev Nr:=@Nat.zero_add
abbrev Nt:=@Classical.choose_spec
abbrev Nu:=@PySem.W.piece_app
abbrev Nv:=@PySem.W.segRun_of
abbrev Nw:=@List.getElem?_set_ne
abbrev Nx:=@Nat.le_add_right
abbrev Ny:=@PySem.Paired.length
abbrev Nz:=@List.any_cons
abbrev NA:=@Bool.and_comm
abbrev NB:=@Nat.zero_or
abbrev NC:=@Int.mul_neg
abbrev ND:=@Array.length_toList
abbrev NF:=@List.length_reverse
abbrev NG:=@Nat.add_le_add_left
abbrev NH:=@PySem.W.callWith_K
abbrev NI:=@Nat.pow_succ
abbrev NJ:=@List.Pairwise.imp_of_mem
abbrev NK:=@List.getElem?_cons_succ
abbrev NL:=@List.length_eq_zero_iff
abbrev NM:=@Nat.testBit_mod_two_pow
abbrev NN:=@Classical.axiomOfChoice
abbrev NO:=@Int.emod_eq_zero_of_dvd
abbrev NP:=@PyProof.Rows.boot_tuple
abbrev NQ:=@List.foldl_append
abbrev NR:=@List.nodup_append
abbrev NS:=@List.flatMap_cons
abbrev NT:=@PySem.wpAny_pyIter_rangeiter
abbrev NU:=@Option.map_eq_some_iff
abbrev NV:=@Nat.xor_assoc
abbrev NW:=@List.length_replicate
abbrev NX:=@PySem.W.methodCall_KW
abbrev NY:=@Array.getElem?_toList
abbrev NZ:=@PySem.F.slot_range_reversed
abbrev N1:=@Int.mul_ediv_add_emod
abbrev N2:=@PySem.wpAny_mono
abbrev N3:=@PySem.wpAny_execs_nil
abbrev N4:=@beq_iff_eq
abbrev N5:=@Or.inl
abbrev N6:=@Nat.min_eq_left
abbrev N7:=@Nat.lt_trans
abbrev N8:=@Int.pow_succ
abbrev N9:=@List.sublist_map_iff
abbrev Oa:=@Classical.not_forall
abbrev Ob:=@Int.sub_zero
abbrev Oc:=@and_congr_right
abbrev Od:=@List.mem_of_mem_drop
abbrev Oe:=@List.eq_nil_iff_forall_not_mem
abbrev Of:=@List.filterMap_cons
abbrev Og:=@PySem.W.plainGet_of
abbrev Oh:=@List.mem_map_of_mem
abbrev Oi:=@Int.natAbs_mul
abbrev Oj:=@PySem.wpAny_of_eq
abbrev Ol:=@Bool.false_eq_true
abbrev Om:=@List.append_of_mem
abbrev Oo:=@Int.ofNat_dvd_left
abbrev Oq:=@Nat.testBit_two_pow_mul_add
abbrev Ot:=@Int.add_sub_cancel
abbrev Ou:=@List.getElem_range
abbrev Ov:=@Nat.pos_of_ne_zero
abbrev Ow:=@Nat.add_sub_cancel
abbrev Ox:=@Nat.and_one_is_mod
abbrev Oy:=@Int.fdiv_eq_ediv_of_nonneg
abbrev Oz:=@List.all_cons
abbrev OA:=@PySem.slot_list_getitem
abbrev OB:=@Nat.lt_succ_of_lt
abbrev OC:=@List.pairwise_map
abbrev OD:=@List.getElem?_inj
abbrev OE:=@Int.eq_of_mul_eq_mul_left
abbrev OF:=@Nat.le_of_lt
abbrev OG:=@List.getElem_inj
abbrev OH:=@Nat.ne_of_gt
abbrev OI:=@PySem.codeAny_mono
abbrev OJ:=@Nat.min_eq_right
abbrev OL:=@not_or
abbrev OM:=@Bool.or_true
abbrev ON:=@List.any_eq_true
abbrev OO:=@Int.pow_zero
abbrev OP:=@List.ext_getElem
abbrev OQ:=@List.getElem_map
abbrev OR:=@Nat.sub_self
abbrev OS:=@Nat.testBit_zero
abbrev OT:=@List.getElem?_replicate
abbrev OU:=@Nat.add_sub_cancel_left
abbrev OV:=@List.sublist_append_iff
abbrev OW:=@Nat.testBit_div_two_pow
abbrev OX:=@List.of_mem_zip
abbrev OY:=@PySem.pushCells_keeps
abbrev OZ:=@List.length_nil
abbrev O0:=@Nat.and_le_left
abbrev O1:=@Int.mul_eq_zero
abbrev O2:=@Int.natCast_add
abbrev O3:=@Int.add_mul
abbrev O4:=@Int.sub_mul
abbrev O5:=@if_true
abbrev O6:=@or_assoc
abbrev O7:=@Nat.mul_assoc
namespace L2
open PySem PySem.Spec PyProof.Rows
abbrev Key:=Sum Int Str
def qz:Key->Value->Bool
 | .inl k,v=>Value.isInt k v
 | .inr x,v=>Value.isStrOf x v
def JT(w:World):Key->Int
 | .inl k=>hashInt k
 | .inr x=>hashStr w x
theorem cT:∀ {k:Key} {v:Value},qz k v=true->(∃i t,k=Sum.inl i/\v=Value.int i t)\/(∃x t,k=Sum.inr x/\v=Value.str x t)
 | .inl i,v,h=>by obtain⟨t,e⟩:=Value.isInt_shape (k:=i) (v:=v) h;exact .inl #[i,t,rfl,e]
 | .inr x,v,h=>by obtain⟨t,e⟩:=Value.isStrOf_shape (x:=x) (v:=v) h;exact .inr #[x,t,rfl,e]
theorem Co(i:Int)(t:Tok):qz (.inl i) (.int i t)=true:=by simp[qz,Value.isInt]
theorem Cn(x:Str)(t:Tok):qz (.inr x) (.str x t)=true:=by simp[qz,Value.isStrOf]
theorem yU(a b:Int):decide ((Sum.inl a:Key)=Sum.inl b)=(a==b):=by
 by_cases e:a=b
 .subst e;simp
 .have h:¬(Sum.inl a:Key)=Sum.inl b:=λq=>e (Sum.inl.inj q);rw[J6 h];exact(Nd.mpr e).symm
theorem IA(a b:Str):decide ((Sum.inr a:Key)=Sum.inr b)=decide (a=b):=by
 by_cases e:a=b
 .subst e;simp
 .have h:¬(Sum.inr a:Key)=Sum.inr b:=λq=>e (Sum.inr.inj q);rw[J6 h,J6 e]
theorem IC(a:Int)(b:Str):decide ((Sum.inl a:Key)=Sum.inr b)=false:=J6 (λq=>nomatch q)
theorem IB(a:Str)(b:Int):decide ((Sum.inr a:Key)=Sum.inl b)=false:=J6 (λq=>nomatch q)
def dG(prog:Program)(w:World):PySem.KeyKind prog w Key where
 is:=qz
 hash:=JT w
 inj:=λv a b ha f=>by
  rcases cT ha with ⟨i,t,rfl,rfl⟩|⟨x,t,rfl,rfl⟩
  .rcases cT f with ⟨j,u,rfl,e⟩|⟨y,u,rfl,e⟩
   .injection e with c _;rw[c]
   .exact nomatch e
  .rcases cT f with ⟨j,u,rfl,e⟩|⟨y,u,rfl,e⟩
   .exact nomatch e
   .injection e with c _;rw[c]
 byValue:=λk v h=>by rcases cT h with ⟨i,t,rfl,rfl⟩|⟨x,t,rfl,rfl⟩<;>rfl
 pyHash:=λd h=>by
  rcases cT d with ⟨i,t,rfl,rfl⟩|⟨x,t,rfl,rfl⟩
  .exact wpAny_pyHash_int h
  .exact wpAny_pyHash_str h
 eqBool:=λg d h=>by
  rcases cT g with ⟨i,t,rfl,rfl⟩|⟨x,t,rfl,rfl⟩
  .rcases cT d with ⟨j,u,rfl,rfl⟩|⟨y,u,rfl,rfl⟩
   .rw[yU]at h;exact wpAny_eqBool_int h
   .rw[IC]at h;exact SeqAt.EqAt.int_str i t y u _ _ _ _ h
  .rcases cT d with ⟨j,u,rfl,rfl⟩|⟨y,u,rfl,rfl⟩
   .rw[IB]at h;exact SeqAt.EqAt.str_int x t j u _ _ _ _ h
   .rw[IA]at h;exact wpAny_eqBool_str h
 «strs»:=λk x t v h=>by
  rcases cT h with ⟨i,u,rfl,e⟩|⟨y,u,rfl,e⟩
  .exact nomatch e
  .injection e with c _
   subst c;cases v<;>rfl
theorem xc(prog:Program)(w:World)(i:Int)(t:Tok):(dG prog w).is (.inl i) (.int i t)=true:=Co i t
theorem w9(prog:Program)(w:World)(x:Str)(t:Tok):(dG prog w).is (.inr x) (.str x t)=true:=Cn x t
end L2
namespace L2
open PySem PySem.Spec PyProof.Rows
inductive V where
 |non|bl (b:Bool)|int (i:Int)|str (x:Str)|byt (b:Array UInt8)|flt (b:UInt64)|ref (a:Addr)|ty (n:String)
 deriving DecidableEq
def bZ:V->Value->Prop
 | .non,u=>u=Value.none
 | .bl b,u=>u=Value.bool b
 | .int i,u=>∃t,u=Value.int i t
 | .str x,u=>∃t,u=Value.str x t
 | .byt b,u=>∃t,u=Value.bytes b t
 | .flt b,u=>∃t,u=Value.float b t
 | .ref a,u=>u=Value.ref a
 | .ty n,u=>u=Value.type n
abbrev Vals:List V->List Value->Prop:=Paired bZ
theorem Vals.length{xs:List V}{us:List Value}(r:Vals xs us):xs.length=us.length:=Ny r
theorem Vals.get:∀ {xs:List V} {us:List Value} {i:Nat} {x:V},Vals xs us->xs[i]?=some x->∃u,us[i]?=some u/\bZ x u
 |_,_,_,_, .nil,e=>by simp at e
 |_,_,0,_, .cons r _,e=>by simp at e;subst e;exact#[_,rfl,r]
 |_,_,i+1,x, .cons _ t,e=>by obtain⟨u,a,b⟩:=Vals.get (i:=i) (x:=x) t (by simpa using e);exact#[u,by simpa using a,b]
theorem Vals.set(r:bZ x u):∀ {xs:List V} {us:List Value} (i:Nat),Vals xs us->Vals (xs.set i x) (us.set i u)
 |_,_,_, .nil=> .nil
 |_,_,0, .cons _ t=> .cons r t
 |_,_,i+1, .cons q t=> .cons q (Vals.set r i t)
theorem Vals.append:∀ {xs a:List V} {us ws:List Value},Vals xs us->Vals a ws->Vals (xs++a) (us++ws)
 |_,_,_,_, .nil,s=>s
 |_,_,_,_, .cons r t,s=> .cons r (Vals.append t s)
theorem Vals.take:∀ {xs:List V} {us:List Value} (n:Nat),Vals xs us->Vals (xs.take n) (us.take n)
 |_,_,0,_=> .nil
 |_,_,_+1, .nil=> .nil
 |_,_,n+1, .cons r t=> .cons r (Vals.take n t)
theorem Vals.drop:∀ {xs:List V} {us:List Value} (n:Nat),Vals xs us->Vals (xs.drop n) (us.drop n)
 |_,_,0,r=>r
 |_,_,_+1, .nil=> .nil
 |_,_,n+1, .cons _ t=>Vals.drop n t
def jC:Option V->Option Value->Prop
 |some v,some u=>bZ v u
 |none,none=>True
 |_,_=>False
def KV{κ:Type}:List (κ×V)->List (κ×Value)->Prop:=Paired λ(p:κ×V) (q:κ×Value)=>p.1=q.1/\bZ p.2 q.2
def kV:Key->V
 | .inl i=> .int i
 | .inr x=> .str x
inductive HO where
 |lst (xs:List V)
 |tup (xs:List V)
 |dK (kvs:List (Key×V))|dT (kvs:List (List Key×V))
 |set (S:Int->Bool) (n:Nat)
 |ins (C dx:Addr) (fs:List (Str×V))
 |own (x:Addr)
 |xd (fs:List (Str×V))
 |met (f x:Addr)
 |rng (lo hi:Int)
 |frz (o:Obj) (u:HO)
 |tbl (ps:Array Value)
 |ext (φ:Heap->Prop)
abbrev Hp:=Addr->Option HO
def upd(H:Hp)(a:Addr)(o:HO):Hp:=λb=>if b=a then some o else H b
theorem av:upd H a o a=some o:=by unfold upd;rw[J5 rfl]
theorem aJ(h:b≠a):upd H a o b=H b:=by unfold upd;rw[J4 h]
theorem lD:upd (upd H a o) a u=upd H a u:=by funext b;unfold upd;split<;>rfl
theorem oI{H:Hp}(h:H a=some o)(h':H b=some u)(d:o≠u):a≠b:=by intro e;subst e;rw[h]at h';exact d (Lf h')
theorem aM{H:Hp}(h:H a=some o)(h':H b=none):a≠b:=by intro e;subst e;rw[h]at h';cases h'
section
variable(P:Program)(w:World)
def cU(H:Hp)(h:Heap)(a:Addr):HO->Prop
 | .lst xs=>xs.length<=sizeLine/\∃ (c:List Value) (n:Nat),Vals xs c/\h.get? a=some {cls:= .type "list",data:= .seq c.toArray n}
 | .tup xs=>xs.length<=sizeLine/\∃c:List Value,Vals xs c/\IsTup h a c.toArray
 | .dK kvs=>kvs.length<=sizeLine/\(a==sysModules)=false/\∃vs,KV kvs vs/\h.DictOf (dG P w) a vs
 | .dT kvs=>kvs.length<=sizeLine/\(a==sysModules)=false/\∃xs:List (List Key×Addr×Value),
   Paired (λ(p:List Key×V) (q:List Key×Addr×Value)=>p.1=q.1/\H q.2.1=some (.tup (p.1.map kV))/\bZ p.2 q.2.2) kvs xs/\
   ∃o g ep,h.get? a=some o/\o.ExactDict/\o.data= .dict g ep/\g.toList=xs.map (entryOfKey (tupleKind (dG P w)))/\(xs.map (·.1)).Nodup
 | .set S n=>h.SetOf (intKind P w) a S n
 | .ins C d fs=>H d=some (.own a)/\fs.length<=1000/\d≠a/\h.get? a=some (instObj C d)/\
   ∃b,h.Ns1 d b/\(∀f,jC (fs.lookup f) (b f))/\PySem.Within b (fs.map (·.1))
 | .own _=>∃o,h.get? a=some o
 | .xd fs=>∃b,h.Ns1 a b/\∀f,jC (fs.lookup f) (b f)
 | .rng l k=>∃t u v,h.get? a=some {cls:= .type "range",data:= .fields #v[.int l t, .int k u, .int 1 v]}
 | .frz o u=>h.get? a=some o/\cU H h a u
 | .tbl ps=>h.get? a=some {cls:= .none,data:= .fields ps}
 | .met f x=>h.get? a=some (methodObj (.ref f) (.ref x))
 | .ext e=>e h/\(∃o,h.get? a=some o)/\∀i j:Heap,e i->(∀o,i.get? a=some o->j.get? a=some o)->e j
def HOk(H:Hp)(h:Heap):Prop:=∀a o,H a=some o->cU P w H h a o
end
section
variable{P:Program}{w:World}{H H':Hp}{h h':Heap}{a:Addr}{o:HO}
theorem cU.lt(x:cU P w H h a o):a<h.objs.size:=by
 cases o with
 |lst xs=>obtain⟨_,_,_,_,e⟩:=x;exact KO e
 |tup xs=>obtain⟨_,_,_,p⟩:=x;exact p.lt
 |dK kvs=>obtain⟨_,_,_,_,o,_,_,e,_⟩:=x;exact KO e
 |dT kvs=>obtain⟨_,_,_,_,o,_,_,e,_⟩:=x;exact KO e
 |set S n=>obtain⟨o,_,_,_,e,_⟩:=x;exact KO e
 |ins C b fs=>obtain⟨_,_,_,e,_⟩:=x;exact KO e
 |own y=>obtain⟨_,e⟩:=x;exact KO e
 |xd fs=>obtain⟨_,⟨_,_,_,e,_⟩,_⟩:=x;exact KO e
 |rng d c=>obtain⟨_,_,_,e⟩:=x;exact KO e
 |frz g u=>obtain⟨e,_⟩:=x;exact KO e
 |tbl ps=>exact KO (show h.get? a=some _ from x)
 |met f y=>exact KO (show h.get? a=some _ from x)
 |ext i=>obtain⟨_,⟨_,e⟩,_⟩:=x;exact KO e
theorem Paired.mapP:∀ {c:List e} {d:List β},Paired F c d->(∀a b,F a b->G a b)->Paired G c d
 |_,_, .nil,_=> .nil
 |_,_, .cons r t,f=> .cons (f _ _ r) (Paired.mapP t f)
theorem cU.stay(x:cU P w H h a o)(k:∀b u,(b=a\/H b=some (.own a))->h.get? b=some u->h'.get? b=some u)
  (A:∀b,H b=some (.own a)->H' b=some (.own a)) (B:∀b xs,H b=some (.tup xs)->H' b=some (.tup xs)):cU P w H' h' a o:=by
 induction o with
 |lst xs=>obtain⟨z,j,n,r,e⟩:=x;exact#[z,j,n,r,k _ _ (.inl rfl) e]
 |tup xs=>obtain⟨z,j,r,g,e,c⟩:=x;exact#[z,j,r,g,k _ _ (.inl rfl) e,c]
 |dK kvs=>obtain⟨z,y,vs,r,g,i,ep,e,c⟩:=x;exact#[z,y,vs,r,g,i,ep,k _ _ (.inl rfl) e,c]
 |dT kvs=>
  obtain⟨z,y,xs,r,g,i,ep,e,c⟩:=x;exact#[z,y,xs,Paired.mapP r λp q z=>#[z.1,B _ _ z.2.1,z.2.2],g,i,ep,k _ _ (.inl rfl) e,c]
 |set S n=>obtain⟨g,i,ep,t,e,c⟩:=x;exact#[g,i,ep,t,k _ _ (.inl rfl) e,c]
 |ins C J fs=>
  obtain⟨d,z,ne,e,l,⟨m,i,ep,s,c⟩,r⟩:=x;exact#[A _ d,z,ne,k _ _ (.inl rfl) e,l,#[m,i,ep,k _ _ (.inr d) s,c],r]
 |own y=>obtain⟨g,e⟩:=x;exact#[g,k _ _ (.inl rfl) e]
 |xd fs=>obtain⟨l,⟨m,i,ep,e,c⟩,r⟩:=x;exact#[l,#[m,i,ep,k _ _ (.inl rfl) e,c],r]
 |rng L K=>obtain⟨t,u,v,e⟩:=x;exact#[t,u,v,k _ _ (.inl rfl) e]
 |frz g u G=>obtain⟨e,q⟩:=x;exact#[k _ _ (.inl rfl) e,G q]
 |tbl ps=>
  have e:h.get? a=some {cls:= .none,data:= .fields ps}:=x;show h'.get? a=some {cls:= .none,data:= .fields ps};exact k a _ (.inl rfl) e
 |met f y=>
  have e:h.get? a=some (methodObj (.ref f) (.ref y)):=x;show h'.get? a=some (methodObj (.ref f) (.ref y));exact k a _ (.inl rfl) e
 |ext M=>obtain⟨p,⟨o,e⟩,st⟩:=x;exact#[st _ _ p λo q=>k _ _ (.inl rfl) q,#[o,k _ _ (.inl rfl) e],st]
theorem HOk.lt(x:HOk P w H h)(e:H a=some o):a<h.objs.size:=(x a o e).lt
theorem HOk.fresh(x:HOk P w H h)(e:h.objs.size<=a):H a=none:=by
 cases q:H a with
 |none=>rfl
 |some u=>exact absurd (Kb (x.lt q) e) (Mm _)
theorem HOk.kept(x:HOk P w H h)(k:∀b u,h.get? b=some u->h'.get? b=some u):HOk P w H h':=λa o e=>
 (x a o e).stay (λb u _ q=>k b u q) (λ_ q=>q) λ_ _ q=>q
theorem HOk.laid(x:HOk P w H h)(k:∀b u,h.get? b=some u->h'.get? b=some u)(g:h.objs.size<=a)(new:cU P w (upd H a o) h' a o):HOk P w (upd H a o) h':=λb u e=>by
 have f:=x.fresh g;by_cases d:b=a
 .subst d;rw[av]at e;cases e;exact new
 .rw[aJ d]at e;exact(x b u e).stay (λc v _ q=>k c v q) (λc q=>by rw[aJ (aM q f)];exact q) λc xs q=>by rw[aJ (aM q f)];exact q
end
def Rd(H:Hp)(a:Addr)(u:HO):Prop:=H a=some u\/∃o,H a=some (.frz o u)
theorem Rd.of(h:H a=some u):Rd H a u:= .inl h
theorem Rd.ok(r:Rd H a u)(x:HOk P w H h):cU P w H h a u:=by
 rcases r with r|⟨o,r⟩
 .exact x a u r
 .obtain⟨_,q⟩:=x a _ r;exact q
def Mut:Option HO->Prop
 |some (.lst _)=>True
 |some (.dK _)=>True
 |some (.dT _)=>True
 |some (.set _ _)=>True
 |some (.ins _ _ _)=>True
 |some (.ext _)=>True
 |_=>False
section
variable{P:Program}{w:World}{H:Hp}{h h':Heap}{x e:Addr}{o':HO}
theorem HOk.write(ok:HOk P w H h)(g:Mut (H x))(i:e=x\/H e=some (.own x))(k:∀b u,b≠e->h.get? b=some u->h'.get? b=some u)(m:∃u,h'.get? e=some u)
  (new:cU P w (upd H x o') h' x o'):HOk P w (upd H x o') h':=λb u q=>by
 have j:∀c y,H c=some (.own y)->c≠x:=λc y r z=>by subst z;rw[r]at g;exact g
 have o:∀c xs,H c=some (.tup xs)->c≠x:=λc xs r z=>by subst z;rw[r]at g;exact g
 by_cases a:b=x
 .subst a;rw[av]at q;cases q;exact new
 .rw[aJ a]at q;by_cases d:b=e
  .have l:H b=some (.own x):=by
    rcases i with z|z
    .exact absurd (d.trans z) a
    .rw[d];exact z
   rw[q]at l;cases l;obtain⟨v,n⟩:=m;exact#[v,by rw[d];exact n]
  .refine(ok b u q).stay (λc v f r=>k c v ?_ r) (λc r=>by rw[aJ (j c b r)];exact r) λc xs r=>by rw[aJ (o c xs r)];exact r
   rcases f with rfl|f
   .exact d
   .rintro rfl;rcases i with z|z
    .exact j c b f z
    .rw[f]at z;cases z;exact a rfl
end
structure Un(fs ex:List Addr)(H H':Hp)(h h':Heap):Prop where
 keep:∀b o,h.get? b=some o->H b=none->b∉fs->b∉ex->h'.get? b=some o
 slot:∀b o,h.get? b=some o->H b=none->b∈fs->b∉ex->∃sl,h'.get? b=some {o with slots:=sl}
 free:∀b o,h.get? b=some o->H b=none->b∉ex->H' b=none
 there:∀b o,h.get? b=some o->b∉ex->∃o',h'.get? b=some o'
 tups:∀b xs,H b=some (.tup xs)->H' b=some (.tup xs)
 frzs:∀b o u,H b=some (.frz o u)->H' b=some (.frz o u)
 tbls:∀b ps,H b=some (.tbl ps)->∃more,H' b=some (.tbl (ps++more))
section
variable{fs fs' ex ex':List Addr}{H H1 H2:Hp}{h h1 h2 h':Heap}{a x e:Addr}{o:HO}
theorem Un.any(u:Un fs ex H H1 h h1)(q:h.get? b=some c)(n:H b=none)(f:b∉ex):∃g,h1.get? b=some {c with slots:=g}:=by
 by_cases d:b∈fs
 .exact u.slot b c q n d f
 .exact#[c.slots,u.keep b c q n d f]
theorem Un.trans(a:Un fs ex H H1 h h1)(b:Un fs ex H1 H2 h1 h2):Un fs ex H H2 h h2 where
 keep:=λc f q n i d=>b.keep c f (a.keep c f q n i d) (a.free c f q n d) i d
 slot:=λc f q n i d=>by obtain⟨m,g⟩:=a.slot c f q n i d;obtain⟨l,j⟩:=b.slot c _ g (a.free c f q n d) i d;exact#[l,j]
 free:=λc f q n d=>by obtain⟨k,g⟩:=a.there c f q d;exact b.free c k g (a.free c f q n d) d
 there:=λc f q d=>by obtain⟨k,g⟩:=a.there c f q d;exact b.there c k g d
 tups:=λc xs q=>b.tups c xs (a.tups c xs q)
 frzs:=λc f xs q=>b.frzs c f xs (a.frzs c f xs q)
 tbls:=λc ps q=>by obtain⟨m1,g⟩:=a.tbls c ps q;obtain⟨m2,j⟩:=b.tbls c _ g;exact#[m1++m2,by rw[j,Array.append_assoc]]
theorem Un.kept(k:∀b u,h.get? b=some u->h'.get? b=some u):Un fs ex H H h h':=
 #[λb c q _ _ _=>k b c q,λb c q _ _ _=>#[c.slots,k b c q],λ_ _ _ n _=>n,λb c q _=>#[c,k b c q],λ_ _ q=>q,λ_ _ _ q=>q,λ_ ps q=>#[#v[],by rw[q];simp]]
theorem Un.refl:Un fs ex H H h h:=Un.kept λ_ _ q=>q
theorem Un.laid(k:∀b u,h.get? b=some u->h'.get? b=some u)(c:h.objs.size<=a)(hn:H a=none):Un fs ex H (upd H a o) h h' where
 keep:=λb u q _ _ _=>k b u q
 slot:=λb u q _ _ _=>#[u.slots,k b u q]
 free:=λb u q n _=>by rw[aJ (Lp (Kb (KO q) c))];exact n
 there:=λb u q _=>#[u,k b u q]
 tups:=λb xs q=>by rw[aJ (aM q hn)];exact q
 frzs:=λb u xs q=>by rw[aJ (aM q hn)];exact q
 tbls:=λb ps q=>#[#v[],by rw[aJ (aM q hn),q];simp]
theorem Un.write(c:Mut (H x))(j:e=x\/H e=some (.own x))(k:∀b u,b≠e->h.get? b=some u->h'.get? b=some u)(l:∃u,h'.get? e=some u):Un fs ex H (upd H x o) h h':=by
 have i:∀b,H b=none->b≠x:=λb n z=>by subst z;rw[n]at c;exact c
 have f:∀b,H b=none->b≠e:=λb n z=>by
  subst z;rcases j with r|r
  .exact i b n r
  .rw[n]at r;cases r
 have d:∀b u,H b=some u->¬Mut (some u)->b≠x:=λb u q m z=>by subst z;rw[q]at c;exact m c
 refine#[λb u q n _ _=>k b u (f b n) q,λb u q n _ _=>#[u.slots,k b u (f b n) q],λb u q n _=>by rw[aJ (i b n)];exact n,λb u q _=> ?_,
  λb xs q=>by rw[aJ (d b _ q λz=>z)];exact q,λb u xs q=>by rw[aJ (d b _ q λz=>z)];exact q,λb ps q=>#[#v[],by rw[aJ (d b _ q λz=>z),q];simp]]
 by_cases g:b=e
 .subst g;exact l
 .exact#[u,k b u g q]
theorem Un.mono(u:Un fs ex H H1 h h1)(i:∀b∈fs,b∈fs')(f:∀b∈ex,b∈ex'):Un fs' ex' H H1 h h1:=
 #[λb d q n g c=>u.keep b d q n (λz=>g (i b z)) λz=>c (f b z),λ_ _ q n _ c=>u.any q n λz=>c (f _ z),λb d q n c=>u.free b d q n λz=>c (f b z),λb d q c=>u.there b d q λz=>c (f b z),u.tups,u.frzs,u.tbls]
end
def trk(h:Heap)(H:Hp):List Addr:=(List.range h.objs.size).filter λa=>(H a).isSome
def uX(h:Heap)(H:Hp):Heap:=PySem.W.hideAll h (trk h H)
theorem Cr(h:Heap)(H:Hp):(uX h H).objs.size=h.objs.size:=PySem.W.hideAll_size _ _
theorem Er{h:Heap}(e:h.get? b=some o)(n:H b=none):(uX h H).get? b=some o:=
 PySem.W.hideAll_get _ e λa=>by have q:(H b).isSome=true:=(Kx.mp a).2;rw[n]at q;simp at q
theorem F2{h:Heap}(e:(uX h H).get? b=some o):h.get? b=some o/\H b=none:=by
 have a:h.get? b=some o:=PySem.W.of_hideAll (trk h H) e;refine#[a,?_];cases q:H b with
 |none=>rfl
 |some x=>
  have c:b∈trk h H:=Kx.mpr #[J9.mpr (KO a),by simp[q]];have z:(uX h H).get? b=none:=PySem.W.hideAll_none (trk h H) c;rw[z]at e;cases e
def GA(g h:Heap)(L:Addr):List (Addr×Obj):=(List.range h.objs.size).filterMap λa=>if a=L\/(g.get? a).isSome=true then none else(h.get? a).map λo=>(a,o)
def rest(g h:Heap)(L d:Addr):List (Addr×Obj):=(GA g h L).filter λp=>decide (p.1≠d)
end L2
namespace L2
open PySem PySem.Spec PyProof.Rows
structure Mod(K:PySem.W.Frag)(mg:Str->Option Value)(base:Heap):Prop where
 kin:K.In base
 glob:base.Ns mainGlobals mg
 blt:∃mb,base.Ns builtinsNs mb/\∀x:Str,x≠ "__name__"->mb x=bootBuiltins x
 nolimit:base.NoLimit
structure Cx where
 prog:Program
 w:World
 K:PySem.W.Frag
 mg:Str->Option Value
 base:Heap
 A:Around
 N:List Str
 s₀:Shared
 H₀:Hp
 env:Env
 outer:List Env
 stack:List Env
 ex:List Addr
 fn:Str->Bool
 calm:Bool
 pn:List (Addr×Obj)
 xe:Value->Shared->Prop
def frs(l:List Env):List Addr:=l.filterMap (·.frame)
abbrev Cx.fs(X:Cx):List Addr:=frs X.outer
def Vis(a:Scope)(x:Str):Prop:=a.names.lookup x=some .local\/a.names.lookup x=some .cell\/a.names.lookup x=some .free
def Loc(a:Scope)(x:Str):Prop:=a.names.lookup x=some .local\/a.names.lookup x=some .cell
def Look(env:Env)(h:Heap)(m:Str->Option Value)(x:Str)(u:Value):Prop:=
 (env.kindOf x=some .local/\m x=some u)\/((env.kindOf x=some .cell\/env.kindOf x=some .free)/\∃c,env.cells.lookup x=some c/\h.IsCell c (some u))
structure Cx.Ok(X:Cx):Prop where
 mod:Mod X.K X.mg X.base
 kind:X.env.scope.kind= .function
 glob:X.env.globals=mainGlobals
 blt:X.env.builtins=builtinsNs
 above:X.s₀.heap.objs.size<=X.env.locals
 inj:∀x y c,X.env.cells.lookup x=some c->X.env.cells.lookup y=some c->x=y
 has:∀x,(X.env.kindOf x=some .cell\/X.env.kindOf x=some .free)->∃c,X.env.cells.lookup x=some c
 cab:∀x c,X.fn x=true->X.env.cells.lookup x=some c->X.s₀.heap.objs.size<=c
 hd:X.calm=true->X.A.handled=none
 frames:X.A.frames=some X.stack
 stk:X.stack=X.outer\/(X.stack=X.env::X.outer/\X.env.frame=some X.env.locals)
 exf:∀b∈X.ex,b≠X.env.locals/\∀x c,X.env.cells.lookup x=some c->c≠b
 bs:∀b o,X.base.get? b=some o->X.s₀.heap.get? b=some o/\X.H₀ b=none
 bsz:X.base.objs.size<=X.s₀.heap.objs.size
 noex:∀b o,X.base.get? b=some o->b∉X.ex
 exfs:∀b∈X.ex,b∉X.fs
 funs:X.s₀.heap.FunFrames X.base X.outer
 frf:∀b∈X.fs,X.H₀ b=none
structure Inv(X:Cx)(pins:List (Addr×Obj))(σ:List (Option V))(H:Hp)(s:Shared):Prop where
 ok:X.Ok
 os:s.os=X.s₀.os
 bare:AllBare s.gens
 base:Un X.fs X.ex X.H₀ H X.s₀.heap s.heap
 loc:∃m,s.heap.Ns X.env.locals m/\∀ (i:Nat) (x:Str) (v:V),X.N[i]?=some x->σ[i]?=some (some v)->Vis X.env.scope x->∃u,bZ v u/\Look X.env s.heap m x u
 cell:∀x c,X.env.cells.lookup x=some c->∃v,s.heap.IsCell c v
 free:H X.env.locals=none
 freeC:∀x c,X.env.cells.lookup x=some c->H c=none
 pin:∀p∈X.pn++pins,s.heap.get? p.1=some p.2/\H p.1=none/\p.1≠X.env.locals/\p.1∉X.fs/\∀v,p.2.data≠ .cell v
 hok:HOk X.prog X.w H s.heap
 len:σ.length=X.N.length
section
variable{X:Cx}{pins:List (Addr×Obj)}{σ:List (Option V)}{H H':Hp}{s:Shared}{h':Heap}
theorem Cx.Ok.nofr(ok:X.Ok)(e:X.base.get? b=some o):b∉X.fs:=λa=>by have:=(ok.funs.mem a).1;rw[e]at this;cases this
theorem Inv.bs(I:Inv X pins σ H s):∀b o,X.base.get? b=some o->s.heap.get? b=some o/\H b=none:=λb o e=>
 #[I.base.keep b o (I.ok.bs b o e).1 (I.ok.bs b o e).2 (I.ok.nofr e) (I.ok.noex b o e),I.base.free b o (I.ok.bs b o e).1 (I.ok.bs b o e).2 (I.ok.noex b o e)]
theorem Inv.bk(I:Inv X pins σ H s):∀b o,X.base.get? b=some o->s.heap.get? b=some o:=λb o e=>(I.bs b o e).1
theorem Inv.mod(I:Inv X pins σ H s):Mod X.K X.mg X.base:=I.ok.mod
theorem Inv.kIn(I:Inv X pins σ H s):X.K.In s.heap:=I.ok.mod.kin.keeps I.bk
theorem Inv.lt(I:Inv X pins σ H s):X.env.locals<s.heap.objs.size:=let⟨_,a,_⟩:=I.loc;a.lt
theorem Inv.sz(I:Inv X pins σ H s):X.s₀.heap.objs.size<=s.heap.objs.size:=Kd I.ok.above (OF I.lt)
theorem Inv.nofs(I:Inv X pins σ H s){a:Addr}(h:s.heap.objs.size<=a):a∉X.fs:=λb=>by obtain⟨_,o,c,_⟩:=I.ok.funs.mem b;exact absurd (Kb (KO c) (Kd I.sz h)) (Mm _)
theorem Inv.cne(I:Inv X pins σ H s):∀x c,X.env.cells.lookup x=some c->c≠X.env.locals:=λx c e z=>by obtain⟨v,o,b,a⟩:=I.cell x c e;obtain⟨m,⟨h,g,ep,f,d,_⟩,_⟩:=I.loc;rw[z,f]at b;cases b;rw[d]at a;cases a
theorem Inv.funs(I:Inv X pins σ H s):s.heap.FunFrames X.base X.outer:=by
 have all:∀ (l:List Env),(∀b∈frs l,b∈X.fs)->X.s₀.heap.FunFrames X.base l->s.heap.FunFrames X.base l:=by
  intro l
  induction l with
  |nil=>intro _ _;trivial
  |cons env r m=>
   intro f hl;obtain⟨h,⟨L,o,d,i,j,g⟩,k⟩:=hl;have a:L∈X.fs:=f L (by unfold frs;rw[Of,d];exact Kp);obtain⟨n,e⟩:=I.base.slot L o j (I.ok.frf L a) a λz=>I.ok.exfs L z a;exact#[h,#[L,_,d,i,e,g],m (λb c=>f b (by unfold frs;rw[Of,d];exact Ke _ c)) k]
 exact all X.outer (λ_ c=>c) I.ok.funs
theorem Inv.stack(I:Inv X pins σ H s):s.heap.FunFrames X.base X.stack:=by
 rcases I.ok.stk with e|⟨e,a⟩
 .rw[e];exact I.funs
 .rw[e];obtain⟨m,b,_⟩:=I.loc;refine .cons (by rw[I.ok.kind];decide) a b ?_ I.funs;exact Heap.get?_none_of_le (Kd I.ok.bsz I.ok.above)
theorem Inv.stkSub(I:Inv X pins σ H s):∀b∈frs X.stack,b∈X.env.locals::X.fs:=λb a=>by
 rcases I.ok.stk with e|⟨e,c⟩
 .rw[e]at a;exact Ke _ a
 .rw[e]at a;unfold frs at a;rw[Of,c]at a;exact a
theorem Inv.stkFree(I:Inv X pins σ H s):∀b∈frs X.stack,H b=none:=λb a=>by
 rcases J7.mp (I.stkSub b a)with e|a
 .rw[e];exact I.free
 .obtain⟨_,o,c,_⟩:=I.ok.funs.mem a;exact I.base.free b o c (I.ok.frf b a) λz=>I.ok.exfs b z a
theorem Inv.step{ch:List Addr}(I:Inv X pins σ H s)
  (t:∀b∈ch,(b∈X.ex\/X.s₀.heap.objs.size<=b)/\b≠X.env.locals/\(∀x c,X.env.cells.lookup x=some c->c≠b)/\∀p∈X.pn++pins,p.1≠b)
  (keep:∀b o,b≠X.env.locals->b∉X.fs->b∉ch->s.heap.get? b=some o->H b=none->h'.get? b=some o)
  (slot:∀b o,b≠X.env.locals->b∈X.fs->b∉ch->s.heap.get? b=some o->H b=none->∃J,h'.get? b=some {o with slots:=J}) (free:∀b o,b∉ch->s.heap.get? b=some o->H b=none->H' b=none)
  (there:∀b o,b∉ch->s.heap.get? b=some o->∃A,h'.get? b=some A)
  (tups:∀b xs,H b=some (.tup xs)->H' b=some (.tup xs)) (Q:∀b o u,H b=some (.frz o u)->H' b=some (.frz o u)) (aj:∀b ps,H b=some (.tbl ps)->∃more,H' b=some (.tbl (ps++more)))
  (ns:∀m,s.heap.Ns X.env.locals m->h'.Ns X.env.locals m) (ab:HOk X.prog X.w H' h') (U:AllBare g'):
  Inv X pins σ H' {s with heap:=h',gens:=g',drawn:=d',toks:=t'}:=by
 have M:∀b o,X.s₀.heap.get? b=some o->b≠X.env.locals:=λb o e=>Lp (Kb (KO e) I.ok.above);have B:∀b o,X.s₀.heap.get? b=some o->b∉X.ex->b∉ch:=λb o e a g=>by
  rcases(t b g).1 with z|z
  .exact a z
  .exact absurd (Kb (KO e) z) (Mm _)
 have cellK:∀x c,X.env.cells.lookup x=some c->∀v,s.heap.IsCell c v->h'.IsCell c v:=λx c e v ⟨o,h,G⟩=>by
  have y:c∉ch:=λz=>(t c z).2.2.1 x c e rfl;by_cases K:c∈X.fs
  .obtain⟨J,q⟩:=slot c o (I.cne x c e) K y h (I.freeC x c e);exact#[_,q,G]
  .exact#[o,keep c o (I.cne x c e) K y h (I.freeC x c e),G]
 refine#[I.ok,I.os,U,#[λb o e n g a=> ?_,λb o e n g a=> ?_,λb o e n a=> ?_,λb o e a=> ?_,λb xs e=>tups b xs (I.base.tups b xs e),λb o xs e=>Q b o xs (I.base.frzs b o xs e),λb ps e=> ?_],?_,λx c e=> ?_,?_,λx c e=> ?_,λp L=> ?_,ab,I.len]
 .exact keep b o (M b o e) g (B b o e a) (I.base.keep b o e n g a) (I.base.free b o e n a)
 .obtain⟨J,f⟩:=I.base.slot b o e n g a;obtain⟨ai,j⟩:=slot b _ (M b o e) g (B b o e a) f (I.base.free b o e n a);exact#[ai,j]
 .obtain⟨A,f⟩:=I.base.there b o e a;exact free b A (B b o e a) f (I.base.free b o e n a)
 .obtain⟨A,f⟩:=I.base.there b o e a;exact there b A (B b o e a) f
 .obtain⟨m1,f⟩:=I.base.tbls b ps e;obtain⟨m2,j⟩:=aj b _ f;exact#[m1++m2,by rw[j,Array.append_assoc]]
 .obtain⟨m,hn,hl⟩:=I.loc;refine#[m,ns m hn,λi x v f j O=> ?_];obtain⟨u,r,l⟩:=hl i x v f j O;refine#[u,r,?_];rcases l with l|⟨k,c,e,z⟩
  .exact .inl l
  .exact .inr #[k,c,e,cellK x c e _ z]
 .obtain⟨v,z⟩:=I.cell x c e;exact#[v,cellK x c e v z]
 .obtain⟨m,⟨o,_,_,h,_⟩,_⟩:=I.loc;exact free _ o (λz=>(t _ z).2.1 rfl) h I.free
 .obtain⟨v,o,h,G⟩:=I.cell x c e;exact free c o (λz=>(t c z).2.2.1 x c e rfl) h (I.freeC x c e)
 .obtain⟨e,n,ne,N,d⟩:=I.pin p L;have y:p.1∉ch:=λz=>(t p.1 z).2.2.2 p L rfl;exact#[keep p.1 p.2 ne N y e n,free p.1 p.2 y e n,ne,N,d]
theorem Inv.un(I:Inv X pins σ H s)(u:Un X.fs [] H H' s.heap h')(j:HOk X.prog X.w H' h'):Inv X pins σ H' {s with heap:=h',toks:=t'}:=by
 obtain⟨m,⟨o,l,ep,c,r⟩,_⟩:=id I.loc;obtain⟨t,h⟩:=u.any c I.free (by simp);exact I.step (g':=s.gens) (d':=s.drawn) (ch:=[]) (λ_ z=>nomatch z) (λb o _ a _ e n=>u.keep b o e n a (by simp)) (λb o _ a _ e n=>u.slot b o e n a (by simp)) (λb o _ e n=>u.free b o e n (by simp)) (λb o _ e=>u.there b o e (by simp)) u.tups u.frzs u.tbls (λp i=>by obtain⟨q,g,f,d,k⟩:=i;rw[c]at d;cases d;exact#[_,g,f,h,k]) j I.bare
theorem Inv.call(I:Inv X pins σ H s)(u:Un (frs X.stack) ch H H' s.heap h')(t:HOk X.prog X.w H' h')(l:AllBare g')
  (f:∀b∈ch,(b∈X.ex\/X.s₀.heap.objs.size<=b)/\b≠X.env.locals/\(∀x c,X.env.cells.lookup x=some c->c≠b)/\∀p∈X.pn++pins,p.1≠b):
  Inv X pins σ H' {s with heap:=h',gens:=g',drawn:=d',toks:=t'}:=by
 obtain⟨m,⟨o,y,ep,g,r⟩,_⟩:=id I.loc;obtain⟨G,d⟩:=u.any g I.free λz=>(f _ z).2.1 rfl;exact I.step (ch:=ch) f (λb o d k a e n=>u.keep b o e n (λz=>(J7.mp (I.stkSub b z)).elim d k) a) (λb o _ _ a e n=>u.any e n a) (λb o a e n=>u.free b o e n a) (λb o a e=>u.there b o e a) u.tups u.frzs u.tbls (λA q=>by obtain⟨B,j,i,h,v⟩:=q;rw[g]at h;cases h;exact#[_,j,i,d,v]) t l
theorem Inv.turned(I:Inv X pins σ H s)(k:∀b o,b≠a->s.heap.get? b=some o->h'.get? b=some o)(y:H a=none)(f:a≠X.env.locals)
  (i:a∈X.ex\/X.s₀.heap.objs.size<=a) (j:∀x c,X.env.cells.lookup x=some c->c≠a) (l:∀p∈X.pn++pins,p.1≠a):Inv X pins σ H {s with heap:=h',toks:=t'}:=by
 have g:∀b u,H b=some u->b≠a:=λb u e z=>by rw[z,y]at e;cases e
 refine I.step (g':=s.gens) (d':=s.drawn) (ch:=[a]) (λb t=> ?_) (λb o _ _ d e _=>k b o (λz=>d (by simp[z])) e) (λb o _ _ d e _=>#[o.slots,k b o (λz=>d (by simp[z])) e]) (λ_ _ _ _ n=>n)
  (λb o d e=>#[o,k b o (λz=>d (by simp[z])) e]) (λ_ _ e=>e) (λ_ _ _ e=>e) (λb ps e=>#[#v[],by rw[e];simp]) (λm w=> ?_) (λb u e=> ?_) I.bare
 .have e:b=a:=by simpa using t
  subst e;exact#[i,f,j,l]
 .obtain⟨o,h,ep,A,r⟩:=w;exact#[o,h,ep,k _ o (Mo f) A,r]
 .refine(I.hok b u e).stay (λc v d q=>k c v ?_ q) (λ_ q=>q) λ_ _ q=>q;rcases d with z|z
  .rw[z];exact g b u e
  .exact g c _ z
theorem Inv.tok(I:Inv X pins σ H s)(t:Nat):Inv X pins σ H {s with toks:=t}:=I.un (h':=s.heap) (t':=t) Un.refl I.hok
theorem Inv.kept(I:Inv X pins σ H s)(k:∀b u,s.heap.get? b=some u->h'.get? b=some u):Inv X pins σ H {s with heap:=h',toks:=t'}:=I.un (Un.kept k) (I.hok.kept k)
theorem Inv.laid{a:Addr}(I:Inv X pins σ H s)(k:∀b u,s.heap.get? b=some u->h'.get? b=some u)(c:s.heap.objs.size<=a)(new:cU X.prog X.w (upd H a o) h' a o):
  Inv X pins σ (upd H a o) {s with heap:=h',toks:=t'}:=I.un (Un.laid k c (I.hok.fresh c)) (I.hok.laid k c new)
theorem Inv.write(I:Inv X pins σ H s)(d:Mut (H x))(a:e=x\/H e=some (.own x))(k:∀b u,b≠e->s.heap.get? b=some u->h'.get? b=some u)(c:∃u,h'.get? e=some u)
  (new:cU X.prog X.w (upd H x o) h' x o):Inv X pins σ (upd H x o) {s with heap:=h',toks:=t'}:=I.un (Un.write d a k c) (I.hok.write d a k c new)
theorem Inv.pins_of(I:Inv X pins σ H s)(h:∀p∈b,s.heap.get? p.1=some p.2/\H p.1=none/\p.1≠X.env.locals/\p.1∉X.fs/\∀v,p.2.data≠ .cell v):Inv X b σ H s:=
 #[I.ok,I.os,I.bare,I.base,I.loc,I.cell,I.free,I.freeC,λp a=>(KC.mp a).elim (λz=>I.pin p (LZ _ z)) (h p),I.hok,I.len]
theorem w6{N:List Str}(e:N.Nodup){i j:Nat}(a:N[i]?=some x)(b:N[j]?=some x):i=j:=by obtain⟨f,c⟩:=Kh.mp a;obtain⟨g,d⟩:=Kh.mp b;exact(OG e).mp (c.trans d.symm)
theorem sh{M:Model}{A:Around}{E:Value->Shared->Prop}{i:Nat}{x:Str}{v:V}{u:Value}{Q:Unit->Shared->Prop}(I:Inv X pins σ H s)(hN:X.N.Nodup)(L:X.N[i]?=some x)(t:Loc X.env.scope x)(r:bZ v u)
  (h:∀s',Inv X pins (σ.set i (some v)) H s'->(∃a,Heap.SameBut a s.heap s'.heap/\(a=X.env.locals\/X.env.cells.lookup x=some a))->Q Unit.unit s') (hf:X.fn x=true\/X.env.scope.names.lookup x=some .local:=by first|exact .inl rfl|exact .inr rfl|assumption):wpAny M A (storeName X.env x u) Q E s:=by
 obtain⟨m,hn,hl⟩:=id I.loc;have bj:(X.env.scope.kind== .class||(X.env.scope.kind== .module&&X.env.locals !=X.env.globals))=false:=by rw[I.ok.kind];rfl
 have a4:i<σ.length:=by rw[I.len];exact(Kh.mp L).1
 have cne:=I.cne;have tracked:∀ {a:Addr} {h':Heap},(∃o,s.heap.get? a=some o/\H a=none)->Heap.SameBut a s.heap h'->HOk X.prog X.w H h':=λ{a h'} ha f b ob e=>by
  obtain⟨_,_,a3⟩:=ha;refine(I.hok b ob e).stay (λc U l q=>(f.2 c ?_).trans q) (λ_ q=>q) λ_ _ q=>q;rintro rfl;rcases l with rfl|l
  .rw[a3]at e;cases e
  .rw[a3]at l;cases l
 rcases t with G|G
 .refine wpAny_storeName_local G hn (λh' bt f=> ?_) bj;obtain⟨oL,_,_,bB,_⟩:=id hn;refine h _ #[I.ok,I.os,I.bare,#[λb o e n J t=> ?_,λb o e n J t=> ?_,I.base.free,λb o e t=> ?_,I.base.tups,I.base.frzs,I.base.tbls],#[_,bt,λj y v' g B e3=> ?_],λy c e=> ?_,I.free,I.freeC,λp hp=> ?_,tracked #[oL,bB,I.free] f,by simpa using I.len] #[_,f, .inl rfl]
  .exact(f.2 b (Lp (Kb (KO e) I.ok.above))).trans (I.base.keep b o e n J t)
  .obtain⟨sl,g⟩:=I.base.slot b o e n J t;exact#[sl,(f.2 b (Lp (Kb (KO e) I.ok.above))).trans g]
  .obtain⟨o',g⟩:=I.base.there b o e t;exact#[o',(f.2 b (Lp (Kb (KO e) I.ok.above))).trans g]
  .by_cases K:j=i
   .subst K;rw[L]at g;cases g;rw[Nk a4]at B;cases B;exact#[u,r, .inl #[G,by simp]]
   .rw[Nw (Mo K)]at B;obtain⟨u',r',q⟩:=hl j y v' g B e3;refine#[u',r',?_];rcases q with ⟨k,e⟩|⟨k,c,e,z⟩
    .refine .inl #[k,?_];have:y≠x:=λe=>K (w6 hN g (e▸L));simp[this,e]
    .exact .inr #[k,c,e,z.sameBut f (cne y c e)]
  .obtain⟨U,z⟩:=I.cell y c e;exact#[U,z.sameBut f (cne y c e)]
  .obtain⟨e,n,ne,nf,d⟩:=I.pin p hp;exact#[(f.2 p.1 ne).trans e,n,ne,nf,d]
 .have ab:X.fn x=true:=by
   rcases hf with z|z
   .exact z
   .rw[z]at G;cases G
  obtain⟨c,l⟩:=I.ok.has x (.inl G);obtain⟨U,z⟩:=I.cell x c l;refine wpAny_storeName_cell I.ok.kind G l z (λh' aS f=> ?_);obtain⟨oc,a5,bE⟩:=id z;refine h {s with heap:=h'} #[I.ok,I.os,I.bare,#[λb o e n J t=> ?_,λb o e n J t=> ?_,I.base.free,λb o e t=> ?_,I.base.tups,I.base.frzs,I.base.tbls],#[m,hn.sameBut f (Mo (cne x c l)),λj y v' g B e3=> ?_],λy O e=> ?_,I.free,I.freeC,λp hp=> ?_,tracked #[oc,a5,I.freeC x c l] f,by simpa using I.len] #[c,f, .inr l]
  .exact(f.2 b (Lp (Kb (KO e) (I.ok.cab x c ab l)))).trans (I.base.keep b o e n J t)
  .obtain⟨sl,g⟩:=I.base.slot b o e n J t;exact#[sl,(f.2 b (Lp (Kb (KO e) (I.ok.cab x c ab l)))).trans g]
  .obtain⟨o',g⟩:=I.base.there b o e t;exact#[o',(f.2 b (Lp (Kb (KO e) (I.ok.cab x c ab l)))).trans g]
  .by_cases K:j=i
   .subst K;rw[L]at g;cases g;rw[Nk a4]at B;cases B;exact#[u,r, .inr #[.inl G,c,l,aS]]
   .rw[Nw (Mo K)]at B;obtain⟨u',r',q⟩:=hl j y v' g B e3;refine#[u',r',?_];rcases q with q|⟨k,O,e,z'⟩
    .exact .inl q
    .refine .inr #[k,O,e,z'.sameBut f ?_];rintro rfl;exact K (w6 hN g (I.ok.inj _ _ _ e l▸L))
  .by_cases a0:O=c
   .subst a0;exact#[_,aS]
   .obtain⟨w2,z2⟩:=I.cell y O e;exact#[w2,z2.sameBut f a0]
  .obtain⟨e,n,ne,nf,d⟩:=I.pin p hp;refine#[(f.2 p.1 ?_).trans e,n,ne,nf,d];intro q;rw[q,a5]at e;have q':oc=p.2:=Lf e;exact d U (by rw[<-q'];exact bE)
theorem vO{M:Model}{A:Around}{E:Value->Shared->Prop}{i:Nat}{x:Str}{v:V}{u:Value}{Q:Unit->Shared->Prop}(I:Inv X pins σ H s)(c:X.N.Nodup)(e:X.N[i]?=some x)(f:Loc X.env.scope x)(r:bZ v u)
  (h:∀a,Inv X pins (σ.set i (some v)) H a->Q Unit.unit a) (d:X.fn x=true\/X.env.scope.names.lookup x=some .local:=by first|exact .inl rfl|exact .inr rfl|assumption):wpAny M A (storeName X.env x u) Q E s:=
 sh I c e f r (λa b _=>h a b) d
theorem Inv.call'{a:Shared}(I:Inv X pins σ H s)(g:a.os=s.os)(u:Un (frs X.stack) ch H H' s.heap a.heap)(h:HOk X.prog X.w H' a.heap)(f:AllBare a.gens)
  (d:∀b∈ch,(b∈X.ex\/X.s₀.heap.objs.size<=b)/\b≠X.env.locals/\(∀x c,X.env.cells.lookup x=some c->c≠b)/\∀p∈X.pn++pins,p.1≠b):Inv X pins σ H' a:=by
 obtain⟨h',g',d',t',i⟩:=a;have e:i=s.os:=g;subst e;exact I.call (g':=g') (t':=t') (d':=d') u h f d
end
abbrev XK:=Value->Option Addr->Hp->Prop
abbrev St:=List (Option V)
abbrev VK:=V->Hp->Prop
abbrev TE:=St->Hp->VK->Prop
abbrev TT:=St->Hp->(Bool->Hp->Prop)->Prop
abbrev TA:=St->Hp->(List V->Hp->Prop)->Prop
structure Ends where
 nx:St->Hp->Prop
 rt:VK
 bk:St->Hp->Prop:=λ_ _=>False
 ct:St->Hp->Prop:=λ_ _=>False
abbrev TS:=Ends->St->Hp->Prop
def EP(X:Cx)(a:List (Addr×Obj))(c:St)(Q:VK)(u:Value)(b:Shared):Prop:=∃v H',Inv X a c H' b/\bZ v u/\Q v H'
def TP(X:Cx)(a:List (Addr×Obj))(d:St)(Q:Bool->Hp->Prop)(b:Bool)(c:Shared):Prop:=∃H',Inv X a d H' c/\Q b H'
def AP(X:Cx)(a:List (Addr×Obj))(c:St)(Q:List V->Hp->Prop)(us:List Value)(b:Shared):Prop:=∃vs H',Inv X a c H' b/\Vals vs us/\Q vs H'
def SP(X:Cx)(b:List (Addr×Obj))(D:Ends)(f:Flow)(c:Shared):Prop:=
 match f with
 | .next=>∃a H',Inv X b a H' c/\D.nx a H'
 | .brk=>∃a H',Inv X b a H' c/\D.bk a H'
 | .cont=>∃a H',Inv X b a H' c/\D.ct a H'
 | .ret u=>∃v a H',Inv X b a H' c/\bZ v u/\D.rt v H'
def PE(X:Cx)(e:Expr)(t:TE):Prop:=
 ∀ (b:List (Addr×Obj)) (s:Shared) (a:St) (H:Hp) (Q:VK),Inv X b a H s->t a H Q->wpAny (model X.prog X.w) X.A (eval e X.env) (EP X b a Q) X.xe s
def PT(X:Cx)(e:Expr)(t:TT):Prop:=
 ∀ (b:List (Addr×Obj)) (s:Shared) (a:St) (H:Hp) (Q:Bool->Hp->Prop),Inv X b a H s->t a H Q->wpAny (model X.prog X.w) X.A (isTrue e X.env (eval e X.env)) (TP X b a Q) X.xe s
def PW(X:Cx)(e:Expr)(t:TT):Prop:=
 ∀ (whole:Sem Value) (b:List (Addr×Obj)) (s:Shared) (a:St) (H:Hp) (Q:Bool->Hp->Prop),Inv X b a H s->t a H Q->wpAny (model X.prog X.w) X.A (isTrue e X.env whole) (TP X b a Q) X.xe s
theorem PW.pt(h:PW X e t):PT X e t:=h _
def PA(X:Cx)(c:List Expr)(t:TA):Prop:=
 ∀ (pos:Pos) (b:List (Addr×Obj)) (s:Shared) (a:St) (H:Hp) (Q:List V->Hp->Prop),Inv X b a H s->t a H Q->wpAny (model X.prog X.w) X.A (spliced (backTo pos (starEach c X.env))) (AP X b a Q) X.xe s
def PS(X:Cx)(st:Stmt)(t:TS):Prop:=
 ∀ (a:List (Addr×Obj)) (s:Shared) (b:St) (H:Hp) (D:Ends),Inv X a b H s->t D b H->wpAny (model X.prog X.w) X.A (exec st X.env) (SP X a D) X.xe s
def PSs(X:Cx)(st:List Stmt)(t:TS):Prop:=
 ∀ (a:List (Addr×Obj)) (s:Shared) (b:St) (H:Hp) (D:Ends),Inv X a b H s->t D b H->wpAny (model X.prog X.w) X.A (execs st X.env) (SP X a D) X.xe s
theorem thn(h:wpAny M A t Q E s)(b:∀a s,Q a s->Q' a s):wpAny M A t Q' E s:=N2 h b λ_ _ x=>x
end L2
namespace L2
open PySem PySem.Spec PyProof.Rows
section
variable{X:Cx}
inductive RdV(o:Option (Option V))(H:Hp)(Q:VK):Prop
 |mk (v:V) (e:o=some (some v)) (q:Q v H):RdV o H Q
def Hk(i:Nat):TE:=λa H Q=>RdV a[i]? H Q
def tC(v:V):TE:=λ_ H Q=>Q v H
theorem HU{i:Nat}{x:Str}{pos:Pos}(j:X.N[i]?=some x)(p:Vis X.env.scope x)(d:(x==("__debug__":Str))=false:=by decide)(k:(x==("__classdict__":Str))=false:=by decide):PE X (.Name x pos) (Hk i):=by
 intro q s t H Q I h;obtain⟨v,e,h⟩:=h;obtain⟨m,o,hl⟩:=I.loc;obtain⟨u,r,l⟩:=hl i x v j e p;have b:EP X q t Q u s:=#[v,H,I,r,h];rcases l with ⟨a,n⟩|⟨a,c,f,g⟩
 .exact wpAny_Name (wpAny_loadName_local I.ok.kind a o n b) d
 .rcases a with a|a
  .exact wpAny_Name (wpAny_loadName_cell I.ok.kind a f g b) d
  .exact wpAny_Name (wpAny_loadName_free I.ok.kind a f g b k) d
theorem af{i j pos}:PE X (.Constant (.int i) j pos) (tC (.int i)):=λ_ _ _ H _ I h=>wpAny_Constant_int #[.int i,H,I.tok _,#[_,rfl],h]
theorem fE{b j pos}:PE X (.Constant (.bool b) j pos) (tC (.bl b)):=λ_ _ _ H _ I h=>Constant_bool #[.bl b,H,I,rfl,h]
theorem iw{j pos}:PE X (.Constant .none j pos) (tC .non):=λ_ _ _ H _ I h=>Constant_none #[.non,H,I,rfl,h]
theorem fO{x j pos}:PE X (.Constant (.str x) j pos) (tC (.str x)):=λ_ _ _ H _ I h=>Calls.Constant_str #[.str x,H,I.tok _,#[_,rfl],h]
def Gl(X:Cx)(x:Str):Prop:=X.env.kindOf x=some .globalImplicit
theorem uW{E:Value->Shared->Prop}{d:List (Addr×Obj)}{s:Shared}{e:St}{H:Hp}{x:Str}{u:Value}{pos:Pos}{Q:Value->Shared->Prop}(I:Inv X d e H s)(b:Gl X x)(c:X.mg x=some u)(h:Q u s)
  (a:(x==("__debug__":Str))=false:=by decide):wpAny (model X.prog X.w) X.A (eval (.Name x pos) X.env) Q E s:=
 Calls.Name_function_global I.ok.kind b (Calls.loadGlobal_global (by rw[I.ok.glob];exact I.mod.glob.keeps I.bk) c h) a
theorem iS{E:Value->Shared->Prop}{i:List (Addr×Obj)}{s:Shared}{j:St}{H:Hp}{x:Str}{u:Value}{pos:Pos}{Q:Value->Shared->Prop}(I:Inv X i j H s)(d:Gl X x)(e:X.mg x=none)(g:bootBuiltins x=some u)(h:Q u s)
  (f:x≠ "__name__":=by decide) (c:(x==("__debug__":Str))=false:=by decide):wpAny (model X.prog X.w) X.A (eval (.Name x pos) X.env) Q E s:=by
 obtain⟨k,a,b⟩:=I.mod.blt;exact Calls.Name_function_global I.ok.kind d (Calls.loadGlobal_builtin (by rw[I.ok.glob];exact I.mod.glob.keeps I.bk) e (by rw[I.ok.blt];exact a.keeps I.bk) ((b x f).trans g) h) c
theorem eg{x:Str}{v:V}{u:Value}{pos:Pos}(b:Gl X x)(c:X.mg x=some u)(r:bZ v u)(a:(x==("__debug__":Str))=false:=by decide):PE X (.Name x pos) (tC v):=
 λ_ _ _ H _ I h=>uW I b c #[v,H,I,r,h] a
theorem kh{x:Str}{v:V}{u:Value}{pos:Pos}(b:Gl X x)(c:X.mg x=none)(e:bootBuiltins x=some u)(r:bZ v u)(d:x≠ "__name__":=by decide)(a:(x==("__debug__":Str))=false:=by decide):PE X (.Name x pos) (tC v):=
 λ_ _ _ H _ I h=>iS I b c e #[v,H,I,r,h] d a
variable{a b:Expr}{ta tb:TE}{pos:Pos}
inductive RdB(Q:Bool->Hp->Prop)(x:V)(H:Hp):Prop
 |mk (k:Bool) (e:x= .bl k) (q:Q k H):RdB Q x H
def tB(t:TE):TT:=λc H Q=>t c H (RdB Q)
theorem dD{e:Expr}{t:TE}(h:PE X e t)(g:∀whole,isTrue e X.env whole=(do let v<-whole;standAt e.pos;holding [v] (truthy v)):=by intro _;rfl):PT X e (tB t):=by intro j s l H Q I i;refine isTrue_plain (thn (h j s l H _ I i) λv m ⟨x,c,f,r1,k⟩=> ?_) (g _);obtain⟨d,rfl,q⟩:=k;cases r1;exact MY #[c,f,q]
variable{tA tB':TT}{rest:List Expr}
def JR(t u:TT):TT:=λe H Q=>t e H λc d=>if c=true then u e d Q else Q false d
def tOr(t u:TT):TT:=λe H Q=>t e H λc d=>if c=true then Q true d else u e d Q
def JP(t:TT):TT:=λe H Q=>t e H λc d=>Q (!c) d
theorem ee(d:PT X a tA):PW X (.BoolOp .And [a] pos) tA:=by
 intro j f s g H Q I h;refine isTrue_and (thn (d f s g H Q I h) λc i e=> ?_);cases c with
 |true=>exact isTrue_and_nil e
 |false=>exact e
theorem jh(d:PT X a tA):PW X (.BoolOp .Or [a] pos) tA:=by
 intro j f s g H Q I h;refine isTrue_or (thn (d f s g H Q I h) λc i e=> ?_);cases c with
 |false=>exact isTrue_or_nil e
 |true=>exact e
theorem dy(j:PT X a tA)(k:PW X (.BoolOp .And (b::rest) pos) tB'):PW X (.BoolOp .And (a::b::rest) pos) (JR tA tB'):=by
 intro m f s i H Q I h;refine isTrue_and (thn (j f s i H _ I h) λc l ⟨d,e,g⟩=> ?_);cases c with
 |true=>exact k m f l i d Q e g
 |false=>exact#[d,e,g]
theorem iE(j:PT X a tA)(k:PW X (.BoolOp .Or (b::rest) pos) tB'):PW X (.BoolOp .Or (a::b::rest) pos) (tOr tA tB'):=by
 intro m f s i H Q I h;refine isTrue_or (thn (j f s i H _ I h) λc l ⟨d,e,g⟩=> ?_);cases c with
 |true=>exact#[d,e,g]
 |false=>exact k m f l i d Q e g
theorem kZ(e:PT X a tA):PT X (.UnaryOp .Not a pos) (JP tA):=by intro f s g H Q I h;exact isTrue_not (e f s g H (λc d=>Q (!c) d) I h)
def Jh(ta tb:TE):TE:=λe H Q=>ta e H (RdB λc d=>if c=true then tb e d Q else Q (.bl false) d)
def Ja(ta:TE):TE:=λe H Q=>ta e H (RdB λc d=>Q (.bl (!c)) d)
theorem yC{op}(h:PE X a t):PE X (.BoolOp op [a] pos) t:=λd s e H Q I c=>BoolOp_one (h d s e H Q I c)
theorem yD(j:PE X a ta)(k:PE X (.BoolOp .And (b::rest) pos) tb):PE X (.BoolOp .And (a::b::rest) pos) (Jh ta tb):=by
 intro g s i H Q I h;refine BoolOp_and (thn (j g s i H _ I h) λv l ⟨x,e,f,r1,d⟩=> ?_);obtain⟨c,rfl,d⟩:=d;cases r1;refine MY ?_;cases c with
 |true=>exact k g l i e Q f d
 |false=>exact#[.bl false,e,f,rfl,d]
theorem Ic(g:PE X a ta):PE X (.UnaryOp .Not a pos) (Ja ta):=by intro i s j H Q I h;refine UnaryOp_ (thn (g i s j H _ I h) λv k ⟨x,e,f,r1,d⟩=> ?_);obtain⟨c,rfl,d⟩:=d;cases r1;exact not_of (MY #[.bl (!c),e,f,rfl,d])
def tIf(t:TT)(ta tb:TE):TE:=λd H Q=>t d H λc e=>if c=true then ta d e Q else tb d e Q
theorem wQ(n:PT X c tA)(l:PE X a ta)(m:PE X b tb):PE X (.IfExp c a b pos) (tIf tA ta tb):=by
 intro e s f H Q I h;refine wpAny_IfExp (thn (n e s f H _ I h) λd k ⟨g,i,j⟩=> ?_);cases d with
 |true=>exact l e k f g Q i j
 |false=>exact m e k f g Q i j
end
end L2
namespace L2
open PySem PySem.Spec PyProof.Rows
def SqL(K:PySem.W.Frag)(H:Hp)(a:Addr)(xs:List V):Prop:=
 Rd H a (.lst xs)\/
  ∃ (o:Obj) (b:Array Value) (n:Nat),K.lookup a=some o/\o.cls= .type "list"/\o.dict=none/\o.data= .seq b n/\b.size<=sizeLine/\Vals xs b.toList
def SqT(K:PySem.W.Frag)(H:Hp)(a:Addr)(xs:List V):Prop:=
 Rd H a (.tup xs)\/
  ∃ (o:Obj) (b:Array Value) (n:Nat),K.lookup a=some o/\o.cls= .type "tuple"/\o.data= .seq b n/\b.size<=sizeLine/\Vals xs b.toList
def JY:Value->Option V
 | .none=>some .non
 | .bool b=>some (.bl b)
 | .int i _=>some (.int i)
 | .str x _=>some (.str x)
 | .bytes b _=>some (.byt b)
 | .float b _=>some (.flt b)
 | .ref a=>some (.ref a)
 | .type n=>some (.ty n)
 |_=>none
theorem bZ.abs(r:bZ x u):JY u=some x:=by
 cases x with
 |non=>cases r;rfl
 |bl _=>cases r;rfl
 |int _=>obtain⟨t,rfl⟩:=r;rfl
 |str _=>obtain⟨t,rfl⟩:=r;rfl
 |byt _=>obtain⟨t,rfl⟩:=r;rfl
 |flt _=>obtain⟨t,rfl⟩:=r;rfl
 |ref _=>cases r;rfl
 |ty _=>cases r;rfl
theorem bZ.inj(r:bZ x u)(q:bZ y u):x=y:=Lf (r.abs.symm.trans q.abs)
theorem Vals.inj:∀ {xs a:List V} {us:List Value},Vals xs us->Vals a us->xs=a
 |_,_,_, .nil, .nil=>rfl
 |_,_,_, .cons r t, .cons b t'=>by rw[r.inj b,Vals.inj t t']
section
variable{X:Cx}{pins:List (Addr×Obj)}{σ:St}{H:Hp}{s:Shared}{a:Addr}{xs ys:List V}
theorem SqL.of{K:PySem.W.Frag}(h:H a=some (.lst xs)):SqL K H a xs:= .inl (.inl h)
theorem SqT.of{K:PySem.W.Frag}(h:H a=some (.tup xs)):SqT K H a xs:= .inl (.inl h)
theorem Inv.list(I:Inv X pins σ H s)(h:SqL X.K H a xs):∃b:List Value,Vals xs b/\PlainL s.heap a b.toArray/\xs.length<=sizeLine:=by
 rcases h with h|⟨o,b,n,f,c,d,g,i,r⟩
 .obtain⟨z,b,n,r,e⟩:=h.ok I.hok;exact#[b,r,#[_,n,e,rfl,rfl,rfl],z]
 .refine#[b.toList,r,#[o,n,I.kIn a o f,c,d,by simpa using g],?_];have e:=r.length;simp only[ND]at e;lia
theorem Inv.tuple(I:Inv X pins σ H s)(h:SqT X.K H a xs):∃b:List Value,Vals xs b/\IsTup s.heap a b.toArray/\xs.length<=sizeLine:=by
 rcases h with h|⟨o,b,n,d,c,f,g,r⟩
 .obtain⟨z,b,r,p⟩:=h.ok I.hok;exact#[b,r,p,z]
 .refine#[b.toList,r,#[o,I.kIn a o d,c,n,by simpa using f],?_];have e:=r.length;simp only[ND]at e;lia
theorem Inv.list_inj(I:Inv X pins σ H s)(h:SqL X.K H a xs)(h':SqL X.K H a ys):xs=ys:=by
 obtain⟨f,r,⟨o,n,e,_,_,d⟩,_⟩:=I.list h;obtain⟨its',g,⟨j,i,b,_,_,d'⟩,_⟩:=I.list h';rw[e]at b;cases b;rw[d]at d';injection d' with c _
 have:f=its':=by simpa using K3 Array.toList c
 subst this;exact r.inj g
theorem Inv.tuple_inj(I:Inv X pins σ H s)(h:SqT X.K H a xs)(h':SqT X.K H a ys):xs=ys:=by
 obtain⟨f,r,⟨o,e,_,n,d⟩,_⟩:=I.tuple h;obtain⟨its',g,⟨j,b,_,i,d'⟩,_⟩:=I.tuple h';rw[e]at b;cases b;rw[d]at d';injection d' with c _
 have:f=its':=by simpa using K3 Array.toList c
 subst this;exact r.inj g
end
abbrev Cx.wish(X:Cx)(E:Value->Shared->Prop):Cx:={X with xe:=E}
abbrev Cx.nox(X:Cx):Cx:=X.wish λ_ _=>False
theorem Cx.Ok.wish{X:Cx}(ok:X.Ok)(E:Value->Shared->Prop):(X.wish E).Ok:=
 #[ok.mod,ok.kind,ok.glob,ok.blt,ok.above,ok.inj,ok.has,ok.cab,ok.hd,ok.frames,ok.stk,ok.exf,ok.bs,ok.bsz,ok.noex,ok.exfs,ok.funs,ok.frf]
theorem Cx.Ok.unwish{X:Cx}(ok:(X.wish E).Ok):X.Ok:=
 #[ok.mod,ok.kind,ok.glob,ok.blt,ok.above,ok.inj,ok.has,ok.cab,ok.hd,ok.frames,ok.stk,ok.exf,ok.bs,ok.bsz,ok.noex,ok.exfs,ok.funs,ok.frf]
section
variable{X:Cx}{pins:List (Addr×Obj)}{σ:St}{H:Hp}{s:Shared}{E:Value->Shared->Prop}
theorem Inv.wish(I:Inv X pins σ H s)(E:Value->Shared->Prop):Inv (X.wish E) pins σ H s:=#[I.ok.wish E,I.os,I.bare,I.base,I.loc,I.cell,I.free,I.freeC,I.pin,I.hok,I.len]
theorem Inv.unwish(I:Inv (X.wish E) pins σ H s):Inv X pins σ H s:=#[I.ok.unwish,I.os,I.bare,I.base,I.loc,I.cell,I.free,I.freeC,I.pin,I.hok,I.len]
theorem SP.unwish(h:SP (X.wish E) pins D f s'):SP X pins D f s':=by
 cases f with
 |next=>obtain⟨a,H',I,q⟩:=h;exact#[a,H',I.unwish,q]
 |brk=>obtain⟨a,H',I,q⟩:=h;exact#[a,H',I.unwish,q]
 |cont=>obtain⟨a,H',I,q⟩:=h;exact#[a,H',I.unwish,q]
 |ret u=>obtain⟨v,a,H',I,r,q⟩:=h;exact#[v,a,H',I.unwish,r,q]
theorem PSs.nox{st:List Stmt}(h:PSs X.nox st t):PSs X st t:=λpins s σ H D I a=>
 N2 (h pins s σ H D (I.wish _) a) (λ_ _ q=>q.unwish) λ_ _ z=>False.elim z
end
section
variable{X:Cx}{st:Stmt}{rest:List Stmt}{t u:TS}{e:Expr}{te:TE}{pos:Pos}
def C9:TS:=λD a H=>D.nx a H
def C8(t u:TS):TS:=λD a H=>t {D with nx:=u D} a H
theorem aO:PSs X [] C9:=λ_ _ a H _ I h=>N3 #[a,H,I,h]
theorem ah(c:PS X st t)(d:PSs X rest u):PSs X (st::rest) (C8 t u):=by
 intro a s i H D I h;refine wpAny_execs_cons (thn (c a s i H {D with nx:=u D} I h) λf g q=> ?_);cases f with
 |next=>
  obtain⟨j,H',b,q⟩:=q;exact d a g j H' D b q
 |ret v=>exact q
 |brk=>exact q
 |cont=>exact q
theorem ao(a:PS X st t):PSs X [st] t:=by
 intro b s c H D I h;refine wpAny_execs_cons (thn (a b s c H D I h) λf d q=> ?_);cases f with
 |next=>exact N3 q
 |ret v=>exact q
 |brk=>exact q
 |cont=>exact q
theorem Inv.quiet{a:St}(I:Inv X pins a H s):interactive X.env=false:=by simp[interactive,I.ok.kind]
def Jd(te:TE):TS:=λD a H=>te a H λ_ b=>D.nx a b
theorem cR(d:PE X e te)(f:swapsWith e none pos.line X.env=pure false:=by rfl):PS X (.Expr e pos) (Jd te):=by intro g s a H D I h;exact wpAny_Expr_any (thn (d g s a H _ I h) λv j ⟨x,b,c,r1,i⟩=>#[a,b,c,i]) I.quiet f
def JO(te:TE):TS:=λD a H=>te a H D.rt
theorem aH(d:PE X e te):PS X (.Return (some e) pos) (JO te):=by intro f s a H D I h;exact wpAny_Return_some (thn (d f s a H _ I h) λv i ⟨x,b,c,r1,g⟩=>#[x,a,b,c,r1,g])
def JQ(c:TT)(t u:TS):TS:=λD a H=>c a H λb d=>if b=true then t D a d else u D a d
theorem bo(o:PT X c tc)(m:PSs X a t)(n:PSs X b u):PS X (.If c a b pos) (JQ tc t u):=by
 intro f s g H D I h;refine wpAny_If (thn (o f s g H _ I h) λd l ⟨i,j,k⟩=> ?_);cases d with
 |true=>exact m f l g i D j k
 |false=>exact n f l g i D j k
end
abbrev TG:=V->St->Hp->(St->Hp->Prop)->Prop
abbrev TGs:=List V->St->Hp->(St->Hp->Prop)->Prop
def PG(X:Cx)(target:Expr)(t:TG):Prop:=
 ∀ (a:List (Addr×Obj)) (s:Shared) (b:St) (H:Hp) (v:V) (u:Value) (Q:St->Hp->Prop),Inv X a b H s->bZ v u->t v b H Q->
  wpAny (model X.prog X.w) X.A (assign target X.env u) (λ_ d=>∃c H',Inv X a c H' d/\Q c H') X.xe s
def PGs(X:Cx)(e:List Expr)(t:TGs):Prop:=
 ∀ (a:List (Addr×Obj)) (s:Shared) (b:St) (H:Hp) (vs:List V) (us:List Value) (Q:St->Hp->Prop),Inv X a b H s->Vals vs us->t vs b H Q->
  wpAny (model X.prog X.w) X.A (assignInOrder ((assignEach e X.env).map (·.2)) us) (λ_ d=>∃c H',Inv X a c H' d/\Q c H') X.xe s
section
variable{X:Cx}{pos:Pos}
def bD(i:Nat):TG:=λv a H Q=>Q (a.set i (some v)) H
theorem AF{i:Nat}{x:Str}(b:X.N.Nodup)(d:X.N[i]?=some x)(e:Loc X.env.scope x)(c:X.fn x=true\/X.env.scope.names.lookup x=some .local:=by first|exact .inl rfl|exact .inr rfl|assumption):PG X (.Name x pos) (bD i):=by intro f s j H v u Q I r h;exact wpAny_assign_Name (vO I b d e r (λg a=>#[_,H,a,h]) c)
def JV:TGs:=λvs a H Q=>vs=[]/\Q a H
inductive RdC(t:TG)(u:TGs)(vs:List V)(σ:St)(H:Hp)(Q:St->Hp->Prop):Prop
 |mk (v:V) (r:List V) (e:vs=v::r) (q:t v σ H λσ' H'=>u r σ' H' Q):RdC t u vs σ H Q
def Jz(t:TG)(u:TGs):TGs:=λvs a H Q=>RdC t u vs a H Q
theorem mf:PGs X [] JV:=by intro b s a H vs us Q I r h;obtain⟨e,h⟩:=h;subst e;cases r;exact assignInOrder_nil #[a,H,I,h]
theorem eV{e:Expr}{a:List Expr}{t:TG}{u:TGs}(g:PG X e t)(i:PGs X a u)
  (j:(assignEach (e::a) X.env).map (·.2)=assign e X.env::(assignEach a X.env).map (·.2):=by rfl):PGs X (e::a) (Jz t u):=by
 intro b s n H vs us Q I r h;obtain⟨v,p,f,h⟩:=h;subst f;cases r with
 |cons r l=>
  rw[j];refine assignInOrder_cons (thn (g b s n H _ _ _ I r h) λ_ m ⟨o,c,d,k⟩=> ?_);exact i b m o c _ _ Q d l k
inductive RdT(K:PySem.W.Frag)(n:Nat)(t:TGs)(v:V)(σ:St)(H:Hp)(Q:St->Hp->Prop):Prop
 |mk (a:Addr) (xs:List V) (e:v= .ref a) (s:SqT K H a xs) (l:xs.length=n) (q:t xs σ H Q):RdT K n t v σ H Q
def Jy(K:PySem.W.Frag)(n:Nat)(t:TGs):TG:=λv a H Q=>RdT K n t v a H Q
theorem HS{c:List Expr}{k:Nat}{t:TGs}{n:Nat}(m:X.calm=true)(h:PGs X c t)
  (p:(assignEach c X.env).length=n:=by rfl) (w:(assignEach c X.env).findIdx? (·.1)=none:=by rfl):PG X (.Tuple c k pos) (Jy X.K n t):=by
 intro f s i H v u Q I r d;obtain⟨a,xs,l,q,hl,d⟩:=d;subst l;cases r;obtain⟨A,g,x,z⟩:=I.tuple q;refine assign_Tuple_tuple (I.ok.hd m) x (by simp[p,<-hl,g.length]) w λh' y=> ?_;have j:Inv X f i H {s with heap:=h'}:=I.kept (t':=s.toks) λb o e=>y b o (Lp (KO e)) e;exact h f _ i H xs _ Q j (by simpa using g) d
def yp(c:TE)(g:TG):TS:=λD a H=>c a H λx b=>g x a b D.nx
theorem HF{a e:Expr}{c:TE}{g:TG}(k:PE X e c)(l:PG X a g)(m:swapsWithSole [a] e pos.line X.env=pure false:=by rfl)(n:swappedStores [a] e X.env=pure none:=by rfl)
  (j:(assignEach [a] X.env).map (·.2)=[assign a X.env]:=by rfl):PS X (.Assign [a] e pos) (yp c g):=by
 intro b s d H D I h;refine wpAny_Assign_stores (thn (k b s d H _ I h) λv p ⟨x,f,i,r1,o⟩=> ?_) m n;rw[j];exact thn (l b p d f x v _ i r1 o) λ_ r q=>q
theorem DF{i:Nat}{x:Str}{e:Expr}{a:TE}{pos':Pos}(f:X.N.Nodup)(k:X.N[i]?=some x)(m:Loc X.env.scope x)(g:PE X e a)(l:swapsWith e (some (.Name x pos')) pos.line X.env=pure false:=by rfl)(j:X.fn x=true\/X.env.scope.names.lookup x=some .local:=by first|exact .inl rfl|exact .inr rfl|assumption):
  PS X (.Assign [.Name x pos'] e pos) (yp a (bD i)):=by
 intro n s p H D I h;refine wpAny_Assign_Name (thn (g n s p H _ I h) λv q ⟨y,b,c,r1,o⟩=> ?_) l;exact vO c f k m r1 (λr d=>#[_,b,d,o]) j
end
section
variable{X:Cx}{pos:Pos}
def Hj(c:TT)(g:TS):TS:=λD a H=>∃W:Nat->St->Hp->Prop,(∃m,W m a H)/\∀m a H,W m a H->
 c a H λb d=>if b=true then∃N:St->Hp->Prop,(∀f H',N f H'->∃e,e<m/\W e f H')/\g {D with nx:=N,ct:=N,bk:=D.nx} a d else D.nx a d
theorem DE(x:PassesOwn (model X.prog X.w) X.A X.env X.xe)(G:PT X c tc)(B:PSs X body tb):PS X (.While c body [] pos) (Hj tc tb):=by
 intro o s Q H D I h;obtain⟨W,⟨m0,M⟩,turn⟩:=h;refine wpAny_While (codeAny_whileLoop (λn J=>∃y H',Inv X o y H' J/\W n y H') ?_ m0 #[Q,H,I,M]);rintro n K ⟨i,q,z,O⟩;refine MT x (thn (G o K i q _ z (turn n i q O)) λb L ⟨r,t,e⟩=> ?_);cases b with
 |true=>
  obtain⟨N,u,e⟩:=e;rw[J5 rfl];refine MT x (thn (B o L i r _ t e) λf U g=> ?_);cases f with
  |next=>
   obtain⟨d,a,j,m⟩:=g;obtain⟨l,k,p⟩:=u d a m;exact#[l,k,d,a,j,p]
  |cont=>
   obtain⟨d,a,j,m⟩:=g;obtain⟨l,k,p⟩:=u d a m;exact#[l,k,d,a,j,p]
  |brk=>exact g
  |ret v=>exact g
 |false=>
  rw[J4 Ku];exact N3 #[i,r,t,e]
end
structure It where
 go:Nat->Hp->Prop
 yld:Nat->Hp->V->Hp->Prop
 stop:Nat->Hp->Prop
def vA(X:Cx)(a:List (Addr×Obj))(H:Hp)(b:Addr):Prop:=
 H b=none/\b≠X.env.locals/\b∉X.fs/\(b∈X.ex\/X.s₀.heap.objs.size<=b)/\(∀x c,X.env.cells.lookup x=some c->c≠b)/\∀p∈X.pn++a,p.1≠b
theorem Inv.fpOk{g:St}{s:Shared}{b:Addr}(I:Inv X pins g H s)(a:s.heap.objs.size<=b)(d:H' b=none):vA X pins H' b:=by
 refine#[d,OH (Kb I.lt a),I.nofs a, .inr (Kd I.sz a),λx c e z=> ?_,λp f z=> ?_]
 .obtain⟨v,q⟩:=I.cell x c e;exact absurd (Kb q.lt (by rw[z];exact a)) (Mm _)
 .exact absurd (Kb (KO (I.pin p f).1) (by rw[z];exact a)) (Mm _)
structure Turn(P:Program)(w:World)(K:PySem.W.Frag)(tg:Expr)(J:It)(fp:List Addr)(it:Addr)(tn:Nat->Heap->Prop):Prop where
 mem:it∈fp
 obj:∀i h,tn i h->∀b∈fp,∃o,h.get? b=some o/\∀v,o.data≠ .cell v
 keep:∀i h h',tn i h->(∀b∈fp,∀o,h.get? b=some o->h'.get? b=some o)->tn i h'
 item:∀ (X:Cx),X.prog=P->X.w=w->X.K=K->X.calm=true->∀ (i:Nat) (pins:List (Addr×Obj)) (s:Shared) (σ:St) (H:Hp) (E:Value->Shared->Prop),Inv X pins σ H s->(∀b∈fp,vA X pins H b)->tn i s.heap->J.go i H->
  wpAny (model P w) X.A (pyNext (.ref it)) (λr s1=>∃u,r=some u/\
   wpAny (model P w) X.A (letOwnedTupleGo tg (.ref it) u) (λ_ s2=>∃x H',Inv X pins σ H' s2/\bZ x u/\J.yld i H x H'/\tn (i+1) s2.heap/\∀b∈fp,H' b=none) E s1) E s
 done:∀ (X:Cx),X.prog=P->X.w=w->X.K=K->X.calm=true->∀ (i:Nat) (pins:List (Addr×Obj)) (s:Shared) (σ:St) (H:Hp) (E:Value->Shared->Prop),Inv X pins σ H s->(∀b∈fp,vA X pins H b)->tn i s.heap->J.stop i H->
  wpAny (model P w) X.A (pyNext (.ref it)) (λr s1=>r=none/\Inv X pins σ H s1) E s
 self:∀ (A:Around) (i:Nat) (s:Shared) (Q:Value->Shared->Prop) (E:Value->Shared->Prop),tn i s.heap->Q (.ref it) s->wpAny (model P w) A (pyIter (.ref it)) Q E s
abbrev TI:=St->Hp->(It->Hp->Prop)->Prop
def PIE(X:Cx)(d:List (Addr×Obj))(i:St)(h:Expr)(R:It->Hp->Prop)(g:Value)(e:Shared):Prop:=
 ∃ (c:Addr) (a:List Addr) (f:Nat->Heap->Prop) (J:It) (H':Hp),g= .ref c/\Inv X d i H' e/\Turn X.prog X.w X.K h J a c f/\f 0 e.heap/\(∀b∈a,vA X d H' b)/\R J H'
def PI(X:Cx)(d iter:Expr)(e:TI):Prop:=
 ∀ (b:List (Addr×Obj)) (s:Shared) (a:St) (H:Hp) (R:It->Hp->Prop),Inv X b a H s->e a H R->
  wpAny (model X.prog X.w) X.A (eval iter X.env) (λv c=>wpAny (model X.prog X.w) X.A (pyIter v) (PIE X b a d R) X.xe c) X.xe s
theorem AM{s:Shared}{o:Obj}(e:s.heap.get? it=some o)(b:o.cls= .type n)(c:o.data= .fields vs)
  (d:["enumerate","zip","dict_itemiterator","dict_reverseitemiterator","odict_iterator","itertools.zip_longest","itertools.pairwise"].contains n=false) (a:Q Unit.unit s):wpAny M A (letOwnedTupleGo f (.ref it) u) Q E s:=by
 unfold letOwnedTupleGo;cases f<;>first
  |exact LK a
  |(cases u<;>first
    |exact LK a
    |(refine Lb (wpAny_load e ?_)
      rw[b,c];show wpAny M A (if(["enumerate","zip","dict_itemiterator","dict_reverseitemiterator","odict_iterator","itertools.zip_longest","itertools.pairwise"].contains n&&vs[0]?==some (rawInt _))=true then _ else _) Q E s;rw[J4 (by intro h;rw[d,Lc]at h;cases h)];exact LK a))
def Itl(K:PySem.W.Frag)(a:Addr):It:=
 #[λi H=>∃xs x,SqL K H a xs/\xs[i]?=some x,λi H x H'=>H'=H/\∀xs,SqL K H a xs->xs[i]?=some x,λi H=>∃xs,SqL K H a xs/\xs.length<=i]
def Itt(K:PySem.W.Frag)(a:Addr):It:=
 #[λi H=>∃xs x,SqT K H a xs/\xs[i]?=some x,λi H x H'=>H'=H/\∀xs,SqT K H a xs->xs[i]?=some x,λi H=>∃xs,SqT K H a xs/\xs.length<=i]
def Itr(a:Int)(n:Nat):It:=#[λi _=>i<n,λi H x H'=>H'=H/\x= .int (a+i),λi _=>n<=i]
theorem Bi{P:Program}{w:World}{K:PySem.W.Frag}{tg:Expr}(a g:Addr):Turn P w K tg (Itl K a) [g] g (λi h=>h.IsListIter g a i) where
 mem:=by simp
 obj:=λi h st b f=>by
  have e:b=g:=by simpa using f
  subst e;obtain⟨o,e,c,d⟩:=st;exact#[o,e,λv z=>by rw[d]at z;cases z]
 keep:=λi h h' st k=>st.at λo e=>k g (by simp) o e
 item:=by intro X t A r J i L s N H E I j st y;subst t A r;obtain⟨xs,x,l,B⟩:=y;obtain⟨ag,G,p,hz⟩:=I.list l;obtain⟨u,U,ru⟩:=G.get B;obtain⟨f0,f1,f2,m,n,q⟩:=j g (by simp);refine wpAny_pyNext_list_item st p.isList (x:=u) (by simpa using U) λh' M sb=> ?_;have O:Inv X L N H {s with heap:=h'}:=I.turned (t':=s.toks) (λb o f e=>(sb.2 b f).trans e) f0 f1 m n q;obtain⟨o,e,c,d⟩:=id M;exact#[u,rfl,AM (s:={s with heap:=h'}) e c d ∅ #[x,H,O,ru,#[rfl,λys hy=>by rw[I.list_inj hy l];exact B],M,λb f=>(j b f).1]]
 done:=by intro X t A r J i L s N H E I j st y;subst t A r;obtain⟨xs,l,B⟩:=y;obtain⟨ag,G,p,hz⟩:=I.list l;obtain⟨f0,f1,f2,m,n,q⟩:=j g (by simp);have hl:=G.length;exact wpAny_pyNext_list_end (I.ok.hd J) st p.isList (by simp;lia) λh' Q=>#[rfl,I.turned (t':=s.toks) (λb o f e=>Q b o f e) f0 f1 m n q]
 self:=λ_ _ _ _ _ st h=>wpAny_pyIter_listiter st h
theorem ym{P:Program}{w:World}{K:PySem.W.Frag}{tg:Expr}(a g:Addr):Turn P w K tg (Itt K a) [g] g (λi h=>h.IsTupleIter g a i) where
 mem:=by simp
 obj:=λi h st b f=>by
  have e:b=g:=by simpa using f
  subst e;obtain⟨o,e,c,d⟩:=st;exact#[o,e,λv z=>by rw[d]at z;cases z]
 keep:=λi h h' st k=>st.at λo e=>k g (by simp) o e
 item:=by intro X t A r L i M s O H E I j st y;subst t A r;obtain⟨xs,x,l,B⟩:=y;obtain⟨G,J,p,hz⟩:=I.tuple l;obtain⟨u,hu,ru⟩:=J.get B;obtain⟨f0,f1,f2,m,n,q⟩:=j g (by simp);refine wpAny_pyNext_tuple_item st (show s.heap.IsTuple a G.toArray from p) (x:=u) (by simpa using hu) λh' N sb=> ?_;have Q:Inv X M O H {s with heap:=h'}:=I.turned (t':=s.toks) (λb o f e=>(sb.2 b f).trans e) f0 f1 m n q;obtain⟨o,e,c,d⟩:=id N;exact#[u,rfl,AM (s:={s with heap:=h'}) e c d ∅ #[x,H,Q,ru,#[rfl,λys hy=>by rw[I.tuple_inj hy l];exact B],N,λb f=>(j b f).1]]
 done:=by intro X t A r L i M s O H E I j st y;subst t A r;obtain⟨xs,l,B⟩:=y;obtain⟨G,J,p,hz⟩:=I.tuple l;obtain⟨f0,f1,f2,m,n,q⟩:=j g (by simp);have hl:=J.length;exact wpAny_pyNext_tuple_end (I.ok.hd L) st (show s.heap.IsTuple a G.toArray from p) (by simp;lia) λh' U=>#[rfl,I.turned (t':=s.toks) (λb o f e=>U b o f e) f0 f1 m n q]
 self:=λ_ _ _ _ _ st h=>wpAny_pyIter_tupleiter st h
theorem yo{P:Program}{w:World}{K:PySem.W.Frag}{N:Expr}(a:Addr)(f:Int)(n:Nat):Turn P w K N (Itr f n) [a] a (λi h=>IsRangeIter h a (f+(i:Nat)*1) ((n:Int) - (i:Nat)) 1) where
 mem:=by simp
 obj:=λi h st b c=>by
  have e:b=a:=by simpa using c
  subst e;exact#[_,st,λv z=>by have O:Data.fields _=Data.cell v:=z;cases O]
 keep:=λi h h' st k=>k a (by simp) _ st
 item:=by intro X p u m q i x s B H E I d st r;subst p u m;obtain⟨f0,f1,f2,g,j,l⟩:=d a (by simp);have W:=Walks.range (prog:=X.prog) (w:=X.w) (I.ok.hd q) a f 1 n;refine W.item i s _ _ r st λv h' A L y M=> ?_;obtain⟨t,rfl⟩:=L;have G:Inv X x B H {s with heap:=h',toks:=A}:=I.turned (λb o c e=>M b o (by simpa using c) e) f0 f1 g j l;refine#[_,rfl,AM (s:={s with heap:=h',toks:=A}) (n:= "range_iterator") y rfl rfl ∅ #[.int (f+i),H,G,#[t,?_],#[rfl,rfl],y,λb c=>(d b c).1]];rw[MG]
 done:=by intro X p u m q i x s B H E I d st r;subst p u m;obtain⟨f0,f1,f2,g,j,l⟩:=d a (by simp);exact wpAny_pyNext_range_end (I.ok.hd q) st (by have:n<=i:=r;lia) λh' J=>#[rfl,I.turned (t':=s.toks) (λb o c e=>J b o c e) f0 f1 g j l]
 self:=λ_ _ _ _ _ st h=>NT st h
end L2
namespace L2
open PySem PySem.Spec PyProof.Rows
section
variable{X:Cx}{tg:Expr}
inductive RdL(K:PySem.W.Frag)(R:It->Hp->Prop)(x:V)(H:Hp):Prop
 |mk (a:Addr) (e:x= .ref a) (s:∃xs,SqL K H a xs) (q:R (Itl K a) H):RdL K R x H
def En(K:PySem.W.Frag)(a:TE):TI:=λb H R=>a b H (RdL K R)
def IE(K:PySem.W.Frag)(c:TE):TI:=λd H R=>c d H λx b=>∃a,x= .ref a/\(∃xs,SqT K b a xs)/\R (Itt K a) b
theorem FJ(hl:PE X l tl):PI X tg l (En X.K tl):=by
 intro j s m H R I h;refine thn (hl j s m H _ I h) λv d ⟨x,f,c,r1,k⟩=> ?_;obtain⟨a,e,⟨xs,i⟩,q⟩:=k;subst e;cases r1;obtain⟨r,t,p,n⟩:=c.list i;refine wpAny_pyIter_list p.isList ?_;refine#[d.heap.objs.size,[d.heap.objs.size],_,_,f,rfl,c.kept (t':=d.toks) λb o e=>KU _ e,Bi a _,#[_,Lw _ rfl,rfl,rfl],λb g=> ?_,q];have e:b=d.heap.objs.size:=by simpa using g
 subst e;exact c.fpOk (Kk _) (c.hok.fresh (Kk _))
theorem HQ(hl:PE X l tl):PI X tg l (IE X.K tl):=by
 intro k s n H R I h;refine thn (hl k s n H _ I h) λv c ⟨x,f,d,r1,m⟩=> ?_;obtain⟨a,e,⟨xs,i⟩,q⟩:=m;subst e;cases r1;obtain⟨j,t,p,r⟩:=d.tuple i;refine wpAny_pyIter_tuple (show c.heap.IsTuple a j.toArray from p) ?_;refine#[c.heap.objs.size,[c.heap.objs.size],_,_,f,rfl,d.kept (t':=c.toks) λb o e=>KU _ e,ym a _,#[_,Lw _ rfl,rfl,rfl],λb g=> ?_,q];have e:b=c.heap.objs.size:=by simpa using g
 subst e;exact d.fpOk (Kk _) (d.hok.fresh (Kk _))
theorem wK{f:St}{s:Shared}{a c:Int}(I:Inv X g f H s)(j: -(2^62)<=a)(k:a<2^62)(l: -(2^62)<=c)(m:c<2^62)
  (q:R (Itr a (c-a).toNat) H):wpAny (model X.prog X.w) X.A (pyIter (.ref s.heap.objs.size)) (PIE X g f tg R) E {s with heap:=s.heap.push {cls:= .type "range",data:= .fields #v[.int a t, .int c u, .int 1 v]},toks:=tk}:=by
 refine wpAny_pyIter_range (IsRange.new ..) (small_one j k l m) ?_;have d:Inv X g f H {s with heap:=s.heap.push {cls:= .type "range",data:= .fields #v[.int a t, .int c u, .int 1 v]},toks:=tk}:=I.kept λb o e=>KU _ e;refine#[(s.heap.push {cls:= .type "range",data:= .fields #v[.int a t, .int c u, .int 1 v]}).objs.size,[(s.heap.push {cls:= .type "range",data:= .fields #v[.int a t, .int c u, .int 1 v]}).objs.size],_,_,H,rfl,
  d.kept (t':=tk) λb o e=>KU _ e,yo _ a (c-a).toNat,?_,λb n=> ?_,q]
 .have h:a+((0:Nat):Int)*1=a:=by simp
  have i:(((c-a).toNat:Nat):Int) - ((0:Nat):Int)=Builtin.Range.rangeSize a c 1:=by rw[rangeSize_one];split<;>lia
  show IsRangeIter _ _ (a+((0:Nat):Int)*1) ((((c-a).toNat:Nat):Int) - ((0:Nat):Int)) 1;rw[h,i];exact Lw _ rfl
 .have e:b=(s.heap.push {cls:= .type "range",data:= .fields #v[.int a t, .int c u, .int 1 v]}).objs.size:=by simpa using n
  subst e;exact d.fpOk (Kk _) (d.hok.fresh (Kk _))
def GU(b:TA):TI:=λc H R=>b c H λvs a=>∃j:Int,vs=[.int j]/\ -(2^62)<=j/\j<2^62/\R (Itr 0 j.toNat) a
def Jx(b:TA):TI:=λc H R=>b c H λvs a=>∃i j:Int,vs=[.int i, .int j]/\(-(2^62)<=i/\i<2^62/\ -(2^62)<=j/\j<2^62)/\R (Itr i (j-i).toNat) a
theorem BP{a:Expr}{c:TA}{p pos:Pos}(g:Gl X "range")(i:X.mg "range"=none)(f:PA X [a] c)(k:starEach [a] X.env=[(false,eval a X.env)]:=by rfl):PI X tg (.Call (.Name "range" p) [a] [] pos) (GU c):=by
 intro l s o H R I h;refine Call_ (iS I g i boot_range (Ma (thn (f pos l s o H _ I h) λus v ⟨vs,u,d,r1,b⟩=> ?_) k rfl));obtain⟨j,e,b,m,q⟩:=b;subst e;cases r1 with
 |cons r n=>
  cases n;obtain⟨t,rfl⟩:=r;exact call_range_1 (wK d () () b m (by simpa using q))
theorem BO{a b:Expr}{g:TA}{p pos:Pos}(m:Gl X "range")(n:X.mg "range"=none)(l:PA X [a,b] g)(o:starEach [a,b] X.env=[(false,eval a X.env),(false,eval b X.env)]:=by rfl)(f:starEach [b] X.env=[(false,eval b X.env)]:=by rfl):
  PI X tg (.Call (.Name "range" p) [a,b] [] pos) (Jx g):=by
 intro u s z H R I h;refine Call_ (iS I m n boot_range (Ma (thn (l pos u s z H _ I h) λus B ⟨vs,A,k,r1,c⟩=> ?_) (by rw[o,f]) (by rw[f];rfl)));obtain⟨i,j,e,⟨c,v,w,x⟩,q⟩:=c;subst e;cases r1 with
 |cons r d=>
  cases d with
  |cons y d=>
   cases d;obtain⟨t,rfl⟩:=r;obtain⟨t',rfl⟩:=y;exact call_range_2 (wK k c v w x q)
def Jc(h:TI)(g:TG)(f:TS):TS:=λD a H=>h a H λJ d=>∃W:Nat->Nat->St->Hp->Prop,(∃m,W 0 m a d)/\∀i m a H,W i m a H->
 (J.stop i H/\D.nx a H)\/(J.go i H/\∃N:St->Hp->Prop,(∀c H',N c H'->∃b,b<m/\W (i+1) b c H')/\∀x H',J.yld i H x H'->g x a H' λj e=>f {D with nx:=N,ct:=N,bk:=D.nx} j e)
def qj(a:List Addr)(h:Heap):List (Addr×Obj):=a.filterMap λb=>(h.get? b).map λo=>(b,o)
theorem ji{h:Heap}(a:b∈fp)(e:h.get? b=some o):(b,o)∈qj fp h:=List.mem_filterMap.mpr #[b,a,by rw[e];rfl]
theorem B6{h:Heap}(d:p∈qj fp h):p.1∈fp/\h.get? p.1=some p.2:=by
 obtain⟨b,c,e⟩:=List.mem_filterMap.mp d;cases q:h.get? b with
 |none=>rw[q]at e;cases e
 |some o=>
  rw[q]at e;have a:(b,o)=p:=Lf e;subst a;exact#[c,q]
theorem Inv.pinned{g:St}{s:Shared}(I:Inv X pins g H s)(h:∀b∈c,vA X pins H b)(i:∀b∈c,∃o,s.heap.get? b=some o/\∀v,o.data≠ .cell v):Inv X (pins++qj c s.heap) g H s:=
 I.pins_of λp j=>(KC.mp j).elim (λz=>I.pin p (Lj _ z)) λz=>by obtain⟨f,e⟩:=B6 z;obtain⟨f0,f1,f2,_⟩:=h p.1 f;obtain⟨o,a,d⟩:=i p.1 f;rw[e]at a;cases a;exact#[e,f0,f1,f2,d]
theorem Inv.unpinned{a:St}(I:Inv X (pins++pl) a H s):Inv X pins a H s:=I.pins_of λp b=>I.pin p (Lj _ (LZ _ b))
theorem Hy{iter:Expr}{body:List Stmt}{wi:TI}{g:TG}{tb:TS}{pos:Pos}(t:PassesOwn (model X.prog X.w) X.A X.env X.xe)(hc:X.calm=true)(hi:PI X tg iter wi)(hg:PG X tg g)(j:PSs X body tb)
  (hs:∀x,foldedSetIterable iter X.env x=pure x:=by intro _;rfl):PS X (.For tg iter body [] pos) (Jc wi g tb):=by
 intro p s σ H D I h;refine wpAny_For (thn (hi p s σ H _ I h) λv s1 h1=>thn h1 λct s2 h2=> ?_) hs;obtain⟨it,q,tn,J,H2,e,I2,T,b6,f2,W,⟨m0,w0⟩,turn⟩:=h2;subst e;have M:∀ {H':Hp},(∀b∈q,H' b=none)->∀b∈q,vA X p H' b:=λhn b j=>#[hn b j,(f2 b j).2];refine codeAny_forLoop_any (λn s'=>∃i z H',Inv X p z H' s'/\tn i s'.heap/\(∀b∈q,H' b=none)/\W i n z H') ?_ m0 #[0,σ,H2,I2,b6,λb j=>(f2 b j).1,w0];rintro n s3 ⟨i,B,G,Q,aj,U,w3⟩;rcases turn i n B G w3 with ⟨stop,qn⟩|⟨go,N,hN,step⟩
 .refine MT t (thn (T.done X rfl rfl rfl hc i p s3 B G X.xe Q (M U) aj stop) λr s4 ⟨K,I4⟩=> ?_);subst K;exact N3 #[B,G,I4,qn]
 .refine MT t (thn (T.item X rfl rfl rfl hc i p s3 B G X.xe Q (M U) aj go) λr s4 ⟨u,K,h4⟩=> ?_);subst K;refine MT t (thn h4 λ_ s5 ⟨x,O,I5,r5,y5,L,a5⟩=> ?_);have a3:=I5.pinned (M a5) (T.obj _ _ L);refine MT t (thn (hg _ s5 B O x u _ a3 r5 (step x O y5)) λ_ s6 ⟨cn,H6,I6,q6⟩=> ?_);refine MT t (thn (j _ s6 cn H6 _ I6 q6) λf s7 l=> ?_);have again:∀ {k:St} {a:Hp},Inv X (p++qj q s5.heap) k a s7->N k a->∃m,m<n/\∃i z H',Inv X p z H' s7/\tn i s7.heap/\(∀b∈q,H' b=none)/\W i m z H':=λ{k a} c y=>by obtain⟨m',hm,w7⟩:=hN k a y;refine#[m',hm,i+1,k,a,c.unpinned,T.keep _ _ _ L λb j o e=>(c.pin (b,o) (Lj _ (Lj _ (ji j e)))).1,λb j=> ?_,w7];obtain⟨o,e,d⟩:=T.obj _ _ L b j;exact(c.pin (b,o) (Lj _ (Lj _ (ji j e)))).2.1
  cases f with
  |next=>obtain⟨k,a,c,y⟩:=l;exact again c y
  |cont=>obtain⟨k,a,c,y⟩:=l;exact again c y
  |brk=>obtain⟨k,a,c,l⟩:=l;exact#[k,a,c.unpinned,l]
  |ret v=>obtain⟨x7,k,a,c,r7,l⟩:=l;exact#[x7,k,a,c.unpinned,r7,l]
end
theorem cD{K:PySem.W.Frag}{xs:List V}{g:TG}{l:TS}{D:Ends}(Pv:Nat->St->Hp->Prop)(n:Pv 0 b H)(hl:∀i b H,i<=xs.length->Pv i b H->SqL K H a xs)
  (r:∀i x b H,xs[i]?=some x->Pv i b H->g x b H λh d=>l {D with nx:=Pv (i+1),ct:=Pv (i+1),bk:=D.nx} h d) (o:∀b H,Pv xs.length b H->D.nx b H):
  ∃W:Nat->Nat->St->Hp->Prop,(∃m,W 0 m b H)/\∀i m b H,W i m b H->
   ((Itl K a).stop i H/\D.nx b H)\/((Itl K a).go i H/\∃N:St->Hp->Prop,(∀f H',N f H'->∃k,k<m/\W (i+1) k f H')/\∀x H',(Itl K a).yld i H x H'->g x b H' λh d=>l {D with nx:=N,ct:=N,bk:=D.nx} h d):=by
 refine#[λi m b H=>m=xs.length-i/\i<=xs.length/\Pv i b H,#[xs.length,by simp,Ls _,n],?_];rintro i m b H ⟨rfl,j,p⟩;have q:=hl i b H j p;by_cases c:i<xs.length
 .refine .inr #[#[xs,xs[i],q,by simp[c]],Pv (i+1),λf H' s=>#[xs.length- (i+1),LW c (LN _),rfl,c,s],λx H' y=> ?_];obtain⟨e,y⟩:=y;subst e;exact r i x b _ (y xs q) p
 .have e:i=xs.length:=LO j (LP c);subst e;exact .inl #[#[xs,q,Kk _],o b H p]
theorem cx{c:Int}{g:TG}{k:TS}{D:Ends}(Pv:Nat->St->Hp->Prop)(l:Pv 0 a H)
  (r:∀i a H,i<n->Pv i a H->g (.int (c+i)) a H λh d=>k {D with nx:=Pv (i+1),ct:=Pv (i+1),bk:=D.nx} h d) (o:∀a H,Pv n a H->D.nx a H):
  ∃W:Nat->Nat->St->Hp->Prop,(∃m,W 0 m a H)/\∀i m a H,W i m a H->
   ((Itr c n).stop i H/\D.nx a H)\/((Itr c n).go i H/\∃N:St->Hp->Prop,(∀f H',N f H'->∃j,j<m/\W (i+1) j f H')/\∀x H',(Itr c n).yld i H x H'->g x a H' λh d=>k {D with nx:=N,ct:=N,bk:=D.nx} h d):=by
 refine#[λi m a H=>m=n-i/\i<=n/\Pv i a H,#[n,by simp,Ls _,l],?_];rintro i m a H ⟨rfl,q,p⟩;by_cases b:i<n
 .refine .inr #[b,Pv (i+1),λf H' s=>#[n- (i+1),LW b (LN _),rfl,b,s],λx H' y=> ?_];obtain⟨e,y⟩:=y;subst e y;exact r i a _ b p
 .have e:i=n:=LO q (LP b);subst e;exact .inl #[Kk _,o a H p]
end L2
namespace L2
open PySem PySem.Spec PyProof.Rows
abbrev R2:=V->V->Hp->VK->Prop
def OpR(X:Cx)(f:Value->Value->Sem Value)(r:R2):Prop:=
 ∀ (a:List (Addr×Obj)) (s:Shared) (b:St) (H:Hp) (x y:V) (v u:Value) (Q:VK),Inv X a b H s->bZ x v->bZ y u->r x y H Q->
  wpAny (model X.prog X.w) X.A (f v u) (EP X a b Q) X.xe s
def UnR(X:Cx)(f:Value->Sem Value)(r:V->Hp->VK->Prop):Prop:=
 ∀ (a:List (Addr×Obj)) (s:Shared) (b:St) (H:Hp) (x:V) (v:Value) (Q:VK),Inv X a b H s->bZ x v->r x H Q->
  wpAny (model X.prog X.w) X.A (f v) (EP X a b Q) X.xe s
def gJ(X:Cx)(f:Value)(r:List V->Hp->VK->Prop):Prop:=
 ∀ (a:List (Addr×Obj)) (s:Shared) (b:St) (H:Hp) (xs:List V) (us:List Value) (Q:VK),Inv X a b H s->Vals xs us->r xs H Q->
  wpAny (model X.prog X.w) X.A (call f us) (EP X a b Q) X.xe s
def JZ(X:Cx)(r:V->Hp->(Bool->Hp->Prop)->Prop):Prop:=
 ∀ (a:List (Addr×Obj)) (s:Shared) (b:St) (H:Hp) (x:V) (v:Value) (Q:Bool->Hp->Prop),Inv X a b H s->bZ x v->r x H Q->
  wpAny (model X.prog X.w) X.A (truthy v) (TP X a b Q) X.xe s
def tOp(r:R2)(d e:TE):TE:=λa H Q=>d a H λx b=>e a b λy c=>r x y c Q
def tUn(r:V->Hp->VK->Prop)(b:TE):TE:=λc H Q=>b c H λx a=>r x a Q
inductive RdI(C:Int->Int->Prop)(g:Int->Int->V)(x y:V)(H:Hp)(Q:VK):Prop
 |mk (i j:Int) (e1:x= .int i) (e2:y= .int j) (c:C i j) (q:Q (g i j) H):RdI C g x y H Q
def rI(C:Int->Int->Prop)(g:Int->Int->V):R2:=λx y H Q=>RdI C g x y H Q
inductive JE(g:Int->Int->V)(x y:V)(H:Hp)(Q:VK):Prop
 |mk (i j:Int) (e1:x= .int i) (e2:y= .int j) (q:Q (g i j) H):JE g x y H Q
def rI0(g:Int->Int->V):R2:=λx y H Q=>JE g x y H Q
def rU(g:Int->V):V->Hp->VK->Prop:=λx H Q=>∃i,x= .int i/\Q (g i) H
section
variable{X:Cx}{a b c:Expr}{ta tb tc:TE}{pos:Pos}
theorem IS(l:PE X a ta)(m:PE X b tb){e:St}{R:V->V->Hp->Prop}(I:Inv X pins e H s)
  (h:ta e H λx i=>tb e i λy d=>R x y d)  {f:Value->Value->Sem Value}
  (n:∀v u g x y d,Inv X pins e d g->bZ x v->bZ y u->R x y d->wpAny (model X.prog X.w) X.A (f v u) Q X.xe g):
  wpAny (model X.prog X.w) X.A (eval a X.env) (λv r=>wpAny (model X.prog X.w) X.A (eval b X.env) (λu t=>wpAny (model X.prog X.w) X.A (f v u) Q X.xe t) X.xe r) X.xe s:=by
 refine thn (l pins s e H _ I h) λv q ⟨x,i,j,r1,o⟩=> ?_;refine thn (m pins q e i _ j o) λu g ⟨y,d,k,r2,p⟩=> ?_;exact n v u g x y d k r1 r2 p
theorem ax(i:OpR X (binaryOp op) r)(f:PE X a ta)(g:PE X b tb):PE X (.BinOp a op b pos) (tOp r ta tb):=by intro j s n H Q I h;exact wpAny_BinOp (IS f g I h λv u m x y d e k l q=>i j m n d x y v u Q e k l q)
theorem jP(j:UnR X (unaryOp op) r)(i:PE X a ta):PE X (.UnaryOp op a pos) (tUn r ta):=by intro d s e H Q I h;exact UnaryOp_ (thn (i d s e H _ I h) λv l ⟨x,f,g,r1,k⟩=>j d l e f x v Q g r1 k)
theorem opI{g:Int->Int->Int}
  (rule:∀ (i j:Int) (t u:Tok) (s:Shared) (Q:Value->Shared->Prop) (E:Value->Shared->Prop),C i j->Q (.int (g i j) s.toks) {s with toks:=s.toks+1}->wpAny (model X.prog X.w) X.A (f (.int i t) (.int j u)) Q E s):
  OpR X f (rI C λi j=> .int (g i j)):=by
 intro l s m H x y v u Q I e k h;obtain⟨i,j,rfl,rfl,d,q⟩:=h;obtain⟨t,rfl⟩:=e;obtain⟨t',rfl⟩:=k;exact rule i j t t' s _ _ d #[.int (g i j),H,I.tok _,#[_,rfl],q]
theorem DO{g:Int->Int->Int}
  (rule:∀ (i j:Int) (t u:Tok) (s:Shared) (Q:Value->Shared->Prop) (E:Value->Shared->Prop),Q (.int (g i j) s.toks) {s with toks:=s.toks+1}->wpAny (model X.prog X.w) X.A (f (.int i t) (.int j u)) Q E s):
  OpR X f (rI0 λi j=> .int (g i j)):=by
 intro k s l H x y v u Q I d e h;obtain⟨i,j,rfl,rfl,q⟩:=h;obtain⟨t,rfl⟩:=d;obtain⟨t',rfl⟩:=e;exact rule i j t t' s _ _ #[.int (g i j),H,I.tok _,#[_,rfl],q]
theorem Il{g:Int->Int->Bool}
  (rule:∀ (i j:Int) (t u:Tok) (s:Shared) (Q:Value->Shared->Prop) (E:Value->Shared->Prop),Q (.bool (g i j)) s->wpAny (model X.prog X.w) X.A (f (.int i t) (.int j u)) Q E s):
  OpR X f (rI0 λi j=> .bl (g i j)):=by
 intro k s l H x y v u Q I d e h;obtain⟨i,j,rfl,rfl,q⟩:=h;obtain⟨t,rfl⟩:=d;obtain⟨t',rfl⟩:=e;exact rule i j t t' s _ _ #[.bl (g i j),H,I,rfl,q]
def J1(i j:Int):Prop:=0<j/\j<1073741824
def JJ(i j:Int):Prop:=0<=j/\j<=1000000/\i.natAbs<2^64
def IW(i j:Int):Prop:=(-(2^64)<i/\i<2^64)\/(-(2^64)<j/\j<2^64)
theorem IW.ok(h:IW i j):IntMulOk i j:=by
 rcases h with ⟨d,e⟩|⟨d,e⟩
 .exact .of_left (intBits_le_64 d e)
 .exact .of_right (intBits_le_64 d e)
theorem kT(k:Nat):(0:Int)<=2^k:=by rw[two_pow_cast];exact Lv _
theorem dz:OpR X (binaryOp .Add) (rI0 λi j=> .int (i+j)):=DO λ_ _ _ _ _ _ _ q=>add_int q
theorem fq:OpR X (binaryOp .Sub) (rI0 λi j=> .int (i-j)):=DO λ_ _ _ _ _ _ _ q=>sub_int q
theorem gO:OpR X (binaryOp .Mult) (rI IW λi j=> .int (i*j)):=opI λ_ _ _ _ _ _ _ d q=>mul_int q d.ok
theorem hU:OpR X (binaryOp .FloorDiv) (rI J1 λi j=> .int (i/j)):=opI λi j _ _ _ _ _ d q=>by have e:(0:Int)<j:=d.1;have f:j<1073741824:=d.2;exact floordiv_int () (by rw[Oy i ()];exact q) (.inl (PyProof.noPylong_small ()))
theorem cj:OpR X (binaryOp .Mod) (rI (λ_ j=>0<j) λi j=> .int (i % j)):=opI λi j _ _ _ _ _ d q=>by have e:(0:Int)<j:=d;exact mod_int' () (by rw[Int.fmod_eq_emod_of_nonneg i ()];exact q)
theorem cW:OpR X (binaryOp .LShift) (rI JJ λi j=> .int (i*2^j.toNat)):=opI λ_ _ _ _ _ _ _ d q=>lshift_int_small d.1 d.2.1 d.2.2 q
theorem gM:OpR X (binaryOp .RShift) (rI (λ_ j=>0<=j) λi j=> .int (i/2^j.toNat)):=opI λi j _ _ _ _ _ d q=>
 rshift_int d (by rw[Oy i (kT _)];exact q)
theorem eQ:OpR X (binaryOp .BitAnd) (rI0 λi j=> .int (Builtin.bitAnd i j)):=DO λ_ _ _ _ _ _ _ q=>and_int q
theorem kN:OpR X (binaryOp .BitOr) (rI0 λi j=> .int (Builtin.bitOr i j)):=DO λ_ _ _ _ _ _ _ q=>or_int q
theorem yI:OpR X (binaryOp .BitXor) (rI0 λi j=> .int (Builtin.bitXor i j)):=DO λ_ _ _ _ _ _ _ q=>xor_int q
theorem unI{f:Value->Sem Value}{g:Int->Int}
  (rule:∀ (i:Int) (t:Tok) (s:Shared) (Q:Value->Shared->Prop) (E:Value->Shared->Prop),Q (.int (g i) s.toks) {s with toks:=s.toks+1}->wpAny (model X.prog X.w) X.A (f (.int i t)) Q E s):
  UnR X f (rU λi=> .int (g i)):=by
 intro e s j H x v Q I d h;obtain⟨i,rfl,q⟩:=h;obtain⟨t,rfl⟩:=d;exact rule i t s _ _ #[.int (g i),H,I.tok _,#[_,rfl],q]
theorem ie:UnR X (unaryOp .USub) (rU λi=> .int (-i)):=unI λ_ _ _ _ _ q=>neg_int q
end
def scal:V->V->Bool
 | .non, .non=>true| .non, .int _=>true| .int _, .non=>true| .non, .bl _=>true| .bl _, .non=>true| .non, .str _=>true| .str _, .non=>true
 | .int _, .int _=>true| .bl _, .bl _=>true| .str _, .str _=>true| .byt _, .byt _=>true
 | .int _, .str _=>true| .str _, .int _=>true| .bl _, .str _=>true| .str _, .bl _=>true
 |_,_=>false
def rEq:R2:=λx y H Q=>scal x y=true/\Q (.bl (decide (x=y))) H
def rNe:R2:=λx y H Q=>scal x y=true/\Q (.bl (!decide (x=y))) H
theorem aX:decide (V.int i=V.int j)=(i==j):=by rw[Mq];simp
theorem EE:decide (V.bl i=V.bl j)=(i==j):=by rw[Mq];simp
theorem AU:decide (V.str i=V.str j)=(i==j):=by rw[Mq];simp
theorem AV{i j:Array UInt8}:decide (V.byt i=V.byt j)=(i.toList==j.toList):=by rw[Mq];cases i;cases j;simp
section
variable{X:Cx}{a b c:Expr}{ta tb tc:TE}{pos:Pos}
theorem bV{f:List (Addr×Obj)}{g:St}{H:Hp}{s:Shared}{Q:VK}{k d:Bool}(I:Inv X f g H s)(q:Q (.bl k) H)(e:k=d):EP X f g Q (.bool d) s:=by subst e;exact#[.bl k,H,I,rfl,q]
theorem a8:OpR X (compareOp .Eq) rEq:=by
 intro g s k H x y v u Q I f d h;obtain⟨e,q⟩:=h;cases x with
 |non=>
  cases f;cases y with
  |non=>cases d;exact PySem.EqNone.eq_none_none (bV I q (by simp))
  |bl j=>cases d;exact PySem.EqNone.eq_none_bool (bV I q (by simp))
  |int j=>obtain⟨t',rfl⟩:=d;exact PySem.EqNone.eq_none_int (bV I q (by simp))
  |str j=>obtain⟨t',rfl⟩:=d;exact PySem.EqNone.eq_none_str (bV I q (by simp))
  |_=>exact absurd (show false=true from e) Ku
 |bl i=>
  cases f;cases y with
  |non=>cases d;exact PySem.EqNone.eq_bool_none (bV I q (by simp))
  |bl j=>cases d;exact eq_bool (bV I q EE)
  |str j=>obtain⟨t',rfl⟩:=d;exact PySem.EqMixed.eq_bool_str (bV I q (by simp))
  |_=>exact absurd (show false=true from e) Ku
 |int i=>
  obtain⟨t,rfl⟩:=f;cases y with
  |non=>cases d;exact PySem.EqNone.eq_int_none (bV I q (by simp))
  |int j=>obtain⟨t',rfl⟩:=d;exact eq_int (bV I q aX)
  |str j=>obtain⟨t',rfl⟩:=d;exact PySem.EqMixed.eq_int_str (bV I q (by simp))
  |_=>exact absurd (show false=true from e) Ku
 |str i=>
  obtain⟨t,rfl⟩:=f;cases y with
  |non=>cases d;exact PySem.EqNone.eq_str_none (bV I q (by simp))
  |bl j=>cases d;exact PySem.EqMixed.eq_str_bool (bV I q (by simp))
  |int j=>obtain⟨t',rfl⟩:=d;exact PySem.EqMixed.eq_str_int (bV I q (by simp))
  |str j=>obtain⟨t',rfl⟩:=d;exact eq_str (bV I q AU)
  |_=>exact absurd (show false=true from e) Ku
 |byt i=>
  obtain⟨t,rfl⟩:=f;cases y with
  |byt j=>obtain⟨t',rfl⟩:=d;exact PySem.W.eq_bytes (bV I q AV)
  |_=>exact absurd (show false=true from e) Ku
 |_=>cases y<;>exact absurd (show false=true from e) Ku
theorem gE:OpR X (compareOp .NotEq) rNe:=by
 intro g s k H x y v u Q I f d h;obtain⟨e,q⟩:=h;cases x with
 |non=>
  cases f;cases y with
  |non=>cases d;exact PySem.EqNone.ne_none_none (bV I q (by simp))
  |bl j=>cases d;exact PySem.EqNone.ne_none_bool (bV I q (by simp))
  |int j=>obtain⟨t',rfl⟩:=d;exact PySem.EqNone.ne_none_int (bV I q (by simp))
  |str j=>obtain⟨t',rfl⟩:=d;exact PySem.EqNone.ne_none_str (bV I q (by simp))
  |_=>exact absurd (show false=true from e) Ku
 |bl i=>
  cases f;cases y with
  |non=>cases d;exact PySem.EqNone.ne_bool_none (bV I q (by simp))
  |bl j=>cases d;exact ne_bool (bV I q (K3 not EE))
  |str j=>obtain⟨t',rfl⟩:=d;exact PySem.EqMixed.ne_bool_str (bV I q (by simp))
  |_=>exact absurd (show false=true from e) Ku
 |int i=>
  obtain⟨t,rfl⟩:=f;cases y with
  |non=>cases d;exact PySem.EqNone.ne_int_none (bV I q (by simp))
  |int j=>obtain⟨t',rfl⟩:=d;exact ne_int (bV I q (K3 not aX))
  |str j=>obtain⟨t',rfl⟩:=d;exact PySem.EqMixed.ne_int_str (bV I q (by simp))
  |_=>exact absurd (show false=true from e) Ku
 |str i=>
  obtain⟨t,rfl⟩:=f;cases y with
  |non=>cases d;exact PySem.EqNone.ne_str_none (bV I q (by simp))
  |bl j=>cases d;exact PySem.EqMixed.ne_str_bool (bV I q (by simp))
  |int j=>obtain⟨t',rfl⟩:=d;exact PySem.EqMixed.ne_str_int (bV I q (by simp))
  |str j=>obtain⟨t',rfl⟩:=d;exact ne_str (bV I q (K3 not AU))
  |_=>exact absurd (show false=true from e) Ku
 |byt i=>
  obtain⟨t,rfl⟩:=f;cases y with
  |byt j=>obtain⟨t',rfl⟩:=d;exact PySem.W.ne_bytes (bV I q (K3 not AV))
  |_=>exact absurd (show false=true from e) Ku
 |_=>cases y<;>exact absurd (show false=true from e) Ku
theorem oG:OpR X (compareOp .Lt) (rI0 λi j=> .bl (decide (i<j))):=Il λ_ _ _ _ _ _ _ q=>lt_int q
theorem mq:OpR X (compareOp .Gt) (rI0 λi j=> .bl (decide (j<i))):=Il λ_ _ _ _ _ _ _ q=>gt_int q
theorem Js:OpR X (compareOp .GtE) (rI0 λi j=> .bl (decide (j<=i))):=Il λ_ _ _ _ _ _ _ q=>ge_int q
theorem Ik:OpR X (compareOp .Is) (λx y H Q=>y= .non/\Q (.bl (decide (x= .non))) H):=by
 intro f s g H x y v u Q I d e h;obtain⟨rfl,q⟩:=h;cases e;refine is_none_gen (bV I q ?_);cases x<;>first
  |(cases d;rfl)
  |(obtain⟨t,rfl⟩:=d;rfl)
theorem uH:OpR X (compareOp .IsNot) (λx y H Q=>y= .non/\Q (.bl (!decide (x= .non))) H):=by
 intro f s g H x y v u Q I d e h;obtain⟨rfl,q⟩:=h;cases e;refine isnot_none_gen (bV I q ?_);cases x<;>first
  |(cases d;rfl)
  |(obtain⟨t,rfl⟩:=d;rfl)
theorem nomark(b:Expr){d:CmpOp}(h:d≠ .In:=by decide)(g:d≠ .NotIn:=by decide):behindInMarks d b=false:=by
 have e:(d==CmpOp.In)=false:=by cases d<;>first|rfl|exact absurd rfl h
 have f:(d==CmpOp.NotIn)=false:=by cases d<;>first|rfl|exact absurd rfl g
 cases b<;>simp[behindInMarks,e,f]
theorem FQ(j:OpR X (compareOp op) r)(f:PE X a ta)(g:PE X b tb)(i:behindInMarks op b=false):PE X (.Compare a [op] [b] pos) (tOp r ta tb):=by intro k s o H Q I h;exact wpAny_Compare1 (IS f g I h λv u n x y d e l m q=>j k n o d x y v u Q e l m q) i
def GH(t:TE):TT:=λd H Q=>t d H (RdB Q)
theorem lY(t:OpR X (compareOp op) r)(o:PE X a ta)(p:PE X b tb)(q:behindInMarks op b=false):PT X (.Compare a [op] [b] pos) (GH (tOp r ta tb)):=by
 intro d s f H Q I h;refine wpAny_isTrue_Compare1 (thn (o d s f H _ I h) λv J ⟨x,g,l,r1,w⟩=>thn (p d J f g _ l w) λu K ⟨y,i,m,r2,A⟩=>
  thn (t d K f i x y v u _ m r1 r2 A) λc L ⟨z,j,n,G,k,e,B⟩=> ?_) q
 subst e;cases G;exact MY #[j,n,B]
def JD(K:PySem.W.Frag)(x:V)(H:Hp)(k:Bool):Prop:=
 match x with
 | .non=>k=false
 | .bl b=>k=b
 | .int i=>k=(i !=0)
 | .str y=>y.length<=sizeLine/\k=((y.length:Int) !=0)
 | .byt y=>y.size<=sizeLine/\k=((y.size:Int) !=0)
 | .ref p=>(∃xs,SqL K H p xs/\k= !xs.isEmpty)\/(∃xs,SqT K H p xs/\k= !xs.isEmpty)\/∃kvs,H p=some (.dK kvs)/\k= !kvs.isEmpty
 |_=>False
theorem yV{kvs:List (κ×V)}{vs:List (κ×Value)}(r:KV kvs vs):(!vs.isEmpty)= !kvs.isEmpty:=by cases r<;>rfl
theorem qC{xs:List V}{d:List Value}(r:Vals xs d):(!d.toArray.isEmpty)= !xs.isEmpty:=by cases r<;>simp
theorem uV:(sizeLine:Nat)<2^63:=by rw[sizeLine_eq];decide
theorem He:JZ X (λx H Q=>∃k,JD X.K x H k/\Q k H):=by
 intro A s B H x v Q I f h;obtain⟨k,e,q⟩:=h;have hl:=uV;have z:sizeLine=16777216:=sizeLine_eq;cases x with
 |non=>
  cases f;have d:k=false:=e;subst d;exact truthy_none #[H,I,q]
 |bl b=>
  cases f;have d:k=b:=e;subst d;exact MY #[H,I,q]
 |int i=>
  obtain⟨t,rfl⟩:=f;have d:k=(i !=0):=e;subst d;exact PySem.P.truthy_int #[H,I,q]
 |str y=>
  obtain⟨t,rfl⟩:=f;obtain⟨o,d⟩:y.length<=sizeLine/\k=((y.length:Int) !=0):=e;subst d;exact PySem.P.truthy_str () #[H,I.tok _,q]
 |byt y=>
  obtain⟨t,rfl⟩:=f;obtain⟨o,d⟩:y.size<=sizeLine/\k=((y.size:Int) !=0):=e;subst d;exact PySem.W.truthy_bytes () #[H,I.tok _,q]
 |ref p=>
  cases f;have d:(∃xs,SqL X.K H p xs/\k= !xs.isEmpty)\/(∃xs,SqT X.K H p xs/\k= !xs.isEmpty)\/∃kvs,H p=some (.dK kvs)/\k= !kvs.isEmpty:=e;rcases d with ⟨xs,g,d⟩|⟨xs,g,d⟩|⟨kvs,g,d⟩
  .subst d;obtain⟨u,r,pl,l⟩:=I.list g;have j:=r.length;exact wpAny_truthy_list pl.isList (by simp only[K7];lia) #[H,I.tok _,by rw[qC r];exact q]
  .subst d;obtain⟨u,r,pl,l⟩:=I.tuple g;have j:=r.length;exact truthy_tuple pl (by simp only[K7];lia) #[H,I.tok _,by rw[qC r];exact q]
  .subst d;obtain⟨l,n,vs,r,m⟩:kvs.length<=sizeLine/\(p==sysModules)=false/\∃vs,KV kvs vs/\s.heap.DictOf (dG X.prog X.w) p vs:=I.hok p _ g;have j:kvs.length=vs.length:=Ny r;exact wpAny_truthy_dict n m () #[H,I.tok _,by rw[yV r];exact q]
 |_=>exact(show False from e).elim
theorem DD(i:PE X a ta)(j:∀whole,isTrue a X.env whole=(do let v<-whole;standAt a.pos;holding [v] (truthy v))):
  PT X a (λd H Q=>ta d H λx H'=>∃k,JD X.K x H' k/\Q k H'):=by
 intro e s d H Q I h;exact isTrue_plain (thn (i e s d H _ I h) λv m ⟨x,f,g,r1,l⟩=>He e m d f x v Q g r1 l) (j _)
theorem vD(r:Vals [x] us):∃u,us=[u]/\bZ x u:=by
 cases r with
 |cons r1 r2=>cases r2;exact#[_,rfl,r1]
theorem GG(r:Vals [x,y] us):∃u d,us=[u,d]/\bZ x u/\bZ y d:=by
 cases r with
 |cons r1 r2=>
  cases r2 with
  |cons e f=>cases f;exact#[_,_,rfl,r1,e]
theorem CL(e:X.calm=true):gJ X (.builtin "max") (λxs H Q=>∃i j,xs=[.int i, .int j]/\Q (.int (if j>i then j else i)) H):=by
 intro f s m H xs us Q I r h;obtain⟨i,j,rfl,q⟩:=h;obtain⟨u,l,rfl,⟨t,rfl⟩,⟨t',rfl⟩⟩:=GG r;refine max_two_ints (I.ok.hd e) λh' g k=>#[_,H,I.kept k,?_,q];by_cases d:j>i
 .rw[J5 d,J5 d];exact#[_,rfl]
 .rw[J4 d,J4 d];exact#[_,rfl]
end
end L2
namespace L2
open PySem PySem.Spec PyProof.Rows
structure z4(h:Heap)(x dx C:Addr)(mA:Str->Option Value):Prop where
 obj:h.get? x=some (instObj C dx)
 ns:h.Ns1 dx mA
 ne:dx≠x
theorem Ce{h:Heap}(n:h.Ns1 dx mA):∃c,h.get? dx=some c/\∀name,lookIn name c=some (mA name):=by
 obtain⟨o,b,ep,k,f,g,_,j⟩:=n;refine#[o,k,λname=> ?_];have e:=j name;unfold nsFind findBy at e;rw[<-Array.find?_toList]at e;unfold lookIn;rw[f];dsimp only;split
 .rename_i y q;rw[q]at e;exact K3 some e
 .rename_i q;rw[q]at e;have a:b.toList.any (·.refKey)=false:=by rw[List.any_eq_false];intro y l;obtain⟨z,t,i⟩:=g y (Array.mem_toList_iff.mp l);simp[DictEntry.refKey,i]
  have d:¬b.toList.any (·.refKey)=true:=by rw[a];exact Ku
  rw[J4 d];exact K3 some e
theorem z4.look(I:z4 h x dx C mA):∃a,PySem.W.InstAt h x (instObj C dx) C (some a)/\∀name,lookIn name a=some (mA name):=
 let⟨a,b,hl⟩:=Ce I.ns
 #[a,#[I.obj,rfl,rfl,b],hl]
section
variable{prog:Program}{w:World}{A:Around}{E:Value->Shared->Prop}{s:Shared}{K:PySem.W.Frag}{x dx C f:Addr}{mA:Str->Option Value}{name:Str}{v:Value}
theorem Gh(X:K.In s.heap)(I:z4 s.heap x dx C mA)(b:plainGet K C name=true)(hh:hasDictIn K C=true)
  (a:findIn K (.ref C) name=some none) (c:mA name=some v) (d:PySem.W.handedIn v=true) (h:Q v {s with toks:=s.toks+1}):
  wpAny (model prog w) A (getAttr (.ref x) name expr) Q E s:=by
 obtain⟨e,J,hl⟩:=I.look;exact PySem.W.get_value X J (Og b).1 (PySem.W.findObj_own hh a rfl (by rw[hl,c])) d h
theorem Et(X:K.In s.heap)(I:z4 s.heap x dx C mA)(a:plainGet K C name=true)
  (b:findIn K (.ref C) name=some (some (.ref f))) (c:isFn K (.ref f)=true) (d:mA name=none) (h:Q (.ref f,[.ref x]) s):
  wpAny (model prog w) A (getMethod (.ref x) name pl) Q E s:=by
 obtain⟨e,J,hl⟩:=I.look;exact PySem.W.method_fn X J (Og a).1 (Og a).2 b (N4.mp c) (by show(lookIn name e).map (·.isSome)=some false;rw[hl,d];rfl) h
theorem Fo{e:List Str}(X:K.In s.heap)(I:z4 s.heap x dx C mA)
  (n:findIn K (.ref C) "__setattr__"=some (some (.builtin "object.__setattr__"))) (m:plainOver K C=true) (o:takerIn K C name=some none) (hh:hasDictIn K C=true)
  (p:PySem.Within mA e) (hsz:e.length<=sizeLine)
  (h:∀h',z4 h' x dx C (λy=>if y=name then some v else mA y)->Heap.SameBut dx s.heap h'->Q Unit.unit {s with heap:=h',toks:=s.toks+2}):
  wpAny (model prog w) A (setAttr (.ref x) name v) Q E s:=by
 obtain⟨G,J,hl⟩:=I.look;refine PySem.W.set_plain X J n (PySem.W.osa_open (s:={s with toks:=s.toks+1}) (r:=none) X J m o λb=> ?_);obtain⟨t,g,j⟩:=PySem.W.any_some hh;have q:s.heap.get? x=some #[.ref C,some dx, .plain, #v[]]:=I.obj;refine Lb (LK (Lb (Lb (wpAny_loadPart q (Lb (PySem.W.Looks.here (s:={s with toks:=s.toks+1}) (PySem.W.looks_clsIn X g) ?_))))));rw[j];refine LK (a:=some dx) (Lb (LK (Lb ?_)));refine wpAny_nsSet1 (s:={s with toks:=s.toks+1}) I.ns λh' c d=> ?_;obtain⟨B,z,u,l,k,i⟩:=c.count (PySem.Within.cons name v p);refine Lb (wpAny_lookBehind l (by rw[k];exact pastItsLine_dict (Kd i (by rw[KA];lia))) ?_);exact LK (h _ #[(d.2 _ (Mo I.ne)).trans I.obj,c,I.ne] d)
theorem D5(X:K.In s.heap)(e:makesIn K C=true)
  (c:findIn K (.ref C) "__init__"=some (some (.ref f))) (b:PySem.W.typeIn K (.ref f)=some (.type "function"))
  (h:codeAny (model prog w) (A.under (.builtin "type.__call__" #[.ref C::vs,a])) (.call (.ref f) #[.ref (s.heap.objs.size+1)::vs,a]) (PySem.W.InitBack (s.heap.objs.size+1) R)
   {s with heap:=(s.heap.push emptyDict).push (instObj C s.heap.objs.size)}):
  codeAny (model prog w) A (.call (.ref C) #[vs,a]) R s:=by
 obtain⟨hh,g,d,t,os⟩:=s;exact PySem.W.make_core (PySem.W.makes_of X e) (PySem.W.looks_findIn X c) (λself=>PySem.W.bind_fn X self b) (.inl rfl) h
end
def di(f:Str)(v:V):List (Str×V)->List (Str×V)
 | []=>[(f,v)]
 |(g,x)::r=>if g=f then(g,v)::r else(g,x)::di f v r
theorem iH(f g:Str)(v:V):∀fs:List (Str×V),(di f v fs).lookup g=if g=f then some v else fs.lookup g
 | []=>by
  show List.lookup g [(f,v)]=_;by_cases h:g=f
  .have a:(g==f)=true:=N4.mpr h;simp only[List.lookup,a,J5 h]
  .have a:(g==f)=false:=Nd.mpr h;simp only[List.lookup,a,J4 h]
 |(k,x)::r=>by
  have c:=iH f g v r;rw[show di f v ((k,x)::r)=(if k=f then(k,v)::r else(k,x)::di f v r)from rfl];by_cases b:k=f
  .rw[J5 b];by_cases h:g=k
   .have a:(g==k)=true:=N4.mpr h;simp only[List.lookup,a,J5 (h.trans b)]
   .have a:(g==k)=false:=Nd.mpr h;simp only[List.lookup,a,J4 (λe:g=f=>h (e.trans b.symm))]
  .rw[J4 b];by_cases h:g=k
   .have a:(g==k)=true:=N4.mpr h;simp only[List.lookup,a,J4 (λe:g=f=>b (h.symm.trans e))]
   .have a:(g==k)=false:=Nd.mpr h;simp only[List.lookup,a];exact c
theorem nW(f:Str)(v:V):∀fs:List (Str×V),f∈(di f v fs).map (·.1)/\∀g,g∈fs.map (·.1)->g∈(di f v fs).map (·.1)
 | []=>#[by simp[di],λg h=>by simp at h]
 |(k,x)::r=>by
  obtain⟨b,c⟩:=nW f v r;rw[show di f v ((k,x)::r)=(if k=f then(k,v)::r else(k,x)::di f v r)from rfl];by_cases a:k=f
  .rw[J5 a];subst a;exact#[by simp,λg h=>by simpa using h]
  .rw[J4 a];refine#[?_,λg h=> ?_]
   .rw[KS];exact Ke _ b
   .rw[KS]at h⊢;rcases J7.mp h with e|e
    .exact J7.mpr (.inl e)
    .exact Ke _ (c g e)
theorem aZ(f:Str)(v:V):∀fs:List (Str×V),(di f v fs).length<=fs.length+1
 | []=>by simp[di]
 |(k,x)::r=>by
  have b:=aZ f v r;rw[show di f v ((k,x)::r)=(if k=f then(k,v)::r else(k,x)::di f v r)from rfl];by_cases a:k=f
  .rw[J5 a,KA,KA];lia
  .rw[J4 a,KA,KA];lia
theorem jC.some_of(r:jC (some v) o):∃u,o=some u/\bZ v u:=by
 cases o with
 |none=>exact(show False from r).elim
 |some u=>exact#[u,rfl,r]
theorem jC.none_of(r:jC none o):o=none:=by
 cases o with
 |none=>rfl
 |some u=>exact(show False from r).elim
theorem Cs(r:bZ v u):PySem.W.handedIn u=true:=by
 cases v with
 |non=>cases (show u=Value.none from r);rfl
 |bl b=>cases (show u=Value.bool b from r);rfl
 |int i=>obtain⟨t,e⟩:=(show∃t,u=Value.int i t from r);cases e;rfl
 |str x=>obtain⟨t,e⟩:=(show∃t,u=Value.str x t from r);cases e;rfl
 |byt b=>obtain⟨t,e⟩:=(show∃t,u=Value.bytes b t from r);cases e;rfl
 |flt b=>obtain⟨t,e⟩:=(show∃t,u=Value.float b t from r);cases e;rfl
 |ref a=>cases (show u=Value.ref a from r);rfl
 |ty n=>cases (show u=Value.type n from r);rfl
section
variable{P:Program}{w:World}{H H':Hp}{h h':Heap}{a C dx:Addr}{fs fs':List (Str×V)}
theorem pC(c:HOk P w H h)(e:H a=some (.ins C dx fs)):∃b,z4 h a dx C b/\(∀f,jC (fs.lookup f) (b f))/\PySem.Within b (fs.map (·.1))/\fs.length<=1000/\H dx=some (.own a):=by obtain⟨d,z,ne,g,b,n,r,q⟩:=(show cU P w H h a (.ins C dx fs)from c a _ e);exact#[b,#[g,n,ne],r,q,z,d]
end
structure Cls(K:PySem.W.Frag)(C:Addr):Prop where
 pg:plainGet K C Str.empty=true
 hd:hasDictIn K C=true
 po:plainOver K C=true
 sa:findIn K (.ref C) "__setattr__"=some (some (.builtin "object.__setattr__"))
theorem Cls.get{K:PySem.W.Frag}{C:Addr}(c:Cls K C)(f:Str):plainGet K C f=true:=c.pg
def b7(K:PySem.W.Frag)(C:Addr)(f:Str):Prop:=findIn K (.ref C) f=some none
theorem b7.taker{K:PySem.W.Frag}{C:Addr}{f:Str}(n:b7 K C f):takerIn K C f=some none:=by unfold takerIn;rw[show findIn K (.ref C) f=some none from n];rfl
structure Meth(K:PySem.W.Frag)(C:Addr)(m:Str)(f:Addr):Prop where
 at_:findIn K (.ref C) m=some (some (.ref f))
 fn:isFn K (.ref f)=true
 kp:keepIn K (.ref f)=true
section
variable{X:Cx}{pins:List (Addr×Obj)}{σ:St}{H:Hp}{s:Shared}{a C dx:Addr}{fs:List (Str×V)}{f:Str}{v:V}{A:Around}{E:Value->Shared->Prop}
theorem yY(I:Inv X pins σ H s)(e:H a=some (.ins C dx fs))(c:Cls X.K C)(n:b7 X.K C f)(l:fs.lookup f=some v)
  (h:∀u g,Inv X pins σ H g->bZ v u->Q u g):wpAny (model X.prog X.w) A (getAttr (.ref a) f b) Q E s:=by
 obtain⟨j,O,r,_,_,_⟩:=pC I.hok e;obtain⟨u,i,d⟩:=jC.some_of (v:=v) (o:=j f) (by rw[<-l];exact r f);exact Gh I.kIn O (c.get f) c.hd n i (Cs d) (h u _ (I.tok _) d)
theorem qG(I:Inv X pins σ H s)(e:H a=some (.ins C dx fs))(c:Cls X.K C)(k:Meth X.K C m g)(l:fs.lookup m=none)
  (h:Q (.ref g,[.ref a]) s):wpAny (model X.prog X.w) A (getMethod (.ref a) m pl) Q E s:=by
 obtain⟨d,O,r,_,_,_⟩:=pC I.hok e;have b:d m=none:=jC.none_of (by rw[<-l];exact r m);exact Et I.kIn O (c.get m) k.at_ k.fn b h
theorem yu(I:Inv X pins σ H s)(e:H a=some (.ins C dx fs))(c:Cls X.K C)(n:b7 X.K C f)(hl:fs.length<1000)(J:bZ y u)
  (h:∀k,Inv X pins σ (upd H a (.ins C dx (di f y fs))) k->Q Unit.unit k):wpAny (model X.prog X.w) A (setAttr (.ref a) f u) Q E s:=by
 obtain⟨j,O,r,l,_,i⟩:=pC I.hok e;have G:(fs.map (·.1)).length<=sizeLine:=by rw[J2,sizeLine_eq];lia
 refine Fo I.kIn O c.sa c.po n.taker c.hd l G λh' d L=>h _ ?_;have t:∃o,h'.get? dx=some o:=let⟨o,_,_,m,_⟩:=d.ns;#[o,m];refine I.write (x:=a) (e:=dx) (by rw[e];exact MJ) (.inr i) (λb q p z=>(L.2 b p).trans z) t ?_;refine#[by rw[aJ O.ne];exact i,?_,O.ne,d.obj,_,d.ns,λg=> ?_,λg B=> ?_]
 .have:=aZ f y fs;lia
 .show jC ((di f y fs).lookup g) (if g=f then some u else j g);rw[iH];by_cases q:g=f
  .rw[J5 q,J5 q];exact J
  .rw[J4 q,J4 q];exact r g
 .by_cases q:g=f
  .rw[q];exact(nW f y fs).1
  .refine(nW f y fs).2 g (l g λz=>B ?_);show(if g=f then some u else j g)=none;rw[J4 q];exact z
theorem Inv.made(I:Inv X pins σ H s):Inv X pins σ (upd (upd H s.heap.objs.size (.own (s.heap.objs.size+1))) (s.heap.objs.size+1) (.ins C s.heap.objs.size []))
  {s with heap:=(s.heap.push emptyDict).push (instObj C s.heap.objs.size)}:=by
 have c:(s.heap.push emptyDict).get? s.heap.objs.size=some emptyDict:=Lw s.heap rfl;have g:((s.heap.push emptyDict).push (instObj C s.heap.objs.size)).get? (s.heap.objs.size+1)=some (instObj C s.heap.objs.size):=by
  have:=Lw (s.heap.push emptyDict) (o:=instObj C s.heap.objs.size) rfl
  rwa [Np]at this
 have h:(s.heap.push emptyDict).Ns s.heap.objs.size (λ_=>none):=#[emptyDict, #v[],_,c,rfl,(λe i=>absurd i (by simp)),λ_=>rfl];have d:=I.laid (a:=s.heap.objs.size) (o:= .own (s.heap.objs.size+1)) (h':=s.heap.push emptyDict) (t':=s.toks) (λb u q=>KU _ q) (Kk _) #[_,c];refine d.laid (a:=s.heap.objs.size+1) (o:= .ins C s.heap.objs.size []) (t':=s.toks) (λb u q=>KU _ q) (Nat.le_of_eq (Np _ _)) ?_;have ne:s.heap.objs.size≠s.heap.objs.size+1:=Lp (LN _);refine#[by rw[aJ ne,av],Ls _,ne,g,λ_=>none,(Heap.Ns1.of_empty h).at λo q=>KU _ q,λ_=>MJ,λy j=>absurd rfl j]
theorem Gy(b:attributeBase e f env (eval e env)=eval e env)
  (h:wpAny (model prog w) A (eval e env) (λo c=>wpAny (model prog w) A (getAttr o f true) Q E c) E s):wpAny (model prog w) A (eval (.Attribute e f pos) env) Q E s:=
 Attribute_any_ h (by rw[arm_eval_Attribute,b])
end
inductive RdF(K:PySem.W.Frag)(f:Str)(Q:VK)(x:V)(H:Hp):Prop
 |mk (a C dx:Addr) (fs:List (Str×V)) (v:V) (e1:x= .ref a) (e2:H a=some (.ins C dx fs)) (c:Cls K C) (n:b7 K C f) (l:fs.lookup f=some v) (q:Q v H):RdF K f Q x H
def Hl(K:PySem.W.Frag)(a:TE)(f:Str):TE:=λb H Q=>a b H (RdF K f Q)
def Hr(K:PySem.W.Frag)(g tv:TE)(f:Str):TS:=λD b H=>tv b H λy e=>g b e λx c=>∃a C d fs,x= .ref a/\c a=some (.ins C d fs)/\Cls K C/\b7 K C f/\fs.length<1000/\
 D.nx b (upd c a (.ins C d (di f y fs)))
section
variable{X:Cx}{o e value:Expr}{f:Str}{pos pos' tpos:Pos}{ta tv:TE}
theorem Ig(m:PE X e ta)(k:attributeBase e f X.env (eval e X.env)=eval e X.env):PE X (.Attribute e f pos) (Hl X.K ta f):=by intro r s y H Q I h;refine Gy k (thn (m r s y H _ I h) λu A p=> ?_);obtain⟨x,b,d,w,a,C,z,fs,v,j,i,c,n,l,q⟩:=p;subst j;obtain rfl:u=Value.ref a:=w;exact yY d i c n l λG B g t=>#[v,b,g,t,q]
theorem Hz(r:PE X o ta)(w:PE X value tv)(v:swapsWith value (some (.Attribute o f pos')) pos.line X.env=pure false):PS X (.Assign [.Attribute o f pos'] value pos) (Hr X.K ta tv f):=by intro d s b H D I h;refine plainObj_wpAny_Assign_Attribute (thn (w d s b H _ I h) λu G ⟨y,g,i,B,q⟩=>thn (r d G b g _ i q) λov M t=> ?_) v;obtain⟨x,J,j,A,a,C,L,fs,p,m,c,n,l,z⟩:=t;subst p;obtain rfl:ov=Value.ref a:=A;exact yu j m c n l B λN k=>#[b,_,k,z]
end
section
variable{X:Cx}{pins:List (Addr×Obj)}{σ:St}{H:Hp}{s:Shared}{A:Around}{E:Value->Shared->Prop}{Q:Value->Shared->Prop}{c:Value}{b:Bool}
inductive ot(K:PySem.W.Frag)(H:Hp):V->Value->Prop where
 |non:ot K H .non (.type "NoneType")
 |bl (x:Bool):ot K H (.bl x) (.type "bool")
 |int (i:Int):ot K H (.int i) (.type "int")
 |str (x:Str):ot K H (.str x) (.type "str")
 |flt (x:UInt64):ot K H (.flt x) (.type "float")
 |lst {a:Addr} {xs:List V} (e:H a=some (.lst xs)):ot K H (.ref a) (.type "list")
 |frz {a:Addr} {o:Obj} {xs:List V} (e:H a=some (.frz o (.lst xs))):ot K H (.ref a) (.type "list")
 |tup {a:Addr} {xs:List V} (e:H a=some (.tup xs)):ot K H (.ref a) (.type "tuple")
 |dK {a:Addr} {kvs:List (Key×V)} (e:H a=some (.dK kvs)):ot K H (.ref a) (.type "dict")
 |dT {a:Addr} {kvs:List (List Key×V)} (e:H a=some (.dT kvs)):ot K H (.ref a) (.type "dict")
 |ins {a C dx:Addr} {fs:List (Str×V)} (e:H a=some (.ins C dx fs)) (cl:Cls K C) (ha:findIn K (.ref C) "__class__"=some (some (.builtin "object.__class__")))
   (hn:specialIn K (.builtin "object.__class__") "__get__"=some (some (.builtin "getset_descriptor.__get__"))) (htk:takesIn K (.builtin "object.__class__")=some true)
   (hm:mroIn K C (.type "object")=some true):ot K H (.ref a) (.ref C)
theorem Cp(I:Inv X pins σ H s)(f:bZ x u)(ty:ot X.K H x t)(e:kitOne X.K t c=some b)(h:∀L,Q (.bool b) {s with toks:=L}):
  wpAny (model X.prog X.w) A (call (.builtin "isinstance") [u,c]) Q E s:=by
 cases ty with
 |non=>cases (show u=Value.none from f);exact Mu PySem.W.kitx_none I.kIn MJ e (λz=>nomatch z) h
 |bl y=>cases (show u=Value.bool y from f);exact Mu PySem.W.kitx_bool I.kIn MJ e (λz=>nomatch z) h
 |int i=>obtain⟨t,q⟩:=(show∃t,u=Value.int i t from f);cases q;exact Mu PySem.W.kitx_int I.kIn MJ e (λz=>nomatch z) h
 |str y=>obtain⟨t,q⟩:=(show∃t,u=Value.str y t from f);cases q;exact Mu PySem.W.kitx_str I.kIn MJ e (λz=>nomatch z) h
 |flt y=>obtain⟨t,q⟩:=(show∃t,u=Value.float y t from f);cases q;exact Mu PySem.W.kitx_float I.kIn MJ e (λz=>nomatch z) h
 | @lst a xs d=>
  cases (show u=Value.ref a from f);obtain⟨_,_,n,_,g⟩:=(show cU X.prog X.w H s.heap a (.lst xs)from I.hok a _ d);exact Mu PySem.W.kitx_list I.kIn #[_,g,rfl] e (λz=>nomatch z) h
 | @frz a G xs d=>
  cases (show u=Value.ref a from f);obtain⟨_,_,_,n,_,g⟩:=(show cU X.prog X.w H s.heap a (.frz G (.lst xs))from I.hok a _ d);exact Mu PySem.W.kitx_list I.kIn #[_,g,rfl] e (λz=>nomatch z) h
 | @tup a xs d=>
  cases (show u=Value.ref a from f);obtain⟨_,_,_,p⟩:=(show cU X.prog X.w H s.heap a (.tup xs)from I.hok a _ d);obtain⟨o,g,j,_⟩:=p;exact Mu PySem.W.kitx_tuple I.kIn #[o,g,j] e (λz=>nomatch z) h
 | @dK a kvs d=>
  cases (show u=Value.ref a from f);obtain⟨_,_,vs,_,p⟩:=(show cU X.prog X.w H s.heap a (.dK kvs)from I.hok a _ d);obtain⟨o,l,ep,g,j,_⟩:=p;exact Mu PySem.W.kitx_dict I.kIn #[o,g,j.1] e (λz=>nomatch z) h
 | @dT a kvs d=>
  cases (show u=Value.ref a from f);obtain⟨_,_,xs,_,o,l,ep,g,j,_⟩:=(show cU X.prog X.w H s.heap a (.dT kvs)from I.hok a _ d);exact Mu PySem.W.kitx_dict I.kIn #[o,g,j.1] e (λz=>nomatch z) h
 | @ins a C M fs d k m v B r=>
  cases (show u=Value.ref a from f);obtain⟨N,O,_⟩:=pC I.hok d;obtain⟨U,J,_⟩:=O.look;exact Mu (PySem.W.kitx_own (k.get _) k.hd m v B r) I.kIn J e (λz=>nomatch z) h
end
end L2
namespace L2
open PySem PySem.Spec PyProof.Rows
structure Room(k:Nat)(A:Around):Prop where
 hd:A.handled=none
 dp:A.depth+3*k+5<recursionLimit
 un:A.units+16*k+200<cLine
theorem Room.mono(r:Room k A)(h:j<=k):Room j A:=#[r.hd,by have:=r.dp;lia,by have:=r.un;lia]
theorem Room.deeper{A:Around}(r:Room (k+1) A)(env:Env):Room k (A.deeper env):=
 #[r.hd,by have:=r.dp;show A.depth+1+3*k+5<_;lia,by have:=r.un;show A.units+3+16*k+200<_;lia]
theorem yQ{A:Around}:(A.under (.builtin "type.__call__" #[.ref C::us,kw])).depth=A.depth+1:=by
 first|rfl|simp[Around.under,Code.weight,Code.isCreation,Code.isGuard,Code.isCaller,Code.frames,Code.isFrame,guardIds]
theorem yP{A:Around}:(A.under (.builtin "type.__call__" #[.ref C::us,kw])).units=A.units+1:=by
 first|rfl|simp[Around.under,Code.cUnits,Code.frames,Code.isFrame]
theorem Room.make{A:Around}(r:Room (k+1) A)(C:Addr)(us:List Value)(a:List (Str×Value)):Room k (A.under (.builtin "type.__call__" #[.ref C::us,a])):=
 #[r.hd,by have:=r.dp;rw[yQ];lia,by have:=r.un;rw[yP];lia]
theorem Room.depth{A:Around}(r:Room k A):A.depth<recursionLimit:=by have:=r.dp;lia
theorem Room.units{A:Around}(r:Room k A):A.units+64<cLine:=by have:=r.un;lia
def Fi:TA:=λ_ H Q=>Q [] H
def Dd(d:TE)(e:TA):TA:=λa H Q=>d a H λx b=>e a b λxs c=>Q (x::xs) c
section
variable{X:Cx}{e:Expr}{es:List Expr}{te:TE}{t:TA}{pos:Pos}
theorem aq:PA X [] Fi:=λ_ _ _ _ H Q I h=>Calls.spliced_nil #[[],H,I, .nil,h]
theorem ae(i:PE X e te)(j:PA X es t)(k:starEach (e::es) X.env=(false,eval e X.env)::starEach es X.env:=by rfl):PA X (e::es) (Dd te t):=by intro pos a s b H Q I h;rw[k];show wpAny _ _ (spliced ((false,eval e X.env)::backTo pos (starEach es X.env))) _ _ s;refine Calls.spliced_cons (thn (i a s b H _ I h) λu n ⟨x,c,f,r1,l⟩=> ?_);exact thn (j pos a n b c _ f l) λus o ⟨xs,d,g,r2,m⟩=>#[x::xs,d,g, .cons r1 r2,m]
def JM(t:TA):TE:=λb H Q=>t b H λxs a=>xs.length<=sizeLine/\∀p,a p=none->Q (.ref p) (upd a p (.tup xs))
def Jb(t:TA):TE:=λb H Q=>t b H λxs a=>xs.length<=sizeLine/\∀p,a p=none->Q (.ref p) (upd a p (.lst xs))
theorem jQ{x1}(h:PA X es t):PE X (.Tuple es x1 pos) (JM t):=by intro i s j H Q I g;refine wpAny_Tuple_spliced (thn (h pos i s j H _ I g) λus a ⟨xs,c,d,r,z,q⟩=>#[by rw[<-r.length];exact z,?_]);have f:c a.heap.objs.size=none:=d.hok.fresh (Kk _);refine#[.ref a.heap.objs.size,upd c a.heap.objs.size (.tup xs),d.laid (t':=a.toks) (λb u e=>KU _ e) (Kk _) ?_,rfl,q _ f];exact#[z,us,r,#[_,Lw _ rfl,rfl,_,rfl]]
theorem cS(h:PA X es t):PE X (.List es pos) (Jb t):=by intro i s j H Q I g;refine wpAny_List_spliced (thn (h pos i s j H _ I g) λus a ⟨xs,c,d,r,z,q⟩=>#[by rw[<-r.length];exact z,?_]);have f:c a.heap.objs.size=none:=d.hok.fresh (Kk _);refine#[.ref a.heap.objs.size,upd c a.heap.objs.size (.lst xs),d.laid (t':=a.toks) (λb u e=>KU _ e) (Kk _) ?_,rfl,q _ f];exact#[z,us,0,r,Lw _ rfl]
end
abbrev Sp:=List V->Hp->VK->XK->Prop
abbrev CXT:=List Env->Hp->Shared->XK->Value->Shared->Prop
structure z7(P:Program)(w:World)(K:PySem.W.Frag)(mg:Str->Option Value)(base:Heap)(A:Around)(outer:List Env)(s:Shared)(H:Hp):Prop where
 frames:A.frames=some outer
 mod:Mod K mg base
 bs:∀b o,base.get? b=some o->s.heap.get? b=some o/\H b=none
 bsz:base.objs.size<=s.heap.objs.size
 funs:s.heap.FunFrames base outer
 frf:∀b∈frs outer,H b=none
 hok:HOk P w H s.heap
 bare:AllBare s.gens
def CE(outer:List Env)(P:Program)(w:World)(H:Hp)(s:Shared)(Q:VK)(u:Value)(a:Shared):Prop:=
 ∃v H',a.os=s.os/\AllBare a.gens/\Un (frs outer) [] H H' s.heap a.heap/\HOk P w H' a.heap/\bZ v u/\Q v H'
def CR(CX:CXT)(outer:List Env)(P:Program)(w:World)(H:Hp)(s:Shared)(Q:VK)(E:XK)(r:Result)(a:Shared):Prop:=
 match r with
 | .ok (.ret u)=>CE outer P w H s Q u a
 | .ok _=>False
 | .error e=>CX outer H s E e a
structure jw(P:Program)(w:World)(K:PySem.W.Frag)(mg:Str->Option Value)(base:Heap)(CX:CXT)(k:Nat)(f:Addr)(fd:FuncData)(ps:List Str)(sp:Sp):Prop where
 len:∀vs H Q E,sp vs H Q E->vs.length=ps.length
 run:∀ (A:Around) (outer:List Env) (s:Shared) (H:Hp) (args:Args) (us:List Value) (vs:List V) (Q:VK) (E:XK),Room k A->z7 P w K mg base A outer s H->BindsTo s fd args (ps.zip us)->Vals vs us->sp vs H Q E->
  codeAny (model P w) A (.call (.ref f) args) (CR CX outer P w H s Q E) s
theorem jw.mono{P:Program}{w:World}{K:PySem.W.Frag}{mg:Str->Option Value}{base:Heap}{CX:CXT}{j k:Nat}{f:Addr}{a:FuncData}{ps:List Str}{sp:Sp}(F:jw P w K mg base CX j f a ps sp)(h:j<=k):
  jw P w K mg base CX k f a ps sp:=#[F.len,λA outer s H args us vs Q E b=>F.run A outer s H args us vs Q E (b.mono h)]
theorem jw.imp{P:Program}{w:World}{K:PySem.W.Frag}{mg:Str->Option Value}{base:Heap}{CX:CXT}{k:Nat}{f:Addr}{a:FuncData}{ps:List Str}{sp b:Sp}(F:jw P w K mg base CX k f a ps sp)
  (h:∀vs H Q E,b vs H Q E->sp vs H Q E):jw P w K mg base CX k f a ps b:=
 #[λvs H Q E q=>F.len vs H Q E (h _ _ _ _ q),λA outer s H args us vs Q E e d c i g=>F.run A outer s H args us vs Q E e d c i (h _ _ _ _ g)]
theorem z7.make{P:Program}{w:World}{K:PySem.W.Frag}{mg:Str->Option Value}{base:Heap}{A:Around}{outer:List Env}{s:Shared}{H:Hp}(e:z7 P w K mg base A outer s H)(C:Addr)(us:List Value)(a:List (Str×Value)):
  z7 P w K mg base (A.under (.builtin "type.__call__" #[.ref C::us,a])) outer s H:=#[by first|exact e.frames|(simpa [Around.under,Code.envs,Code.isFrame,pushEnvs]using e.frames),e.mod,e.bs,e.bsz,e.funs,e.frf,e.hok,e.bare]
section
variable{X:Cx}{pins:List (Addr×Obj)}{σ:St}{H:Hp}{s s':Shared}
theorem Inv.env0(I:Inv X pins σ H s):z7 X.prog X.w X.K X.mg X.base X.A X.stack s H:=
 #[I.ok.frames,I.ok.mod,I.bs,Kd I.ok.bsz I.sz,I.stack,I.stkFree,I.hok,I.bare]
theorem Inv.after(I:Inv X pins σ H s)(h:CE X.stack X.prog X.w H s Q u s'):EP X pins σ Q u s':=by obtain⟨v,H',os,bare,un,a,r,q⟩:=h;obtain⟨hh,g,d,t,c⟩:=s';obtain rfl:c=s.os:=os;exact#[v,H',I.call (h':=hh) (g':=g) (d':=d) (t':=t) (ch:=[]) un a bare (λb z=>absurd z (by simp)),r,q]
end
def De(sp:Sp)(dvs:List V)(E:XK)(t:TA):TE:=λb H Q=>t b H λvs a=>sp (vs++dvs) a Q E
def GI(C:Addr)(sp:Sp)(dvs:List V)(E:XK)(t:TA):TE:=λd H Q=>t d H λvs b=>∀x a,b x=none->b a=none->a≠x->
 sp (.ref x::(vs++dvs)) (upd (upd b a (.own x)) x (.ins C a [])) (λv c=>v= .non/\Q (.ref x) c) E
def j7(K:PySem.W.Frag)(b:FuncData)(ps:List Str)(a:List Value):Prop:=
 ∀ (s:Shared) (us:List Value),K.In s.heap->(us++a).length=ps.length->BindsTo s b #[us,[]] (ps.zip (us++a))
theorem j7.all{K:PySem.W.Frag}{a:FuncData}{ps:List Str}(h:∀us:List Value,us.length=ps.length->bindArgs a #[us,[]]=pure (ps.zip us)):j7 K a ps []:=λs us _ hl=>by rw[LF]at hl⊢;exact .of_eq (h us hl)
def rl(CX:CXT)(X:Cx)(E:XK):Prop:=∀ (b:List (Addr×Obj)) (c:St) (H:Hp) (s:Shared) (e:Value) (a:Shared),Inv X b c H s->CX X.stack H s E e a->X.xe e a
section
variable{X:Cx}{CX:CXT}{k:Nat}{f C:Addr}{fd:FuncData}{ps:List Str}{sp:Sp}{dvs:List V}{ds:List Value}{E:XK}{x m:Str}{p pos apos:Pos}{e o:Expr}{es:List Expr}{ta:TE}{t:TA}
theorem ux{b:List (Addr×Obj)}{c:St}{H:Hp}{s:Shared}{Q:VK}{us:List Value}{vs:List V}(F:jw X.prog X.w X.K X.mg X.base CX k f fd ps sp)(j:Room k X.A)(g:j7 X.K fd ps ds)(i:Vals dvs ds)(l:rl CX X E)
  (I:Inv X b c H s) (r:Vals vs us) (h:sp (vs++dvs) H Q E):wpAny (model X.prog X.w) X.A (call (.ref f) us) (EP X b c Q) X.xe s:=by
 have r2:Vals (vs++dvs) (us++ds):=r.append i;have hl:(us++ds).length=ps.length:=by rw[<-r2.length];exact F.len _ _ _ _ h
 refine wpAny_call (OI (F.run X.A X.stack s H #[us,[]] (us++ds) (vs++dvs) Q E j I.env0 (g s us I.kIn hl) r2 h) λr n a=> ?_);cases r with
 |error e=>exact l b c H s e n I a
 |ok d=>
  cases d with
  |ret u=>exact I.after a
  |next=>exact False.elim a
  |brk=>exact False.elim a
  |cont=>exact False.elim a
theorem FR(F:jw X.prog X.w X.K X.mg X.base CX k f fd ps sp)(v:Room k X.A)(j:Gl X x)(n:X.mg x=some (.ref f))(l:keepIn X.K (.ref f)=true)(c:j7 X.K fd ps ds)(d:Vals dvs ds)(y:rl CX X E)
  (b:PA X (e::es) t) (g:(x==("__debug__":Str))=false:=by decide) (i:starEach (e::es) X.env=(false,eval e X.env)::starEach es X.env:=by rfl) (u:(backTo pos (starEach es X.env)).any (·.1)=false:=by rfl):
  PE X (.Call (.Name x p) (e::es) [] pos) (De sp dvs E t):=by
 intro z s B H Q I h;refine Nh (uW I j n ?_ g);refine NH (h₀:=X.base) I.ok.mod.kin l (thn (b pos z s B H _ I h) λus J ⟨vs,G,a,r,q⟩=>#[a.kIn,?_]) i u;exact ux F v c d y a r q
structure Mk(K:PySem.W.Frag)(C f:Addr):Prop where
 makes:makesIn K C=true
 init:findIn K (.ref C) "__init__"=some (some (.ref f))
 fn:isFn K (.ref f)=true
 kp:keepIn K (.ref C)=true
theorem Du{d:List (Addr×Obj)}{g:St}{H:Hp}{s:Shared}{Q:VK}{us:List Value}{vs:List V}(M:Mk X.K C f)(F:jw X.prog X.w X.K X.mg X.base CX k f fd ps sp)(B:Room (k+1) X.A)(y:j7 X.K fd ps ds)(z:Vals dvs ds)
  (G:rl CX X E) (I:Inv X d g H s) (r:Vals vs us)
  (h:∀x c,H x=none->H c=none->c≠x->sp (.ref x::(vs++dvs)) (upd (upd H c (.own x)) x (.ins C c [])) (λv j=>v= .non/\Q (.ref x) j) E):
  wpAny (model X.prog X.w) X.A (call (.ref C) us) (EP X d g Q) X.xe s:=by
 have i:=h (s.heap.objs.size+1) s.heap.objs.size (I.hok.fresh (Nat.le_succ _)) (I.hok.fresh (Kk _)) (Lp (LN _));have b:=Inv.made (C:=C) I;have r2:Vals (V.ref (s.heap.objs.size+1)::(vs++dvs)) (Value.ref (s.heap.objs.size+1)::(us++ds)):= .cons rfl (r.append z);have hl:(Value.ref (s.heap.objs.size+1)::us++ds).length=ps.length:=by have e:=r2.length;rw[F.len _ _ _ _ i]at e;exact e.symm
 refine wpAny_call (D5 (f:=f) I.kIn M.makes M.init (N4.mp M.fn) (OI (F.run _ X.stack _ _ #[Value.ref (s.heap.objs.size+1)::us,[]] (Value.ref (s.heap.objs.size+1)::(us++ds)) _ _ E (B.make C us [])
  (b.env0.make C us []) (y _ (Value.ref (s.heap.objs.size+1)::us) b.kIn hl) r2 i) λr N a=> ?_))
 cases r with
 |error e=>exact G d g _ _ e N b a
 |ok q=>
  cases q with
  |ret u=>
   obtain⟨v,H',l,L,n,J⟩:=b.after a;subst n;exact#[L,#[V.ref (s.heap.objs.size+1),H',l,rfl,J]]
  |next=>exact False.elim a
  |brk=>exact False.elim a
  |cont=>exact False.elim a
theorem FO(M:Mk X.K C f)(F:jw X.prog X.w X.K X.mg X.base CX k f fd ps sp)(u:Room (k+1) X.A)(j:Gl X x)(l:X.mg x=some (.ref C))(c:j7 X.K fd ps ds)(d:Vals dvs ds)(v:rl CX X E)
  (b:PA X (e::es) t) (g:(x==("__debug__":Str))=false:=by decide) (i:starEach (e::es) X.env=(false,eval e X.env)::starEach es X.env:=by rfl) (n:(backTo pos (starEach es X.env)).any (·.1)=false:=by rfl):
  PE X (.Call (.Name x p) (e::es) [] pos) (GI C sp dvs E t):=by
 intro y s z H Q I h;refine Nh (uW I j l ?_ g);refine NH (h₀:=X.base) I.ok.mod.kin M.kp (thn (b pos y s z H _ I h) λus G ⟨vs,B,a,r,q⟩=>#[a.kIn,?_]) i n;exact Du M F u c d v a r q
end
section
variable{X:Cx}{CX:CXT}{k:Nat}{f C:Addr}{fd:FuncData}{ps ks:List Str}{sp:Sp}{E:XK}{x m:Str}{p pos apos kpos:Pos}{e o:Expr}{es:List Expr}{kws:List Keyword}{te ta:TE}{t tk:TA}{nm:Option Str}
variable{g:List Value->List Value->List Value}{gV:List V->List V->List V}
end
structure aK(N P:List Str)(sc:Scope):Prop where
 kind:sc.kind= .function
 co:sc.isCoroutine=false
 gen:sc.isGenerator=false
 nd:N.Nodup
 pre:N.take P.length=P
 par:∀x∈P,sc.names.lookup x=some .local\/sc.names.lookup x=some .cell
 nofree:∀y∈sc.names,y.2≠ .free
theorem sX{kindOf:Str->Option NameKind}{x:Str}:∀ {binds:List (Str×Value)} {m:Str->Option Value},(∀v,(x,v)∉binds)->bindL kindOf binds m x=m x
 | [],_,_=>rfl
 |(n,v)::r,m,h=>by
  unfold bindL;rw[sX λw a=>h w (Ke _ a)];split
  .have:x≠n:=by rintro rfl;exact h v Kp
   simp[this]
  .rfl
theorem sZ{kindOf:Str->Option NameKind}{x:Str}:∀ {binds:List (Str×Value)} {m:Str->Option Value},(∀v,(x,v)∉binds)->bindC kindOf binds m x=m x
 | [],_,_=>rfl
 |(n,v)::r,m,h=>by
  unfold bindC;rw[sZ λw a=>h w (Ke _ a)];split
  .rfl
  .have:x≠n:=by rintro rfl;exact h v Kp
   simp[this]
theorem sY{kindOf:Str->Option NameKind}{x:Str}{v:Value}:∀ {P:List Str} {vs:List Value} {i:Nat} {m:Str->Option Value},P.Nodup->P[i]?=some x->vs[i]?=some v->kindOf x=some .local->
  bindL kindOf (P.zip vs) m x=some v
 | [],_,_,_,_,h,_,_=>by simp at h
 |_::_,[],_,_,_,_,h,_=>by simp at h
 |p::P,w::vs,0,m,d,a,b,c=>by simp at a b;subst a;subst b;show bindL kindOf ((p,w)::P.zip vs) m p=_;unfold bindL;rw[sX λv e=>(Lg.mp d).1 (OX e).1,J5 c];simp
 |p::P,w::vs,i+1,m,d,a,b,c=>by show bindL kindOf ((p,w)::P.zip vs) m x=_;unfold bindL;exact sY (i:=i) (Lg.mp d).2 (by simpa using a) (by simpa using b) c
theorem tf{kindOf:Str->Option NameKind}{x:Str}{v:Value}:∀ {P:List Str} {vs:List Value} {i:Nat} {m:Str->Option Value},P.Nodup->P[i]?=some x->vs[i]?=some v->kindOf x≠some .local->
  bindC kindOf (P.zip vs) m x=some v
 | [],_,_,_,_,h,_,_=>by simp at h
 |_::_,[],_,_,_,_,h,_=>by simp at h
 |p::P,w::vs,0,m,d,a,b,c=>by simp at a b;subst a;subst b;show bindC kindOf ((p,w)::P.zip vs) m p=_;unfold bindC;rw[sZ λv e=>(Lg.mp d).1 (OX e).1,J4 c];simp
 |p::P,w::vs,i+1,m,d,a,b,c=>by show bindC kindOf ((p,w)::P.zip vs) m x=_;unfold bindC;exact tf (i:=i) (Lg.mp d).2 (by simpa using a) (by simpa using b) c
def start(N:List Str)(vs:List V):St:=vs.map some++List.replicate (N.length-vs.length) none
def vi(CX:CXT)(P:Program)(w:World)(K:PySem.W.Frag)(mg:Str->Option Value)(base:Heap)(N:List Str)(b:Str)(scope:Scope)(f:Addr)(a:Value)(A:Around)(outer:List Env)(s:Shared)(H:Hp)(E:XK):Cx where
 prog:=P
 w:=w
 K:=K
 mg:=mg
 base:=base
 A:=A.deeper (envOfC b scope s.heap.objs.size f a)
 N:=N
 s₀:=s
 H₀:=H
 env:=envOfC b scope s.heap.objs.size f a
 outer:=outer
 stack:=envOfC b scope s.heap.objs.size f a::outer
 ex:=[]
 calm:=true
 fn:=λ_=>true
 pn:=[]
 xe:=λe g=>wpAny (model P w) (A.deeper (envOfC b scope s.heap.objs.size f a)) (leaving (envOfC b scope s.heap.objs.size f a) e) (λ_ c=>CX outer H s E e c) (λd c=>CX outer H s E d c) g
theorem xF{a:Scope}(h:a.names.lookup x=some .cell):∃c,(cellsFrom n a.names []).lookup x=some c:=by have q:=PySem.W.cellsFrom_some a.names n [] (.inl h);exact Option.isSome_iff_exists.mp q
theorem Cq{CX:CXT}{P:Program}{w:World}{K:PySem.W.Frag}{mg:Str->Option Value}{base:Heap}{N ps:List Str}{B:Str}{scope:Scope}{f:Addr}{m:Value}{A:Around}{outer:List Env}{s O:Shared}{H:Hp}{E:XK}{us:List Value}{vs:List V}
  (S:aK N ps scope) (U:A.handled=none) (g:z7 P w K mg base A outer s H) (hl:vs.length=ps.length) (r:Vals vs us)
  (x:InCallC s s.heap.objs.size (bindL (envOfC B scope s.heap.objs.size f m).kindOf (ps.zip us) λ_=>none) (cellsFrom (s.heap.objs.size+1) scope.names []) (bindC (envOfC B scope s.heap.objs.size f m).kindOf (ps.zip us) λ_=>none) O):
  Inv (vi CX P w K mg base N B scope f m A outer s H E) [] (start N vs) H O:=by
 have ag:ps.length<=N.length:=by have:=K3 List.length S.pre;rw[KL]at this;lia
 obtain⟨o,tk,rfl,J⟩:=x.done;have G:∀b:Addr,b∉ (vi CX P w K mg base N B scope f m A outer s H E).ex:=λb z=>absurd (show b∈([]:List Addr)from z) (by simp);refine#[#[g.mod,S.kind,rfl,rfl,Kk _,λy z c o d=> ?_,λy j=> ?_,λy c _ h=> ?_,λ_=>U,Around.frames_deeper g.frames, .inr #[rfl,rfl],λb z=>absurd z (G b),g.bs,g.bsz,λb _ _=>G b,λb z=>absurd z (G b),g.funs,g.frf],
  rfl,g.bare,Un.kept J,#[_,x.toInCall.ns,λi y v o d h3=> ?_],λy c h=>#[_,x.cell y c h],g.hok.fresh (Kk _),λy c h=> ?_,λp l=>absurd (show p∈([]:List (Addr×Obj))from l) (by simp),g.hok.kept J,?_]
 .exact name_of_addr x.apart (LL o) (LL d)
 .have j:scope.names.lookup y=some .cell\/scope.names.lookup y=some .free:=j;rcases j with j|j
  .exact xF j
  .exact absurd rfl (S.nofree _ (LL j))
 .exact OF (x.above y c (LL h))
 .have t:i<vs.length:=by
   unfold start at d;by_cases t:i<vs.length
   .exact t
   .rw[KN (by simpa using t)]at d;rw[OT]at d;split at d<;>cases d
  have Q:vs[i]?=some v:=by
   unfold start at d;rw[KR (by simpa using t),Kv]at d;cases e:vs[i]? with
   |none=>rw[e]at d;cases d
   |some a=>rw[e]at d;cases d;rfl
  obtain⟨u,L,rv⟩:=r.get Q;have l:ps[i]?=some y:=by rw[<-S.pre,MD ()];exact o
  have M:ps.Nodup:=by rw[<-S.pre];exact S.nd.sublist (List.take_sublist _ _)
  refine#[u,rv,?_];rcases S.par y (Km l)with k|k
  .exact .inl #[k,sY M l L k]
  .obtain⟨c,e⟩:=xF (n:=s.heap.objs.size+1) k;refine .inr #[.inl k,c,e,?_];have q:=x.cell y c e;rw[tf M l L (by show scope.names.lookup y≠_;rw[k];decide)]at q;exact q
 .exact g.hok.fresh (OF (x.above y c (LL h)))
 .unfold start;show _=N.length;rw[Kz,J2,NW];lia
theorem JA{CX:CXT}{P:Program}{w:World}{K:PySem.W.Frag}{mg:Str->Option Value}{base:Heap}{k:Nat}{f:Addr}{name a:Str}{params:Arguments}{body:List Stmt}{scope:Scope}{z kV B M cdv p oc:Value}{m od:Option Addr}
  {aS:Array (Option Value)} {N ps:List Str} {sp:Sp} (lk:K.lookup f=some #[oc,od, .func (fnOf name a params body scope z kV B M m cdv p),aS]) (ag:codeIn K cdv a=true) (S:aK N ps scope)
  (len:∀vs H Q E,sp vs H Q E->vs.length=ps.length)
  (ab:∀ (A:Around) (outer:List Env) (s:Shared) (H:Hp) (vs:List V) (Q:VK) (E:XK),Room k (A.deeper (envOfC a scope s.heap.objs.size f cdv))->sp vs H Q E->
   ∃t,PSs (vi CX P w K mg base N a scope f cdv A outer s H E) body t/\t {nx:=λ_ H'=>Q .non H',rt:=Q} (start N vs) H):
  jw P w K mg base CX (k+1) f (fnOf name a params body scope z kV B M m cdv p) ps sp:=by
 refine#[len,λA outer s H args us vs Q E h d hb r L=> ?_];have hl:=len _ _ _ _ L;have l:K.In s.heap:=d.mod.kin.keeps λb o e=>(d.bs b o e).1;have aA:s.heap.NoLimit:=d.mod.nolimit.keeps λb o e=>(d.bs b o e).1;have aj:∀y∈ps.zip us,scope.names.lookup y.1=some .local\/(scope.names.lookup y.1=some .cell/\((cellsFrom (s.heap.objs.size+1) scope.names []).lookup y.1).isSome=true):=λ⟨n,v⟩ hy=>by
  rcases S.par n (OX hy).1 with q|q
  .exact .inl q
  .exact .inr #[q,PySem.W.cellsFrom_some _ _ _ (.inl q)]
 refine codeAny_call_function h.depth (l _ _ lk) rfl S.co S.gen rfl (PySem.W.codeRec_of l ag) (hb _ _ _ _ ?_);refine wpAny_newFunctionEnv_cells S.kind aj λenv he O x=> ?_;subst he;refine#[aA.keeps x.toInCall.keep,codeAny_func ?_];obtain⟨t,ht,hq⟩:=ab A outer s H vs Q E (h.deeper _) L;have I:Inv (vi CX P w K mg base N a scope f cdv A outer s H E) [] (start N vs) H O:=Cq S h.hd d hl r x;refine N2 (ht [] O (start N vs) H _ I hq) (λU j c=> ?_) λe j c=>c;have G:∀ {g:St} {H':Hp} {v:V} {u:Value},Inv (vi CX P w K mg base N a scope f cdv A outer s H E) [] g H' j->bZ v u->Q v H'->CE outer P w H s Q u j:=
  λ{g H' v u} J i q=>#[v,H',J.os,J.bare,J.base,J.hok,i,q]
 cases U with
 |ret u=>
  obtain⟨v,g,H',J,i,q⟩:=c;exact G J i q
 |next=>
  obtain⟨g,H',J,q⟩:=c;exact G (v:=V.non) (u:=Value.none) J rfl q
 |brk=>
  obtain⟨_,_,_,q⟩:=c;exact False.elim q
 |cont=>
  obtain⟨_,_,_,q⟩:=c;exact False.elim q
end L2
namespace L2
open PySem PySem.Spec PyProof.Rows
section
variable{X:Cx}{x:Str}{p pos:Pos}{e:Expr}{es:List Expr}{t:TA}{id T:String}{r:List V->Hp->VK->Prop}
def tCB(r:List V->Hp->VK->Prop)(t:TA):TE:=λb H Q=>t b H λvs a=>r vs a Q
theorem dX(g:gJ X (.builtin id) r)(k:Gl X x)(l:X.mg x=none)(o:bootBuiltins x=some (.builtin id))(f:PA X (e::es) t)(m:x≠ "__name__":=by decide)(i:(x==("__debug__":Str))=false:=by decide)
  (j:starEach (e::es) X.env=(false,eval e X.env)::starEach es X.env:=by rfl) (n:(backTo pos (starEach es X.env)).any (·.1)=false:=by rfl):PE X (.Call (.Name x p) (e::es) [] pos) (tCB r t):=by
 intro a s b H Q I h;refine Nh (iS I k l o ?_ m i);exact PyProof.Rows.callWith_builtin1 (thn (f pos a s b H _ I h) λus u ⟨vs,c,d,r1,q⟩=>g a u b c vs us Q d r1 q) j n
theorem iY(g:gJ X (.type T) r)(k:Gl X x)(l:X.mg x=none)(o:bootBuiltins x=some (.type T))(f:PA X (e::es) t)(m:x≠ "__name__":=by decide)(i:(x==("__debug__":Str))=false:=by decide)
  (j:starEach (e::es) X.env=(false,eval e X.env)::starEach es X.env:=by rfl) (n:(backTo pos (starEach es X.env)).any (·.1)=false:=by rfl):PE X (.Call (.Name x p) (e::es) [] pos) (tCB r t):=by
 intro a s b H Q I h;refine Nh (iS I k l o ?_ m i);exact Ma (thn (f pos a s b H _ I h) λus u ⟨vs,c,d,r1,q⟩=>g a u b c vs us Q d r1 q) j n
end
end L2
namespace HT
open PySem PyProof.Rows
section
open PySem.SeqAt
open PySem.AutoSeq1 (wpAny_loadPart')
open PySem.MeetsSeq PySem.MeetsSeq2 PySem.MeetsSeq3
end
section
variable{prog:Program}{w:World}{A:Around}{E:Value->Shared->Prop}{s:Shared}
def sIx(n d:Nat):Option Int->Nat
 |none=>d
 |some v=>if v<0 then(v+(n:Int)).toNat else min v.toNat n
theorem pZ(n d:Nat):sIx n d none=d:=rfl
theorem uu(n d k:Nat):sIx n d (some (k:Int))=min k n:=by show(if(k:Int)<0 then((k:Int)+(n:Int)).toNat else min (k:Int).toNat n)=min k n;rw[J4 (),J8]
end
end HT
namespace L2
open PySem PySem.Spec PyProof.Rows
abbrev TO:=St->Hp->(Option Int->Hp->Prop)->Prop
def PO(X:Cx)(e:Option Expr)(t:TO):Prop:=
 ∀ (b:List (Addr×Obj)) (s:Shared) (a:St) (H:Hp) (Q:Option Int->Hp->Prop),Inv X b a H s->t a H Q->
  wpAny (model X.prog X.w) X.A (evalPart e X.env) (λu c=>∃o H',Inv X b a H' c/\IsPart u o/\Q o H') X.xe s
def Fh:TO:=λ_ H Q=>Q none H
def I0(t:TE):TO:=λb H Q=>t b H λx a=>∃i,x= .int i/\Q (some i) a
theorem yW{a:List Int}:∀ {us:List Value},Vals (a.map V.int) us->IntsAre us a:=by
 induction a with
 |nil=>intro us r;rw[Nq]at r;cases r;exact .nil
 |cons n a b=>
  intro us r;rw[KS]at r;cases r with
  |cons r1 r2=>
   obtain⟨t,e⟩:=r1;subst e;exact .cons n t (b r2)
section
variable{X:Cx}{e:Expr}{te:TE}{lo hi:Option Expr}{tl th:TO}{pos p2:Pos}
theorem ma:PO X none Fh:=by intro a s b H Q I h;rw[evalPart_none];exact LK #[none,H,I, .none,h]
theorem lZ(h:PE X e te):PO X (some e) (I0 te):=by intro d s g H Q I c;rw[evalPart_some];refine thn (h d s g H _ I c) λu j ⟨x,a,b,r1,f⟩=> ?_;obtain⟨i,rfl,q⟩:=f;obtain⟨t,rfl⟩:=r1;exact#[some i,a,b, .int i t,q]
def SlR(X:Cx)(r:V->Option Int->Option Int->Hp->VK->Prop):Prop:=
 ∀ (a:List (Addr×Obj)) (s:Shared) (f:St) (H:Hp) (x:V) (v c d:Value) (lo hi:Option Int) (b:Addr) (Q:VK),Inv X a f H s->bZ x v->s.heap.IsSliceOf b c d .none->IsPart c lo->IsPart d hi->r x lo hi H Q->
  ∃T id,typeLookup (.type T) "__getitem__"=pure (some (.builtin id))/\s.TypeIs v T/\wpAny (model X.prog X.w) X.A (getItem v (.ref b)) (EP X a f Q) X.xe s
def tSl(r:V->Option Int->Option Int->Hp->VK->Prop)(te:TE)(tl th:TO):TE:=λa H Q=>te a H λx b=>tl a b λl c=>th a c λu d=>r x l u d Q
theorem jR(B:SlR X r)(y:PE X e te)(hl:PO X lo tl)(J:PO X hi th):PE X (.Subscript e (.Slice lo hi none p2) pos) (tSl r te tl th):=by intro c s d H Q I h;refine Subscript_ (thn (y c s d H _ I h) λv O ⟨x,j,m,r1,L⟩=> ?_);refine wpAny_Slice (thn (hl c O d j _ m L) λf U ⟨l,k,n,pl,M⟩=>thn (J c U d k _ n M) λg a ⟨u,i,o,K,N⟩=> ?_);rw[evalPart_none];refine LK ?_;have p:Inv X c d i {a with heap:=a.heap.push {cls:= .type "slice",data:= .fields #v[f,g, .none]}}:=o.kept (t':=a.toks) λb ob q=>KU _ q;obtain⟨T,id,t,G,z⟩:=B c {a with heap:=a.heap.push {cls:= .type "slice",data:= .fields #v[f,g, .none]}} d i x v f g l u a.heap.objs.size Q p r1 (Heap.IsSliceOf.new ..) pl K N;show wpAny (model X.prog X.w) X.A (subscriptTail e (.Slice lo hi none p2) v (.ref a.heap.objs.size)) (EP X c d Q) X.xe {a with heap:=a.heap.push {cls:= .type "slice",data:= .fields #v[f,g, .none]}};exact tail_any (ops:=[.ref a.heap.objs.size,v]) G t z (by with_unfolding_all rfl)
def o3(xs:List V)(lo hi:Option Int):List V:=(xs.drop (HT.sIx xs.length 0 lo)).take (HT.sIx xs.length xs.length hi-HT.sIx xs.length 0 lo)
theorem xD(xs:List V)(lo hi:Option Int):(o3 xs lo hi).length<=xs.length:=by unfold o3;rw[KL,ME];exact Kd (Nat.min_le_right _ _) (Nat.sub_le _ _)
end
end L2
namespace L2
open PySem PySem.Spec PyProof.Rows
def ixN(n:Nat)(i:Int):Option Nat:=if 0<=i then(if i<n then some i.toNat else none)else if-(n:Int)<=i then some (i+n).toNat else none
def atI{a:Type}(xs:List a)(i:Int):Option a:=(ixN xs.length i).bind λj=>xs[j]?
theorem Ge(h:ixN n i=some j):seqIndex? i n=some j/\j<n/\ -(n:Int)<=i/\i<n:=by
 unfold ixN at h;by_cases b:0<=i
 .rw[J5 b]at h;by_cases a:i<n
  .rw[J5 a]at h;have e:i.toNat=j:=Lf h;exact#[by rw[seqIndex_of b a,e],(),(),a]
  .rw[J4 a]at h;cases h
 .rw[J4 b]at h;by_cases a: -(n:Int)<=i
  .rw[J5 a]at h;have e:(i+n).toNat=j:=Lf h;exact#[by rw[seqIndex_neg () a,e],(),a,()]
  .rw[J4 a]at h;cases h
theorem A0{xs:List α}(h:atI xs i=some v):∃j,seqIndex? i xs.length=some j/\xs[j]?=some v/\j<xs.length/\ -(xs.length:Int)<=i/\i<xs.length:=by
 unfold atI at h;cases e:ixN xs.length i with
 |none=>rw[e]at h;cases h
 |some j=>
  rw[e]at h;obtain⟨a,b,c,d⟩:=Ge e;exact#[j,a,h,b,c,d]
theorem jr{a:Type}{xs:List a}{j:Nat}{v:a}(h:xs[j]?=some v):atI xs (j:Int)=some v:=by
 have b:j<xs.length:=(Kh.mp h).1;have e:ixN xs.length (j:Int)=some j:=by unfold ixN;rw[J5 (),J5 ()];simp
 unfold atI;rw[e];exact h
def vz(b:Expr):Prop:=∀o i,subscripted b false o i=operate [o,i] (getItem o i)
def IxR(X:Cx)(r:R2):Prop:=
 ∀ (value slice:Expr) (a:List (Addr×Obj)) (s:Shared) (b:St) (H:Hp) (x y:V) (v u:Value) (Q:VK),Inv X a b H s->bZ x v->bZ y u->r x y H Q->
  subscripted slice false v u=operate [v,u] (getItem v u)->wpAny (model X.prog X.w) X.A (subscriptTail value slice v u) (EP X a b Q) X.xe s
def MtR(X:Cx)(id:String)(r:V->List V->Hp->VK->Prop):Prop:=
 ∀ (a:List (Addr×Obj)) (s:Shared) (b:St) (H:Hp) (x:V) (xs:List V) (v:Value) (us:List Value) (Q:VK),Inv X a b H s->bZ x v->Vals xs us->r x xs H Q->
  wpAny (model X.prog X.w) X.A (call (.builtin id) (v::us)) (EP X a b Q) X.xe s
section
variable{X:Cx}{a b:Expr}{ta tb:TE}{pos:Pos}
theorem AG(g:IxR X r)(e:PE X a ta)(f:PE X b tb)(i:vz b):PE X (.Subscript a b pos) (tOp r ta tb):=by intro j s n H Q I h;exact Subscript_ (IS e f I h λv u m x y c d k l q=>g a b j m n c x y v u Q d k l q (i _ _))
inductive RdX(K:PySem.W.Frag)(x y:V)(H:Hp)(Q:VK):Prop
 |mk (p:Addr) (xs:List V) (i:Int) (v:V) (e1:x= .ref p) (e2:y= .int i) (s:SqL K H p xs) (a:atI xs i=some v) (q:Q v H):RdX K x y H Q
def DC(K:PySem.W.Frag):R2:=λx y H Q=>RdX K x y H Q
def Hw(K:PySem.W.Frag):R2:=λx y H Q=>∃p xs i v,x= .ref p/\y= .int i/\SqT K H p xs/\atI xs i=some v/\Q v H
theorem Gd:IxR X (DC X.K):=by
 intro value slice l s m H x y v u Q I M N h k;obtain⟨p,xs,i,z,rfl,rfl,G,B,q⟩:=h;cases M;obtain⟨t,rfl⟩:=N;obtain⟨J,r,pl,hz⟩:=I.list G;obtain⟨j,c,n,U,o,A⟩:=A0 B;obtain⟨w,e,L⟩:=r.get n;have hl:=r.length;have hn:=uV;have f:EP X l m Q w s:=#[z,H,I,L,q];by_cases g:0<=i
 .have d:i.toNat=j:=by rw[seqIndex_of g A]at c;exact Lf c
  exact item_listR pl.isList g () (by rw[d];simpa using e) f k
 .have d:(i+(J.toArray.size:Int)).toNat=j:=by rw[seqIndex_neg () o]at c;rw[K7,<-hl];exact Lf c
  exact subscriptTail_builtinR (x:=w) pl.isList.typeIs OA.lookup
   (wpAny_getItem_list_neg (Q:=λr O=>r=w/\EP X l m Q r O) pl.isList () (by rw[K7]<;>lia) () (by rw[d];simpa using e) #[rfl,f]) k
theorem ID:IxR X (Hw X.K):=by
 intro value slice c s d H x y v u Q I A B h n;obtain⟨p,xs,i,z,rfl,rfl,m,l,q⟩:=h;cases A;obtain⟨t,rfl⟩:=B;obtain⟨U,r,pl,O⟩:=I.tuple m;obtain⟨j,g,k,J,L,M⟩:=A0 l;obtain⟨w,e,o⟩:=r.get k;have hl:=r.length;have N:=uV;have f:EP X c d Q w s:=#[z,H,I,o,q];exact subscriptTail_builtinR (x:=w) pl.typeIs slot_tuple_getitem.lookup
  (getItem_tuple (j:=j) (Q:=λr G=>r=w/\EP X c d Q r G) pl () () (by rw[K7,<-hl];exact g) (by simpa using e) #[rfl,f]) n
theorem Inv.lst{d:List (Addr×Obj)}{f:St}{H:Hp}{s:Shared}{p:Addr}{xs:List V}(I:Inv X d f H s)(h:H p=some (.lst xs)):
  ∃ (c:List Value) (n:Nat),Vals xs c/\s.heap.get? p=some {cls:= .type "list",data:= .seq c.toArray n}/\xs.length<=sizeLine:=by
 obtain⟨z,c,n,r,e⟩:=I.hok p _ h;exact#[c,n,r,e,z]
theorem uo(d c:Option Int)(n:Nat):(sliceBounds d c none n).1=((HT.sIx n 0 d:Nat):Int)/\(sliceBounds d c none n).2.1=((HT.sIx n n c:Nat):Int)/\(sliceBounds d c none n).2.2=1:=by
 refine#[?_,?_,rfl]
 .cases d with
  |none=>simp[sliceBounds,HT.sIx]
  |some i=>
   simp only[sliceBounds,HT.sIx,Option.getD_none,show(1:Int)>0 by decide,O5];by_cases h:i<0
   .simp only[h,O5]<;>lia
   .simp only[h,if_false]<;>lia
 .cases c with
  |none=>simp[sliceBounds,HT.sIx]
  |some i=>
   simp only[sliceBounds,HT.sIx,Option.getD_none,show(1:Int)>0 by decide,O5];by_cases h:i<0
   .simp only[h,O5]<;>lia
   .simp only[h,if_false]<;>lia
theorem rF(c:List Value)(d e:Option Int):slicePick c.toArray d e none=((c.drop (HT.sIx c.length 0 d)).take (HT.sIx c.length c.length e-HT.sIx c.length 0 d)).toArray:=by obtain⟨f,g,h⟩:=uo d e c.toArray.size;unfold slicePick;rw[f,g,h];simp only[sliceRange_one,pick_run,K7]<;>rfl
def Jl(K:PySem.W.Frag):V->Option Int->Option Int->Hp->VK->Prop:=λx d c H Q=>∃a xs,x= .ref a/\SqL K H a xs/\∀p,H p=none->Q (.ref p) (upd H p (.lst (o3 xs d c)))
theorem Fn:SlR X (Jl X.K):=by intro p s y H x v u w c d t Q I l g pl k h;obtain⟨a,xs,rfl,i,q⟩:=h;cases l;obtain⟨m,r,e,j⟩:=I.list i;have f:=r.length;refine#["list",_,OA.lookup,e.isList.typeIs,?_];refine wpAny_getItem_list_slice e.isList g pl k .none (by simp) ?_ (by rw[K7]<;>lia);rw[rF,<-f];refine#[.ref s.heap.objs.size,_,I.laid (t':=s.toks) (o:= .lst (o3 xs c d)) (λb n q=>KU _ q) (Kk _) ?_,rfl,q _ (I.hok.fresh (Kk _))];exact#[Kd (xD xs c d) j,_,0,(r.drop (HT.sIx xs.length 0 c)).take (HT.sIx xs.length xs.length d-HT.sIx xs.length 0 c),Lw _ rfl]
def mH:V->Bool
 | .non=>true
 | .bl _=>true
 | .int _=>true
 | .str _=>true
 |_=>false
def eqV:V->V->Bool
 | .non, .non=>true
 | .bl a, .bl b=>a==b
 | .bl a, .int b=>(if a then 1 else 0)==b
 | .int a, .bl b=>a==(if b then 1 else 0)
 | .int a, .int b=>a==b
 | .str a, .str b=>a==b
 |_,_=>false
theorem IH(e:bZ y u)(c:bZ x v)(f:mH y=true)(d:mH x=true):SeqAt.EqAt A s u v (eqV y x):=by
 cases y with
 |non=>
  cases e;cases x with
  |non=>cases c;exact SeqAt.EqAt.same _
  |bl b=>cases c;exact SeqAt.EqAt.none_bool b
  |int b=>obtain⟨t,rfl⟩:=c;exact SeqAt.EqAt.none_int b t
  |str b=>obtain⟨t,rfl⟩:=c;exact SeqAt.EqAt.none_str b t
  |_=>exact absurd (show false=true from d) Ku
 |bl a=>
  cases e;cases x with
  |non=>cases c;exact SeqAt.EqAt.bool_none a
  |bl b=>cases c;exact SeqAt.EqAt.bool_bool a b
  |int b=>obtain⟨t,rfl⟩:=c;exact SeqAt.EqAt.bool_int a b t
  |str b=>obtain⟨t,rfl⟩:=c;exact SeqAt.EqAt.bool_str a b t
  |_=>exact absurd (show false=true from d) Ku
 |int a=>
  obtain⟨t',rfl⟩:=e;cases x with
  |non=>cases c;exact SeqAt.EqAt.int_none a t'
  |bl b=>cases c;exact SeqAt.EqAt.int_bool a t' b
  |int b=>obtain⟨t,rfl⟩:=c;exact SeqAt.EqAt.int_int a t' b t
  |str b=>obtain⟨t,rfl⟩:=c;exact SeqAt.EqAt.int_str a t' b t
  |_=>exact absurd (show false=true from d) Ku
 |str a=>
  obtain⟨t',rfl⟩:=e;cases x with
  |non=>cases c;exact SeqAt.EqAt.str_none a t'
  |bl b=>cases c;exact SeqAt.EqAt.str_bool a t' b
  |int b=>obtain⟨t,rfl⟩:=c;exact SeqAt.EqAt.str_int a t' b t
  |str b=>obtain⟨t,rfl⟩:=c;exact SeqAt.EqAt.str_str a t' b t
  |_=>exact absurd (show false=true from d) Ku
 |_=>exact absurd (show false=true from f) Ku
def eqU(x:V)(u:Value):Bool:=match u with
 | .none=>eqV .non x
 | .bool b=>eqV (.bl b) x
 | .int i _=>eqV (.int i) x
 | .str z _=>eqV (.str z) x
 |_=>false
theorem EA(r:bZ y u)(f:mH y=true):eqU x u=eqV y x:=by
 cases y with
 |non=>cases r;rfl
 |bl b=>cases r;rfl
 |int i=>obtain⟨t,rfl⟩:=r;rfl
 |str z=>obtain⟨t,rfl⟩:=r;rfl
 |_=>exact absurd (show false=true from f) Ku
theorem vv:∀ {xs:List V} {us:List Value},Vals xs us->xs.all mH=true->us.any (eqU x)=xs.any λy=>eqV y x
 |_,_, .nil,_=>rfl
 |y::xs,u::us, .cons r t,f=>by rw[Oz,Kn]at f;rw[Nz,Nz,EA r f.1,vv t f.2]
theorem qv(e:bZ x v)(d:mH x=true):∀ {xs:List V} {us:List Value},Vals xs us->xs.all mH=true->∀u∈us,SeqAt.EqAt A s u v (eqU x u)
 |_,_, .nil,_=>λu c=>by cases c
 |y::xs,u::us, .cons r t,f=>λg c=>by
  rw[Oz,Kn]at f;rcases J7.mp c with rfl|c
  .rw[EA r f.1];exact IH r e f.1 d
  .exact qv e d t f.2 g c
def inV(x:V)(xs:List V):Bool:=xs.any λy=>eqV y x
def rIn(K:PySem.W.Frag)(c:Bool):R2:=λx y H Q=>∃p xs,y= .ref p/\(SqL K H p xs\/SqT K H p xs)/\mH x=true/\xs.all mH=true/\Q (.bl (if c then !inV x xs else inV x xs)) H
theorem uI:OpR X (compareOp .NotIn) (rIn X.K true):=by
 intro k s l H x y v u Q I g j h;obtain⟨p,xs,rfl,c,f,fs,q⟩:=h;cases j;rcases c with c|c
 .obtain⟨d,r,pl,i⟩:=I.list c;refine SeqAt.notIn_listAt (eqU x) pl.isList (λw e=>qv g f r fs w (by simpa using e)) #[.bl _,H,I,rfl,?_];rw[show d.toArray.any (eqU x)=d.any (eqU x) by simp,vv r fs];exact q
 .obtain⟨d,r,pl,i⟩:=I.tuple c;refine SeqAt.notIn_tupleAt (eqU x) pl (λw e=>qv g f r fs w (by simpa using e)) #[.bl _,H,I,rfl,?_];rw[show d.toArray.any (eqU x)=d.any (eqU x) by simp,vv r fs];exact q
theorem vq:gJ X (.builtin "len") (λxs H Q=>∃p c,xs=[.ref p]/\(SqL X.K H p c\/SqT X.K H p c)/\Q (.int c.length) H):=by
 intro l s m H xs us Q I r h;obtain⟨p,c,rfl,d,q⟩:=h;obtain⟨u,rfl,j⟩:=vD r;cases j;have k:=uV;rcases d with d|d
 .obtain⟨i,f,pl,g⟩:=I.list d;have e:=f.length;exact Calls.call_len_list pl.isList (by simp only[K7]<;>lia) #[.int c.length,H,I.tok _,#[s.toks+1,by rw[K7,e]],q]
 .obtain⟨i,f,pl,g⟩:=I.tuple d;have e:=f.length;exact len_tuple pl (by simp only[K7]<;>lia) #[.int c.length,H,I.tok _,#[s.toks+1,by rw[K7,e]],q]
theorem vp:gJ X (.type "list") (λxs H Q=>∃p g,xs=[.ref p]/\(SqL X.K H p g\/SqT X.K H p g)/\∀l,H l=none->Q (.ref l) (upd H l (.lst g))):=by
 intro A s G H xs us Q I r h;obtain⟨p,g,rfl,i,q⟩:=h;obtain⟨u,rfl,B⟩:=vD r;cases B;have x:∀ (c:List Value),Vals g c->g.length<=sizeLine->∀ (h':Heap) (d:Nat),(∀b y,s.heap.get? b=some y->h'.get? b=some y)->
   h'.get? s.heap.objs.size=some {cls:= .type "list",dict:=none,data:= .seq c.toArray d,slots:= #v[]}->EP X A G Q (.ref s.heap.objs.size) {s with heap:=h'}:=λc f j h' d k e=>
  #[.ref s.heap.objs.size,_,I.laid (t':=s.toks) k (Kk _) (show cU X.prog X.w _ h' _ (.lst g)from#[j,c,d,f,e]),rfl,q _ (I.hok.fresh (Kk _))]
 rcases i with i|i
 .obtain⟨c,f,pl,j⟩:=I.list i;have z:=f.length;obtain⟨o,v,m,n,t⟩:=pl.isList;exact call_list_seq p (.inl rfl) v m t (λh' d k e=>x c f j h' d k e) (by simp only[K7]<;>lia)
 .obtain⟨c,f,pl,j⟩:=I.tuple i;have z:=f.length;obtain⟨o,v,m,n,t⟩:=pl;exact call_list_seq p (.inr rfl) v m t (λh' d k e=>x c f j h' d k e) (by simp only[K7]<;>lia)
theorem rW:gJ X (.type "tuple") (λxs H Q=>∃p c,xs=[.ref p]/\((SqL X.K H p c/\∀l,H l=none->Q (.ref l) (upd H l (.tup c)))\/(SqT X.K H p c/\Q (.ref p) H))):=by
 intro k s m H xs us Q I r h;obtain⟨p,c,rfl,h⟩:=h;obtain⟨u,rfl,v⟩:=vD r;cases v;rcases h with ⟨d,q⟩|⟨d,q⟩
 .obtain⟨f,g,pl,j⟩:=I.list d;have x:=g.length;refine call_tuple_list pl.isList (λh' t=> ?_) (by simp only[K7]<;>lia);have i:Inv X k m H {s with heap:=h'}:=I.kept (t':=s.toks) t;have n:Inv X k m (upd H h'.objs.size (.tup c)) {s with heap:=h'.push {cls:= .type "tuple",data:= .seq f.toArray}}:=
   i.laid (t':=s.toks) (λb o e=>KU _ e) (Kk _) (show cU X.prog X.w _ _ _ (.tup c)from#[j,f,g,IsTup.new _ _])
  exact#[.ref h'.objs.size,_,n,rfl,q _ (i.hok.fresh (Kk _))]
 .obtain⟨f,g,pl,j⟩:=I.tuple d;exact call_tuple_same pl #[.ref p,H,I,rfl,q]
def tyV(K:PySem.W.Frag)(T:String)(x:V)(H:Hp):Prop:=match x with
 | .str _=>T= "str"
 | .int _=>T= "int"
 | .ref p=>(T= "list"/\∃xs,SqL K H p xs)\/(T= "tuple"/\∃o,K.lookup p=some o/\o.cls= .type "tuple"/\o.dict=none)\/
   (T= "dict"/\((∃kvs,H p=some (.dK kvs))\/∃kvs,H p=some (.dT kvs)))\/(T= "set"/\∃S n,H p=some (.set S n))
 |_=>False
theorem CV{m:List (Addr×Obj)}{q:St}{H:Hp}{s:Shared}{T:String}{x:V}{v:Value}(I:Inv X m q H s)(r:bZ x v)(ty:tyV X.K T x H):
  s.TypeIs v T/\∀a,v= .ref a->∃j,s.heap.get? a=some j/\j.dict=none:=by
 cases x with
 |str z=>
  obtain⟨t,rfl⟩:=r;cases (show T= "str" from ty);exact#[typeIs_str s z t,λ_ e=>nomatch e]
 |int i=>
  obtain⟨t,rfl⟩:=r;cases (show T= "int" from ty);exact#[typeIs_int s i t,λ_ e=>nomatch e]
 |ref p=>
  cases r;rcases ty with ⟨rfl,xs,l⟩|⟨rfl,o,d,k,h⟩|⟨rfl,d⟩|⟨rfl,S,n,d⟩
  .obtain⟨u,_,pl,_⟩:=I.list l;refine#[pl.isList.typeIs,λa e=> ?_];cases e;obtain⟨o,n,e,c,h,_⟩:=pl;exact#[o,e,h]
  .refine#[#[o,I.kIn p o d,k],λa e=> ?_];cases e;exact#[o,I.kIn _ o d,h]
  .have z:∃o,s.heap.get? p=some o/\o.ExactDict:=by
    rcases d with ⟨kvs,d⟩|⟨kvs,d⟩
    .obtain⟨_,_,_,_,o,_,_,e,f,_⟩:=I.hok p _ d;exact#[o,e,f]
    .obtain⟨_,_,_,_,o,_,_,e,f,_⟩:=I.hok p _ d;exact#[o,e,f]
   obtain⟨o,e,f⟩:=z;refine#[#[o,e,f.1],λa g=> ?_];cases g;exact#[o,e,f.2.1]
  .obtain⟨o,_,_,_,e,f,_⟩:=I.hok p _ d;refine#[#[o,e,f.1],λa g=> ?_];cases g;exact#[o,e,f.2.1]
 |_=>exact False.elim ty
def Jg(K:PySem.W.Frag)(T:String)(r:V->List V->Hp->VK->Prop)(d:TE):TE:=λe H Q=>d e H λx c=>tyV K T x c/\r x [] c Q
def tBM(K:PySem.W.Frag)(T:String)(r:V->List V->Hp->VK->Prop)(f:TE)(t:TA):TE:=λd H Q=>f d H λx c=>tyV K T x c/\t d c λxs e=>r x xs e Q
variable{o e:Expr}{es:List Expr}{to:TE}{t:TA}{name:Str}{apos cpos:Pos}{T id:String}{r:V->List V->Hp->VK->Prop}
theorem Ii(q:PlainAttrs T)(slot:Slot T name id)(p:typeOf (.builtin id)=pure (.type "method_descriptor"))(m:MtR X id r)(n:PE X o to)
  (k:attributeBase o name X.env (eval o X.env)=eval o X.env:=by rfl) (l:(apos.endLine==cpos.line)=true:=by rfl):PE X (.Call (.Attribute o name apos) [] [] cpos) (Jg X.K T r to):=by
 intro d s f H Q I h;refine wpAny_Call_method0_late k l (thn (n d s f H _ I h) λv w ⟨x,g,c,r1,ty,u⟩=> ?_);obtain⟨i,j⟩:=CV c r1 ty;exact#[T,id,q,slot,p,i,j,Calls.callWith_builtin rfl (PySem.evalArgs_none (m d w f g x [] v [] Q c r1 .nil u))]
theorem Jq(G:PlainAttrs T)(slot:Slot T name id)(B:typeOf (.builtin id)=pure (.type "method_descriptor"))(w:MtR X id r)(y:PE X o to)(n:PA X (e::es) t)
  (p:attributeBase o name X.env (eval o X.env)=eval o X.env:=by rfl)
  (q:((backTo cpos (starEach (e::es) X.env)).all (λx=> !x.1)&&(backToKw cpos (keywordEach [] X.env)).all (λx=>x.1.isSome)
   &&decide ((e::es).length+([]:List Keyword).length+(if([]:List Keyword).isEmpty then 0 else 1)<30))=true:=by rfl)
  (u:(apos.endLine==cpos.line)=true:=by rfl) (A:starEach (e::es) X.env=(false,eval e X.env)::starEach es X.env:=by rfl) (z:(backTo cpos (starEach es X.env)).any (·.1)=false:=by rfl):
  PE X (.Call (.Attribute o name apos) (e::es) [] cpos) (tBM X.K T r to t):=by
 intro c s d H Q I h;refine wpAny_Call_method_late p q u rfl (thn (y c s d H _ I h) λv M ⟨x,i,f,r1,ty,J⟩=> ?_);obtain⟨l,m⟩:=CV f r1 ty;refine#[T,id,G,slot,B,l,m,?_];have g:=n cpos c M d i _ f J;rw[A]at g⊢;refine Calls.callWith_builtin (by show(false||(backTo cpos (starEach es X.env)).any (·.1))=false;rw[z]<;>rfl) (Calls.evalArgs_plain ?_);exact thn g λus N ⟨vs,j,k,r2,L⟩=>w c N d j x vs v us Q k r1 r2 L
end
end L2
namespace L2
open PySem PySem.Spec PyProof.Rows
def MtM(X:Cx)(id:String)(r:V->List V->Hp->VK->Prop):Prop:=
 ∀ (a:List (Addr×Obj)) (s:Shared) (b:St) (H:Hp) (x:V) (xs:List V) (v:Value) (us:List Value) (Q:VK),Inv X a b H s->bZ x v->Vals xs us->r x xs H Q->
  wpAny (model X.prog X.w) X.A (call (.builtin id) (v::us)) (EP X a b Q) X.xe s
theorem Vals.one(h:Vals [x] us):∃u,us=[u]/\bZ x u:=by
 cases h with
 |cons r q=>cases q;exact#[_,rfl,r]
theorem Vals.two(h:Vals [x,y] us):∃u v,us=[u,v]/\bZ x u/\bZ y v:=by
 cases h with
 |cons r q=>obtain⟨v,rfl,a⟩:=Vals.one q;exact#[_,_,rfl,r,a]
theorem Vals.zero:∀ {us:List Value},Vals [] us->us=[]
 |_, .nil=>rfl
theorem Vals.eraseIdx:∀ {xs:List V} {us:List Value} (i:Nat),Vals xs us->Vals (xs.eraseIdx i) (us.eraseIdx i)
 |_,_,_, .nil=> .nil
 |_,_,0, .cons _ t=>t
 |_,_,i+1, .cons r t=> .cons r (Vals.eraseIdx i t)
theorem Vals.reverse{xs:List V}{us:List Value}(h:Vals xs us):Vals xs.reverse us.reverse:=by
 induction h with
 |nil=>exact .nil
 |cons r t a=>rw[List.reverse_cons,List.reverse_cons];exact Vals.append a (.cons r .nil)
section
variable{X:Cx}{pins:List (Addr×Obj)}{σ:St}{H:Hp}{s:Shared}{l b:Addr}{xs ys zs:List V}
theorem Inv.lset{a its':List Value}(I:Inv X pins σ H s)(c:H l=some (.lst xs))
  (e:s.heap.get? l=some {cls:= .type "list",data:= .seq a.toArray n}) (g:f a.toArray=its'.toArray) (i:Vals ys its') (j:ys.length<=sizeLine):
  Inv X pins σ (upd H l (.lst ys)) {s with heap:=s.heap.update l (Obj.mapSeq f),toks:=t'}:=by
 have q:=PySem.IsL.update e f;rw[g]at q;refine I.write (x:=l) (e:=l) (by rw[c];exact trivial) (.inl rfl) (λk u d h=>(Heap.get?_update_other s.heap (Obj.mapSeq f) (Mo d)).trans h) #[_,q] ?_;exact#[j,its',_,i,q]
theorem Inv.lnew{a:List Value}(I:Inv X pins σ H s)(c:Vals ys a)(d:ys.length<=sizeLine):
  Inv X pins σ (upd H s.heap.objs.size (.lst ys)) {s with heap:=s.heap.push {cls:= .type "list",data:= .seq a.toArray},toks:=t'}:=
 I.laid (λ_ _ q=>KU _ q) (Kk _) #[d,a,0,c,Lw _ rfl]
theorem Inv.fresh(I:Inv X pins σ H s):H s.heap.objs.size=none:=I.hok.fresh (Kk _)
theorem Inv.lstM(I:Inv X pins σ H s)(c:H l=some (.lst xs)):xs.length<=sizeLine/\∃ (a:List Value) (n:Nat),Vals xs a/\xs.length=a.length/\s.heap.get? l=some {cls:= .type "list",data:= .seq a.toArray n}:=by obtain⟨z,a,n,r,e⟩:=I.hok l _ c;exact#[z,a,n,r,r.length,e]
theorem DV(h:n<=sizeLine):Builtin.List.listTooLong n=false:=by unfold Builtin.List.listTooLong;exact J6 ()
end
section
variable{X:Cx}
inductive RdA(x:V)(vs:List V)(H:Hp)(Q:VK):Prop
 |mk (l:Addr) (xs:List V) (y:V) (e1:x= .ref l) (e2:vs=[y]) (h:H l=some (.lst xs)) (n:xs.length<sizeLine) (q:Q .non (upd H l (.lst (xs++[y])))):RdA x vs H Q
def FD:V->List V->Hp->VK->Prop:=λx vs H Q=>RdA x vs H Q
theorem cF:MtM X "list.append" FD:=by intro i s j H x vs v us Q I f d h;obtain⟨l,xs,y,rfl,rfl,a,g,q⟩:=h;cases f;obtain⟨u,rfl,c⟩:=d.one;obtain⟨z,b,n,r,hl,e⟩:=I.lstM a;refine call_meets F.slot_list_append #[_,e,rfl] F.entry_list_append (F.args_list_append_2 _ _) (PySem.list_append l b.toArray n u (by rw[K7];lia)) #[e,?_];refine#[.non,_,I.lset (its':=b++[u]) a e (by simp) (r.append (.cons c .nil)) ?_,rfl,q];rw[Kz,List.length_singleton];lia
def FC:V->List V->Hp->VK->Prop:=λx vs H Q=>∃l b xs a,x= .ref l/\vs=[.ref b]/\H l=some (.lst xs)/\H b=some (.lst a)/\xs.length+a.length<=sizeLine/\Q .non (upd H l (.lst (xs++a)))
theorem B9:MtM X "list.extend" FC:=by
 intro w s B H x vs v us Q I o m h;obtain⟨l,b,xs,A,rfl,rfl,d,g,t,q⟩:=h;cases o;obtain⟨u,rfl,k⟩:=m.one;cases k;obtain⟨z,a,n,r,hl,e⟩:=I.lstM d;obtain⟨y,c,j,r2,p,f⟩:=I.lstM g;have hsz:a.toArray.size+c.toArray.size<=sizeLine:=by rw[K7,K7];lia
 have i:¬(!a.toArray.isEmpty&&Builtin.List.listTooLong (a.toArray.size+c.toArray.size))=true:=by rw[DV hsz,Ld];exact Ku
 refine call_meets F.slot_list_extend #[_,e,rfl] F.entry_list_extend (F.args_list_extend_2 _ _)
  (AutoSeq1.list_extend_list_list_0 l a.toArray n b c.toArray j i (by rw[K7];lia) ()) #[e,f,?_]
 refine#[.non,_,I.lset (its':=a++c) d e (by simp) (r.append r2) ?_,rfl,q];rw[Kz];lia
def JS:R2:=λx y H Q=>∃l b xs a,x= .ref l/\y= .ref b/\H l=some (.lst xs)/\H b=some (.lst a)/\xs.length+a.length<=sizeLine/\∀p,H p=none->Q (.ref p) (upd H p (.lst (xs++a)))
theorem nU:OpR X (binaryOp .Add) JS:=by
 intro t s B H x y v u Q I j k h;obtain⟨l,b,xs,A,rfl,rfl,i,g,o,q⟩:=h;cases j;cases k;obtain⟨z,a,n,r,hl,e⟩:=I.lstM i;obtain⟨w,c,p,r2,m,d⟩:=I.lstM g;refine PySem.P.add_list e d ?_ (by rw[K7,K7];lia);have f:a.toArray++c.toArray=(a++c).toArray:=by simp
 rw[f];exact#[.ref _,_,I.lnew (t':=s.toks) (r.append r2) (by rw[Kz];lia),rfl,q _ I.fresh]
end
section
variable{prog:Program}{w:World}{A:Around}{E:Value->Shared->Prop}{s:Shared}
end
section
variable{X:Cx}
end
end L2
namespace Att
open PySem PySem.W PySem.Calls PyProof.Rows
theorem oY:∀ (c:List Int) (vs:List Value),WellAll P h vs (c.map WData.int)->IntsAre vs c:=by
 intro c
 induction c with
 |nil=>
  intro vs w;rw[Nq]at w;cases w;exact .nil
 |cons n c d=>
  intro vs w;rw[KS]at w;cases w with
  |cons a b=>
   cases a;exact .cons _ _ (d _ b)
theorem Bx{l:OpenLaw}(p:l.most=some n){h:Heap}
  (g:l.row.toRowW.claim.pre args=true) (u:WellAll P h vals args):
  ∃a vs b,vals=[Value.ref a]/\args=[WData.list (b.map WData.int)]/\h.get? a=some {cls:= .type "list",data:= .seq vs.toArray}/\IntsAre vs b/\b.length<=n:=by
 have t:WShape.hasAll [] args [.list .int]=true:=(pre_splitW g).1;have f:l.pre.holds [] {args:=args}=true:=(pre_splitW g).2;obtain⟨d,r,rfl,i,j⟩:=hasAllW_cons t;obtain rfl:=hasAllW_nil j;obtain⟨xs,rfl,k⟩:=hasW_list i;obtain⟨b,rfl⟩:=items_int k;have o:b.length<=n:=by
  unfold OpenLaw.pre at f;have c:(WTm.not (.lt (.lit (.int (n:Int))) (.len (.arg 0)))).holds [] {args:=[.list (b.map .int)]}=true:=by have c:=(holds_andW f).1;rw[p]at c;exact c
  have e:=condW_of c (w_not (w_lt w_lit (w_len_list (w_arg rfl))));rw[J2]at e;refine LP λq=> ?_;have v:(n:Int)<((b.length:Nat):Int):=()
  first
   |(rw[J3 v]at e;exact absurd e ∅)
   |(simp at e;lia)
 cases u with
 |cons w x=>
  cases x;cases w with
  |list s m=>exact#[_,_,b,rfl,rfl,s,oY b _ m,o]
theorem BN(l:OpenLaw)(args:List WData):l.row.toRowW.claim.post args (.bool true) args=true:=
 postW_of (r:=l.row.toRowW) (X:=(true==true))
  (show WShape.has [] (.bool true) .bool=true by first|rfl|decide|simp[WShape.has,WShape.arms,WShape.armsAll])
  (show(WTm.eq .res (.lit (.bool true))).value [] {args:=args,res:=some (.bool true),after:=args}=some (.bool (true==true))from w_eq_bool (w_res rfl) w_lit) rfl
theorem xM{l:OpenLaw}{d:DefRec}
  (K:l.most=some n) (z:d.params.defaults=[])
  (call:∀ (w:World) (m b:Shared) (mg j:Str->Option Value) (c:Addr) (o:Obj) (k e i:Value) (a:Addr) (vs:List Value) (g:List Int),
   Ground q loose [] XP w m mg j b.heap->YP w b.heap->
   b.heap.get? c=some o->o.data= .func (docDef d.name d.params d.body d.scope k e i)->b.heap.CodeRec e d.name->mg d.name=some (.ref c)->
   b.heap.get? a=some {cls:= .type "list",data:= .seq vs.toArray}->IntsAre vs g->g.length<=n->b.gens= #v[]->
   codeAny (model l.prog w) callerA (.call (.ref c) #[[.ref a],[]]) (λr h=>r= .ok (.ret (.bool true))/\OldK b.heap h.heap/\h.os=b.os/\AllBare h.gens) b):
  WalkO q loose XP YP l.row.toRowW d [] (λf vs=>PySem.call f vs):=by
 intro w m b mg j G Y c o k e i s kV L y x p J A args vals U N aa ag Q ab;obtain rfl:s= .none:=Dflts.none p z;obtain rfl:kV= .none:=Dflts.noKw p;obtain⟨a,vs,g,rfl,rfl,M,hints,B⟩:=Bx K N Q;refine enter_call (OI (call w m b mg j c o k e i a vs g G Y L (fd_plain y) x J M hints B A) λr h O=> ?_);obtain⟨rfl,t,u,v⟩:=O;exact#[.inl #[.bool true, .bool true,[],rfl,λ_=>rfl, .bool true,BN l _,λ_=>#[List.Pairwise.nil,λ_ H=>(nomatch H)]],t,u,v]
section
variable{prog:Program}{w:World}{A:Around}{E:Value->Shared->Prop}{s:Shared}{K:Frag}
end
end Att
namespace L2
open PySem PySem.Spec PyProof.Rows
theorem r6:∀ {vs:List Value} {a:List Int},IntsAre vs a->Vals (a.map V.int) vs
 |_,_, .nil=> .nil
 |_,_, .cons n t h=> .cons #[t,rfl] (r6 h)
def Only(H:Hp):Prop:=∀b,H b=none\/∃o xs,H b=some (.frz o (.lst xs))
theorem Ef{K:PySem.W.Frag}{c:Shared}{vs:List Value}{j:List Int}
  (B:K.In c.heap) (Q:c.heap.Ns mainGlobals mg) (f:c.heap.Ns builtinsNs mb) (aE:∀x:Str,x≠ "__name__"->mb x=bootBuiltins x) (a3:c.heap.NoLimit) (hg:c.gens= #v[])
  (p:c.heap.get? a=some {cls:= .type "list",data:= .seq vs.toArray}) (O:IntsAre vs j) (hl:j.length<=sizeLine) (hr:Room k callerA)
  (F:∀base:Heap,K.In base->base.Ns mainGlobals mg->jw P w K mg base CX k fa fd [x] sp) (aS:∀ (s:Shared) (u:Value),BindsTo s fd #[[u],[]] [(x,u)])
  (bb:∀H:Hp,Only H->SqL K H a (j.map V.int)->sp [.ref a] H (λv _=>v= .bl true) λ_ _ _=>False)
  (ay:∀H e g,CX [] H c (λ_ _ _=>False) e g->False):
  codeAny (model P w) callerA (.call (.ref fa) #[[.ref a],[]]) (λr g=>r= .ok (.ret (.bool true))/\OldK c.heap g.heap/\g.os=c.os/\AllBare g.gens) c:=by
 have rv:=r6 O;have bc:=O.length;have core:∀H:Hp,Only H->SqL K H a (j.map V.int)->HOk P w H c.heap->(∀b,H b≠none->b=a)->(H a≠none->K.lookup a=none)->
   codeAny (model P w) callerA (.call (.ref fa) #[[.ref a],[]]) (λr g=>r= .ok (.ret (.bool true))/\OldK c.heap g.heap/\g.os=c.os/\AllBare g.gens) c:=by
  intro H N hS U L hK;have G:∀ {b:Addr} {o:Obj},c.heap.get? b=some o->H b=none->(uX c.heap H).get? b=some o:=λe n=>Er e n;have bk:∀ {b:Addr} {o:Obj} {i:Array DictEntry} {ep:Nat},c.heap.get? b=some o->o.data= .dict i ep->H b=none:=λ{b o i ep} e d=>by
   cases q:H b with
   |none=>rfl
   |some u=>
    have y:b=a:=L b (by rw[q];simp);subst y;rw[p]at e;cases e;have d':Data.seq vs.toArray _=Data.dict i ep:=d;cases d'
  have t:∀ {b:Addr} {m:Str->Option Value},c.heap.Ns b m->(uX c.heap H).Ns b m:=λ{b m} ⟨o,i,ep,e,d,r⟩=>#[o,i,ep,G e (bk e d),d,r];have M:K.In (uX c.heap H):=λb o e=>G (B b o e) (by
   cases q:H b with
   |none=>rfl
   |some u=>
    have y:b=a:=L b (by rw[q];simp);subst y;rw[hK (by rw[q];simp)]at e;cases e)
  have hM:Mod K mg (uX c.heap H):=#[M,t Q,#[mb,t f,aE],let⟨mc,h1,h2⟩:=a3;#[mc,t h1,h2]];have e0:z7 P w K mg (uX c.heap H) callerA [] c H:=#[rfl,hM,λb o e=>F2 e,Nat.le_of_eq (Cr _ _),trivial,λb f=>absurd (show b∈([]:List Addr)from f) (by simp),U, .of_eq hg];refine OI ((F _ M (t Q)).run callerA [] c H #[[.ref a],[]] [.ref a] [.ref a] _ _ hr e0 (aS c (.ref a)) (.cons rfl .nil) (bb H N hS)) λr g h=> ?_;cases r with
  |error e=>exact(ay H e g h).elim
  |ok fl=>
   cases fl with
   |next=>exact False.elim h
   |brk=>exact False.elim h
   |cont=>exact False.elim h
   |ret u=>
    obtain⟨v,H',os,bare,un,a4,r',q⟩:=h;have q':v= .bl true:=q;subst q';obtain rfl:u=Value.bool true:=r';refine#[rfl,OldK.of_keep λb o e=> ?_,os,bare];cases q:H b with
    |none=>exact un.keep b o e q (by intro z;exact absurd (show b∈([]:List Addr)from z) (by simp)) (by simp)
    |some u=>
     rcases N b with z|⟨ob,xs,z⟩
     .rw[q]at z;cases z
     .have z2:=un.frzs b ob _ z;obtain⟨J,_⟩:=U b _ z;obtain⟨e2,_⟩:=a4 b _ z2;rw[e]at J;cases J;exact e2
 cases A:K.lookup a with
 |some o=>
  have e:=B a o A;rw[p]at e;cases e;refine core (λ_=>none) (λ_=> .inl rfl) (.inr #[_,vs.toArray,_,A,rfl,rfl,rfl,by rw[K7,bc];exact hl,by simpa using rv]) (λb u z=>by have l:(none:Option HO)=some u:=z;cases l) (λb z=>absurd rfl z) λz=>absurd rfl z
 |none=>
  refine core (λb=>if b=a then some (.frz {cls:= .type "list",data:= .seq vs.toArray} (.lst (j.map V.int)))else none) (λb=> ?_) (.inl (.inr #[{cls:= .type "list",data:= .seq vs.toArray},J5 rfl])) (λb u z=> ?_) (λb z=> ?_) λ_=>A
  .by_cases f:b=a
   .exact .inr #[_,_,J5 f]
   .exact .inl (J4 f)
  .by_cases f:b=a
   .have l:=(J5 f).symm.trans z;cases l;subst f;exact#[p,by rw[J2];exact hl,vs,_,rv,p]
   .have l:=(J4 f).symm.trans z;cases l
  .by_cases f:b=a
   .exact f
   .exact absurd (J4 f) z
end L2
namespace L2
open PySem PySem.Spec PyProof.Rows
abbrev KOf{K:PySem.W.Frag}{h:Heap}(_:K.In h):PySem.W.Frag:=K
theorem Ac{l:PySem.W.OpenLaw}{n k:Nat}{q:Program}{loose:List Str}{XP:(Str->Option Value)->Heap->Prop}{YP:World->Heap->Prop}{d:DefRec}{K:Params->PySem.W.Frag}{CX:World->CXT}{sp:World->Sp}{x:Str}
  (O:l.most=some n) (Q:n<=sizeLine) (L:d.params.defaults=[]) (hr:Room k callerA)
  (B:∀ (w:World) (h:Heap),YP w h->(K w.params).In h)
  (F:∀ (w:World) (mg:Str->Option Value) (c:Addr) (h:Heap),(K w.params).In h->h.Ns mainGlobals mg->mg d.name=some (.ref c)->
   ∃j:FuncData,(∀ (s:Shared) (u:Value),BindsTo s j #[[u],[]] [(x,u)])/\
    ∀base:Heap,(K w.params).In base->base.Ns mainGlobals mg->jw l.prog w (K w.params) mg base (CX w) k c j [x] (sp w))
  (ab:∀ (w:World) (H:Hp) (a:Addr) (i:List Int),i.length<=n->Only H->SqL (K w.params) H a (i.map V.int)->sp w [.ref a] H (λv _=>v= .bl true) λ_ _ _=>False)
  (t:∀ (w:World) (H:Hp) (s:Shared) (e:Value) (m:Shared),CX w [] H s (λ_ _ _=>False) e m->False):
  PySem.W.WalkO q loose XP YP l.row.toRowW d [] (λf vs=>PySem.call f vs):=by
 refine Att.xM O L λw aC ag mg mb c o pm cd aj a vs i G Y ho hd ak N U hints r M=> ?_;have p:=B w _ Y;obtain⟨j,J,y⟩:=F w mg c _ p G.T.g N;exact Ef p G.T.g G.T.b G.T.builtins G.T.nolimit M U hints (Kd r Q) hr y J (λH z A=>ab w H a i r z A) λH e m=>t w H ag e m
end L2
namespace L2
open PySem PySem.Spec PyProof.Rows
def fS(s:Stmt)(j:Nat):Stmt:=match s with
 | .ClassDef _ _ _ body _ _ _ _ _ _ _=>body.getD j (.Pass #[0,0,0,0])
 |_=> .Pass #[0,0,0,0]
def dH(s:Stmt):Arguments:=match s with
 | .FunctionDef _ a _ _ _ _ _ _ _ _=>a
 |_=>{posonlyargs:=[],args:=[],vararg:=none,kwonlyargs:=[],kw_defaults:=[],kwarg:=none,defaults:=[]}
def bu(s:Stmt):List Stmt:=match s with
 | .FunctionDef _ _ b _ _ _ _ _ _ _=>b
 |_=>[]
def aw(s:Stmt):Scope:=match s with
 | .FunctionDef _ _ _ _ _ _ a _ _ _=>a
 |_=>{kind:= .function,names:=[],isGenerator:=false,isCoroutine:=false}
abbrev CX0:CXT:=λ_ _ _ _ _ _=>False
abbrev E0:XK:=λ_ _ _=>False
theorem wR:rl CX0 X E0:=λ_ _ _ _ _ _ _ h=>h.elim
structure Fun(K:PySem.W.Frag)(x qual:Str)(st:Stmt)(f:Addr)(fd:FuncData):Prop where
 ex:∃ (oc:Value) (od:Option Addr) (kV doc pm:Value) (an:Option Addr) (cdv ct:Value) (osl:Array (Option Value)),
  fd=fnOf x qual (dH st) (bu st) (aw st) .none kV doc pm an cdv ct/\K.lookup f=some #[oc,od, .func fd,osl]/\codeIn K cdv qual=true
 kp:keepIn K (.ref f)=true
section
variable{P:Program}{w:World}{K:PySem.W.Frag}{mg:Str->Option Value}{base:Heap}
theorem Fun.ok{x a:Str}{st:Stmt}{f:Addr}{b:FuncData}{N ps:List Str}{k:Nat}{sp:Sp}(F:Fun K x a st f b)(S:aK N ps (aw st))(len:∀vs H Q E,sp vs H Q E->vs.length=ps.length)
  (c:∀ (cdv:Value) (A:Around) (outer:List Env) (s:Shared) (H:Hp) (vs:List V) (Q:VK) (E:XK),Room k (A.deeper (envOfC a (aw st) s.heap.objs.size f cdv))->sp vs H Q E->
   ∃t,PSs (vi CX0 P w K mg base N a (aw st) f cdv A outer s H E).nox (bu st) t/\t {nx:=λ_ H'=>Q .non H',rt:=Q} (start N vs) H):jw P w K mg base CX0 (k+1) f b ps sp:=by
 obtain⟨n,o,kV,m,r,j,cdv,l,p,rfl,i,d⟩:=F.ex;refine JA i d S len λA outer s H vs Q E e g=> ?_;obtain⟨t,h,q⟩:=c cdv A outer s H vs Q E e g;exact#[t,h.nox,q]
theorem Fun.binds{x g:Str}{st:Stmt}{f:Addr}{e:FuncData}{ps:List Str}(F:Fun K x g st f e)
  (h:∀ (kV c d:Value) (a:Option Addr) (cdv b:Value) (us:List Value),us.length=ps.length->bindArgs (fnOf x g (dH st) (bu st) (aw st) .none kV c d a cdv b) #[us,[]]=pure (ps.zip us)):j7 K e ps []:=by
 obtain⟨k,l,kV,c,d,a,cdv,b,m,rfl,j,i⟩:=F.ex;exact .all (h kV c d a cdv b)
theorem qH{x a:Str}{st:Stmt}{f:Addr}{h:Value}{i b:Option Addr}{j:Array (Option Value)}{kV e g cdv d:Value}(l:K.lookup f=some #[h,i, .func (fnOf x a (dH st) (bu st) (aw st) .none kV e g b cdv d),j])
  (c:codeIn K cdv a=true) (k:keepIn K (.ref f)=true):Fun K x a st f (fnOf x a (dH st) (bu st) (aw st) .none kV e g b cdv d):=#[#[h,i,kV,e,g,b,cdv,d,j,rfl,l,c],k]
end
section
variable{X:Cx}
theorem pv(i:Nat){x:Str}{pos:Pos}(a:X.N[i]?=some x:=by rfl)(d:Vis X.env.scope x:=by first|exact N5 rfl|exact Or.inr (N5 rfl)|exact Or.inr (Or.inr rfl))(c:(x==("__debug__":Str))=false:=by decide)
  (b:(x==("__classdict__":Str))=false:=by decide):PE X (.Name x pos) (Hk i):=HU a d c b
end
theorem eZ{A B:Prop}(h:B):if false=true then A else B:=by rw[J4 Ku];exact h
theorem nX{A B:Prop}(h:A):if true=true then A else B:=by rw[J5 rfl];exact h
theorem cG{c A B:Prop}[Decidable c](a:c->A)(b:¬c->B):if c then A else B:=by
 by_cases h:c
 .rw[J5 h];exact a h
 .rw[J4 h];exact b h
theorem sI{c A B:Prop}[Decidable c](a:c)(h:B):if(!decide c)=true then A else B:=by rw[J3 a];exact eZ h
def Same(H H':Hp):Prop:=∀b o,H b=some o->H' b=some o
theorem Same.refl(H:Hp):Same H H:=λ_ _ h=>h
theorem Same.trans(a:Same H H1)(b:Same H1 H2):Same H H2:=λc o h=>b c o (a c o h)
theorem Same.free(e:Same H H')(h:H' l=Option.none):H l=Option.none:=by
 cases q:H l with
 |none=>rfl
 |some o=>
  rw[e l o q]at h;cases h
theorem Same.seq{K:PySem.W.Frag}{H H':Hp}{a:Addr}{xs:List V}(e:Same H H')(h:SqL K H a xs):SqL K H' a xs:=by
 rcases h with (h|⟨o,h⟩)|h
 .exact .inl (.inl (e _ _ h))
 .exact .inl (.inr #[o,e _ _ h])
 .exact .inr h
end L2
namespace L2
open PySem PySem.Spec PyProof.Rows
theorem nY{a β:Type}{f:a->β->Sem (ForInStep β)}(g:β->a->β):∀ (l:List a) (c:β),(∀x∈l,∀c,f x c=pure (.yield (g c x)))->forIn l c f=pure (l.foldl g c):=by
 intro l
 induction l with
 |nil=>intro c _;rfl
 |cons x l d=>
  intro c h;rw[List.forIn_cons,h x Kp,pure_bind];exact d _ λy b=>h y (Ke _ b)
def gS(env:Env)(cs:List (Str×Addr))(y:Str×NameKind):List (Str×Addr):=if(y.2==NameKind.free)=true then(y.1,(env.cells.lookup y.1).getD 0)::cs else cs
def jm(env:Env)(a:List (Str×NameKind)):List (Str×Addr):=a.foldl (gS env) []
theorem kR{env:Env}{b:Scope}(h:∀y∈b.names,y.2= .free->∃c,env.cells.lookup y.1=some c):closureFor b env=pure (jm env b.names):=by
 simp only[closureFor];rw[nY (gS env) b.names [] (λx i c=>by
  obtain⟨n,kind⟩:=x;by_cases f:kind= .free
  .subst f;obtain⟨a,g⟩:=h _ i rfl;have d:env.cells.lookup n=some a:=g;have e:cellOf env n=pure a:=by simp only[cellOf,d]
   simp only[gS,e,d,beq_self_eq_true,O5,pure_bind,Option.getD_some]
  .have:(kind==NameKind.free)=false:=by simpa using f
   simp only[gS,this,Ol,if_false])]
 rfl
theorem CH(env:Env):∀ (f:List (Str×NameKind)) (b:List (Str×Addr)),(∀y∈f,y.2= .free->∃c,env.cells.lookup y.1=some c)->(∀x c,b.lookup x=some c->env.cells.lookup x=some c)->
  ∀x c,(f.foldl (gS env) b).lookup x=some c->env.cells.lookup x=some c:=by
 intro f
 induction f with
 |nil=>intro b _ d x c e;exact d x c e
 |cons y r m=>
  intro b h d;refine m _ (λz l=>h z (Ke _ l)) λx c e=> ?_;unfold gS at e;split at e
  .rename_i j;obtain⟨a,i⟩:=h y Kp (by simpa using j);rw[MK]at e;cases g:x==y.1 with
   |true=>
    rw[g]at e;have k:x=y.1:=by simpa using g
    rw[i]at e;rw[k,i];exact e
   |false=>rw[g]at e;exact d x c e
  .exact d x c e
theorem CI(env:Env):∀ (b:List (Str×NameKind)) (a:List (Str×Addr)) (x:Str),((∃y∈b,y.1=x/\y.2= .free)\/∃c,a.lookup x=some c)->∃c,(b.foldl (gS env) a).lookup x=some c:=by
 intro b
 induction b with
 |nil=>
  intro a x h;rcases h with ⟨y,i,_⟩|h
  .cases i
  .exact h
 |cons y r k=>
  intro a x h;refine k _ x ?_;have l:∀c,a.lookup x=some c->∃c,(gS env a y).lookup x=some c:=λc e=>by
   unfold gS;split
   .rw[MK];cases m:x==y.1 with
    |true=>exact#[_,rfl]
    |false=>exact#[c,e]
   .exact#[c,e]
  rcases h with ⟨z,j,f,d⟩|⟨c,e⟩
  .rcases J7.mp j with e|g
   .subst e;refine .inr ?_;unfold gS;rw[d,J5 ⋯,MK,f];simp
   .exact .inl #[z,g,f,d]
  .exact .inr (l c e)
theorem IQ{env:Env}(h:∀y∈a,y.2= .free->∃c,env.cells.lookup y.1=some c)(e:(jm env a).lookup x=some c):env.cells.lookup x=some c:=
 CH env a [] h (λ_ _ z=>by simp at z) x c e
theorem EM(h:∃y∈a,y.1=x/\y.2= .free):∃c,(jm env a).lookup x=some c:=CI env a [] x (.inl h)
def inner(a:Nat)(fr:List Nat)(b:St):St:=List.replicate a none++fr.map λj=>(b[j]?).join
def o4(X:Cx)(a:Scope):List Nat->List Str->Prop
 | [],[]=>True
 |j::b,x::xs=>(X.N[j]?=some x/\(X.env.kindOf x=some .cell\/X.env.kindOf x=some .free)/\((relabel a X.env).names.lookup x=some .cell\/(relabel a X.env).names.lookup x=some .free))/\o4 X a b xs
 |_,_=>False
theorem o4.get{X:Cx}:∀ {fr:List Nat} {a:List Str} {k j:Nat},o4 X sc fr a->fr[k]?=some j->
  ∃x,a[k]?=some x/\X.N[j]?=some x/\(X.env.kindOf x=some .cell\/X.env.kindOf x=some .free)/\((relabel sc X.env).names.lookup x=some .cell\/(relabel sc X.env).names.lookup x=some .free)
 | [],[],_,_,_,e=>by simp at e
 | [],_::_,_,_,h,_=>h.elim
 |_::_,[],_,_,h,_=>h.elim
 |j::f,x::xs,0,i,h,e=>by
  have b:j=i:=by simpa using e
  subst b;exact#[x,rfl,h.1]
 |j::f,x::xs,k+1,i,h,e=>by obtain⟨y,c,d⟩:=o4.get (k:=k) (j:=i) h.2 (by simpa using e);exact#[y,by simpa using c,d]
theorem o4.len:∀ {fr:List Nat} {a:List Str},o4 X sc fr a->fr.length=a.length
 | [],[],_=>rfl
 | [],_::_,h=>h.elim
 |_::_,[],h=>h.elim
 |_::_,_::_,h=>by rw[KA,KA,o4.len h.2]
def PTs(X:Cx)(ifs:List Expr)(t:TT):Prop:=
 ∀ (b:List (Addr×Obj)) (s:Shared) (a:St) (H:Hp) (Q:Bool->Hp->Prop),Inv X b a H s->t a H Q->
  wpAny (model X.prog X.w) X.A (forIn ifs true λc r=>if r=true then do let ok<-isTrue c X.env (eval c X.env);pure (ForInStep.yield ok)else pure (ForInStep.yield r)) (TP X b a Q) X.xe s
def iM:TT:=λ_ H Q=>Q true H
theorem cP:PTs X [] iM:=λ_ _ _ H _ I h=>wpAny_tests_nil #[H,I,h]
theorem cZ(h:PT X c t):PTs X [c] t:=λa s b H Q I q=>wpAny_tests_one (h a s b H Q I q)
def LCW(J:It)(g:TG)(p:TT)(q:TE)(o:Nat)(fr:List Nat)(r:St)(d:Hp)(Q:VK):Prop:=∀D,d D=none->
 ∃W:Nat->Nat->St->Hp->Prop,(∃m,W 0 m (inner o fr r) (upd d D (.lst [])))/\∀i m k H',W i m k H'->
  (J.stop i H'/\Q (.ref D) H')\/(J.go i H'/\∃N:St->Hp->Prop,(∀l c,N l c->∃j,j<m/\W (i+1) j l c)/\
   ∀x e,J.yld i H' x e->g x k e λa n=>p a n λb f=>if b=true then q a f λy h=>∃xs,h D=some (.lst xs)/\xs.length<sizeLine/\N a (upd h D (.lst (xs++[y])))else N a f)
def tLC(f:TI)(g:TG)(d:TT)(e:TE)(c:Nat)(fr:List Nat):TE:=λa H Q=>f a H λJ b=>LCW J g d e c fr a b Q
section
variable{X:Cx}{elt target iter:Expr}{ifs:List Expr}{sc:Scope}{pos:Pos}{wi:TI}{g:TG}{tc:TT}{te:TE}{vars frn:List Str}{fr:List Nat}
def Fd(X:Cx)(a:List (Addr×Obj))(d:St)(Q:VK)(D C:Addr)(b:Shared):Prop:=
 ∃H',Inv X a d H' b/\Q (.ref D) H'/\(∃m,b.heap.Ns C m)/\H' C=none/\C≠X.env.locals/\X.s₀.heap.objs.size<=C/\(∀x c,X.env.cells.lookup x=some c->c≠C)/\∀p∈X.pn++a,p.1≠C
theorem GW{env:Env}(h:sc.names.all (λy=> !(y.2== .free)||(env.kindOf y.1==some .cell||env.kindOf y.1==some .free))=true):∀y∈sc.names,y.2= .free->env.kindOf y.1=some .cell\/env.kindOf y.1=some .free:=λy b a=>by have:=K2.mp h y b;rw[a]at this;simpa using this
theorem GS(h:sc.names.all (λy=> !(y.2== .local)||(sc.names.lookup y.1==some .local))=true):∀y∈sc.names,y.2= .local->sc.names.lookup y.1=some .local:=λy b a=>by have:=K2.mp h y b;rw[a]at this;simpa using this
end
end L2
namespace L2
open PySem PySem.Spec PyProof.Rows
section
variable{X:Cx}{e st:Expr}{te ts:TE}{pos p2:Pos}
def IZ(K:PySem.W.Frag)(te ts:TE):TE:=λc H Q=>te c H λx d=>ts c d λk b=>k= .int (-1)/\∃a xs,x= .ref a/\SqL K b a xs/\∀p,b p=none->Q (.ref p) (upd b p (.lst xs.reverse))
theorem HW(p:PE X e te)(u:PE X st ts):PE X (.Subscript e (.Slice none none (some st) p2) pos) (IZ X.K te ts):=by intro d s f H Q I h;refine Subscript_ (thn (p d s f H _ I h) λv L ⟨x,j,m,r1,G⟩=> ?_);refine wpAny_Slice ?_;rw[evalPart_none];refine LK (LK ?_);rw[evalPart_some];refine thn (u d L f j _ m G) λO c ⟨k,l,n,rk,J⟩=> ?_;obtain⟨rfl,a,xs,rfl,y,q⟩:=J;obtain⟨t,rfl⟩:=rk;cases r1;have g:Inv X d f l {c with heap:=c.heap.push {cls:= .type "slice",data:= .fields #v[.none, .none, .int (-1) t]}}:=n.kept (t':=c.toks) λb B q=>KU _ q;obtain⟨N,r,i,z⟩:=g.list y;have M:=r.length;show wpAny (model X.prog X.w) X.A (subscriptTail e (.Slice none none (some st) p2) (.ref a) (.ref c.heap.objs.size)) (EP X d f Q) X.xe {c with heap:=c.heap.push {cls:= .type "slice",data:= .fields #v[.none, .none, .int (-1) t]}};refine tail_any (ops:=[.ref a, .ref c.heap.objs.size]) i.isList.typeIs OA.lookup ?_ (by with_unfolding_all rfl);refine wpAny_getItem_list_slice i.isList (Heap.IsSliceOf.new ..) .none .none (.int (-1) t) (by simp) ?_ (by rw[K7]<;>lia);rw[PySem.W.krv_pick];refine#[.ref _,_,g.laid (t':=c.toks) (o:= .lst xs.reverse) (λb B q=>KU _ q) (Kk _) ?_,rfl,q _ (g.hok.fresh (Kk _))];exact#[by rw[NF];exact z,_,0,r.reverse,Lw _ rfl]
def Jn:V->List V->Hp->VK->Prop:=λx vs H Q=>∃i,x= .int i/\vs=[]/\Q (.int (Builtin.Int.intBits i:Nat)) H
theorem F3:MtR X "int.bit_length" Jn:=by intro c s d H x vs v us Q I b a h;obtain⟨i,rfl,rfl,q⟩:=h;obtain⟨t,rfl⟩:=b;cases a.zero;exact call_gives F.slot_int_bit_length (typeIs_int s i t) F.entry_int_bit_length (F.args_int_bit_length_1 _) (PySem.AutoIntG2.int_bit_length_int_0 i t) #[.int (Builtin.Int.intBits i:Nat),H,I.tok _,#[_,rfl],q]
def Jm(K:PySem.W.Frag):List V->Hp->VK->Prop:=λxs H Q=>∃x n t b,xs=[x, .ty n]/\ot K H x t/\kitOne K t (.type n)=some b/\Q (.bl b) H
theorem xI:gJ X (.builtin "isinstance") (Jm X.K):=by intro g s i H vs us Q I c h;obtain⟨x,n,t,b,rfl,ty,e,q⟩:=h;obtain⟨u,w,rfl,a,d⟩:=c.two;cases (show w=Value.type n from d);exact Cp I a ty e λf=>#[.bl b,H,I.tok f,rfl,q]
end
def Ite(K:PySem.W.Frag)(a:Addr):It:=
 #[λi H=>∃xs x,SqL K H a xs/\xs[i]?=some x,
  λi H x H'=>∃t,x= .ref t/\H t=none/\∃v,(∀xs,SqL K H a xs->xs[i]?=some v)/\H'=upd H t (.tup [.int (i:Nat),v]),
  λi H=>∃xs,SqL K H a xs/\xs.length<=i]
theorem Inv.own{X:Cx}{j:List (Addr×Obj)}{s:Shared}{k:St}{H:Hp}{g:Heap}{t':Nat}(ch:List Addr)(I:Inv X j k H s)(d:∀b∈ch,vA X j H b)
  (h:∀b o,b∉ch->s.heap.get? b=some o->g.get? b=some o):Inv X j k H {s with heap:=g,gens:=s.gens,drawn:=s.drawn,toks:=t'}:=by
 have u:HOk X.prog X.w H g:=λb v e=>(I.hok b v e).stay (λc o a q=>h c o (λf=>by
   have n:=(d c f).1;rcases a with z|z
   .rw[z,e]at n;cases n
   .rw[z]at n;cases n) q) (λ_ q=>q) λ_ _ q=>q
 have p:∀m,s.heap.Ns X.env.locals m->g.Ns X.env.locals m:=λm f=>by obtain⟨o,l,ep,t,r⟩:=f;exact#[o,l,ep,h _ o (λf=>(d _ f).2.1 rfl) t,r]
 exact I.step (h':=g) (g':=s.gens) (d':=s.drawn) (t':=t') (ch:=ch) (λb i=>#[(d b i).2.2.2.1,(d b i).2.1,(d b i).2.2.2.2.1,(d b i).2.2.2.2.2]) (λb o _ _ a e _=>h b o a e)
  (λb o _ _ a e _=>#[o.slots,h b o a e]) (λ_ _ _ _ n=>n) (λb o a e=>#[o,h b o a e]) (λ_ _ e=>e) (λ_ _ _ e=>e) (λb ps e=>#[#v[],by rw[e];simp]) p u I.bare
theorem Inv.pairIn{X:Cx}{i:List (Addr×Obj)}{s j:Shared}{k:St}{H:Hp}{x y:V}{u v:Value}(I:Inv X i k H s)(a:Inv X i k H j)(G:bZ x u)(J:bZ y v)
  (r:j.heap.get? s.heap.objs.size=some {cls:= .type "tuple",data:= .seq #v[u,v]}):Inv X i k (upd H s.heap.objs.size (.tup [x,y])) j:=by
 have g:H s.heap.objs.size=none:=I.fresh;refine#[a.ok,a.os,a.bare,#[λb o e n d h=>a.base.keep b o e n d h,λb o e n d h=>a.base.slot b o e n d h,λb o e n h=> ?_,a.base.there,λb m e=> ?_,λb o u e=> ?_,λb ps e=> ?_],a.loc,a.cell,?_,λy c e=> ?_,λp l=> ?_,?_,a.len]
 .have d:b≠s.heap.objs.size:=Lp (Kb (KO e) I.sz);rw[aJ d];exact a.base.free b o e n h
 .have f:=a.base.tups b m e;rw[aJ (aM f g)];exact f
 .have f:=a.base.frzs b o u e;rw[aJ (aM f g)];exact f
 .obtain⟨more,f⟩:=a.base.tbls b ps e;exact#[more,by rw[aJ (aM f g)];exact f]
 .rw[aJ (Lp I.lt)];exact a.free
 .obtain⟨v,q⟩:=I.cell y c e;rw[aJ (Lp q.lt)];exact a.freeC y c e
 .obtain⟨t,w,z,A,B⟩:=a.pin p l;have d:p.1≠s.heap.objs.size:=Lp (KO (I.pin p l).1);exact#[t,by rw[aJ d];exact w,z,A,B]
 .intro b o e;by_cases d:b=s.heap.objs.size
  .subst d;rw[av]at e;cases e;exact#[by show 2<=sizeLine;decide,[u,v], .cons G (.cons J .nil),#[_,r,rfl,_,rfl]]
  .rw[aJ d]at e;refine(a.hok b o e).stay (λ_ _ _ q=>q) (λc q=> ?_) λc m q=> ?_
   .rw[aJ (aM q g)];exact q
   .rw[aJ (aM q g)];exact q
theorem Bj{P:Program}{w:World}{K:PySem.W.Frag}{elts:List Expr}{x1:Nat}{tp:Pos}(a f g:Addr)(ab:g≠f):
  Turn P w K (.Tuple elts x1 tp) (Ite K a) [g,f] g (λi h=>(∃q,IsEnum h g f ((i:Nat):Int) q)/\h.IsListIter f a i) where
 mem:=by simp
 obj:=λi h st b l=>by
  obtain⟨⟨q,j⟩,hi⟩:=st;rcases J7.mp l with e|e
  .subst e;exact#[_,j,λv z=>by have z':Data.fields _=Data.cell v:=z;cases z']
  .have e:b=f:=by simpa using e
   subst e;obtain⟨o,e,c,d⟩:=hi;exact#[o,e,λv z=>by rw[d]at z;cases z]
 keep:=λi h h' st k=>#[let⟨q,j⟩:=st.1;#[q,k g (by simp) _ j],st.2.at λo e=>k f (by simp) o e]
 item:=by
  intro X B J A U i M s O H E I r st G;subst B J A;obtain⟨xs,x,y,L⟩:=G;obtain⟨⟨q,j⟩,t⟩:=st;obtain⟨bk,N,p,hz⟩:=I.list y;obtain⟨u,hu,ru⟩:=N.get L;obtain⟨f0,f1,f2,f3,f4,f5⟩:=r g (by simp);obtain⟨g0,g1,g2,g3,g4,g5⟩:=r f (by simp);refine wpAny_pyNext_enum_item j t p.isList (x:=u) (by simpa using hu) ab λbj ar aC a0 bc aE=> ?_;refine#[_,rfl,wpAny_letOwnedTupleGo_enum ar λn ay m=> ?_];replace m:Heap.SameBut g bj n:=m;have aa:g<s.heap.objs.size:=KO j;obtain⟨oi,aS,b0,b1⟩:=id t;have aB:f<s.heap.objs.size:=KO aS;have aA:H s.heap.objs.size=none:=I.fresh;have a3:n.get? s.heap.objs.size=some {cls:= .type "tuple",data:= .seq #v[.int i s.toks,u]}:=(m.2 _ (OH aa)).trans a0;have kk:∀b o,b≠g->b≠f->s.heap.get? b=some o->n.get? b=some o:=λb o Q h2 e=>(m.2 b Q).trans (aE b o Q h2 e);have I1:Inv X M O H {s with heap:=n,gens:=s.gens,drawn:=s.drawn,toks:=s.toks+1}:=I.own [g,f] r λb o l e=>kk b o (λz=>l (by simp[z])) (λz=>l (by simp[z])) e;have b2:n.objs.size=s.heap.objs.size+1:=m.1.trans bc;have I2:Inv X M O (upd H s.heap.objs.size (.tup [.int (i:Nat),x])) {s with heap:=n,toks:=s.toks+1}:=I.pairIn I1 #[_,rfl] ru a3;refine#[.ref s.heap.objs.size,_,I2,rfl,#[_,rfl,aA,x,λys hy=>by rw[I.list_inj hy y];exact L,rfl],#[#[u,?_],?_],λb l=> ?_]
  .have:((i+1:Nat):Int)=(i:Int)+1:=()
   rw[this];exact ay
  .obtain⟨o,e,c,d⟩:=aC;exact#[o,(m.2 f (Mo ab)).trans e,c,d]
  .rcases J7.mp l with e|e
   .rw[e,aJ (Lp aa)];exact f0
   .have e:b=f:=by simpa using e
    rw[e,aJ (Lp aB)];exact g0
 done:=by intro X B J A U i M s O H E I r st G;subst B J A;obtain⟨xs,y,L⟩:=G;obtain⟨⟨q,j⟩,t⟩:=st;obtain⟨bk,N,p,hz⟩:=I.list y;obtain⟨g0,g1,g2,g3,g4,g5⟩:=r f (by simp);have hl:=N.length;exact wpAny_pyNext_enum_end (I.ok.hd U) j t p.isList (by simp;lia) λh' eb=>#[rfl,I.turned (t':=s.toks) (λb o l e=>eb b o l e) g0 g1 g3 g4 g5]
 self:=λ_ _ _ _ _ st h=>let⟨_,j⟩:=st.1;wpAny_pyIter_enum j h
section
variable{X:Cx}{elts:List Expr}{x1:Nat}{tp:Pos}
def GV(K:PySem.W.Frag)(c:TA):TI:=λd H R=>c d H λvs b=>∃a,vs=[.ref a]/\(∃xs,b a=some (.lst xs))/\R (Ite K a) b
theorem FK{a:Expr}{i:TA}{p pos:Pos}(o:Gl X "enumerate")(w:X.mg "enumerate"=none)(k:PA X [a] i)(x:starEach [a] X.env=[(false,eval a X.env)]:=by rfl):PI X (.Tuple elts x1 tp) (.Call (.Name "enumerate" p) [a] [] pos) (GV X.K i):=by
 intro A s J H R I h;refine Call_ (iS I o w boot_enumerate (Ma (thn (k pos A s J H _ I h) λus c ⟨vs,j,d,r1,B⟩=> ?_) x rfl));obtain⟨l,e,⟨xs,y⟩,q⟩:=B;subst e;obtain⟨u,rfl,G⟩:=r1.one;cases G;obtain⟨z,L,n,r,hl,e⟩:=d.lstM y;refine call_enumerate_1 e λh' g t hsz v=> ?_;refine wpAny_pyIter_enum g #[c.heap.objs.size+1,[c.heap.objs.size+1,c.heap.objs.size],_,Ite X.K l,j,rfl,d.kept (t':=c.toks) v,Bj l _ _ (Nat.succ_ne_self _),#[#[_,g],t],λb m=> ?_,q];have f:c.heap.objs.size<=b:=by
  rcases J7.mp m with e|e
  .rw[e];exact Nat.le_succ _
  .have e:b=c.heap.objs.size:=by simpa using e
   rw[e];exact Kk _
 exact d.fpOk f (d.hok.fresh f)
end
structure Cal(P:Program)(w:World)(K:PySem.W.Frag)(mg:Str->Option Value)(base:Heap)(k:Nat)(x:Str)(ps:List Str)(sp:Sp):Prop where
 ex:∃ (f:Addr) (fd:FuncData),jw P w K mg base CX0 k f fd ps sp/\mg x=some (.ref f)/\keepIn K (.ref f)=true/\j7 K fd ps []
structure bw(K:PySem.W.Frag)(mg:Str->Option Value)(x:Str)(st:Stmt)(ps:List Str):Prop where
 ex:∃ (f:Addr) (fd:FuncData),Fun K x x st f fd/\j7 K fd ps []/\mg x=some (.ref f)
theorem IM{K:PySem.W.Frag}{h:Heap}{mg:Str->Option Value}{x:Str}{st:Stmt}{ps:List Str}{f:Addr}{j:Value}{m d:Option Addr}{n:Array (Option Value)}{kV g i cdv e:Value}(X:K.In h)(G:h.Ns mainGlobals mg)
  (a:nsIn K mainGlobals x=some (some (.ref f))) (l:K.lookup f=some #[j,m, .func (fnOf x x (dH st) (bu st) (aw st) .none kV g i d cdv e),n])
  (c:codeIn K cdv x=true) (k:keepIn K (.ref f)=true)
  (b:∀ (kV g i:Value) (d:Option Addr) (cdv e:Value) (us:List Value),us.length=ps.length->bindArgs (fnOf x x (dH st) (bu st) (aw st) .none kV g i d cdv e) #[us,[]]=pure (ps.zip us)):bw K mg x st ps:=
 #[f,_,qH (st:=st) l c k,(qH (st:=st) l c k).binds b,My X G a]
section
variable{P:Program}{w:World}{K:PySem.W.Frag}{mg:Str->Option Value}{base:Heap}
theorem bw.cal{x:Str}{st:Stmt}{N ps:List Str}{k:Nat}{sp:Sp}(D:bw K mg x st ps)(S:aK N ps (aw st))(len:∀vs H Q E,sp vs H Q E->vs.length=ps.length)
  (c:∀ (f:Addr) (cdv:Value) (A:Around) (outer:List Env) (s:Shared) (H:Hp) (vs:List V) (Q:VK) (E:XK),Room k (A.deeper (envOfC x (aw st) s.heap.objs.size f cdv))->sp vs H Q E->
   ∃t,PSs (vi CX0 P w K mg base N x (aw st) f cdv A outer s H E).nox (bu st) t/\t {nx:=λ_ H'=>Q .non H',rt:=Q} (start N vs) H):Cal P w K mg base (k+1) x ps sp:=by
 obtain⟨f,a,F,b,m⟩:=D.ex;exact#[f,a,F.ok S len λcdv A outer s H vs Q E d e=>c f cdv A outer s H vs Q E d e,m,F.kp,b]
theorem Cal.mono(C:Cal P w K mg base j x ps sp)(h:j<=k):Cal P w K mg base k x ps sp:=by obtain⟨f,a,F,m,c,b⟩:=C.ex;exact#[f,a,F.mono h,m,c,b]
end
section
variable{X:Cx}{x:Str}{ps:List Str}{j k:Nat}{sp:Sp}{e:Expr}{es:List Expr}{t:TA}{p pos:Pos}
theorem Ih(C:Cal X.prog X.w X.K X.mg X.base j x ps sp)(l:Room k X.A)(h:j<=k)(g:Gl X x)(a:PA X (e::es) t)(c:(x==("__debug__":Str))=false:=by decide)
  (d:starEach (e::es) X.env=(false,eval e X.env)::starEach es X.env:=by rfl) (i:(backTo pos (starEach es X.env)).any (·.1)=false:=by rfl):PE X (.Call (.Name x p) (e::es) [] pos) (De sp [] E0 t):=by
 obtain⟨f,o,F,m,n,b⟩:=C.ex;exact FR F (l.mono h) g m n b .nil wR a c d i
end
end L2
namespace L2
open PySem PySem.Spec PyProof.Rows
theorem Same.upd{H a:Hp}{l:Addr}{o:HO}(e:Same H a)(h:H l=none):Same H (upd a l o):=λb u q=>by rw[aJ (aM q h)];exact e b u q
theorem Same.new(h:H l=none):Same H (L2.upd H l o):=(Same.refl H).upd h
theorem Same.at(e:Same H H1)(h:H l=some o):H1 l=some o:=e l o h
theorem EF{a:List Int}{t:Int}(b:0<=t):o3 (a.map V.int) none (some t)=(a.take t.toNat).map V.int:=by
 obtain⟨k,rfl⟩:=LV b;unfold o3;show((a.map V.int).drop (HT.sIx _ 0 none)).take (HT.sIx _ _ (some (k:Int)) -HT.sIx _ 0 none)=_;rw[HT.uu,HT.pZ,J2,List.drop_zero,Nat.sub_zero,<-List.map_take];show(a.take (min k a.length)).map V.int=(a.take k).map V.int;by_cases c:k<=a.length
 .rw[N6 c]
 .rw[OJ (),Ly,MH ()]
def eY(p:Nat->Bool)(f:Nat->V)(i:Nat):List V:=((List.range i).filter p).map f
theorem yF(p:Nat->Bool)(f:Nat->V)(i:Nat):eY p f (i+1)=if p i=true then eY p f i++[f i]else eY p f i:=by unfold eY;rw[LX,Mr,KP];cases a:p i<;>simp[a]
theorem BW(p:Nat->Bool)(f:Nat->V)(i:Nat):(eY p f i).length<=i:=by unfold eY;rw[J2];exact Kd (Lu _ _) (by simp)
theorem dN{A:Int}{n:Nat}{g:TG}{B:TT}{G:TE}{c:Nat}{fr:List Nat}{d:St}{H:Hp}{Q:VK}(p:Nat->Bool)(f:Nat->V)(hn:n<=sizeLine)
  (hs:∀ (i:Nat) (vs:St) (H':Hp) (R:V->St->Hp->Prop) (S:St->Hp->Prop),i<n->vs.length=c->Same H H'->
   (∀k a,k.length=c->Same H' a->if p i=true then R (f i) (k++fr.map λj=>(d[j]?).join) a else S (k++fr.map λj=>(d[j]?).join) a)->
   g (.int (A+i)) (vs++fr.map λj=>(d[j]?).join) H' λl L=>B l L λb v=>if b=true then G l v λy o=>R y l o else S l v)
  (O:∀D H',H D=none->Same H H'->H' D=some (.lst (eY p f n))->Q (.ref D) H'):LCW (Itr A n) g B G c fr d H Q:=by
 intro D t;refine#[λi m J H'=>m=n-i/\i<=n/\∃vs:St,vs.length=c/\J=vs++(fr.map λj=>(d[j]?).join)/\Same H H'/\H' D=some (.lst (eY p f i)),#[n,by simp,Ls _,List.replicate c none,by simp,rfl,Same.new t,av],?_];rintro i m J H' ⟨rfl,U,vs,hv,rfl,r,u⟩;by_cases h:i<n
 .refine .inr #[h,λK a=>∃vs:St,vs.length=c/\K=vs++(fr.map λj=>(d[j]?).join)/\Same H a/\a D=some (.lst (eY p f (i+1))),λK a q=>#[n- (i+1),LW h (LN _),rfl,h,q],λx H2 y=> ?_];obtain⟨M,N⟩:=y;subst M N;refine hs i vs _ (λy l o=>∃xs,o D=some (.lst xs)/\xs.length<sizeLine/\∃vs:St,vs.length=c/\l=vs++(fr.map λj=>(d[j]?).join)/\Same H (upd o D (.lst (xs++[y])))/\upd o D (.lst (xs++[y])) D=some (.lst (eY p f (i+1)))) _ h hv r λk a z s=> ?_;have e:=yF p f i;cases w:p i with
  |true=>
   rw[w,J5 rfl]at e;rw[J5 rfl];exact#[_,s D _ u,Ks (BW p f i) (Kb h hn),k,z,rfl,(r.trans s).upd t,by rw[av,e]]
  |false=>
   rw[w,J4 Ku]at e;rw[J4 Ku];exact#[k,z,rfl,r.trans s,by rw[e];exact s D _ u]
 .have e:i=n:=LO U (LP h);subst e;exact .inl #[Kk _,O D H' t r u]
def fF(p:V->Bool)(f:V->V)(xs:List V):List V:=(xs.filter p).map f
theorem qm(p:V->Bool)(f:V->V)(xs:List V)(i:Nat)(x:V)(h:xs[i]?=some x):fF p f (xs.take (i+1))=if p x=true then fF p f (xs.take i)++[f x]else fF p f (xs.take i):=by unfold fF;rw[Lx,h,Mr,KP];cases a:p x<;>simp[a]
theorem sD(p:V->Bool)(f:V->V)(xs:List V):(fF p f xs).length<=xs.length:=by unfold fF;rw[J2];exact Lu _ _
theorem b9{K:PySem.W.Frag}{a:Addr}{xs:List V}{g:TG}{J:TT}{L:TE}{d:Nat}{fr:List Nat}{h:St}{H:Hp}{Q:VK}(p:V->Bool)(f:V->V)(ha:SqL K H a xs)(hn:xs.length<=sizeLine)
  (hs:∀ (i:Nat) (x:V) (vs:St) (H':Hp) (R:V->St->Hp->Prop) (S:St->Hp->Prop),xs[i]?=some x->vs.length=d->Same H H'->
   (∀k c,k.length=d->Same H' c->if p x=true then R (f x) (k++fr.map λj=>(h[j]?).join) c else S (k++fr.map λj=>(h[j]?).join) c)->
   g x (vs++fr.map λj=>(h[j]?).join) H' λl O=>J l O λb z=>if b=true then L l z λy n=>R y l n else S l z)
  (hd:∀D H',H D=none->Same H H'->H' D=some (.lst (fF p f xs))->Q (.ref D) H'):LCW (Itl K a) g J L d fr h H Q:=by
 intro D v;refine#[λi m M H'=>m=xs.length-i/\i<=xs.length/\∃vs:St,vs.length=d/\M=vs++(fr.map λj=>(h[j]?).join)/\Same H H'/\H' D=some (.lst (fF p f (xs.take i))),#[xs.length,by simp,Ls _,List.replicate d none,by simp,rfl,Same.new v,av],?_];rintro i m M H' ⟨rfl,hi,vs,hv,rfl,o,r⟩;have w:=o.seq ha;by_cases s:i<xs.length
 .refine .inr #[#[xs,xs[i],w,by simp[s]],λN c=>∃vs:St,vs.length=d/\N=vs++(fr.map λj=>(h[j]?).join)/\Same H c/\c D=some (.lst (fF p f (xs.take (i+1)))),λN c q=>#[xs.length- (i+1),LW s (LN _),rfl,s,q],λx H2 y=> ?_];obtain⟨U,e2⟩:=y;subst U;have G:=e2 xs w;refine hs i x vs _ (λy l n=>∃u,n D=some (.lst u)/\u.length<sizeLine/\∃vs:St,vs.length=d/\l=vs++(fr.map λj=>(h[j]?).join)/\Same H (upd n D (.lst (u++[y])))/\upd n D (.lst (u++[y])) D=some (.lst (fF p f (xs.take (i+1))))) _ G hv o λk c B t=> ?_;have e:=qm p f xs i x G;cases A:p x with
  |true=>
   rw[A,J5 rfl]at e;rw[J5 rfl];refine#[_,t D _ r,Ks (sD p f _) ?_,k,B,rfl,(o.trans t).upd v,by rw[av,e]];rw[KL];lia
  |false=>
   rw[A,J4 Ku]at e;rw[J4 Ku];exact#[k,B,rfl,o.trans t,by rw[e];exact t D _ r]
 .have e:i=xs.length:=LO hi (LP s);subst e;refine .inl #[#[xs,w,Kk _],hd D H' v o ?_];rw[Ly]at r;exact r
def fG(p:Nat->V->Bool)(f:Nat->V->V):Nat->List V->List V
 |_,[]=>[]
 |i,x::r=>if p i x=true then f i x::fG p f (i+1) r else fG p f (i+1) r
theorem qo(p:Nat->V->Bool)(f:Nat->V->V):∀ (i:Nat) (xs:List V) (x:V),fG p f i (xs++[x])=if p (i+xs.length) x=true then fG p f i xs++[f (i+xs.length) x]else fG p f i xs
 |i,[],x=>by simp[fG]
 |i,y::r,x=>by
  have e:i+(y::r).length=i+1+r.length:=by simp;lia
  rw[List.cons_append,fG,qo p f (i+1) r x,e]
  conv=>rhs;rw[fG]
  by_cases a:p i y=true<;>by_cases b:p (i+1+r.length) x=true<;>simp[a,b]
theorem sF(p:Nat->V->Bool)(f:Nat->V->V):∀ (i:Nat) (xs:List V),(fG p f i xs).length<=xs.length
 |_,[]=>Kk _
 |i,x::r=>by have:=sF p f (i+1) r;rw[fG];split<;>simp<;>lia
theorem Ee{K:PySem.W.Frag}{a:Addr}{xs:List V}{g:TG}{U:TT}{te:TE}{d:Nat}{fr:List Nat}{h:St}{H:Hp}{Q:VK}(p:Nat->V->Bool)(f:Nat->V->V)(ha:SqL K H a xs)(hn:xs.length<=sizeLine)
  (hs:∀ (i:Nat) (x:V) (t:Addr) (vs:St) (H':Hp) (R:V->St->Hp->Prop) (S:St->Hp->Prop),xs[i]?=some x->vs.length=d->Same H H'->H' t=some (.tup [.int (i:Nat),x])->
   (∀k c,k.length=d->Same H' c->if p i x=true then R (f i x) (k++fr.map λj=>(h[j]?).join) c else S (k++fr.map λj=>(h[j]?).join) c)->
   g (.ref t) (vs++fr.map λj=>(h[j]?).join) H' λl H3=>U l H3 λb G=>if b=true then te l G λy n=>R y l n else S l G)
  (hd:∀D H',H D=none->Same H H'->H' D=some (.lst (fG p f 0 xs))->Q (.ref D) H'):LCW (Ite K a) g U te d fr h H Q:=by
 intro D w;refine#[λi m ab H'=>m=xs.length-i/\i<=xs.length/\∃vs:St,vs.length=d/\ab=vs++(fr.map λj=>(h[j]?).join)/\Same H H'/\H' D=some (.lst (fG p f 0 (xs.take i))),#[xs.length,by simp,Ls _,List.replicate d none,by simp,rfl,Same.new w,av],?_];rintro i m ab H' ⟨rfl,L,vs,hv,rfl,o,z⟩;have A:=o.seq ha;by_cases r:i<xs.length
 .refine .inr #[#[xs,xs[i],A,by simp[r]],λag c=>∃vs:St,vs.length=d/\ag=vs++(fr.map λj=>(h[j]?).join)/\Same H c/\c D=some (.lst (fG p f 0 (xs.take (i+1)))),λag c q=>#[xs.length- (i+1),LW r (LN _),rfl,r,q],λx H2 y=> ?_];obtain⟨t,e1,ht,v,e2,e3⟩:=y;subst e1 e3;have O:=e2 xs A;have s:Same H' (upd H' t (.tup [.int (i:Nat),v])):=Same.new ht;refine hs i v t vs _ (λy l n=>∃u,n D=some (.lst u)/\u.length<sizeLine/\∃vs:St,vs.length=d/\l=vs++(fr.map λj=>(h[j]?).join)/\Same H (upd n D (.lst (u++[y])))/\upd n D (.lst (u++[y])) D=some (.lst (fG p f 0 (xs.take (i+1))))) _ O hv (o.trans s) av λk c N B=> ?_;have e:fG p f 0 (xs.take (i+1))=if p i v=true then fG p f 0 (xs.take i)++[f i v]else fG p f 0 (xs.take i):=by rw[Lx,O];show fG p f 0 (xs.take i++[v])=_;rw[qo,KL,N6 L,Nr]
  have J:=B D _ (s D _ z);cases M:p i v with
  |true=>
   rw[M,J5 rfl]at e;rw[J5 rfl];refine#[_,J,Ks (sF p f _ _) ?_,k,N,rfl,((o.trans s).trans B).upd w,by rw[av,e]];rw[KL];lia
  |false=>
   rw[M,J4 Ku]at e;rw[J4 Ku];exact#[k,N,rfl,(o.trans s).trans B,by rw[e];exact J]
 .have e:i=xs.length:=LO L (LP r);subst e;refine .inl #[#[xs,A,Kk _],hd D H' w o ?_];rw[Ly]at z;exact z
end L2
namespace L2
open PySem PySem.Spec PyProof.Rows
inductive RdN(K:PySem.W.Frag)(xs:List V)(H:Hp)(Q:VK):Prop
 |mk (p:Addr) (ys:List V) (e:xs=[.ref p]) (s:SqL K H p ys\/SqT K H p ys) (q:Q (.int ys.length) H):RdN K xs H Q
def GP(K:PySem.W.Frag):List V->Hp->VK->Prop:=λxs H Q=>RdN K xs H Q
def Fz(K:PySem.W.Frag):List V->Hp->VK->Prop:=λxs H Q=>∃p a,xs=[.ref p]/\(SqL K H p a\/SqT K H p a)/\∀l,H l=none->Q (.ref l) (upd H l (.lst a))
section
variable{X:Cx}{K:PySem.W.Frag}
theorem qA(h:X.K=K):IxR X (DC K):=by subst h;exact Gd
theorem Gb(h:X.K=K):IxR X (Hw K):=by subst h;exact ID
theorem gy(h:X.K=K):OpR X (compareOp .NotIn) (rIn K true):=by subst h;exact uI
theorem rY(h:X.K=K):gJ X (.builtin "len") (GP K):=by subst h;intro c s f H xs us Q I r a;obtain⟨p,d,e,b,q⟩:=a;exact vq c s f H xs us Q I r #[p,d,e,b,q]
theorem rX(h:X.K=K):gJ X (.type "list") (Fz K):=by subst h;exact vp
theorem eD(h:X.K=K):gJ X (.builtin "isinstance") (Jm K):=by subst h;exact xI
theorem jI(h:X.K=K):SlR X (Jl K):=by subst h;exact Fn
theorem FN{e st:Expr}{a b:TE}{pos p2:Pos}(h:X.K=K)(c:PE X e a)(d:PE X st b):PE X (.Subscript e (.Slice none none (some st) p2) pos) (IZ K a b):=by subst h;exact HW c d
theorem FT{o:Expr}{b:TE}{name:Str}{apos a:Pos}{T id:String}{r:V->List V->Hp->VK->Prop}(h:X.K=K)(i:PlainAttrs T)(slot:Slot T name id)(g:typeOf (.builtin id)=pure (.type "method_descriptor"))(e:MtR X id r)(f:PE X o b)
  (c:attributeBase o name X.env (eval o X.env)=eval o X.env:=by rfl) (d:(apos.endLine==a.line)=true:=by rfl):PE X (.Call (.Attribute o name apos) [] [] a) (Jg K T r b):=by subst h;exact Ii i slot g e f c d
theorem fo{o e:Expr}{a:List Expr}{c:TE}{t:TA}{name:Str}{apos b:Pos}{T id:String}{r:V->List V->Hp->VK->Prop}(h:X.K=K)(p:PlainAttrs T)(slot:Slot T name id)(n:typeOf (.builtin id)=pure (.type "method_descriptor"))(j:MtR X id r)(k:PE X o c)(d:PA X (e::a) t)
  (f:attributeBase o name X.env (eval o X.env)=eval o X.env:=by rfl)
  (g:((backTo b (starEach (e::a) X.env)).all (λx=> !x.1)&&(backToKw b (keywordEach [] X.env)).all (λx=>x.1.isSome)
   &&decide ((e::a).length+([]:List Keyword).length+(if([]:List Keyword).isEmpty then 0 else 1)<30))=true:=by rfl)
  (i:(apos.endLine==b.line)=true:=by rfl) (m:starEach (e::a) X.env=(false,eval e X.env)::starEach a X.env:=by rfl) (l:(backTo b (starEach a X.env)).any (·.1)=false:=by rfl):
  PE X (.Call (.Attribute o name apos) (e::a) [] b) (tBM K T r c t):=by subst h;exact Jq p slot n j k d f g i m l
theorem DG(h:X.K=K)(hl:PE X l tl):PI X tg l (En K tl):=by subst h;exact FJ hl
theorem FI(h:X.K=K)(hl:PE X l tl):PI X tg l (IE K tl):=by subst h;exact HQ hl
theorem ql{elts:List Expr}{x1:Nat}{g:Pos}{a:Expr}{b:TA}{p pos:Pos}(h:X.K=K)(d:Gl X "enumerate")(e:X.mg "enumerate"=none)(c:PA X [a] b)(f:starEach [a] X.env=[(false,eval a X.env)]:=by rfl):
  PI X (.Tuple elts x1 g) (.Call (.Name "enumerate" p) [a] [] pos) (GV K b):=by subst h;exact FK d e c f
theorem mh{a:List Expr}{k:Nat}{t:TGs}{n:Nat}{pos:Pos}(h:X.K=K)(b:X.calm=true)(d:PGs X a t)(c:(assignEach a X.env).length=n:=by rfl)(e:(assignEach a X.env).findIdx? (·.1)=none:=by rfl):
  PG X (.Tuple a k pos) (Jy K n t):=by subst h;exact HS b d c e
end
end L2
namespace L2
open PySem PySem.Spec PyProof.Rows
def tm(H H':Hp):Prop:=∀b xs,H b=some (.tup xs)->H' b=some (.tup xs)
theorem Same.tups(e:Same H H'):tm H H':=λb xs h=>e b _ h
theorem tm.trans(a:tm H H1)(b:tm H1 H2):tm H H2:=λc o h=>b c o (a c o h)
def Tups(H:Hp)(xs:List V)(ps:List (Int×Int)):Prop:=Paired (λx (q:Int×Int)=>∃t,x=V.ref t/\H t=some (.tup [.int q.1, .int q.2])) xs ps
theorem Tups.same(h:Tups H xs ps)(e:tm H H'):Tups H' xs ps:=Paired.mapP h λ_ _ ⟨t,a,b⟩=>#[t,a,e t _ b]
theorem Tups.len{xs:List V}{ps:List (Int×Int)}(h:Tups H xs ps):xs.length=ps.length:=Ny h
theorem Paired.at:∀ {a:List f} {b:List β} {i:Nat} {x:f},Paired F a b->a[i]?=some x->∃y,b[i]?=some y/\F x y
 |_,_,_,_, .nil,h=>by simp at h
 |a::_,b::_,0,x, .cons r t,h=>by
  have e:a=x:=by simpa using h
  subst e;exact#[b,rfl,r]
 |_,_,i+1,x, .cons r t,h=>by obtain⟨y,c,d⟩:=Paired.at (i:=i) t (by simpa using h);exact#[y,by simpa using c,d]
end L2
namespace L2
open PySem PySem.Spec PyProof.Rows
structure iL(K:PySem.W.Frag)(m qual:Str)(st:Stmt)(ps:List Str)(f:Addr):Prop where
 ex:∃fd:FuncData,Fun K m qual st f fd/\j7 K fd ps []
theorem Iq{K:PySem.W.Frag}{m a:Str}{st:Stmt}{ps:List Str}{f:Addr}{i:Value}{j d:Option Addr}{n:Array (Option Value)}{kV g h cdv e:Value}
  (l:K.lookup f=some #[i,j, .func (fnOf m a (dH st) (bu st) (aw st) .none kV g h d cdv e),n]) (c:codeIn K cdv a=true) (k:keepIn K (.ref f)=true)
  (b:∀ (kV g h:Value) (d:Option Addr) (cdv e:Value) (us:List Value),us.length=ps.length->bindArgs (fnOf m a (dH st) (bu st) (aw st) .none kV g h d cdv e) #[us,[]]=pure (ps.zip us)):iL K m a st ps f:=
 #[_,qH (st:=st) l c k,(qH (st:=st) l c k).binds b]
structure iB(P:Program)(w:World)(K:PySem.W.Frag)(mg:Str->Option Value)(base:Heap)(k:Nat)(f:Addr)(ps:List Str)(sp:Sp):Prop where
 ex:∃fd:FuncData,jw P w K mg base CX0 k f fd ps sp/\j7 K fd ps []
 kp:keepIn K (.ref f)=true
structure dn(P:Program)(w:World)(K:PySem.W.Frag)(mg:Str->Option Value)(base:Heap)(k:Nat)(C:Addr)(m:Str)(ps:List Str)(sp:Sp):Prop where
 cl:Cls K C
 ex:∃f,Meth K C m f/\iB P w K mg base k f ps sp
structure yk(P:Program)(w:World)(K:PySem.W.Frag)(mg:Str->Option Value)(base:Heap)(k:Nat)(x:Str)(C:Addr)(ps:List Str)(sp:Sp):Prop where
 ex:∃f,Mk K C f/\iB P w K mg base k f ps sp
 g:mg x=some (.ref C)
structure Fc(P:Program)(w:World)(K:PySem.W.Frag)(mg:Str->Option Value)(base:Heap)(k:Nat)(C:Addr)(m:Str)(ps:List Str)(sp:Sp):Prop where
 ex:∃f,iB P w K mg base k f ps sp/\PySem.W.findCls K (.ref C) (.type "type") m=some (.val (.ref f))
 ga:specialIn K (.ref C) "__getattribute__"=some (some (.builtin "type.__getattribute__"))
 rd:PySem.W.readsIn K C (.type "type")=true
section
variable{P:Program}{w:World}{K:PySem.W.Frag}{mg:Str->Option Value}{base:Heap}
theorem iL.fn{m a:Str}{st:Stmt}{N ps:List Str}{k:Nat}{sp:Sp}{f:Addr}(D:iL K m a st ps f)(S:aK N ps (aw st))(len:∀vs H Q E,sp vs H Q E->vs.length=ps.length)
  (d:∀ (cdv:Value) (A:Around) (outer:List Env) (s:Shared) (H:Hp) (vs:List V) (Q:VK) (E:XK),Room k (A.deeper (envOfC a (aw st) s.heap.objs.size f cdv))->sp vs H Q E->
   ∃t,PSs (vi CX0 P w K mg base N a (aw st) f cdv A outer s H E).nox (bu st) t/\t {nx:=λ_ H'=>Q .non H',rt:=Q} (start N vs) H):iB P w K mg base (k+1) f ps sp:=by
 obtain⟨c,F,b⟩:=D.ex;exact#[#[c,F.ok S len d,b],F.kp]
theorem iB.mono(C:iB P w K mg base j f ps sp)(h:j<=k):iB P w K mg base k f ps sp:=by obtain⟨⟨a,F,b⟩,c⟩:=C;exact#[#[a,F.mono h,b],c]
end
inductive RdM(Dom:Addr->Prop)(m:Str)(spf:Addr->Sp)(t:TA)(σ:St)(Q:VK)(x:V)(H:Hp):Prop
 |mk (a C dx:Addr) (fs:List (Str×V)) (e:x= .ref a) (h:H a=some (.ins C dx fs)) (d:Dom C) (l:fs.lookup m=none) (q:t σ H λvs H2=>spf C (x::vs) H2 Q E0):RdM Dom m spf t σ Q x H
def Dc(b:Addr->Prop)(m:Str)(c:Addr->Sp)(d:TE)(t:TA):TE:=λa H Q=>d a H (RdM b m c t a Q)
def Jf(C:Addr)(sp:Sp)(d:TE)(t:TA):TE:=λa H Q=>d a H λx b=>x= .ref C/\t a b λvs c=>sp vs c Q E0
section
variable{X:Cx}{j k:Nat}{C:Addr}{x m:Str}{ps:List Str}{sp:Sp}{Dom:Addr->Prop}{spf:Addr->Sp}{e o:Expr}{es:List Expr}{ta:TE}{t:TA}{p pos apos:Pos}
theorem fP{pl:Sem Bool}(M:∀C,Dom C->dn X.prog X.w X.K X.mg X.base j C m ps (spf C))(hr:Room k X.A)(N:j<=k)(L:PE X o ta)(G:PA X (e::es) t)
  (ab:starEach (e::es) X.env=(false,eval e X.env)::starEach es X.env:=by rfl) (O:(backTo pos (starEach es X.env)).any (·.1)=false:=by rfl)
  (ht:eval (.Call (.Attribute o m apos) (e::es) [] pos) X.env=(do
   let ov<-eval o X.env
   standAt apos.atName
   let(f,first)<-holding [ov] (getMethod ov m pl)
   callWith pos f first (backTo pos (starEach (e::es) X.env)) (backToKw pos (keywordEach [] X.env))):=by rfl):
  PE X (.Call (.Attribute o m apos) (e::es) [] pos) (Dc Dom m spf ta t):=by
 intro i s n H Q I h;refine NX (pl:=pl) (thn (L i s n H _ I h) λu s1 U=> ?_) ht;obtain⟨x,v,b,rx,a,C,dx,fs,B,z,y,l,q⟩:=U;subst B;obtain rfl:u=Value.ref a:=rx;obtain⟨c,f,g,⟨fd,F,J⟩,kp⟩:=M C y;refine qG b z c g l ?_;refine NH (first:=[.ref a]) (h₀:=X.base) I.ok.mod.kin g.kp (thn (G pos i s1 n v _ b q) λus s2 ⟨vs,H2,d,r,q2⟩=>#[d.kIn,?_]) ab O;exact ux (us:= .ref a::us) (vs:= .ref a::vs) (dvs:=[]) F (hr.mono N) J .nil wR d (.cons rfl r) (by rw[LF];exact q2)
theorem eX{pl:Sem Bool}(M:∀C,Dom C->dn X.prog X.w X.K X.mg X.base j C m ps (spf C))(B:Room k X.A)(y:j<=k)(v:PE X o ta)
  (G:eval (.Call (.Attribute o m apos) [] [] pos) X.env=(do
   let ov<-eval o X.env
   standAt apos.atName
   let(f,first)<-holding [ov] (getMethod ov m pl)
   callWith pos f first (backTo pos (starEach [] X.env)) (backToKw pos (keywordEach [] X.env))):=by rfl):
  PE X (.Call (.Attribute o m apos) [] [] pos) (Dc Dom m spf ta Fi):=by
 intro J s N H Q I h;refine NX (pl:=pl) (thn (v J s N H _ I h) λu s1 z=> ?_) G;obtain⟨x,O,b,L,a,C,U,fs,n,i,g,l,q⟩:=z;subst n;obtain rfl:u=Value.ref a:=L;obtain⟨c,f,d,⟨fd,F,r⟩,kp⟩:=M C g;refine qG b i c d l ?_;exact PySem.W.callWith_K0 (first:=[.ref a]) b.kIn d.kp (ux (us:=[.ref a]) (vs:=[.ref a]) (dvs:=[]) F (B.mono y) r .nil wR b (.cons rfl .nil) q)
theorem uC(M:yk X.prog X.w X.K X.mg X.base j x C ps sp)(n:Room k X.A)(i:j+1<=k)(h:Gl X x)(a:PA X (e::es) t)(c:(x==("__debug__":Str))=false:=by decide)
  (d:starEach (e::es) X.env=(false,eval e X.env)::starEach es X.env:=by rfl) (l:(backTo pos (starEach es X.env)).any (·.1)=false:=by rfl):PE X (.Call (.Name x p) (e::es) [] pos) (GI C sp [] E0 t):=by
 obtain⟨⟨f,mk,⟨q,F,b⟩,r⟩,g⟩:=M;exact FO mk F (n.mono i) h g b .nil wR a c d l
theorem pe{pl:Sem Bool}(M:Fc X.prog X.w X.K X.mg X.base j C m ps sp)(L:Room k X.A)(G:j<=k)(z:PE X o ta)(v:PA X (e::es) t)
  (N:starEach (e::es) X.env=(false,eval e X.env)::starEach es X.env:=by rfl) (J:(backTo pos (starEach es X.env)).any (·.1)=false:=by rfl)
  (O:eval (.Call (.Attribute o m apos) (e::es) [] pos) X.env=(do
   let ov<-eval o X.env
   standAt apos.atName
   let(f,first)<-holding [ov] (getMethod ov m pl)
   callWith pos f first (backTo pos (starEach (e::es) X.env)) (backToKw pos (keywordEach [] X.env))):=by rfl):
  PE X (.Call (.Attribute o m apos) (e::es) [] pos) (Jf C sp ta t):=by
 intro c s d H Q I h;refine NX (pl:=pl) (thn (z c s d H _ I h) λu s1 ⟨x,g,a,rx,l,q⟩=> ?_) O;subst l;obtain rfl:u=Value.ref C:=rx;obtain⟨⟨f,⟨⟨fd,F,y⟩,U⟩,B⟩,n,rd⟩:=M;refine PySem.W.method_cls a.kIn n (PySem.W.cls_value a.kIn rd B rfl ?_);have i:=a.tok (s1.toks+1);refine NH (first:=[]) (h₀:=X.base) I.ok.mod.kin U (thn (v pos c _ d g _ i q) λus s2 ⟨vs,H2,b,r,q2⟩=>#[b.kIn,?_]) N J;exact ux (us:=us) (vs:=vs) (dvs:=[]) F (L.mono G) y .nil wR b r (by rw[LF];exact q2)
variable{K:PySem.W.Frag}{f:Str}{value:Expr}{tv:TE}{pos':Pos}
theorem FP(h:X.K=K)(b:PE X e ta)(a:attributeBase e f X.env (eval e X.env)=eval e X.env):PE X (.Attribute e f pos) (Hl K ta f):=by subst h;exact Ig b a
theorem FG(h:X.K=K)(a:PE X o ta)(c:PE X value tv)(b:swapsWith value (some (.Attribute o f pos')) pos.line X.env=pure false):PS X (.Assign [.Attribute o f pos'] value pos) (Hr K ta tv f):=by subst h;exact Hz a c b
def GO(K:PySem.W.Frag):List V->Hp->VK->Prop:=λxs H Q=>∃ (a:Addr) (b:List Int),xs=[.ref a]/\SqL K H a (b.map V.int)/\b≠[]/\∀m∈b,(∀z∈b,z<=m)->Q (.int m) H
theorem CK(y:X.calm=true):gJ X (.builtin "max") (GO X.K):=by
 intro ab s σ H vs us Q I N h;obtain⟨a,b,rfl,w,G,q⟩:=h;obtain⟨u,rfl,M⟩:=N.one;cases M;obtain⟨is,r1,p1,_⟩:=I.list w;have l:=yW r1;obtain⟨xs,g⟩:=l.allInts.items;have hl:=p1.isList;rw[g]at hl;have d:numsOf (intItems xs).toList=b:=by rw[<-g];exact l.numsOf
 rw[nums_intItems]at d;have hsz:xs.size=b.length:=by rw[<-d];simp
 have U:0<b.length:=by
  cases b with
  |nil=>exact absurd rfl G
  |cons _ _=>simp
 have n:∀i,i<b.length->b[i]?=some (numAt xs i):=λi c=>by
  unfold numAt;rw[<-d,Kv,NY];have:i<xs.size:=()
  rw[Array.getElem?_eq_getElem this];rfl
 refine max_intList (I.ok.hd y) hl () λv h' tk J B=> ?_;obtain⟨t,rfl⟩:=intItems_at J;obtain⟨O,r⟩:=argBest_gt (numAt xs) (xs.size-1);refine#[.int (numAt xs (argBest (λi j=>decide (numAt xs i>numAt xs j)) (xs.size-1))),H,I.kept B,#[_,rfl],q _ ?_ λz L=> ?_]
 .exact Km (n _ ())
 .obtain⟨i,c⟩:=LQ L;have A:i<b.length:=(Kh.mp c).1;rw[n i A]at c;cases c;exact r i ()
theorem zN(h:X.K=K)(a:X.calm=true):gJ X (.builtin "max") (GO K):=by subst h;exact CK a
variable{a b:Expr}{rest:List Expr}{tb:TE}
end
theorem F9{K:PySem.W.Frag}{a:Addr}{xs:List V}{g:TG}{J:TT}{L:TE}{d:Nat}{fr:List Nat}{h:St}{H:Hp}{Q:VK}(p:V->Bool)(f:V->V)(ha:H a=some (.tup xs))(hn:xs.length<=sizeLine)
  (hs:∀ (i:Nat) (x:V) (vs:St) (H':Hp) (R:V->St->Hp->Prop) (S:St->Hp->Prop),xs[i]?=some x->vs.length=d->Same H H'->
   (∀k c,k.length=d->Same H' c->if p x=true then R (f x) (k++fr.map λj=>(h[j]?).join) c else S (k++fr.map λj=>(h[j]?).join) c)->
   g x (vs++fr.map λj=>(h[j]?).join) H' λl O=>J l O λb z=>if b=true then L l z λy n=>R y l n else S l z)
  (hd:∀D H',H D=none->Same H H'->H' D=some (.lst (fF p f xs))->Q (.ref D) H'):LCW (Itt K a) g J L d fr h H Q:=by
 intro D v;refine#[λi m M H'=>m=xs.length-i/\i<=xs.length/\∃vs:St,vs.length=d/\M=vs++(fr.map λj=>(h[j]?).join)/\Same H H'/\H' D=some (.lst (fF p f (xs.take i))),#[xs.length,by simp,Ls _,List.replicate d none,by simp,rfl,Same.new v,av],?_];rintro i m M H' ⟨rfl,hi,vs,hv,rfl,o,r⟩;have w:SqT K H' a xs:=SqT.of (o.at ha);by_cases s:i<xs.length
 .refine .inr #[#[xs,xs[i],w,by simp[s]],λN c=>∃vs:St,vs.length=d/\N=vs++(fr.map λj=>(h[j]?).join)/\Same H c/\c D=some (.lst (fF p f (xs.take (i+1)))),λN c q=>#[xs.length- (i+1),LW s (LN _),rfl,s,q],λx H2 y=> ?_];obtain⟨U,e2⟩:=y;subst U;have G:=e2 xs w;refine hs i x vs _ (λy l n=>∃u,n D=some (.lst u)/\u.length<sizeLine/\∃vs:St,vs.length=d/\l=vs++(fr.map λj=>(h[j]?).join)/\Same H (upd n D (.lst (u++[y])))/\upd n D (.lst (u++[y])) D=some (.lst (fF p f (xs.take (i+1))))) _ G hv o λk c B t=> ?_;have e:=qm p f xs i x G;cases A:p x with
  |true=>
   rw[A,J5 rfl]at e;rw[J5 rfl];refine#[_,t D _ r,Ks (sD p f _) ?_,k,B,rfl,(o.trans t).upd v,by rw[av,e]];rw[KL];lia
  |false=>
   rw[A,J4 Ku]at e;rw[J4 Ku];exact#[k,B,rfl,o.trans t,by rw[e];exact t D _ r]
 .have e:i=xs.length:=LO hi (LP s);subst e;refine .inl #[#[xs,w,Kk _],hd D H' v o ?_];rw[Ly]at r;exact r
theorem aY(f:Str)(v:V)(fs:List (Str×V)):(di f v fs).lookup f=some v:=by rw[iH,J5 rfl]
theorem aI(v:V)(fs:List (Str×V))(h:¬g=f):(di f v fs).lookup g=fs.lookup g:=by rw[iH,J4 h]
end L2
namespace L2
open PySem PySem.Spec PyProof.Rows
def Hv(K:PySem.W.Frag):List V->Hp->VK->Prop:=λxs H Q=>∃p a,xs=[.ref p]/\((SqL K H p a/\∀l,H l=none->Q (.ref l) (upd H l (.tup a)))\/(SqT K H p a/\Q (.ref p) H))
theorem j5{X:Cx}{K:PySem.W.Frag}(h:X.K=K):gJ X (.type "tuple") (Hv K):=by subst h;exact rW
structure TyC(K:PySem.W.Frag)(C:Addr):Prop where
 ha:findIn K (.ref C) "__class__"=some (some (.builtin "object.__class__"))
 hn:specialIn K (.builtin "object.__class__") "__get__"=some (some (.builtin "getset_descriptor.__get__"))
 ht:takesIn K (.builtin "object.__class__")=some true
 hm:mroIn K C (.type "object")=some true
end L2
namespace L2
theorem sG{b:St}(Pm:St->Hp->Prop)(c:∀a H',Pm a H'->u D a H')(h:(∀a H',Pm a H'->u D a H')->t {D with nx:=u D} (b.set i (some v)) H):bD i v b H (C8 t u D):=h c
theorem Dr{b:St}(Pm:St->Hp->Prop)(d:∀a H',Pm a H'->u D a H')(h:(∀a H',Pm a H'->u D a H')->t {D with nx:=u D} (b.set i (some c)) H):C8 (yp (tC c) (bD i)) (C8 t u) D b H:=h d
theorem eU(Pm:St->Hp->Prop)(b:∀a H',Pm a H'->u D a H')(h:(∀a H',Pm a H'->u D a H')->t {D with nx:=u D} σ H):C8 t u D σ H:=h b
end L2
namespace L2
open PySem PySem.Spec PyProof.Rows
theorem oV:isSubtype (.type "range_iterator") (.type "reversed")=pure false:=by rw[isSubtype_type];kernel_rfl
section
variable{prog:Program}{w:World}{A:Around}{E:Value->Shared->Prop}{s:Shared}
theorem jO(r:Addr)(n:Int)(t u v:Tok)(j:0<=n)(k:n<2^62):
  Meets (Builtin.«range.__reversed__» #[[.ref r],[]])
   (λ_ R s=>s.heap.get? r=some {cls:= .type "range",data:= .fields #v[.int 0 t, .int n u, .int 1 v]}/\
    R (.ok (.ret (.ref s.heap.objs.size))) {s with heap:=s.heap.push {cls:= .type "range_iterator",data:= .fields #v[rawInt (n-1),rawInt n,rawInt (-1)]}}):=
 .of_wp λprog w A R s h=>by
  obtain⟨l,g,d,o,os⟩:=s;obtain⟨m,h⟩:=h;have c:Builtin.Range.rangeSize 0 n 1=n:=by
   unfold Builtin.Range.rangeSize;rw[J5 ∅];by_cases a:(0:Int)<n
   .rw[J5 a];lia
   .rw[J4 a];lia
  have f1:Builtin.Range.rangeFitsLong 0=true:=∅
  have f2:Builtin.Range.rangeFitsLong n=true:=by unfold Builtin.Range.rangeFitsLong;simp;lia
  have e:Builtin.Range.rangeFitsLong 1=true:=∅
  have f:Builtin.Range.rangeFitsLong (-1)=true:=∅
  have i:Builtin.Range.rangeFitsLong (0-1)=true:=∅
  have b:(0:Int)+(n-1)*1=n-1:=()
  unfold Builtin.«range.__reversed__» Builtin.Range.rangeFields
  repeat (any_goals (first|assumption|wp_step))
  all_goals
   refine#[_,rfl,?_];rw[c,b,f1,f2,e,f,i];exact h
theorem kL(a:s.heap.get? p=some {cls:= .type "range",data:= .fields #v[.int 0 t, .int n u, .int 1 v]})(b:0<=n)(c:n<2^62)
  (h:Q (.ref s.heap.objs.size) {s with heap:=s.heap.push {cls:= .type "range_iterator",data:= .fields #v[rawInt (n-1),rawInt n,rawInt (-1)]}}):wpAny (model prog w) A (call (.builtin "range.__reversed__") [.ref p]) Q E s:=
 call_meets NZ #[_,a,rfl] F.entry_range_reversed (F.args_range_reversed_1 _) (jO p n t u v b c) #[a,h]
theorem kJ(b:s.heap.get? p=some {cls:= .type "range",data:= .fields #v[.int 0 t, .int n u, .int 1 v]})(c:0<=n)(d:n<2^62)
  (h:Q₁ (.ref s.heap.objs.size) {s with heap:=s.heap.push {cls:= .type "range_iterator",data:= .fields #v[rawInt (n-1),rawInt n,rawInt (-1)]}}):
  codeAny (model prog w) A (.call (.builtin "reversed.__new__") #[[.type "reversed", .ref p],[]]) (wants Q₁ E) s:=by
 refine codeAny_of_tree ?_;show wpAny _ A.in1 (do checkBuiltinCall "reversed.__new__" #[[.type "reversed", .ref p],[]];again (.builtin "reversed.__new__" #[[.type "reversed", .ref p],[]])) _ _ s;refine Lb (Oj (F.newCall_reversed_1 _) (LK #[plainId_quiet F.plain_reversed_new _,codeAny_builtin F.entry_reversed_new ?_]));rw[Around.under_plainId F.plain_reversed_new _];unfold Builtin.«reversed.__new__»;refine Lb (Oj (newClass_reversed _) ?_)
 try dsimp only
 refine Lb (Oj (a:=Unit.unit) (by first|rfl|kernel_rfl) ?_);refine Lb (Oj (a:=Unit.unit) (by first|rfl|kernel_rfl) ?_)
 try dsimp only
 refine Lb (wpAny_specialOf (#[_,b,rfl]:s.TypeIs (.ref p) "range") NZ.lookup ?_)
 try dsimp only
 refine Lb (Oj (NZ.bind _) ?_)
 try dsimp only
 first
 |rw[J4 (show¬((Value.builtin "range.__reversed__"==Value.none)=true)from Ku)]
 |(show wpAny _ _ (if(Value.builtin "range.__reversed__"==Value.none)=true then _ else _) _ _ _;rw[J4 (show¬((Value.builtin "range.__reversed__"==Value.none)=true)from Ku)])
 refine Lb (wpAny_rule ?_);refine Lb (m:=runValue (.call (.builtin "range.__reversed__") #[[.ref p],[]])) (show wpAny _ _ (call (.builtin "range.__reversed__") [.ref p]) _ _ _ from kL b c d ?_)
 first
 |exact LK h
 |exact Lb (LK (LK h))
theorem kK(e:s.heap.get? p=some {cls:= .type "range",data:= .fields #v[.int 0 t, .int n u, .int 1 v]})(c:0<=n)(d:n<2^62)
  (h:Q (.ref s.heap.objs.size) {s with heap:=s.heap.push {cls:= .type "range_iterator",data:= .fields #v[rawInt (n-1),rawInt n,rawInt (-1)]}}):wpAny (model prog w) A (call (.type "reversed") [.ref p]) Q E s:=by
 refine callType_other (U:= "range_iterator") (Q₁:=λa b=>a= .ref s.heap.objs.size/\b={s with heap:=s.heap.push {cls:= .type "range_iterator",data:= .fields #v[rawInt (n-1),rawInt n,rawInt (-1)]}}) (by decide+kernel) F.create_reversed #[_,_,F.mro_reversed] F.made_reversed oV (F.typeCall_reversed_1 _) (kJ e c d #[rfl,rfl]) ?_;rintro a b ⟨rfl,rfl⟩;exact#[#[_,Lw _ rfl,rfl],h]
end
end L2
namespace L2
open PySem PySem.Spec PyProof.Rows
def CQ(a:Int)(n:Nat):It:=#[λi _=>i<n,λi H x H'=>H'=H/\x= .int (a+i*(-1)),λi _=>n<=i]
theorem vG{P:Program}{w:World}{K:PySem.W.Frag}{M:Expr}(a:Addr)(hi:Int)(n:Nat):Turn P w K M (CQ hi n) [a] a (λi h=>IsRangeIter h a (hi+(i:Nat)*(-1)) ((n:Int) - (i:Nat)) (-1)) where
 mem:=by simp
 obj:=λi h st b c=>by
  have e:b=a:=by simpa using c
  subst e;exact#[_,st,λv z=>by have N:Data.fields _=Data.cell v:=z;cases N]
 keep:=λi h h' st k=>k a (by simp) _ st
 item:=by intro X m r l p i u s A H E I d st q;subst m r l;obtain⟨f0,f1,f2,f,g,j⟩:=d a (by simp);have W:=Walks.range (prog:=X.prog) (w:=X.w) (I.ok.hd p) a hi (-1) n;refine W.item i s _ _ q st λv h' y J x L=> ?_;obtain⟨t,rfl⟩:=J;have B:Inv X u A H {s with heap:=h',toks:=y}:=I.turned (λb o c e=>L b o (by simpa using c) e) f0 f1 f g j;exact#[_,rfl,AM (s:={s with heap:=h',toks:=y}) (n:= "range_iterator") x rfl rfl ∅ #[.int (hi+i*(-1)),H,B,#[t,rfl],#[rfl,rfl],x,λb c=>(d b c).1]]
 done:=by intro X m r l p i u s A H E I d st q;subst m r l;obtain⟨f0,f1,f2,f,g,j⟩:=d a (by simp);exact wpAny_pyNext_range_end (I.ok.hd p) st (by have:n<=i:=q;lia) λh' G=>#[rfl,I.turned (t':=s.toks) (λb o c e=>G b o c e) f0 f1 f g j]
 self:=λ_ _ _ _ _ st h=>NT st h
theorem zf{c:Int}{n:Nat}{g:TG}{k:TS}{D:Ends}{a:St}{H:Hp}(Pv:Nat->St->Hp->Prop)(l:Pv 0 a H)
  (r:∀i a H,i<n->Pv i a H->g (.int (c+i*(-1))) a H λh d=>k {D with nx:=Pv (i+1),ct:=Pv (i+1),bk:=D.nx} h d) (o:∀a H,Pv n a H->D.nx a H):
  ∃W:Nat->Nat->St->Hp->Prop,(∃m,W 0 m a H)/\∀i m a H,W i m a H->
   ((CQ c n).stop i H/\D.nx a H)\/((CQ c n).go i H/\∃N:St->Hp->Prop,(∀f H',N f H'->∃j,j<m/\W (i+1) j f H')/\∀x H',(CQ c n).yld i H x H'->g x a H' λh d=>k {D with nx:=N,ct:=N,bk:=D.nx} h d):=by
 refine#[λi m a H=>m=n-i/\i<=n/\Pv i a H,#[n,by simp,Ls _,l],?_];rintro i m a H ⟨rfl,q,p⟩;by_cases b:i<n
 .refine .inr #[b,Pv (i+1),λf H' s=>#[n- (i+1),LW b (LN _),rfl,b,s],λx H' y=> ?_];obtain⟨e,y⟩:=y;subst e y;exact r i a _ b p
 .have e:i=n:=LO q (LP b);subst e;exact .inl #[Kk _,o a H p]
section
variable{X:Cx}{tg:Expr}
def JN(b:TA):TE:=λc H Q=>b c H λvs a=>∃j:Int,vs=[.int j]/\∀p,a p=none->Q (.ref p) (upd a p (.rng 0 j))
theorem HV{a:Expr}{d:TA}{p pos:Pos}(g:Gl X "range")(i:X.mg "range"=none)(f:PA X [a] d)(k:starEach [a] X.env=[(false,eval a X.env)]:=by rfl):PE X (.Call (.Name "range" p) [a] [] pos) (JN d):=by
 intro l s v H Q I h;refine Call_ (iS I g i boot_range (Ma (thn (f pos l s v H _ I h) λus u ⟨vs,x,c,r1,m⟩=> ?_) k rfl));obtain⟨j,e,q⟩:=m;subst e;cases r1 with
 |cons r n=>
  cases n;obtain⟨t,rfl⟩:=r;refine call_range_1 ?_;exact#[.ref u.heap.objs.size,_,c.laid (λb o e=>KU _ e) (Kk _) (show cU X.prog X.w _ _ _ (.rng 0 j)from#[_,_,_,Lw _ rfl]),rfl,q _ (c.hok.fresh (Kk _))]
def JU(c:TA):TI:=λd H R=>c d H λvs b=>∃ (a:Addr) (j:Int),vs=[.ref a]/\b a=some (.rng 0 j)/\0<=j/\j<2^62/\R (CQ (j-1) j.toNat) b
theorem HR{l:Expr}{g:TA}{p pos:Pos}(y:Gl X "reversed")(z:X.mg "reversed"=none)(n:PA X [l] g)(B:starEach [l] X.env=[(false,eval l X.env)]:=by rfl):PI X tg (.Call (.Name "reversed" p) [l] [] pos) (JU g):=by
 intro K s N H R I h;refine Call_ (iS I y z boot_reversed (Ma (thn (n pos K s N H _ I h) λus c ⟨vs,f,d,r1,L⟩=> ?_) B rfl));obtain⟨a,j,e,A,G,J,q⟩:=L;subst e;cases r1 with
 |cons r M=>
  cases M;cases r;obtain⟨t,u,v,m⟩:=(show cU X.prog X.w f c.heap a (.rng 0 j)from d.hok a _ A);refine kK m G J ?_;have st:IsRangeIter (c.heap.push {cls:= .type "range_iterator",data:= .fields #v[rawInt (j-1),rawInt j,rawInt (-1)]}) c.heap.objs.size (j-1) j (-1):=Lw _ rfl;refine NT st #[c.heap.objs.size,[c.heap.objs.size],_,CQ (j-1) j.toNat,f,rfl,d.kept (t':=c.toks) λb o e=>KU _ e,vG _ (j-1) j.toNat,?_,λb x=> ?_,q]
  .have i:j-1+((0:Nat):Int)*(-1)=j-1:=by simp
   have k:(((j.toNat:Nat):Int) - ((0:Nat):Int))=j:=()
   show IsRangeIter _ _ (j-1+((0:Nat):Int)*(-1)) (((j.toNat:Nat):Int) - ((0:Nat):Int)) (-1);rw[i,k];exact st
  .have e:b=c.heap.objs.size:=by simpa using x
   subst e;exact d.fpOk (Kk _) (d.hok.fresh (Kk _))
end
end L2
namespace L2
open PySem PySem.Spec PyProof.Rows
theorem BI(bs:List Bool):(List.range bs.length).all (λi=>bs.getD i true)=bs.all id:=by
 rw[Mq,K2,K2];constructor
 .intro h b d;obtain⟨i,a⟩:=LQ d;have c:i<bs.length:=(Kh.mp a).1;have:=h i (J9.mpr c);rw[Kc,a]at this;exact this
 .intro h i a;have c:=J9.mp a;rw[Kc,Ky c];exact h _ (LD c)
section
variable{X:Cx}
theorem xJ{bs:List Bool}{a:List Value}(r:Vals (bs.map V.bl) a):TruthOf prog w A (λi v=>a.toArray[i]?=some v) (λi=>bs.getD i true):=by
 intro i v s Q E d e;have c:a[i]?=some v:=by simpa using d
 have h:i<a.length:=(Kh.mp c).1;have hl:=r.length;rw[J2]at hl;have f:(bs.map V.bl)[i]?=some (V.bl (bs.getD i true)):=by rw[Kv,Kc,Ky (show i<bs.length by lia)];rfl
 obtain⟨u,b,g⟩:=r.get f;rw[c]at b;cases b;cases g;exact MY e
def GQ(K:PySem.W.Frag):List V->Hp->VK->Prop:=λxs H Q=>∃ (a:Addr) (bs:List Bool),xs=[.ref a]/\SqL K H a (bs.map V.bl)/\Q (.bl (bs.all id)) H
theorem CM(d:X.calm=true):gJ X (.builtin "all") (GQ X.K):=by
 intro l s n H vs us Q I k h;obtain⟨a,bs,rfl,c,q⟩:=h;obtain⟨u,rfl,j⟩:=k.one;cases j;obtain⟨b,r1,p1,_⟩:=I.list c;have hl:=p1.isList;have g:a<s.heap.objs.size:=by obtain⟨_,e,_⟩:=hl;exact KO e
 have len:=r1.length;rw[J2]at len;refine call_all_walk (wpAny_pyIter_list hl #[s.heap.objs.size,[s.heap.objs.size,a],[s.heap.objs.size],b.toArray.size,_,_,λi=>bs.getD i true,rfl,Walks.list (A:=X.A.in1) (I.ok.hd d) _ a (Lp g) b.toArray,#[#[_,Lw _ rfl,rfl,rfl],hl.push _],xJ r1,λh' m f=> ?_]);refine#[.bl (bs.all id),H,I.kept (old_kept f),?_,q];rw[K7,<-len,BI];rfl
theorem qY{K:PySem.W.Frag}(h:X.K=K)(a:X.calm=true):gJ X (.builtin "all") (GQ K):=by subst h;exact CM a
end
end L2
namespace L2
open PySem PySem.Spec PyProof.Rows
def kD:List Expr->Option (List Int)
 | []=>some []
 | .Constant (.int i) _ _::a=>(kD a).map (i:: ·)
 |_=>none
inductive ou:List Expr->List Int->Prop
 |nil:ou [] []
 |cons {i:Int} {j:Nat} {p:Pos} {es:List Expr} {zs:List Int} (h:ou es zs):ou (.Constant (.int i) j p::es) (i::zs)
theorem mG:∀ {b:List Expr} {a:List Int},kD b=some a->ou b a
 | [],a,h=>by have e:a=[]:=(Lf h).symm;subst e;exact .nil
 |e::b,a,h=>by
  unfold kD at h;split at h
  .rename_i hh;cases hh
  .rename_i hh;cases hh;cases c:kD b with
   |none=>rw[c]at h;cases h
   |some d=>
    rw[c]at h;have e:_::d=a:=Lf h;subst e;exact .cons (mG c)
  .cases h
def GJ(a:List Int):TA:=λ_ H Q=>Q (a.map V.int) H
theorem BV(h:ou a b):PA X a (GJ b):=by
 induction h with
 |nil=>exact aq
 | @cons i j p a b h c=>exact ae (af (i:=i) (j:=j) (pos:=p)) c
def Dx:Stmt->Expr
 | .Assign _ e _=>e
 |_=> .Constant .none 0 #[0,0,0,0]
def zQ:Expr->Expr
 | .Subscript e _ _=>e
 |_=> .Constant .none 0 #[0,0,0,0]
def zi:Expr->List Expr
 | .List a _=>a
 |_=>[]
structure PSp(X:Cx)(st:Stmt)(t:TS):Prop where
 h:PS X st t
end L2
namespace L2
open PySem PySem.Spec PyProof.Rows
theorem qX:∀ (b:List (Str×NameKind)) (n:Nat) (a:List (Str×Addr)) {x:Str} {c:Addr},(x,c)∈cellsFrom n b a->(x,c)∈a\/n<=c
 | [],_,_,_,_,h=> .inl h
 |(name,kind)::r,n,a,x,c,h=>by
  unfold cellsFrom at h;split at h
  .rcases qX r (n+1) _ h with h|h
   .rcases J7.mp h with e|h
    .cases e;exact .inr (Kk _)
    .exact .inl h
   .exact .inr ()
  .exact qX r n a h
theorem vo:∀ (d:List (Str×NameKind)) (h:Heap) (a:List (Str×Addr)) {x:Str} {c:Addr},(x,c)∈cellsFrom h.objs.size d a->(x,c)∈a\/(pushCells h d).IsCell c none
 | [],_,_,_,_,h=> .inl h
 |(name,kind)::r,h,a,x,c,e=>by
  unfold cellsFrom at e;unfold pushCells;split at e
  .rename_i b;rw[J5 b];have f:(x,c)∈cellsFrom (h.push {cls:= .type "cell",data:= .cell none}).objs.size r ((name,h.objs.size)::a):=by rw[Np];exact e
   rcases vo r _ _ f with e|e
   .rcases J7.mp e with e|e
    .cases e;exact .inr #[_,OY _ _ _ _ (Lw _ rfl),rfl]
    .exact .inl e
   .exact .inr e
  .rename_i b;rw[J4 b];exact vo r h a e
theorem zJ(b:Nat):∀ (k:List (Str×NameKind)) (n:Nat) (a:List (Str×Addr)),(∀p∈a,p.2<n)->b<=n->(∀x y c,(x,c)∈a->(y,c)∈a->b<=c->x=y)->∀x y c,(x,c)∈cellsFrom n k a->(y,c)∈cellsFrom n k a->b<=c->x=y
 | [],_,_,_,_,h=>h
 |(name,kind)::r,n,a,hl,m,h=>by
  unfold cellsFrom;split
  .refine zJ b r (n+1) _ (λp g=> ?_) () λx y c d f l=> ?_
   .rcases J7.mp g with e|g
    .subst e;exact LN _
    .exact OB (hl p g)
   .rcases J7.mp d with i|d<;>rcases J7.mp f with j|f
    .cases i;cases j;rfl
    .cases i;exact absurd (hl _ f) (Mm _)
    .cases j;exact absurd (hl _ d) (Mm _)
    .exact h x y c d f l
  .exact zJ b r n a hl m h
theorem vn:∀ (g:List (Str×NameKind)) (n:Nat) (b:List (Str×Addr)) (x:Str),((∃y∈g,y.1=x/\y.2= .cell)\/∃c,b.lookup x=some c)->∃c,(cellsFrom n g b).lookup x=some c
 | [],_,_,_,h=>by
  rcases h with ⟨y,a,_⟩|h
  .cases a
  .exact h
 |(name,kind)::r,n,b,x,h=>by
  unfold cellsFrom;have j:(∃c,b.lookup x=some c)->∃c,((name,n)::b).lookup x=some c:=λ⟨c,e⟩=>by
   rw[MK];cases k:x==name with
   |true=>exact#[_,rfl]
   |false=>exact#[c,e]
  split
  .refine vn r (n+1) _ x ?_;rcases h with ⟨y,a,d,f⟩|h
   .rcases J7.mp a with e|a
    .subst e;refine .inr #[n,?_];rw[MK,show(x==name)=true from by simpa using d.symm]
    .exact .inl #[y,a,d,f]
   .exact .inr (j h)
  .rename_i i;refine vn r n b x ?_;rcases h with ⟨y,a,d,f⟩|h
   .rcases J7.mp a with e|a
    .subst e;exact absurd (by simpa using f) i
    .exact .inl #[y,a,d,f]
   .exact .inr h
theorem zI(b:Nat):∀ (k:List (Str×NameKind)) (n:Nat) (d:List (Str×Addr)) (x:Str),b<=n->((∃y∈k,y.1=x/\y.2= .cell)\/∀c,d.lookup x=some c->b<=c)->∀c,(cellsFrom n k d).lookup x=some c->b<=c
 | [],_,_,_,_,h,c,e=>by
  rcases h with ⟨y,a,_⟩|h
  .cases a
  .exact h c e
 |(name,kind)::r,n,d,x,j,h,c,e=>by
  unfold cellsFrom at e;split at e
  .refine zI b r (n+1) _ x () ?_ c e;by_cases i:x=name
   .refine .inr λc e=> ?_;rw[MK,show(x==name)=true from by simpa using i]at e;cases e;exact j
   .rcases h with ⟨y,a,f,g⟩|h
    .rcases J7.mp a with e|a
     .subst e;exact absurd f.symm i
     .exact .inl #[y,a,f,g]
    .refine .inr λc e=> ?_;rw[MK,show(x==name)=false from by simpa using i]at e;exact h c e
  .rename_i l;refine zI b r n d x j ?_ c e;rcases h with ⟨y,a,f,g⟩|h
   .rcases J7.mp a with e|a
    .subst e;exact absurd (by simpa using g) l
    .exact .inl #[y,a,f,g]
   .exact .inr h
theorem lR{a:Scope}(h:(relabel a env).names.lookup x=some .cell\/(relabel a env).names.lookup x=some .free):∃y∈a.names,y.1=x/\(y.2= .cell\/y.2= .free):=by
 obtain⟨k,i,m⟩:∃k,(k=NameKind.cell\/k=NameKind.free)/\(x,k)∈(relabel a env).names:=by
  rcases h with h|h
  .exact#[_, .inl rfl,LL h]
  .exact#[_, .inr rfl,LL h]
 obtain⟨y,f,e⟩:=Ka.mp (show(x,k)∈a.names.map _ from m);obtain⟨n,c⟩:=y;dsimp only at e;split at e
 .rename_i d;have b:n=x:=K3 Prod.fst e;refine#[_,f,b, .inr ?_];simp only[Kn,N4]at d;exact d.1.1
 .have b:n=x:=K3 Prod.fst e;have g:c=k:=K3 Prod.snd e;refine#[_,f,b,?_];show c=_\/c=_;rw[g];exact i
theorem rE{M:Model}{A:Around}{E:Value->Shared->Prop}{s:Shared}{scope:Scope}{globals:Addr}{closure:List (Str×Addr)}{a:Str}{func:Option Addr}{code:Value}{outer:Env}{Q:Env->Shared->Prop}
  (h:Q (newEnv scope s.heap.objs.size globals (cellsFrom (s.heap.objs.size+1) scope.names closure) a func code (some outer) builtinsNs) {s with heap:=pushCells (s.heap.push {cls:= .type "dict",data:= .dict #v[]}) scope.names}):
  wpAny M A (newFunctionEnv scope globals closure [] a func code (some outer)) Q E s:=by
 simp only[newFunctionEnv,Option.isSome_some,O5];refine Lb (wpAny_alloc ?_);refine Lb (wpAny_layCells _ (λname kind cells=>by cases b:kind==NameKind.cell<;>simp[b]) _ _ _ _ ?_);rw[show({s with heap:=s.heap.push {cls:= .type "dict",data:= .dict #v[]}}:Shared).heap.objs.size=s.heap.objs.size+1 from Np ..];refine Lb ?_;rw[List.forIn_nil];exact LK (LK h)
theorem oo{env:Env}(h:∀y∈b,y.2= .free->∃c,env.cells.lookup y.1=some c)(e:(x,c)∈jm env b):env.cells.lookup x=some c:=by
 have k:∀ (b:List (Str×NameKind)) (d:List (Str×Addr)),(∀y∈b,y.2= .free->∃c,env.cells.lookup y.1=some c)->(∀x c,(x,c)∈d->env.cells.lookup x=some c)->∀x c,(x,c)∈b.foldl (gS env) d->env.cells.lookup x=some c:=by
  intro b
  induction b with
  |nil=>intro d _ f x c e;exact f x c e
  |cons y r n=>
   intro d h f;refine n _ (λz m=>h z (Ke _ m)) λx c e=> ?_;unfold gS at e;split at e
   .rename_i l;obtain⟨a,j⟩:=h y Kp (by simpa using l);rcases J7.mp e with e|e
    .have g:x=y.1:=K3 Prod.fst e;have i:c=(env.cells.lookup y.1).getD 0:=K3 Prod.snd e;rw[g,i,j];rfl
    .exact f x c e
   .exact f x c e
 exact k b [] h (λ_ _ z=>by cases z) x c e
theorem vm:∀ (c:List (Str×NameKind)) (n:Nat) (a:List (Str×Addr)) (x:Str),(∀y∈c,y.1=x->y.2≠ .cell)->(cellsFrom n c a).lookup x=a.lookup x
 | [],_,_,_,_=>rfl
 |(name,kind)::r,n,a,x,h=>by
  unfold cellsFrom;split
  .rename_i d;rw[vm r (n+1) _ x λy b=>h y (Ke _ b),MK];cases f:x==name with
   |true=>
    have e:x=name:=by simpa using f
    exact absurd (by simpa using d) (h _ Kp e.symm)
   |false=>rfl
  .exact vm r n a x λy b=>h y (Ke _ b)
def cI(X:Cx)(d:List Str)(a:Scope)(b:Shared)(c:Hp)(e:List Addr)(f:List (Addr×Obj)):Cx where
 prog:=X.prog
 w:=X.w
 K:=X.K
 mg:=X.mg
 base:=X.base
 A:=X.A
 N:=d
 s₀:=b
 H₀:=c
 env:=compEnvC a (cellsFrom (b.heap.objs.size+1) a.names (jm X.env a.names)) b.heap.objs.size X.env
 outer:=X.stack
 stack:=X.stack
 ex:=e
 fn:=λx=>a.names.lookup x==some .cell
 calm:=X.calm
 pn:=X.pn++f
 xe:=λ_ _=>False
section
variable{X:Cx}{elt target iter:Expr}{ifs:List Expr}{sc:Scope}{pos:Pos}{wi:TI}{g:TG}{tc:TT}{te:TE}{vars frn:List Str}{fr:List Nat}
theorem oN(hc:X.calm=true)(fw:∀y∈sc.names,y.2= .free->X.env.kindOf y.1=some .cell\/X.env.kindOf y.1=some .free)(fU:sc.names.all (λy=> !(y.2== .cell)|| !(frn.contains y.1))=true)(fA:sc.kind= .function)
  (d1:o4 X sc fr frn)
  (hg:∀ak a0 t M,PG (cI X (vars++frn) sc ak a0 t M) target g) (ht:∀ak a0 t M,PTs (cI X (vars++frn) sc ak a0 t M) ifs tc) (he:∀ak a0 t M,PE (cI X (vars++frn) sc ak a0 t M) elt te)
  {M:List (Addr×Obj)} {G:Shared} {U:St} {H2:Hp} {Q:VK} {E:Value->Shared->Prop} {R:Value->Addr->Result->Shared->Prop} {it:Addr} {t:List Addr} {tn:Nat->Heap->Prop} {J:It}
  (I2:Inv X M U H2 G) (T:Turn X.prog X.w X.K target J t it tn) (d7:tn 0 G.heap) (f2:∀b∈t,vA X M H2 b)
  (h:LCW J g tc te vars.length fr U H2 Q)
  (hR:∀D C s',Fd X M U Q D C s'->R (.ref D) C (.ok .next) s'):
  wpAny (model X.prog X.w) X.A (newList []) (λacc ak=>wpAny (model X.prog X.w) X.A (newFunctionEnv sc X.env.globals (jm X.env sc.names) [] X.env.qual none .none (some X.env)) (λc9 hE=>
   codeAny (model X.prog X.w) X.A (.compStart (.ListComp elt [#[target,iter,ifs,0]] sc pos) 0 (.ref it) acc {c9 with scope:=relabel sc X.env}) (R acc c9.locals) hE) E ak) E G:=by
 have b1:∀y∈sc.names,y.2= .free->∃c,X.env.cells.lookup y.1=some c:=λy H hk=>I2.ok.has y.1 (fw y H hk);obtain⟨W,⟨m0,w0⟩,turn⟩:=h G.heap.objs.size I2.fresh;refine wpAny_newObj_type (rE ?_);dsimp only;have s:Inv X M U (upd H2 G.heap.objs.size (.lst [])) {G with heap:=G.heap.push {cls:= .type "list",data:= .seq ([]:List Value).toArray}}:=I2.lnew (t':=G.toks) .nil (Ls _);generalize cL:({G with heap:=G.heap.push {cls:= .type "list",data:= .seq ([]:List Value).toArray}}:Shared)=a at s;have b2:a.heap=G.heap.push {cls:= .type "list",data:= .seq ([]:List Value).toArray}:=by rw[<-cL]
 have hsz:a.heap.objs.size=G.heap.objs.size+1:=by rw[b2,Np]
 have gr:∀b o,G.heap.get? b=some o->a.heap.get? b=some o:=λb o e=>by rw[b2];exact KU _ e
 generalize hD:G.heap.objs.size=D at*;generalize fa:upd H2 D (.lst [])=H3 at*;have hC:(G.heap.push {cls:= .type "list",dict:=none,data:= .seq ([]:List Value).toArray}).objs.size=a.heap.objs.size:=by rw[b2]
 rw[hC];have e7:pushCells ((G.heap.push {cls:= .type "list",dict:=none,data:= .seq ([]:List Value).toArray}).push {cls:= .type "dict",data:= .dict #v[]}) sc.names=pushCells (a.heap.push {cls:= .type "dict",data:= .dict #v[]}) sc.names:=by rw[b2]
 rw[e7];have fV:(pushCells (a.heap.push {cls:= .type "dict",data:= .dict #v[]}) sc.names).Ns a.heap.objs.size (λ_=>none):=(Heap.Ns.new a.heap (.type "dict")).keeps (OY _ _);have aC:∀b o,a.heap.get? b=some o->(pushCells (a.heap.push {cls:= .type "dict",data:= .dict #v[]}) sc.names).get? b=some o:=λb o e=>OY _ _ _ _ (KU _ e);have ft:∀ {x c},(x,c)∈cellsFrom (a.heap.objs.size+1) sc.names (jm X.env sc.names)->(x,c)∈jm X.env sc.names\/(pushCells (a.heap.push {cls:= .type "dict",data:= .dict #v[]}) sc.names).IsCell c none:=λ{x c} e=>by refine vo sc.names (a.heap.push {cls:= .type "dict",data:= .dict #v[]}) _ (x:=x) ?_;rw[Np];exact e
 generalize pushCells (a.heap.push {cls:= .type "dict",data:= .dict #v[]}) sc.names=b4 at*;have bX:∀b∈t,b<G.heap.objs.size:=λb f=>by obtain⟨o,e,_⟩:=T.obj _ _ d7 b f;exact KO e
 have e0:∀b∈t,b≠D:=λb f=>by rw[<-hD];exact Lp (bX b f)
 have dp:∀b∈t,b≠a.heap.objs.size:=λb f=>by rw[hsz];exact Lp (OB (hD▸bX b f))
 have e4:∀b∈t,H3 b=none:=λb f=>by rw[<-fa,aJ (e0 b f)];exact(f2 b f).1
 have dv:∀b∈t,b∉frs X.stack:=λb f z=>by
  obtain⟨_,f1,dj,_⟩:=f2 b f;rcases J7.mp (s.stkSub b z)with e|e
  .exact f1 e
  .exact dj e
 have ea:tn 0 b4:=T.keep _ _ _ d7 λb f o e=>aC b o (gr b o e);have eM:∀x c,(jm X.env sc.names).lookup x=some c->X.env.cells.lookup x=some c:=λx c e=>IQ b1 e;have cn:∀x c,(x,c)∈jm X.env sc.names->∃y,X.env.cells.lookup y=some c:=λx c e=>#[x,oo b1 e];have bM:∀x c,(cellsFrom (a.heap.objs.size+1) sc.names (jm X.env sc.names)).lookup x=some c->(∃y,X.env.cells.lookup y=some c)\/(a.heap.objs.size+1<=c/\b4.IsCell c none):=λx c e=>by
  have m:=LL e;rcases qX _ _ _ m with h|h
  .exact .inl (cn _ _ h)
  .rcases ft m with h'|h'
   .exact .inl (cn _ _ h')
   .exact .inr #[h,h']
 have eH:∀y c,X.env.cells.lookup y=some c->c<a.heap.objs.size:=λy c e=>by obtain⟨v,q⟩:=s.cell y c e;exact q.lt
 have eG:∀x y c,(cellsFrom (a.heap.objs.size+1) sc.names (jm X.env sc.names)).lookup x=some c->(cellsFrom (a.heap.objs.size+1) sc.names (jm X.env sc.names)).lookup y=some c->x=y:=λx y c e1 O=>by
  have d5:∀p∈jm X.env sc.names,p.2<a.heap.objs.size+1:=λp hp=>by obtain⟨y,H⟩:=cn p.1 p.2 hp;exact OB (eH y _ H)
  by_cases hc:a.heap.objs.size+1<=c
  .exact zJ (a.heap.objs.size+1) sc.names _ _ d5 (Kk _) (λx y c hx _ hc=>absurd (Kb (d5 _ hx) hc) (Mm _)) x y c (LL e1) (LL O) hc
  .have gj:(x,c)∈jm X.env sc.names:=by
    rcases qX _ _ _ (LL e1)with h|h
    .exact h
    .exact absurd h hc
   have gk:(y,c)∈jm X.env sc.names:=by
    rcases qX _ _ _ (LL O)with h|h
    .exact h
    .exact absurd h hc
   exact s.ok.inj x y c (oo b1 gj) (oo b1 gk)
 generalize L:cI X (vars++frn) sc a H3 t M=B;have gz:B.Ok:=by
  rw[<-L];refine#[s.ok.mod,fA,s.ok.glob,s.ok.blt,Kk _,eG,λx hx=> ?_,(λx c z e=> ?_),s.ok.hd,s.ok.frames, .inl rfl,
   λb f=>#[dp b f,λx c e z=> ?_],s.bs,Kd s.ok.bsz s.sz,λb o e f=> ?_,λb f=>dv b f,s.stack,s.stkFree]
  .obtain⟨y,H,h1,h2|h2⟩:=lR hx
   .exact vn _ _ _ x (.inl #[y,H,h1,h2])
   .exact vn _ _ _ x (.inr (EM #[y,H,h1,h2]))
  .have hz:sc.names.lookup x=some .cell:=by simpa using (show(sc.names.lookup x==some NameKind.cell)=true from z)
   exact MZ (zI (a.heap.objs.size+1) sc.names _ _ x (Kk _) (.inl #[_,LL hz,rfl,rfl]) c e)
  .rcases bM x c e with ⟨y,H⟩|⟨h,_⟩
   .exact(f2 b f).2.2.2.2.1 y c H z
   .subst z;have q:=bX c f;rw[hsz,<-hD]at h;exact Mm _ (Kb q (MZ (MZ h)))
  rcases(f2 b f).2.2.2.1 with z|z
  .exact s.ok.noex b o e z
  .exact absurd (Kb (KO e) (Kd s.ok.bsz z)) (Mm _)
 have I4:Inv B [] (inner vars.length fr U) H3 {G with heap:=b4}:=by
  have f6:a.os=G.os:=by rw[<-cL]
  have fz:a.gens=G.gens:=by rw[<-cL]
  refine#[gz,by rw[<-L];exact f6.symm,by rw[<-fz];exact s.bare,by rw[<-L];exact Un.kept aC,#[λ_=>none,by rw[<-L];exact fV,λi x v e1 O e3=> ?_],λx c e=> ?_,?_,λx c e=> ?_,λp hp=> ?_,by rw[<-L];exact s.hok.kept aC,?_]
  .rw[<-L]at e1 e3⊢;have cp:(vars++frn)[i]?=some x:=e1;unfold inner at O;by_cases hi:i<vars.length
   .rw[KR (by simpa using hi),OT]at O;rw[J5 hi]at O;cases O
   .rw[KN (by simpa using LP hi),NW,Kv]at O;rw[KN (LP hi)]at cp;cases ej:fr[i-vars.length]? with
    |none=>rw[ej]at O;cases O
    |some j=>
     rw[ej]at O;have bN:(U[j]?).join=some v:=Lf O;have eN:U[j]?=some (some v):=by
      cases q:U[j]? with
      |none=>rw[q]at bN;cases bN
      |some o=>rw[q]at bN;exact K3 some bN
     obtain⟨y,h1,h2,h3,h4⟩:=d1.get ej;rw[h1]at cp;cases cp;obtain⟨m,hn,hl⟩:=s.loc;obtain⟨u,r,l⟩:=hl j x v h2 eN (by rcases h3 with z|z;exact .inr (.inl z);exact .inr (.inr z));refine#[u,r, .inr #[h4,?_]];have d4:∀y∈sc.names,y.1=x->y.2≠ .cell:=λy H gg gf=>by have:=K2.mp fU y H;rw[gf,gg]at this;have hm:frn.contains x=true:=List.contains_iff_mem.mpr (Km h1);rw[hm]at this;cases this
     have fx:∃y∈sc.names,y.1=x/\y.2= .free:=by
      obtain⟨y,H,z1,z2|z2⟩:=lR h4
      .exact absurd z2 (d4 y H z1)
      .exact#[y,H,z1,z2]
     obtain⟨c,dV⟩:=EM (env:=X.env) fx;have fl:(cellsFrom (a.heap.objs.size+1) sc.names (jm X.env sc.names)).lookup x=some c:=(vm sc.names _ _ x d4).trans dV;have fm:=eM x c dV;rcases l with ⟨k,_⟩|⟨_,c',dE,fs⟩
     .rcases h3 with z|z
      .rw[z]at k;cases k
      .rw[z]at k;cases k
     .rw[fm]at dE;cases dE;exact#[c,fl,fs.keeps aC]
  .rw[<-L]at e;rcases bM x c e with ⟨y,H⟩|⟨_,h⟩
   .obtain⟨v,z⟩:=s.cell y c H;exact#[v,z.keeps aC]
   .exact#[_,h]
  .rw[<-L];exact s.fresh
  .rw[<-L]at e;rcases bM x c e with ⟨y,H⟩|⟨h,_⟩
   .exact s.freeC y c H
   .exact s.hok.fresh (MZ h)
  .rw[<-L]at hp⊢;rw[LF]at hp;obtain⟨q1,q2,q3,q4,q5⟩:=s.pin p hp;refine#[aC _ _ q1,q2,Lp (KO q1),λz=> ?_,q5];rcases J7.mp (s.stkSub p.1 z)with e|e
   .exact q3 e
   .exact q4 e
  .rw[<-L];show(inner vars.length fr U).length=(vars++frn).length;unfold inner;rw[Kz,NW,J2,Kz,d1.len]
 have c4:∀ {H':Hp},(∀b∈t,H' b=none)->∀b∈t,vA B [] H' b:=λhn b f=>by
  rw[<-L];obtain⟨_,f1,dj,f3,f4,f5⟩:=f2 b f;refine#[hn b f,dp b f,dv b f, .inl f,λx c e=> ?_,λp hp=> ?_]
  .rcases bM x c e with ⟨y,H⟩|⟨h,_⟩
   .exact f4 y c H
   .exact λz=>by subst z;have q:=bX c f;rw[hsz,<-hD]at h;exact Mm _ (Kb q (MZ (MZ h)))
  exact f5 p (by simpa [cI]using hp)
 have back:∀ {ep:St} {H7:Hp} {s7:Shared},Inv B [] ep H7 s7->Inv X M U H7 s7:=λ{ep H7 s7} I7=>by
  have ho:s7.os=a.os:=by have:=I7.os;rw[<-L]at this;exact this
  have hu:Un (frs X.stack) t H3 H7 a.heap s7.heap:=by have:=I7.base;rw[<-L]at this;exact this
  have hk:HOk X.prog X.w H7 s7.heap:=by have:=I7.hok;rw[<-L]at this;exact this
  refine s.call' ho hu hk I7.bare λb f=> ?_;obtain⟨_,f1,_,f3,f4,f5⟩:=f2 b f;exact#[f3,f1,f4,f5]
 have fI:B.prog=X.prog/\B.w=X.w/\B.K=X.K/\B.A=X.A/\B.calm=true/\B.env=compEnvC sc (cellsFrom (a.heap.objs.size+1) sc.names (jm X.env sc.names)) a.heap.objs.size X.env/\B.xe=(λ_ _=>False)/\B.env.locals=a.heap.objs.size:=by rw[<-L];exact#[rfl,rfl,rfl,rfl,hc,rfl,rfl,rfl]
 obtain⟨eP,ew,eK,eA,ec,eE,ex,eL⟩:=fI;have d2:=hg a H3 t M;have d3:=ht a H3 t M;have d0:=he a H3 t M;rw[L]at d2 d3 d0;have loop:∀s4:Shared,s4={G with heap:=b4}->
   codeAny (model X.prog X.w) X.A (.compLoop (.ListComp elt [#[target,iter,ifs,0]] sc pos) 0 (.ref it) (.ref D) B.env) (R (.ref D) a.heap.objs.size) s4:=by
  rintro s4 rfl;refine codeAny_loop rfl (λn s'=>∃i bt H',Inv B [] bt H' s'/\tn i s'.heap/\(∀b∈t,H' b=none)/\W i n bt H') (λn s5 hI=> ?_) m0 #[0,_,H3,I4,ea,e4,w0];obtain⟨i,b8,H5,I5,eb,dr,w5⟩:=hI;show wpAny _ X.A ((compTurn (.ListComp elt [#[target,iter,ifs,0]] sc pos) 0 (.ref it) (.ref D) B.env).onRaise (λx=>do noteFrame x B.env;theTreesLotGoes x)) _ _ s5;refine wpAny_noted (wpAny_noRaise ?_);rw[compTurn_list];refine Lb (wpAny_standAt (Lb ?_));rcases turn i n b8 H5 w5 with ⟨stop,q⟩|⟨go,N,hN,step⟩
  .have z:=T.done B eP ew eK ec i [] s5 b8 H5 (λ_ _=>False) I5 (c4 dr) eb stop;rw[eA]at z;refine thn z λr s6 ⟨hr,I6⟩=> ?_;subst hr;refine LK (hR _ _ _ #[H5,back I6,q,?_,?_,OH s.lt,s.sz,λx c e z=> ?_,λp hp z=> ?_])
   .obtain⟨m,hn,_⟩:=I6.loc;rw[eL]at hn;exact#[m,hn]
   .have:=I6.free;rw[eL]at this;exact this
   .obtain⟨v,q⟩:=s.cell x c e;exact absurd q.lt (by rw[z];exact Mm _)
   .exact absurd (KO (s.pin p hp).1) (by rw[z];exact Mm _)
  .have z:=T.item B eP ew eK ec i [] s5 b8 H5 (λ_ _=>False) I5 (c4 dr) eb go;rw[eA]at z;refine thn z λr s6 ⟨u,hr,h6⟩=> ?_;subst hr;refine Lb (thn h6 λ_ s7 ⟨x,H7,I7,r7,y7,c3,e5⟩=> ?_);have ey:=I7.pinned (c4 e5) (T.obj _ _ c3);have zg:=d2 _ s7 b8 H7 x u _ ey r7 (step x H7 y7);rw[eP,ew,eA,ex]at zg;refine Lb (thn zg λ_ s8 ⟨cb,H8,I8,q8⟩=> ?_);have zt:=d3 _ s8 cb H8 _ I8 q8;rw[eP,ew,eA,ex]at zt;refine Lb (thn zt λok s9 ⟨H9,I9,q9⟩=> ?_);have again:∀ {bB:St} {Ha:Hp} {sa:Shared},Inv B ([]++qj t s7.heap) bB Ha sa->N bB Ha->∃m,m<n/\∃i bt H',Inv B [] bt H' sa/\tn i sa.heap/\(∀b∈t,H' b=none)/\W i m bt H':=λ{bB Ha sa} Ia na=>by obtain⟨m',hm,wa⟩:=hN bB Ha na;refine#[m',hm,i+1,bB,Ha,Ia.unpinned,T.keep _ _ _ c3 λb f o e=>(Ia.pin (b,o) (Lj _ (Lj _ (ji f e)))).1,λb f=> ?_,wa];obtain⟨o,e,d⟩:=T.obj _ _ c3 b f;exact(Ia.pin (b,o) (Lj _ (Lj _ (ji f e)))).2.1
   cases ok with
   |false=>
    rw[J4 Ku]at q9;exact LK #[rfl,again I9 q9]
   |true=>
    rw[J5 rfl]at q9;have ze:=d0 _ s9 cb H9 _ I9 q9;rw[eP,ew,eA,ex]at ze;refine Lb (Lb (thn ze λy sa ⟨yv,Ha,Ia,ra,xs,gd,fB,na⟩=>Lb ?_));have zm:=cF (X:=B) _ sa cb Ha (.ref D) [yv] (.ref D) [y] (λ_ Hb=>N cb Hb) Ia rfl (.cons ra .nil) #[D,xs,yv,rfl,rfl,gd,fB,na];rw[eP,ew,eA,ex]at zm;exact thn zm λ_ sb ⟨vb,Hb,Ib,_,nb⟩=>LK (LK #[rfl,again Ib nb])
 have e:({(newEnv sc a.heap.objs.size X.env.globals (cellsFrom (a.heap.objs.size+1) sc.names (jm X.env sc.names)) X.env.qual none .none (some X.env) builtinsNs)with scope:=relabel sc X.env}:Env)=B.env:=by rw[eE];rfl
 have dm:=codeAny_compStart_list (elt:=elt) (target:=target) (iter:=iter) (ifs:=ifs) (rest:=[]) (scope:=sc) (pos:=pos) (loop _ rfl) (T.self _ 0 _ _ _ ea (loop _ rfl));rw[<-e]at dm;exact dm
theorem Ie(N:X.calm=true)(aa:sc.names.all (λy=> !(y.2== .free)||(X.env.kindOf y.1==some .cell||X.env.kindOf y.1==some .free))=true)(aA:sc.names.all (λy=> !(y.2== .cell)|| !(frn.contains y.1))=true)(l:sc.kind= .function)
  (ay:sc.names.all (λy=> !(y.2== .local)||(sc.names.lookup y.1==some .local))=true) (ab:o4 X sc fr frn) (hi:PI X target iter wi)
  (hg:∀i f d a,PG (cI X (vars++frn) sc i f d a) target g) (ht:∀i f d a,PTs (cI X (vars++frn) sc i f d a) ifs tc) (O:∀i f d a,PE (cI X (vars++frn) sc i f d a) elt te)
  (hs:∀x,foldedSetIterable iter X.env x=pure x:=by intro _;rfl):PE X (.ListComp elt [#[target,iter,ifs,0]] sc pos) (tLC wi g tc te vars.length fr):=by
 intro a s n H Q I h;have k:=GW aa;have ar:=GS ay;rw[eval_ListComp];have U:∀y∈sc.names,y.2= .free->∃c,X.env.cells.lookup y.1=some c:=λy hy hk=>I.ok.has y.1 (k y hy hk);refine wpAny_comprehension_free (use:=none) rfl hs (kR U) l ar (thn (hi a s n H _ I h) λv s1 u=>thn u λbc s2 z=> ?_);obtain⟨it,d,tn,J,H2,e,r,T,a4,f2,q⟩:=z;subst e;refine oN (R:=λt C=>compPost (model X.prog X.w) X.A X.xe none (EP X a n Q) t C) N k aA l ab hg ht O r T a4 f2 q λD C s' j=> ?_;obtain⟨H',p,q',⟨m,hn⟩,K,B,M,G,L⟩:=j;refine#[m,hn,λh' aC=>#[.ref D,H',?_,rfl,q']];exact p.turned (t':=s'.toks) (λb o j e=>(aC.2 b j).trans e) K B (.inr M) G L
theorem BJ{i:Nat}{x:Str}{k L:Pos}(hN:X.N.Nodup)(a5:X.N[i]?=some x)(K:X.env.kindOf x=some .local)(hc:X.calm=true)
  (aS:sc.names.all (λy=> !(y.2== .free)||(X.env.kindOf y.1==some .cell||X.env.kindOf y.1==some .free))=true) (bt:sc.names.all (λy=> !(y.2== .cell)|| !(frn.contains y.1))=true) (G:sc.kind= .function)
  (bk:sc.names.all (λy=> !(y.2== .local)||(sc.names.lookup y.1==some .local))=true) (a0:o4 X sc fr frn) (hi:PI X target iter wi)
  (hg:∀n l j d,PG (cI X (vars++frn) sc n l j d) target g) (ht:∀n l j d,PTs (cI X (vars++frn) sc n l j d) ifs tc) (he:∀n l j d,PE (cI X (vars++frn) sc n l j d) elt te)
  (bS:swapsWith (.ListComp elt [#[target,iter,ifs,0]] sc pos) (some (.Name x k)) L.line X.env=pure true:=by rfl)
  (hs:∀x,foldedSetIterable iter X.env x=pure x:=by intro _;rfl):PS X (.Assign [.Name x k] (.ListComp elt [#[target,iter,ifs,0]] sc pos) L) (yp (tLC wi g tc te vars.length fr) (bD i)):=by
 intro d s σ H p I h;have B:=GW aS;have bj:=GS bk;rw[exec_Assign_Name_used _ _ _ _ bS];have aE:∀y∈sc.names,y.2= .free->∃c,X.env.cells.lookup y.1=some c:=λy hy hk=>I.ok.has y.1 (B y hy hk);refine Lb (wpAny_standAt (Lb ?_));show wpAny _ X.A (do let _<-comprehension (.ListComp elt [#[target,iter,ifs,0]] sc pos) sc X.env _ (newList []) false (eval iter X.env) (some (assign (.Name x k) X.env))) _ _ s;refine Lb (thn (Q:=λ_ f=>SP X d p .next f) (wpAny_comprehension_free (use:=some (assign (.Name x k) X.env)) (Q:=λ_ f=>SP X d p .next f) rfl hs (kR aE) G bj (thn (hi d s σ H _ I h) λv s1 h1=>thn h1 λcb s2 h2=> ?_)) λ_ f hq=>LK (LK hq));obtain⟨it,j,tn,J,H2,e,O,T,b4,f2,q⟩:=h2;subst e;refine oN (R:=λaa C=>compPost (model X.prog X.w) X.A X.xe (some (assign (.Name x k) X.env)) (λ_ f=>SP X d p .next f) aa C) hc B bt G a0 hg ht he O T b4 f2 q λD C f r=> ?_;obtain⟨H',M,q',⟨m,hn⟩,ai,t,ak,u,aj⟩:=r;show wpAny _ X.A (assign (.Name x k) X.env (.ref D)) _ _ f;refine wpAny_assign_Name (sh M hN a5 (.inl K) (v:= .ref D) rfl (λs3 U bN=> ?_) (.inr K));obtain⟨a,sb,ha⟩:=bN;have aA:C≠a:=by
  rcases ha with e|e
  .rw[e];exact t
  .exact λz=>u x a e z.symm
 refine#[m,hn.sameBut sb aA,λh' bM=>#[_,H',?_,q']];exact U.turned (t':=s3.toks) (λb o r e=>(bM.2 b r).trans e) ai t (.inr ak) u aj
end
end L2
namespace L2
open PySem PySem.Spec PyProof.Rows
end L2
namespace L2
open PySem PySem.Spec PySem.W PyProof.Rows PySem.SeqAt
end L2
namespace L2
open PySem PySem.Spec PyProof.Rows
end L2
namespace L2
open PySem PySem.Spec PySem.W PyProof.Rows PySem.SeqAt
def ri(H H':Hp):Prop:=∀b xs,H b=some (.tup xs)->H' b=some (.tup xs)
theorem ri.of(h:Same H H'):ri H H':=λb xs e=>h b _ e
theorem ri.trans(a:ri H H1)(b:ri H1 H2):ri H H2:=λc xs e=>b c xs (a c xs e)
theorem ri.upd{H:Hp}{q:Addr}{a:List V}{o:HO}(h:H q=some (.lst a)):ri H (upd H q o):=λb xs e=>by rw[aJ (oI e h (by intro z;cases z))];exact e
theorem ri.new(h:H q=none):ri H (L2.upd H q o):=λb xs e=>by rw[aJ (aM e h)];exact e
def ju(H:Hp)(xs:List V)(b:List (Nat×Nat)):Prop:=xs.length=b.length/\∀ (i:Nat) (t:Nat×Nat),b[i]?=some t->∃a,xs[i]?=some (.ref a)/\H a=some (.tup [.int t.1, .int t.2])
theorem ju.nil:ju H [] []:=#[rfl,λi t h=>by simp at h]
theorem ju.snoc(h:ju H xs d)(l:H a=some (.tup [.int t.1, .int t.2])):ju H (xs++[.ref a]) (d++[t]):=by
 refine#[by rw[Kz,Kz,h.1];rfl,λi u c=> ?_];by_cases f:i<d.length
 .rw[KR f]at c;obtain⟨b,j,k⟩:=h.2 i u c;exact#[b,by rw[KR (by rw[h.1];exact f)];exact j,k]
 .rw[KN ()]at c;have g:i-d.length=0:=by
   cases e:i-d.length with
   |zero=>rfl
   |succ n=>rw[e]at c;simp at c
  rw[g]at c;cases c;refine#[a,?_,l];rw[KN (by rw[h.1];lia),h.1,g];rfl
theorem ju.at{H:Hp}{xs:List V}{b:List (Nat×Nat)}(h:ju H xs b){i:Nat}{y:V}(e:xs[i]?=some y):∃a t,b[i]?=some t/\y= .ref a/\H a=some (.tup [.int t.1, .int t.2]):=by
 have d:i<b.length:=by rw[<-h.1];exact(Kh.mp e).1
 obtain⟨a,c,f⟩:=h.2 i (b[i]) (Ky d);rw[e]at c;exact#[a,b[i],Ky d,Lf c,f]
theorem pJ:∀ (a:List Value) (n k:Nat),a.length=n->(∀ (i:Nat) (v:Value),a[i]?=some v->∃t,v= .int (((k+i:Nat)):Int) t)->Vals (((List.range' k n).map λi:Nat=>(i:Int)).map V.int) a
 | [],0,_,_,_=> .nil
 |v::r,n+1,k,hl,h=>by
  obtain⟨t,e⟩:=h 0 v rfl;subst e;exact .cons #[t,rfl] (pJ r n (k+1) (Nat.succ.inj hl) λi u c=>by obtain⟨t',b⟩:=h (i+1) u (by simpa using c);exact#[t',by rw[b,show k+(i+1)=k+1+i by lia]])
end L2
namespace L2
open PySem PySem.Spec PyProof.Rows
def Itz(K:PySem.W.Frag)(a b:Addr):It:=
 #[λi H=>∃xs c x y,SqL K H a xs/\SqL K H b c/\xs[i]?=some x/\c[i]?=some y,
  λi H x H'=>∃t,x= .ref t/\H t=none/\∃v u,(∀xs,SqL K H a xs->xs[i]?=some v)/\(∀c,SqL K H b c->c[i]?=some u)/\H'=upd H t (.tup [v,u]),
  λi H=>∃xs c,SqL K H a xs/\SqL K H b c/\(xs.length<=i\/c.length<=i)]
theorem Aa{z TI TO a c b:Addr}(h:b∈[z,TO,a,c]):b∈[z,TI,TO,a,c]:=by
 rcases J7.mp h with h|h
 .exact J7.mpr (.inl h)
 .exact Ke _ (Ke _ h)
theorem gB{z TO c d b:Addr}(a:b∉ [z,TO,c,d]):b≠z/\b≠TO/\b≠c/\b≠d:=by simp only[J7,Ki,K0,OL]at a;exact a
theorem C3{P:Program}{w:World}{K:PySem.W.Frag}{elts:List Expr}{x1:Nat}{tp:Pos}(l1 l2 z TI TO j l:Addr)(D:ZipApart z TI TO j l l1 l2):
  Turn P w K (.Tuple elts x1 tp) (Itz K l1 l2) [z,TI,TO,j,l] z (λi h=>IsZip h z TI TO .none/\IsPair h TI (.ref j) (.ref l)/\(∃a b,IsPair h TO a b)/\h.IsListIter j l1 i/\h.IsListIter l l2 i) where
 mem:=by simp
 obj:=λi h st b f=>by
  obtain⟨g,m,⟨G,J,r⟩,n,p⟩:=st;simp only[J7,Ki,K0]at f;rcases f with rfl|rfl|rfl|rfl|rfl
  .exact#[_,g,λv q=>by have B:Data.fields _=Data.cell v:=q;cases B]
  .exact#[_,m,λv q=>by have B:Data.seq _ _=Data.cell v:=q;cases B]
  .exact#[_,r,λv q=>by have B:Data.seq _ _=Data.cell v:=q;cases B]
  .obtain⟨o,e,c,d⟩:=n;exact#[o,e,λv q=>by rw[d]at q;cases q]
  .obtain⟨o,e,c,d⟩:=p;exact#[o,e,λv q=>by rw[d]at q;cases q]
 keep:=λi h h' st k=>by obtain⟨g,m,⟨G,J,r⟩,n,p⟩:=st;exact#[k z (by simp) _ g,k TI (by simp) _ m,#[G,J,k TO (by simp) _ r],n.at λo e=>k j (by simp) o e,p.at λo e=>k l (by simp) o e]
 item:=by
  intro X hP hw U hc i aj s σ H E I L st hg;subst hP hw U;obtain⟨xs,ys,x,y,M,N,hx,O⟩:=hg;obtain⟨g,m,⟨G,J,r⟩,n,p⟩:=st;obtain⟨ck,rv,p1,b5⟩:=I.list M;obtain⟨cn,ar,p2,b6⟩:=I.list N;obtain⟨u,hu,ru⟩:=rv.get hx;obtain⟨v,hv,ct⟩:=ar.get O;refine wpAny_pyNext_zip_item D g m r n p p1.isList p2.isList (x:=u) (y:=v) (by simpa using hu) (by simpa using hv) λcg b8 bE bc bk b1 cL bX=> ?_;refine#[_,rfl,wpAny_letOwnedTupleGo_zip b8 λA cb t=> ?_];replace t:Heap.SameBut z cg A:=t;have aE:z<s.heap.objs.size:=KO g;have bt:TI<s.heap.objs.size:=KO m;have bB:TO<s.heap.objs.size:=KO r;have bb:j<s.heap.objs.size:=by obtain⟨o,e,_⟩:=n;exact KO e
  have bj:l<s.heap.objs.size:=by obtain⟨o,e,_⟩:=p;exact KO e
  have bS:H s.heap.objs.size=none:=I.fresh;have b2:A.get? s.heap.objs.size=some {cls:= .type "tuple",data:= .seq #v[u,v]}:=(t.2 _ (OH aE)).trans b1;have Q:∀c o,c≠z->c≠TO->c≠j->c≠l->s.heap.get? c=some o->A.get? c=some o:=λc o c1 c2 c3 c4 e=>(t.2 c c1).trans (bX c o c1 c2 c3 c4 e);have I1:Inv X aj σ H {s with heap:=A,gens:=s.gens,drawn:=s.drawn,toks:=s.toks}:=I.own [z,TO,j,l] (λb f=>L b (Aa f)) λb o f e=>Q b o (gB f).1 (gB f).2.1 (gB f).2.2.1 (gB f).2.2.2 e;have I2:Inv X aj σ (upd H s.heap.objs.size (.tup [x,y])) {s with heap:=A}:=I.pairIn I1 ru ct b2;refine#[.ref s.heap.objs.size,_,I2,rfl,#[_,rfl,bS,x,y,λzs O=>by rw[I.list_inj O M];exact hx,λzs g=>by rw[I.list_inj g N];exact O,rfl],#[cb,?_,#[_,_,(t.2 TO D.TOz).trans bE],?_,?_],λb f=> ?_]
  .exact Q TI _ D.TIz D.TITO D.TIi1 D.TIi2 m
  .obtain⟨o,e,c,d⟩:=bc;exact#[o,(t.2 j D.i1z).trans e,c,d]
  .obtain⟨o,e,c,d⟩:=bk;exact#[o,(t.2 l D.i2z).trans e,c,d]
  .have bM:=(L b f).1;have bN:b≠s.heap.objs.size:=by
    simp only[J7,Ki,K0]at f;rcases f with rfl|rfl|rfl|rfl|rfl
    .exact Lp aE
    .exact Lp bt
    .exact Lp bB
    .exact Lp bb
    .exact Lp bj
   rw[aJ bN];exact bM
 done:=by
  intro X hP hw U hc i aj s σ H E I L st hg;subst hP hw U;obtain⟨xs,ys,M,N,b0⟩:=hg;obtain⟨g,m,⟨G,J,r⟩,n,p⟩:=st;obtain⟨ck,rv,p1,b5⟩:=I.list M;obtain⟨cn,ar,p2,b6⟩:=I.list N;have e1:=rv.length;have e2:=ar.length;refine wpAny_pyNext_zip_end (I.ok.hd hc) D g m r n p p1.isList p2.isList (by
   rcases b0 with h|h
   .exact .inl (by simp;lia)
   .exact .inr (by simp;lia)) λA Q=>#[rfl,?_]
  exact I.own [z,TO,j,l] (λb f=>L b (Aa f)) λb o f e=>Q b o (gB f).1 (gB f).2.1 (gB f).2.2.1 (gB f).2.2.2 e
 self:=λ_ _ _ _ _ st h=>wpAny_pyIter_zip st.1 h
section
variable{X:Cx}{elts:List Expr}{x1:Nat}{tp:Pos}
def Jw(K:PySem.W.Frag)(d:TA):TI:=λf H R=>d f H λvs c=>∃a b,vs=[.ref a, .ref b]/\(∃xs,SqL K c a xs)/\(∃e,SqL K c b e)/\R (Itz K a b) c
theorem HP{a b:Expr}{k:TA}{p pos:Pos}(x:Gl X "zip")(z:X.mg "zip"=none)(w:PA X [a,b] k)(B:starEach [a,b] X.env=(false,eval a X.env)::starEach [b] X.env:=by rfl)(A:(backTo pos (starEach [b] X.env)).any (·.1)=false:=by rfl):PI X (.Tuple elts x1 tp) (.Call (.Name "zip" p) [a,b] [] pos) (Jw X.K k):=by
 intro N s σ H R I h;refine Nh (iS I x z boot_zip ?_);refine Ma (thn (w pos N s σ H _ I h) λus d ⟨vs,l,f,r1,O⟩=> ?_) B A;obtain⟨a,b,e,⟨xs,G⟩,⟨ys,J⟩,q⟩:=O;subst e;obtain⟨u,v,rfl,Q,U⟩:=GG r1;cases Q;cases U;obtain⟨ai,r2,p2,ab⟩:=f.list G;obtain⟨aj,r3,p3,ag⟩:=f.list J;have L:a<d.heap.objs.size:=by obtain⟨o,e,_⟩:=p2.isList;exact KO e
 have M:b<d.heap.objs.size:=by obtain⟨o,e,_⟩:=p3.isList;exact KO e
 refine call_zip_2 p2.isList p3.isList λh' j r t m n hsz y=> ?_;refine wpAny_pyIter_zip j #[d.heap.objs.size+4,[d.heap.objs.size+4,d.heap.objs.size+2,d.heap.objs.size+3,d.heap.objs.size,d.heap.objs.size+1],_,Itz X.K a b,l,rfl,f.kept (t':=d.toks) y,C3 a b _ _ _ _ _ (zipApart_new L M),#[j,r,#[_,_,t],m,n],λc g=> ?_,q];have i:d.heap.objs.size<=c:=by
  simp only[J7,Ki,K0]at g;rcases g with e|e|e|e|e<;>rw[e]
  .exact Nx _ _
  .exact Nx _ _
  .exact Nx _ _
  .exact Kk _
  .exact Nx _ _
 exact f.fpOk i (f.hok.fresh i)
theorem FH{K:PySem.W.Frag}{a b:Expr}{c:TA}{p pos:Pos}(h:X.K=K)(e:Gl X "zip")(f:X.mg "zip"=none)(d:PA X [a,b] c)(i:starEach [a,b] X.env=(false,eval a X.env)::starEach [b] X.env:=by rfl)(g:(backTo pos (starEach [b] X.env)).any (·.1)=false:=by rfl):PI X (.Tuple elts x1 tp) (.Call (.Name "zip" p) [a,b] [] pos) (Jw K c):=by subst h;exact HP e f d i g
end
def hide(H:Hp)(D:Addr):Hp:=λb=>if b=D then none else H b
theorem dR(h:b≠D):hide H D b=H b:=by unfold hide;rw[J4 h]
theorem i0:hide (upd H D o) D=hide H D:=by
 funext b;unfold hide;split
 .rfl
 .rename_i h;exact aJ h
theorem eu:Same (hide H D) H:=λb o e=>by
 unfold hide at e;split at e
 .cases e
 .exact e
theorem ia(h:Same H H'):Same (hide H D) (hide H' D):=λb o e=>by
 unfold hide at e⊢;split at e
 .cases e
 .rename_i a;rw[J4 a];exact h b o e
theorem qx{K:PySem.W.Frag}{a:Addr}{xs:List V}{g:TG}{O:TT}{U:TE}{k:Nat}{fr:List Nat}{p:St}{H:Hp}{Q:VK}(f:V->V->Hp->Prop)(ay:∀x y H H',Same H H'->f x y H->f x y H')(ha:SqL K H a xs)(hn:xs.length<=sizeLine)
  (hs:∀ (i:Nat) (x:V) (vs:St) (D:Addr) (H':Hp) (R:V->St->Hp->Prop) (S:St->Hp->Prop),xs[i]?=some x->vs.length=k->Same H H'->(∃l,H' D=some (.lst l))->
   (∀y v d,f x y (hide d D)->v.length=k->Same H' d->R y (v++fr.map λj=>(p[j]?).join) d)->
    g x (vs++fr.map λj=>(p[j]?).join) H' λr H3=>O r H3 λb L=>if b=true then U r L λy o=>R y r o else S r L)
  (hd:∀D H' (c:List V),H D=none->Same H H'->H' D=some (.lst c)->c.length=xs.length->(∀ (j:Nat) (x y:V),xs[j]?=some x->c[j]?=some y->f x y (hide H' D))->Q (.ref D) H'):LCW (Itl K a) g O U k fr p H Q:=by
 intro D w;refine#[λi m aa H'=>m=xs.length-i/\i<=xs.length/\∃ (vs:St) (c:List V),vs.length=k/\aa=vs++(fr.map λj=>(p[j]?).join)/\Same H H'/\H' D=some (.lst c)/\c.length=i/\(∀ (j:Nat) (x y:V),xs[j]?=some x->c[j]?=some y->f x y (hide H' D)),#[xs.length,by simp,Ls _,List.replicate k none,[],by simp,rfl,Same.new w,av,rfl,by simp],?_];rintro i m aa H' ⟨rfl,hi,vs,c,hv,rfl,u,A,hl,N⟩;have B:SqL K H' a xs:=u.seq ha;by_cases s:i<xs.length
 .refine .inr #[#[xs,xs[i],B,by simp[s]],λab d=>∃ (vs:St) (c:List V),vs.length=k/\ab=vs++(fr.map λj=>(p[j]?).join)/\Same H d/\d D=some (.lst c)/\c.length=i+1/\(∀ (j:Nat) (x y:V),xs[j]?=some x->c[j]?=some y->f x y (hide d D)),λab d q=>#[xs.length- (i+1),LW s (LN _),rfl,s,q],λx H2 y=> ?_];obtain⟨e1,e2⟩:=y;subst e1;have M:=e2 xs B;refine hs i x vs D _ (λy r o=>∃t,o D=some (.lst t)/\t.length<sizeLine/\∃ (vs:St) (c:List V),vs.length=k/\r=vs++(fr.map λj=>(p[j]?).join)/\Same H (upd o D (.lst (t++[y])))/\upd o D (.lst (t++[y])) D=some (.lst c)/\c.length=i+1/\(∀ (j:Nat) (x z:V),xs[j]?=some x->c[j]?=some z->f x z (hide (upd o D (.lst (t++[y]))) D))) _ M hv u #[_,A] (λy v d pz a5 J=> ?_);have ar:=J D _ A;refine#[_,ar,by rw[hl];exact Kb s hn,v,c++[y],a5,rfl,(u.trans J).upd w,av,by rw[Kz,hl];rfl,λj x' z G h=> ?_];rw[i0];by_cases hj:j<c.length
  .rw[KR hj]at h;exact ay _ _ _ _ (ia J) (N j x' z G h)
  .rw[KN ()]at h;have aS:j-c.length=0:=by
    cases e:j-c.length with
    |zero=>rfl
    |succ n=>rw[e]at h;simp at h
   rw[aS]at h;cases h;have ej:j=i:=()
   subst ej;rw[M]at G;cases G;exact pz
 .have e:i=xs.length:=LO hi (LP s);subst e;exact .inl #[#[xs,B,Kk _],hd D H' c w u A hl N]
theorem Ci{J:Int}{n:Nat}{g:TG}{K:TT}{L:TE}{h:Nat}{fr:List Nat}{p:St}{H:Hp}{Q:VK}(d:Nat->V->Hp->Prop)(ai:∀i y H H',Same H H'->d i y H->d i y H')(hn:n<=sizeLine)
  (hs:∀ (i:Nat) (vs:St) (D:Addr) (H':Hp) (R:V->St->Hp->Prop) (S:St->Hp->Prop),i<n->vs.length=h->Same H H'->(∃l,H' D=some (.lst l))->
   (∀y t c,d i y (hide c D)->t.length=h->Same H' c->R y (t++fr.map λj=>(p[j]?).join) c)->
   g (.int (J+i)) (vs++fr.map λj=>(p[j]?).join) H' λr O=>K r O λb B=>if b=true then L r B λy k=>R y r k else S r B)
  (hd:∀D H' (a:List V),H D=none->Same H H'->H' D=some (.lst a)->a.length=n->(∀ (j:Nat) (y:V),a[j]?=some y->d j y (hide H' D))->Q (.ref D) H'):LCW (Itr J n) g K L h fr p H Q:=by
 intro D u;refine#[λi m M H'=>m=n-i/\i<=n/\∃ (vs:St) (a:List V),vs.length=h/\M=vs++(fr.map λj=>(p[j]?).join)/\Same H H'/\H' D=some (.lst a)/\a.length=i/\(∀ (j:Nat) (y:V),a[j]?=some y->d j y (hide H' D)),#[n,by simp,Ls _,List.replicate h none,[],by simp,rfl,Same.new u,av,rfl,by simp],?_];rintro i m M H' ⟨rfl,hi,vs,a,hv,rfl,w,v,hl,G⟩;by_cases o:i<n
 .refine .inr #[o,λN c=>∃ (vs:St) (a:List V),vs.length=h/\N=vs++(fr.map λj=>(p[j]?).join)/\Same H c/\c D=some (.lst a)/\a.length=i+1/\(∀ (j:Nat) (y:V),a[j]?=some y->d j y (hide c D)),λN c q=>#[n- (i+1),LW o (LN _),rfl,o,q],λx H2 y=> ?_];obtain⟨U,e2⟩:=y;subst U e2;refine hs i vs D _ (λy r k=>∃s,k D=some (.lst s)/\s.length<sizeLine/\∃ (vs:St) (a:List V),vs.length=h/\r=vs++(fr.map λj=>(p[j]?).join)/\Same H (upd k D (.lst (s++[y])))/\upd k D (.lst (s++[y])) D=some (.lst a)/\a.length=i+1/\(∀ (j:Nat) (z:V),a[j]?=some z->d j z (hide (upd k D (.lst (s++[y]))) D))) _ o hv w #[_,v] (λy t c pz aE A=> ?_);have ag:=A D _ v;refine#[_,ag,by rw[hl];exact Kb o hn,t,a++[y],aE,rfl,(w.trans A).upd u,av,by rw[Kz,hl];rfl,λj z f=> ?_];rw[i0];by_cases hj:j<a.length
  .rw[KR hj]at f;exact ai _ _ _ _ (ia A) (G j z f)
  .rw[KN ()]at f;have ay:j-a.length=0:=by
    cases e:j-a.length with
    |zero=>rfl
    |succ n=>rw[e]at f;simp at f
   rw[ay]at f;cases f;have ej:j=i:=()
   subst ej;exact pz
 .have e:i=n:=LO hi (LP o);subst e;exact .inl #[Kk _,hd D H' a u w v hl G]
theorem F8{K:PySem.W.Frag}{a b:Addr}{xs c:List V}{n:Nat}{g:TG}{O:TT}{U:TE}{h:Nat}{fr:List Nat}{k:St}{H:Hp}{Q:VK}(f:Nat->V)(ha:SqL K H a xs)(hb:SqL K H b c)(bk:xs.length=n)(bt:c.length=n)(hn:n<=sizeLine)
  (hs:∀ (i:Nat) (x y:V) (vs:St) (H':Hp) (t:Addr) (R:V->St->Hp->Prop) (S:St->Hp->Prop),xs[i]?=some x->c[i]?=some y->vs.length=h->Same H H'->H' t=none->
   (∀s d,s.length=h->Same (upd H' t (.tup [x,y])) d->R (f i) (s++fr.map λj=>(k[j]?).join) d)->
   g (.ref t) (vs++fr.map λj=>(k[j]?).join) (upd H' t (.tup [x,y])) λl H3=>O l H3 λb G=>if b=true then U l G λy o=>R y l o else S l G)
  (hd:∀D H',H D=none->Same H H'->H' D=some (.lst ((List.range n).map f))->Q (.ref D) H'):LCW (Itz K a b) g O U h fr k H Q:=by
 intro D z;refine#[λi m aa H'=>m=n-i/\i<=n/\∃vs:St,vs.length=h/\aa=vs++(fr.map λj=>(k[j]?).join)/\Same H H'/\H' D=some (.lst ((List.range i).map f)),#[n,by simp,Ls _,List.replicate h none,by simp,rfl,Same.new z,av],?_];rintro i m aa H' ⟨rfl,hi,vs,hv,rfl,p,J⟩;have A:SqL K H' a xs:=p.seq ha;have B:SqL K H' b c:=p.seq hb;by_cases r:i<n
 .have lx:i<xs.length:=()
  have ly:i<c.length:=()
  refine .inr #[#[xs,c,xs[i],c[i],A,B,by simp[lx],by simp[ly]],λab d=>∃vs:St,vs.length=h/\ab=vs++(fr.map λj=>(k[j]?).join)/\Same H d/\d D=some (.lst ((List.range (i+1)).map f)),λab d q=>#[n- (i+1),LW r (LN _),rfl,r,q],λx H2 y=> ?_];obtain⟨t,e1,L,v,u,e2,e3,e4⟩:=y;subst e1 e4;have hx:=e2 xs A;have hy:=e3 c B;refine hs i v u vs H' t (λy l o=>∃w,o D=some (.lst w)/\w.length<sizeLine/\∃vs:St,vs.length=h/\l=vs++(fr.map λj=>(k[j]?).join)/\Same H (upd o D (.lst (w++[y])))/\upd o D (.lst (w++[y])) D=some (.lst ((List.range (i+1)).map f))) _ hx hy hv p L λs d a3 M=> ?_;have N:Same H' (upd H' t (.tup [v,u])):=Same.new L;refine#[_,M D _ (N D _ J),by rw[J2,Kq];exact Kb r hn,s,a3,rfl,((p.trans N).trans M).upd z,?_];rw[av,LX,KP];rfl
 .have e:i=n:=LO hi (LP r);subst e;exact .inl #[#[xs,c,A,B, .inl ()],hd D H' z p J]
def aU(H:Hp)(xs:List V)(M:List (List Int)):Prop:=xs.length=M.length/\∀ (i:Nat) (r:List Int),M[i]?=some r->∃a,xs[i]?=some (.ref a)/\H a=some (.lst (r.map V.int))
theorem aU.same(h:aU H xs M)(e:Same H H'):aU H' xs M:=
 #[h.1,λi r d=>by obtain⟨a,b,c⟩:=h.2 i r d;exact#[a,b,e.at c]]
theorem aU.at{H:Hp}{xs:List V}{M:List (List Int)}(h:aU H xs M){i:Nat}{y:V}(d:xs[i]?=some y):∃a r,M[i]?=some r/\y= .ref a/\H a=some (.lst (r.map V.int)):=by
 have c:i<M.length:=by rw[<-h.1];exact(Kh.mp d).1
 obtain⟨a,b,e⟩:=h.2 i (M[i]) (Ky c);rw[d]at b;exact#[a,M[i],Ky c,Lf b,e]
theorem aU.of{b:List V}{M:List (List Int)}(hl:b.length=M.length)(h:∀ (j:Nat) (r:List Int) (y:V),M[j]?=some r->b[j]?=some y->∃a,y= .ref a/\H a=some (.lst (r.map V.int))):aU H b M:=by
 refine#[hl,λi r d=> ?_];have c:i<b.length:=by rw[hl];exact(Kh.mp d).1
 obtain⟨a,e,f⟩:=h i r _ d (Ky c);exact#[a,by rw[Ky c,e],f]
def EY(H:Hp)(xs:List V)(M:List (List Int)):Prop:=xs.length=M.length/\∀ (i:Nat) (r:List Int),M[i]?=some r->∃a,xs[i]?=some (.ref a)/\H a=some (.tup (r.map V.int))
theorem EY.at{H:Hp}{xs:List V}{M:List (List Int)}(h:EY H xs M){i:Nat}{y:V}(d:xs[i]?=some y):∃a r,M[i]?=some r/\y= .ref a/\H a=some (.tup (r.map V.int)):=by
 have c:i<M.length:=by rw[<-h.1];exact(Kh.mp d).1
 obtain⟨a,b,e⟩:=h.2 i (M[i]) (Ky c);rw[d]at b;exact#[a,M[i],Ky c,Lf b,e]
theorem xu{K:PySem.W.Frag}{a:Addr}{xs:List V}{g:TG}{l:TS}{D:Ends}{b:St}{H:Hp}(Pv:Nat->St->Hp->Prop)(s:Pv 0 b H)(hl:∀i b H,i<=xs.length->Pv i b H->SqL K H a xs)
  (w:∀ (i:Nat) x t b H,xs[i]?=some x->H t=none->Pv i b H->g (.ref t) b (upd H t (.tup [.int (i:Nat),x])) λh d=>l {D with nx:=Pv (i+1),ct:=Pv (i+1),bk:=D.nx} h d) (u:∀b H,Pv xs.length b H->D.nx b H):
  ∃W:Nat->Nat->St->Hp->Prop,(∃m,W 0 m b H)/\∀i m b H,W i m b H->
   ((Ite K a).stop i H/\D.nx b H)\/((Ite K a).go i H/\∃N:St->Hp->Prop,(∀f H',N f H'->∃k,k<m/\W (i+1) k f H')/\∀x H',(Ite K a).yld i H x H'->g x b H' λh d=>l {D with nx:=N,ct:=N,bk:=D.nx} h d):=by
 refine#[λi m b H=>m=xs.length-i/\i<=xs.length/\Pv i b H,#[xs.length,by simp,Ls _,s],?_];rintro i m b H ⟨rfl,j,p⟩;have q:=hl i b H j p;by_cases c:i<xs.length
 .refine .inr #[#[xs,xs[i],q,by simp[c]],Pv (i+1),λf H' A=>#[xs.length- (i+1),LW c (LN _),rfl,c,A],λx H' y=> ?_];obtain⟨t,n,z,v,o,r⟩:=y;subst n r;exact w i v t b H (o xs q) z p
 .have e:i=xs.length:=LO j (LP c);subst e;exact .inl #[#[xs,q,Kk _],u b H p]
theorem Gu(xs:List V)(i:Nat):o3 xs none (some (i:Int))=xs.take i:=by
 unfold o3;show(xs.drop (HT.sIx _ 0 none)).take (HT.sIx _ _ (some (i:Int)) -HT.sIx _ 0 none)=_;rw[HT.uu,HT.pZ,List.drop_zero,Nat.sub_zero];by_cases a:i<=xs.length
 .rw[N6 a]
 .rw[OJ (),Ly,MH ()]
theorem CD(xs:List V)(i:Nat):o3 xs (some (i:Int)) none=xs.drop i:=by
 unfold o3;show(xs.drop (HT.sIx _ 0 (some (i:Int)))).take (HT.sIx _ _ none-HT.sIx _ 0 (some (i:Int)))=_;rw[HT.uu,HT.pZ,MH (by rw[ME];lia)];by_cases a:i<=xs.length
 .rw[N6 a]
 .rw[OJ (),List.drop_length,List.drop_of_length_le ()]
theorem xp:∀ {a b:List Int},a.map V.int=b.map V.int->a=b
 | [],[],_=>rfl
 | [],_::_,h=>by simp at h
 |_::_,[],h=>by simp at h
 |x::a,y::b,h=>by
  rw[KS,KS]at h;injection h with c d
  rw[V.int.inj c,xp d]
theorem uU{H:Hp}{a:Addr}{r s:List Int}(h:H a=some (.lst (r.map V.int)))(g:H a=some (.lst (s.map V.int))):r=s:=by
 rw[h]at g;injection g with g
 injection g with g
 exact xp g
theorem aU.cut{xs:List V}{M:List (List Int)}(h:aU H xs M)(i:Nat):aU H (xs.take i++xs.drop (i+1)) (M.take i++M.drop (i+1)):=by
 have hl:=h.1;refine#[by rw[Kz,Kz,KL,KL,ME,ME,hl],λj r b=> ?_];by_cases f:j<(M.take i).length
 .rw[KR f]at b;rw[KL]at f;rw[MD ()]at b;obtain⟨a,c,d⟩:=h.2 j r b;exact#[a,by rw[KR (by rw[KL,hl];exact f),MD ()];exact c,d]
 .rw[KN ()]at b;have e:(xs.take i).length=(M.take i).length:=by rw[KL,KL,hl]
  rw[List.getElem?_drop]at b;obtain⟨a,c,d⟩:=h.2 _ r b;exact#[a,by rw[KN (),List.getElem?_drop,e];exact c,d]
section
variable{X:Cx}{e lo st:Expr}{te tl ts:TE}{pos p2:Pos}
end
end L2
namespace L2
open PySem PySem.Spec PyProof.Rows
section
variable{prog:Program}{w:World}{A:Around}{E:Value->Shared->Prop}{s:Shared}
end
section
variable{X:Cx}
end
end L2
namespace L2
open PySem PySem.Spec PySem.W PyProof.Rows
def iz(i j:Int):Prop:=Builtin.Int.intBits i+Builtin.Int.intBits j<=2^26
theorem iz.ok(h:iz i j):IntMulOk i j:=by
 unfold IntMulOk;have h':Builtin.Int.intTooBig ((Builtin.Int.intBits i:Int)+(Builtin.Int.intBits j:Int))=false:=by unfold Builtin.Int.intTooBig;have a:bitsLine=2^27:=rfl;unfold iz at h;simp only[a,MO];lia
 simp[h']
theorem pf:OpR X (binaryOp .Mult) (rI iz λi j=> .int (i*j)):=opI λ_ _ _ _ _ _ _ a q=>mul_int q a.ok
end L2
namespace L2
open PySem PySem.Spec PySem.W PyProof.Rows PySem.SeqAt
def dU(H:Hp)(xs:List V)(b:List (Nat×Nat×Int)):Prop:=xs.length=b.length/\∀ (i:Nat) (t:Nat×Nat×Int),b[i]?=some t->∃a,xs[i]?=some (.ref a)/\H a=some (.tup [.int t.1, .int t.2.1, .int t.2.2])
theorem dU.nil:dU H [] []:=#[rfl,λi t h=>by simp at h]
theorem dU.append(h:dU H xs f)(g:dU H ys us):dU H (xs++ys) (f++us):=by
 refine#[by rw[Kz,Kz,h.1,g.1],λi u a=> ?_];by_cases e:i<f.length
 .rw[KR e]at a;obtain⟨b,c,d⟩:=h.2 i u a;exact#[b,by rw[KR (by rw[h.1];exact e)];exact c,d]
 .rw[KN ()]at a;obtain⟨b,c,d⟩:=g.2 _ u a;exact#[b,by rw[KN (by rw[h.1];lia),h.1];exact c,d]
theorem dU.one(c:H a=some (.tup [.int t.1, .int t.2.1, .int t.2.2])):dU H [.ref a] [t]:=
 #[rfl,λi u b=>by
  cases i with
  |zero=>cases b;exact#[a,rfl,c]
  |succ n=>simp at b]
theorem dU.snoc(h:dU H xs ts)(b:H a=some (.tup [.int t.1, .int t.2.1, .int t.2.2])):dU H (xs++[.ref a]) (ts++[t]):=h.append (dU.one b)
theorem dU.at{H:Hp}{xs:List V}{b:List (Nat×Nat×Int)}(h:dU H xs b){i:Nat}{y:V}(e:xs[i]?=some y):∃a t,b[i]?=some t/\y= .ref a/\H a=some (.tup [.int t.1, .int t.2.1, .int t.2.2]):=by
 have d:i<b.length:=by rw[<-h.1];exact(Kh.mp e).1
 obtain⟨a,c,f⟩:=h.2 i (b[i]) (Ky d);rw[e]at c;exact#[a,b[i],Ky d,Lf c,f]
theorem AX{z:Int}(h:z.natAbs<2^k):Builtin.Int.intBits z<=k:=by
 unfold Builtin.Int.intBits;by_cases a:z=0
 .subst a;exact Ls _
 .have e:(z==0)=false:=by simpa using a
  rw[e];show z.natAbs.log2+1<=k;have:z.natAbs.log2<k:=(Nat.log2_lt ()).mpr h;lia
theorem iz.of{i j:Int}(a:i.natAbs<2^k)(b:j.natAbs<2^m)(h:k+m<=2^26):iz i j:=by unfold iz;have:=AX a;have:=AX b;lia
theorem vx{i j:Int}(a:i.natAbs<2^k)(b:j.natAbs<2^m):(i*j).natAbs<2^(k+m):=by rw[Oi,Nat.pow_add];exact Nat.mul_lt_mul'' a b
end L2
namespace L2
open PySem PySem.Spec PySem.W PyProof.Rows
end L2
namespace L2
open PySem PySem.Spec PySem.W PyProof.Rows
def Elt(N:Nat)(p:Array Nat):Prop:=0<N/\∀x∈p.toList,x<N
theorem Elt.at{p:Array Nat}(h:Elt N p)(i:Nat):p.getD i 0<N:=by
 by_cases a:i<p.size
 .have:p.getD i 0=p[i]:=by simp[Array.getD,a]
  rw[this];exact h.2 _ (by simp)
 .have:p.getD i 0=0:=by simp[Array.getD,a]
  rw[this];exact h.1
theorem Elt.of{p q:Array Nat}(h:Elt N p)(e:q.Perm p):Elt N q:=#[h.1,λx a=>h.2 x (e.toList.mem_iff.mp a)]
section
variable{P:Program}{w:World}{A:Around}{E:Value->Shared->Prop}{s:Shared}
end
end L2
namespace L2
open PySem PySem.Spec PySem.W PyProof.Rows
section
variable{w:Nat->Nat}{N:Nat}
end
end L2
namespace L2
open PySem PySem.Spec PySem.W PyProof.Rows PySem.SeqAt
section
variable{P:Program}{w:World}{A:Around}{E:Value->Shared->Prop}{s:Shared}
end
end L2
namespace L2
section
variable{t u:TS}{σ:St}{H:Hp}{n:St->Hp->Prop}{r:VK}{b c:St->Hp->Prop}
end
theorem Iz{b:Type}{p:List b->Prop}(h:p [])(us:List b)(e:us.length=0):p us:=by
 cases us with
 |nil=>exact h
 |cons a r=>cases e
theorem Ec{b:Type}{p:List b->Prop}{n:Nat}(h:∀ (a:b) (r:List b),r.length=n->p (a::r))(us:List b)(e:us.length=n+1):p us:=by
 cases us with
 |nil=>cases e
 |cons a r=>exact h a r (Nat.succ.inj e)
theorem Iy{b:Type}{p:List b->Prop}(h:∀a,p [a])(us:List b)(e:us.length=1):p us:=Ec (p:=p) (λa r=>Iz (p:=λr=>p (a::r)) (h a) r) us e
theorem Iw{c:Type}{p:List c->Prop}(h:∀a b,p [a,b])(us:List c)(e:us.length=2):p us:=Ec (p:=p) (λa r=>Iy (p:=λr=>p (a::r)) (h a) r) us e
theorem Iv{d:Type}{p:List d->Prop}(h:∀a b c,p [a,b,c])(us:List d)(e:us.length=3):p us:=Ec (p:=p) (λa r=>Iw (p:=λr=>p (a::r)) (h a) r) us e
theorem Iu{f:Type}{p:List f->Prop}(h:∀a b c d,p [a,b,c,d])(us:List f)(e:us.length=4):p us:=Ec (p:=p) (λa r=>Iv (p:=λr=>p (a::r)) (h a) r) us e
theorem Jv{g:Type}{p:List g->Prop}(h:∀a b c d f,p [a,b,c,d,f])(us:List g)(e:us.length=5):p us:=Ec (p:=p) (λa r=>Iu (p:=λr=>p (a::r)) (h a) r) us e
end L2
namespace L2
open PySem PySem.Spec PyProof.Rows
section
variable{κ:Type}[DecidableEq κ]
def nh(kvs:List (κ×V))(k:κ):Option V:=(kvs.find? λa=>decide (a.1=k)).map (·.2)
def nN(kvs:List (κ×V))(k:κ)(v:V):List (κ×V):=
 if(kvs.any λa=>decide (a.1=k))=true then kvs.map (λa=>if a.1=k then(a.1,v)else a)else kvs++[(k,v)]
theorem pK{p:κ×V}{r:List (κ×V)}{k:κ}(e:p.1=k):nh (p::r) k=some p.2:=by simp[nh,MU,e]
theorem pL{p:κ×V}{r:List (κ×V)}{k:κ}(e:¬p.1=k):nh (p::r) k=nh r k:=by simp[nh,MU,e]
theorem vE(k:κ):∀kvs:List (κ×V),(kvs.any λa=>decide (a.1=k))=(nh kvs k).isSome
 | []=>rfl
 |p::r=>by
  rw[Nz];by_cases e:p.1=k
  .simp only[pK e,J3 e,Bool.true_or,Option.isSome_some]
  .rw[pL e,J6 e,Bool.false_or];exact vE k r
theorem oM(kvs:List (κ×V))(k:κ)(v:V):(nN kvs k v).length<=kvs.length+1:=by
 unfold nN;split
 .rw[J2];lia
 .rw[Kz,KA,OZ];lia
theorem jC.isSome_eq{o:Option V}{u:Option Value}(r:jC o u):o.isSome=u.isSome:=by
 cases o with
 |none=>cases u with
  |none=>rfl
  |some _=>exact(show False from r).elim
 |some _=>cases u with
  |none=>exact(show False from r).elim
  |some _=>rfl
theorem jC.getD{o:Option V}{u:Option Value}(r:jC o u)(a:bZ d d'):bZ (o.getD d) (u.getD d'):=by
 cases o with
 |none=>cases u with
  |none=>exact a
  |some _=>exact(show False from r).elim
 |some _=>cases u with
  |none=>exact(show False from r).elim
  |some _=>exact r
theorem KV.val(r:KV kvs vs)(k:κ):jC (nh kvs k) (valueAt vs k):=by
 unfold KV at r
 induction r with
 |nil=>exact MJ
 | @cons p q ps c h t g=>
  obtain⟨d,f⟩:=h;by_cases e:p.1=k
  .have a:q.1=k:=d.symm.trans e;have b:valueAt (q::c) k=some q.2:=by simp[valueAt,MU,a]
   rw[pK e,b];exact f
  .have a:¬q.1=k:=λz=>e (d.trans z);have b:valueAt (q::c) k=valueAt c k:=by simp[valueAt,MU,a]
   rw[pL e,b];exact g
theorem KV.any{kvs:List (κ×V)}{vs:List (κ×Value)}(r:KV kvs vs)(k:κ):(kvs.any λa=>decide (a.1=k))=vs.any λa=>decide (a.1=k):=by
 unfold KV at r
 induction r with
 |nil=>rfl
 |cons h t b=>rw[Nz,Nz,b,h.1]
theorem KV.repl{kvs:List (κ×V)}{vs:List (κ×Value)}(r:KV kvs vs)(k:κ)(f:bZ y u):
  KV (kvs.map λa=>if a.1=k then(a.1,y)else a) (vs.map λa=>if a.1=k then(a.1,u)else a):=by
 unfold KV at r⊢
 induction r with
 |nil=>exact .nil
 | @cons p q ps g h t d=>
  rw[KS,KS];refine .cons ?_ d;obtain⟨b,c⟩:=h;by_cases e:p.1=k
  .rw[J5 e,J5 (b.symm.trans e)];exact#[b,f]
  .rw[J4 e,J4 (λz=>e (b.trans z))];exact#[b,c]
theorem KV.put(r:KV kvs vs)(k:κ)(a:bZ y u):KV (nN kvs k y) (stored vs k u):=by
 unfold nN stored;rw[r.any k];by_cases e:(vs.any λb=>decide (b.1=k))=true
 .rw[J5 e,J5 e];exact r.repl k a
 .rw[J4 e,J4 e];exact Paired.snoc r #[rfl,a]
theorem KV.keys{kvs:List (κ×V)}{vs:List (κ×Value)}(r:KV kvs vs):kvs.map (·.1)=vs.map (·.1):=by
 unfold KV at r
 induction r with
 |nil=>rfl
 |cons h t a=>rw[KS,KS,a,h.1]
theorem KV.length{kvs:List (κ×V)}{vs:List (κ×Value)}(r:KV kvs vs):kvs.length=vs.length:=Ny r
end
theorem Em(r:bZ (kV k) u):(dG P w).is k u=true:=by
 cases k with
 |inl i=>obtain⟨t,e⟩:=(show∃t,u=Value.int i t from r);subst e;exact xc P w i t
 |inr x=>obtain⟨t,e⟩:=(show∃t,u=Value.str x t from r);subst e;exact w9 P w x t
theorem sH:∀ {a:List Key} {us:List Value},Vals (a.map kV) us->ItemsAre (dG P w) a us
 | [],_,r=>by rw[Nq]at r;cases r;exact .nil
 |k::a,_,r=>by
  rw[KS]at r;cases r with
  |cons h t=>exact .cons (Em h) (sH t)
abbrev KT(H:Hp):List (List Key×V)->List (List Key×Addr×Value)->Prop:=Paired λp q=>p.1=q.1/\H q.2.1=some (.tup (p.1.map kV))/\bZ p.2 q.2.2
theorem KT.val(r:KT H kvs xs)(k:List Key):jC (nh kvs k) ((atKey xs k).map (·.2)):=by
 induction r with
 |nil=>exact MJ
 | @cons p q ps c h t g=>
  obtain⟨d,_,f⟩:=h;by_cases e:p.1=k
  .have a:q.1=k:=d.symm.trans e;have b:atKey (q::c) k=some q.2:=by simp[atKey,MU,a]
   rw[pK e,b];exact f
  .have a:¬q.1=k:=λz=>e (d.trans z);have b:atKey (q::c) k=atKey c k:=by simp[atKey,MU,a]
   rw[pL e,b];exact g
theorem KT.repl{kvs:List (List Key×V)}{xs:List (List Key×Addr×Value)}(r:KT H kvs xs)(k:List Key)(g:bZ y u):
  KT H (kvs.map λb=>if b.1=k then(b.1,y)else b) (xs.map (putAt k u)):=by
 induction r with
 |nil=>exact .nil
 | @cons p q ps i h t f=>
  rw[KS,KS];refine .cons ?_ f;obtain⟨a,c,d⟩:=h;unfold putAt;by_cases e:p.1=k
  .rw[J5 e,J5 (a.symm.trans e)];exact#[a,c,g]
  .rw[J4 e,J4 (λz=>e (a.trans z))];exact#[a,c,d]
theorem KT.put(r:KT H kvs xs)(k:List Key)(c:H b=some (.tup (k.map kV)))(a:bZ y u):
  KT H (nN kvs k y) (storedH xs k b u):=by
 have e:(kvs.any λd=>decide (d.1=k))=(atKey xs k).isSome:=by rw[vE,(r.val k).isSome_eq,Option.isSome_map]
 unfold nN storedH;rw[e];by_cases q:(atKey xs k).isSome=true
 .rw[J5 q,J5 q];exact r.repl k a
 .rw[J4 q,J4 q];exact Paired.snoc r #[rfl,c,a]
theorem KT.keeps(r:KT H kvs xs)(c:∀b a,H b=some (.tup a)->H' b=some (.tup a)):KT H' kvs xs:=
 Paired.mapP r λ_ _ z=>#[z.1,c _ _ z.2.1,z.2.2]
section
variable{P:Program}{w:World}{H:Hp}{h:Heap}{a:Addr}
theorem GN(ok:HOk P w H h)(e:Rd H a u):cU P w H h a u:=e.ok ok
theorem EC{kvs:List (Key×V)}(ok:HOk P w H h)(e:Rd H a (.dK kvs)):kvs.length<=sizeLine/\(a==sysModules)=false/\∃vs,KV kvs vs/\h.DictOf (dG P w) a vs:=
 show cU P w H h a (.dK kvs)from GN ok e
theorem GX{kvs:List (Key×V)}(ok:HOk P w H h)(e:H a=some (.dK kvs)):kvs.length<=sizeLine/\(a==sysModules)=false/\∃vs,KV kvs vs/\h.DictOf (dG P w) a vs:=EC ok (.inl e)
theorem yT{b:List Key}(ok:HOk P w H h)(e:H a=some (.tup (b.map kV))):(tupleKind (dG P w)).is h b a:=by obtain⟨_,g,r,o,c,d,n,f⟩:=(show cU P w H h a (.tup (b.map kV))from ok a _ e);exact#[o,g.toArray,n,c,d,f,by simpa using sH r]
theorem EB{kvs:List (List Key×V)}(ok:HOk P w H h)(e:Rd H a (.dT kvs)):kvs.length<=sizeLine/\(a==sysModules)=false/\
  ∃xs,KT H kvs xs/\h.DictOfH (tupleKind (dG P w)) a xs:=by
 obtain⟨z,y,xs,r,o,d,ep,f,g,i,j,k⟩:=(show cU P w H h a (.dT kvs)from GN ok e);refine#[z,y,xs,r,o,d,ep,f,g,i,j,λx b=> ?_,k];have all:∀ {l:List (List Key×V)} {m:List (List Key×Addr×Value)},KT H l m->∀x∈m,(tupleKind (dG P w)).is h x.1 x.2.1:=by
  intro l m q
  induction q with
  |nil=>intro x b;exact nomatch b
  | @cons p q ps s c t n=>
   intro x b;rcases J7.mp b with e|b
   .subst e;exact yT ok (by rw[<-c.1];exact c.2.1)
   .exact n x b
 exact all r x b
theorem JC{kvs:List (List Key×V)}(ok:HOk P w H h)(e:H a=some (.dT kvs)):kvs.length<=sizeLine/\(a==sysModules)=false/\
  ∃xs,KT H kvs xs/\h.DictOfH (tupleKind (dG P w)) a xs:=EB ok (.inl e)
end
def z9(H:Hp)(a:Addr)(y:V)(r:Option V):Prop:=
 (∃kvs k,Rd H a (.dK kvs)/\y=kV k/\r=nh kvs k)\/∃kvs k b,Rd H a (.dT kvs)/\y= .ref b/\H b=some (.tup (k.map kV))/\r=nh kvs k
def CS(H:Hp)(a:Addr)(y v:V)(H':Hp):Prop:=
 (∃kvs k,H a=some (.dK kvs)/\y=kV k/\kvs.length<sizeLine/\H'=upd H a (.dK (nN kvs k v)))\/
 ∃kvs k b,H a=some (.dT kvs)/\y= .ref b/\H b=some (.tup (k.map kV))/\kvs.length<sizeLine/\H'=upd H a (.dT (nN kvs k v))
theorem z9.k{H:Hp}{a:Addr}{kvs:List (Key×V)}{k:Key}(e:H a=some (.dK kvs)):z9 H a (kV k) (nh kvs k):= .inl #[kvs,k, .inl e,rfl,rfl]
theorem CS.k{H:Hp}{a:Addr}{kvs:List (Key×V)}{k:Key}{v:V}(e:H a=some (.dK kvs))(hl:kvs.length<sizeLine):CS H a (kV k) v (upd H a (.dK (nN kvs k v))):= .inl #[kvs,k,e,rfl,hl,rfl]
section
variable{X:Cx}{pins:List (Addr×Obj)}{σ:St}{H:Hp}{s:Shared}{a:Addr}{y v:V}{u r:Value}{o:Option V}{A:Around}{E:Value->Shared->Prop}
theorem Inv.big(I:Inv X pins σ H s):sysModules<s.heap.objs.size:=by have h:mainGlobals<s.heap.objs.size:=(I.mod.glob.keeps I.bk).lt;exact N7 ∅ h
theorem Cz(J:A.units+1<cLine)(I:Inv X pins σ H s)(g:z9 H a y (some v))(n:bZ y u)(h:∀c q,Inv X pins σ H q->bZ v c->Q c q):
  wpAny (model X.prog X.w) A (getItem (.ref a) u) Q E s:=by
 rcases g with ⟨kvs,k,e,f,l⟩|⟨kvs,k,b,e,f,t,l⟩
 .subst f;obtain⟨z,x,vs,j,d⟩:=EC I.hok e;obtain⟨c,i,m⟩:=jC.some_of (v:=v) (o:=valueAt vs k) (by rw[l];exact j.val k);exact wpAny_getItem_of (Em n) d.mapOf i (h c _ (I.tok _) m)
 .subst f;cases (show u=Value.ref b from n);obtain⟨z,x,xs,j,d⟩:=EB I.hok e;obtain⟨c,i,m⟩:=jC.some_of (v:=v) (o:=(atKey xs k).map (·.2)) (by rw[l];exact j.val k);obtain⟨p,B,G⟩:=NU.mp i;refine wpAny_getItem_heap (tupleKind_room_in1 J) (yT I.hok t) d B ?_;rw[G];exact h c _ (I.tok _) m
theorem AW{h':Heap}(I:Inv X pins σ H s)(g:Mut (H a))(f:Heap.SameBut a s.heap h')(d:∃q,h'.get? a=some q)(new:cU X.prog X.w (upd H a ob) h' a ob):
  Inv X pins σ (upd H a ob) {s with heap:=h',toks:=t'}:=
 I.write (x:=a) (e:=a) g (.inl rfl) (λb q c z=>(f.2 b c).trans z) d new
theorem IL{h':Heap}{kvs:List (Key×V)}(z:kvs.length<=sizeLine)(c:(a==sysModules)=false)(d:KV kvs vs)(b:h'.DictOf (dG P w) a vs):
  cU P w H' h' a (.dK kvs):=#[z,c,vs,d,b]
theorem Cy(hu:A.units+1<cLine)(I:Inv X pins σ H s)(g:CS H a y v H')(K:bZ y u)(J:bZ v r)(h:∀L,Inv X pins σ H' L->Q Unit.unit L):
  wpAny (model X.prog X.w) A (setItem (.ref a) u r) Q E s:=by
 rcases g with ⟨kvs,k,e,n,l,m⟩|⟨kvs,k,b,e,n,B,l,m⟩
 .subst n m;obtain⟨z,p,vs,d,j⟩:=GX I.hok e;have x:vs.length<=sizeLine:=by rw[<-d.length];exact z
  have hl:(nN kvs k v).length<=sizeLine:=by have:=oM kvs k v;lia
  refine wpAny_setItem_pairs (hsz:=x) (Em K) j λh' f t=>h _ ?_;have he:∃q,h'.get? a=some q:=let⟨q,_,_,i,_⟩:=f;#[q,i];exact AW I (by rw[e];exact MJ) t he (IL hl p (d.put k J) f)
 .subst n m;cases (show u=Value.ref b from K);obtain⟨z,p,xs,d,j⟩:=JC I.hok e;have x:xs.length<=sizeLine:=by rw[<-Ny d];exact z
  have hl:(nN kvs k v).length<=sizeLine:=by have:=oM kvs k v;lia
  refine wpAny_setItem_heap (hsz:=x) (tupleKind_room_in1 hu) (yT I.hok B) j λh' f t=>h _ ?_;obtain⟨q,M,ep,i,N,O,U,_,h5⟩:=f;refine AW I (by rw[e];exact MJ) t #[q,i] #[hl,p,_,(d.put k B J).keeps λc ys G=> ?_,q,M,ep,i,N,O,U,h5];rw[aJ (oI G e (λz=>nomatch z))];exact G
end
section
variable{X:Cx}{pins:List (Addr×Obj)}{σ:St}{H:Hp}{s:Shared}{a:Addr}{kvs:List (Key×V)}{k:Key}{u:Value}{A:Around}{E:Value->Shared->Prop}
end
def JG(i:Expr):Prop:=∀ov a,subscripted i false ov a=operate [ov,a] (getItem ov a)
theorem Fm{prog:Program}{w:World}{A:Around}{E:Value->Shared->Prop}{s:Shared}{env:Env}{value slice:Expr}{pos:Pos}{T id:String}{Q:Value->Shared->Prop}
  (hl:typeLookup (.type T) "__getitem__"=pure (some (.builtin id))) (g:JG slice)
  (h:wpAny (model prog w) A (eval value env) (λo e=>wpAny (model prog w) A (eval slice env) (λi a=>a.TypeIs o T/\wpAny (model prog w) A (getItem o i) Q E a) E e) E s):
  wpAny (model prog w) A (eval (.Subscript value slice pos) env) Q E s:=by
 refine Subscript_ (N2 h (λo e j=>N2 j (λi a c=> ?_) λ_ _ x=>x) λ_ _ x=>x);obtain⟨d,c⟩:=c;unfold subscriptTail;refine Lb ?_;rw[getitemInPython_of_ne d.not_modules];refine Lb (wpAny_specialOf d hl ?_);have b:wpAny (model prog w) A (subscripted slice false o i) (λr f=>wpAny (model prog w) A (letTemporaryGo value o r>>=λ_=>pure r) Q E f) E a:=by rw[g o i];exact wpAny_operating (N2 c (λr f k=>Lb (wpAny_letTemporaryGo (LK k))) λ_ _ x=>x)
 first
  |exact LK (Lb b)
  |exact Lb (LK (Lb b))
  |exact Lb b
theorem xA{X:Cx}{d:List (Addr×Obj)}{f:St}{H:Hp}{s:Shared}{a:Addr}{y:V}{o:Option V}(I:Inv X d f H s)(g:z9 H a y o):s.TypeIs (.ref a) "dict":=by
 rcases g with ⟨kvs,k,e,_,_⟩|⟨kvs,k,b,e,_,_,_⟩
 .obtain⟨_,_,vs,_,c⟩:=EC I.hok e;exact c.typeIs
 .obtain⟨_,_,xs,_,c⟩:=EB I.hok e;exact c.typeIs
def Je(e ty:TE):TE:=λc H Q=>e c H λx d=>ty c d λy b=>∃a v,x= .ref a/\z9 b a y (some v)/\Q v b
def Jk(g ty tv:TE):TS:=λD b H=>tv b H λv d=>g b d λx e=>ty b e λy f=>∃a c,x= .ref a/\CS f a y v c/\D.nx b c
section
variable{X:Cx}{o i e value:Expr}{pos pos' tpos:Pos}{td ty tv:TE}
theorem AH(t:X.A.units+1<cLine)(p:PE X o td)(n:PE X i ty)(r:JG i):PE X (.Subscript o i pos) (Je td ty):=by intro c s d H Q I h;refine Fm PySem.F.slot_dict_getitem.lookup r (thn (p c s d H _ I h) λu K ⟨x,f,k,G,w⟩=>thn (n c K d f _ k w) λL M q=> ?_);obtain⟨y,j,b,J,a,v,m,g,z⟩:=q;subst m;obtain rfl:u=Value.ref a:=G;exact#[xA b g,Cz t b g J λO N l B=>#[v,j,l,B,z]]
theorem AD(B:X.A.units+1<cLine)(t:PE X o td)(q:PE X i ty)(G:PE X value tv)(z:swapsWith value (some (.Subscript o i pos')) pos.line X.env=pure false):
  PS X (.Assign [.Subscript o i pos'] value pos) (Jk td ty tv):=by
 intro c s b H D I h;refine wpAny_Assign_Subscript (thn (G c s b H _ I h) λr Q ⟨v,d,k,M,J⟩=>thn (t c Q b d _ k J) λu U ⟨x,f,l,N,K⟩=>thn (q c U b f _ l K) λiv s3 w=> ?_) z;obtain⟨y,H3,m,O,a,j,p,g,L⟩:=w;subst p;obtain rfl:u=Value.ref a:=N;exact Cy B m g O M λs4 n=>#[b,j,n,L]
end
theorem ED(h:Heap)(a:sysModules<h.objs.size):cU P w H (h.push {cls:= .type "dict",data:= .dict #v[]}) h.objs.size (.dK []):=
 #[Ls _,Nd.mpr (Mo (Lp a)),[], .nil,Heap.DictOf.new h]
def Hm:TE:=λ_ H Q=>∀p,H p=none->Q (.ref p) (upd H p (.dK []))
section
variable{X:Cx}{pos:Pos}
theorem DH:PE X (.Dict [] [] pos) Hm:=λb s c H Q I h=>
 wpAny_Dict_empty #[.ref s.heap.objs.size,_,I.laid (a:=s.heap.objs.size) (o:= .dK []) (t':=s.toks) (λ_ _ q=>KU _ q) (Kk _) (ED s.heap I.big),rfl,h _ (I.hok.fresh (Kk _))]
end
section
variable{X:Cx}{pins:List (Addr×Obj)}{σ:St}{H:Hp}{s:Shared}{a:Addr}{y d:V}{u r:Value}{o:Option V}{A:Around}{E:Value->Shared->Prop}
end
section
variable{X:Cx}{o e f:Expr}{apos cpos:Pos}{td ty tx:TE}
end
section
variable{X:Cx}{pins:List (Addr×Obj)}{σ:St}{H:Hp}{s:Shared}{a:Addr}{kvs:List (Key×V)}{A:Around}{E:Value->Shared->Prop}
end
section
variable{X:Cx}{pins:List (Addr×Obj)}{σ:St}{H:Hp}{s:Shared}{a:Addr}{y:V}{u:Value}{A:Around}{E:Value->Shared->Prop}
end
section
variable{X:Cx}
end
section
variable{κ:Type}[DecidableEq κ]
end
end L2
namespace PySem
open Sem (wp)
end PySem
namespace L2
open PySem PySem.Spec PyProof.Rows
section
variable{X:Cx}{pins:List (Addr×Obj)}{σ:St}
end
end L2
namespace L2
open PySem PySem.Spec PyProof.Rows PySem.W
section
variable{prog:Program}{w:World}{A:Around}{E:Value->Shared->Prop}{s:Shared}{T:String}{r d:Addr}{n:Nat}{P:Nat->Value->Prop}{OK:Heap->Prop}
end
section
variable{X:Cx}{o:Expr}{apos cpos:Pos}{td:TE}
end
end L2
namespace L2
open PySem PySem.Spec PyProof.Rows PySem.W
section
variable{prog:Program}{w:World}{A:Around}{E:Value->Shared->Prop}{s:Shared}
end
theorem sC:∀ {c:List e} {d:List β},Paired F c d->∀ {i:Nat} {a:e},c[i]?=some a->∃b,d[i]?=some b/\F a b
 |_,_, .nil,i,a,h=>by simp at h
 |_,_, .cons r t,0,a,h=>by simp only[List.getElem?_cons_zero,Option.some.injEq]at h;subst h;exact#[_,rfl,r]
 |_,_, .cons r t,i+1,a,h=>by simp only[NK]at h⊢;exact sC t h
end L2
namespace L2
open PySem PySem.Spec PyProof.Rows PySem.W
section
variable{X:Cx}{pins:List (Addr×Obj)}{σ:St}
end
end L2
namespace L2
open PySem PySem.Spec PyProof.Rows PySem.W
section
variable{X:Cx}
end
end L2
namespace L2
open PySem PySem.Spec PyProof.Rows PySem.W
end L2
namespace L2
open PySem PySem.Spec PyProof.Rows PySem.W
end L2
namespace L2
open PySem PySem.Spec PyProof.Rows
def JK(mg:Str->Option Value)(h:Heap):Prop:=∃a o,mg "__builtins__"=some (.ref a)/\a≠builtinsNs/\h.get? a=some o/\o.cls= .type "module"/\o.dict=some builtinsNs/\o.data= .plain
theorem JK.at{h:Heap}(x:JK mg h)(l:h.Ns mainGlobals mg)(k:∀o,h.get? P=some o->∃ps,o.data= .fields ps):h.BuiltinsAt mg P:=by
 obtain⟨j,o,d,f,b,g,i,a⟩:=x;refine#[j,o,d,f,λq=> ?_,λq=> ?_,b,g,i,a]
 .obtain⟨n,m,ep,e,c,_⟩:=l;rw[q,e]at b;cases b;rw[c]at a;cases a
 .obtain⟨ps,c⟩:=k o (by rw[<-q];exact b);rw[c]at a;cases a
end L2
namespace L2
open PySem PySem.Spec PySem.W PyProof.Rows
def JI(c:Addr)(q:Str):HO:= .ext λh=>h.CodeRec (.ref c) q
def tq(P:Addr)(H H':Hp):Prop:=∀b o,b≠P->H b=some o->H' b=some o
theorem tq.of(h:Same H H'):tq P H H':=λb o _ e=>h b o e
theorem tq.trans(a:tq P H H1)(b:tq P H1 H2):tq P H H2:=λc o n e=>b c o n (a c o n e)
def EZ(H:Hp)(P:Addr)(pos:Pos)(q:Str):Prop:=H P=some (.tbl #v[])\/∃c,H P=some (.tbl #v[rawInt pos.line,rawInt pos.col, .ref c])/\H c=some (JI c q)
theorem EZ.same(h:EZ H P pos q)(e:Same H H'):EZ H' P pos q:=by
 rcases h with h|⟨c,a,b⟩
 .exact .inl (e _ _ h)
 .exact .inr #[c,e _ _ a,e _ _ b]
theorem EZ.tbl(h:EZ H P pos q):∃ps,H P=some (.tbl ps):=by
 rcases h with h|⟨c,a,b⟩
 .exact#[_,h]
 .exact#[_,a]
section
variable{X:Cx}{pins:List (Addr×Obj)}{σ:St}{H:Hp}{s s':Shared}
end
end L2
namespace L2
open PySem PySem.Spec PySem.W PyProof.Rows
section
variable{prog:Program}{w:World}{A:Around}{E:Value->Shared->Prop}{s:Shared}
end
end L2
namespace L2
open PySem PySem.Spec PySem.W PyProof.Rows
section
variable{prog:Program}{w:World}{A:Around}{E:Value->Shared->Prop}{s:Shared}
end
section
variable{X:Cx}{pins:List (Addr×Obj)}{σ:St}{H:Hp}{s:Shared}
end
end L2
namespace L2
open PySem PySem.Spec PySem.W PyProof.Rows
section
variable{X:Cx}{pins:List (Addr×Obj)}{σ:St}{H:Hp}{s:Shared}
end
end L2
namespace L2
open PySem PySem.Spec PySem.W PyProof.Rows
end L2
namespace L2
open PySem PySem.Spec PySem.W PyProof.Rows
def iK(H H':Hp):Prop:=∀b o,(∀ps,o≠ .tbl ps)->H b=some o->H' b=some o
theorem iK.of(h:Same H H'):iK H H':=λb o _ e=>h b o e
theorem iK.trans(a:iK H H1)(b:iK H1 H2):iK H H2:=λc o n e=>b c o n (a c o n e)
theorem iK.lst(h:iK H H')(e:H b=some (.lst xs)):H' b=some (.lst xs):=h b _ (λ_ z=>by cases z) e
theorem iK.tup(h:iK H H')(e:H b=some (.tup xs)):H' b=some (.tup xs):=h b _ (λ_ z=>by cases z) e
theorem iK.tups(h:iK H H'):ri H H':=λb xs e=>h.tup e
theorem iK.seq{K:PySem.W.Frag}{H H':Hp}{a:Addr}{xs:List V}(e:iK H H')(h:SqL K H a xs):SqL K H' a xs:=by
 rcases h with (h|⟨o,h⟩)|h
 .exact .inl (.inl (e.lst h))
 .exact .inl (.inr #[o,e a _ (λ_ z=>by cases z) h])
 .exact .inr h
end L2
namespace L2
open PySem PySem.Spec PySem.W PyProof.Rows
section
variable{X:Cx}{pins:List (Addr×Obj)}{σ:St}{H:Hp}{s:Shared}
end
end L2
namespace L2
open PySem PySem.Spec PySem.W PyProof.Rows
end L2
namespace L2
open PySem PySem.Spec PySem.W PyProof.Rows
section
variable{X:Cx}{pins:List (Addr×Obj)}{σ:St}{H:Hp}{s:Shared}
end
end L2
namespace L2
open PySem PySem.Spec PyProof.Rows PySem.W
def kI(ps:List (Int×V)):List (Key×V):=ps.map λp=>(Sum.inl p.1,p.2)
def FA:List V->Hp->VK->Prop:=λxs H Q=>∃ (d:Addr) (ps:List (Int×V)),xs=[.ref d]/\H d=some (.dK (kI ps))/\∀l,H l=none->Q (.ref l) (upd H l (.lst ((ps.map (·.1)).map V.int)))
theorem xH{X:Cx}(J:X.calm=true):gJ X (.type "list") FA:=by
 intro aA s σ H xs us Q I rv h;obtain⟨d,ps,rfl,K,q⟩:=h;obtain⟨u,rfl,ru⟩:=vD rv;cases ru;obtain⟨z,L,vs,v,y⟩:=GX I.hok K;obtain⟨ep,G⟩:=y.dictAt;have ak:(kI ps).length=vs.length:=Ny v;have ar:(kI ps).length=ps.length:=by unfold kI;rw[J2]
 refine kdl_call (kdl_dict (knd:=dG X.prog X.w) (kvs:=vs) (ep:=ep) L) (I.ok.hd J) G () λh' tk b c M B o=> ?_;have O:Vals ((ps.map (·.1)).map V.int) b.toList:=by
  have A:∀ (l:List Int) (us:List Value),l.length=us.length->(∀ (i:Nat) (z:Int) (u:Value),l[i]?=some z->us[i]?=some u->∃t,u= .int z t)->Vals (l.map V.int) us:=λl=>by
   induction l with
   |nil=>intro us hl _;have:us=[]:=Nn hl.symm;subst this;exact .nil
   |cons z l U=>
    intro us hl r;cases us with
    |nil=>cases hl
    |cons u us=>
     obtain⟨t,e⟩:=r 0 z u rfl rfl;exact .cons #[t,e] (U us (Nat.succ.inj hl) λi z' u' a g=>r (i+1) z' u' (by simpa using a) (by simpa using g))
  refine A _ _ (by have a:b.toList.length=b.size:=ND;rw[J2,a,o.1];lia) λi z u a g=> ?_;obtain⟨k,x,g1,g2⟩:=o.2 i u (by rw[<-NY];exact g);rw[Kv]at a;cases m:ps[i]? with
  |none=>rw[m]at a;cases a
  |some p=>
   rw[m]at a;cases a;have N:(kI ps)[i]?=some (Sum.inl p.1,p.2):=by unfold kI;rw[Kv,m];rfl
   obtain⟨ay,g3,g4⟩:=sC v N;rw[g1]at g3;cases g3;have g5:qz k u=true:=g2;have g6:(Sum.inl p.1:Key)=k:=g4.1;rw[<-g6]at g5;rcases cT g5 with ⟨j,t,f,n⟩|⟨j,t,f,n⟩
   .cases f;exact#[t,n]
   .cases f
 refine#[.ref s.heap.objs.size,_,I.laid (t':=tk) M (Kk _) (show cU X.prog X.w _ _ _ (.lst _)from#[?_,b.toList,c,O,?_]),rfl,q _ (I.hok.fresh (Kk _))]
 .rw[J2,J2];lia
 .rw[Array.toArray_toList];exact B
theorem Hc(ps:List (Int×V))(z:Int):nh (kI ps) (Sum.inl z)=(ps.find? λp=>decide (p.1=z)).map (·.2):=by
 unfold nh kI;rw[List.find?_map];have:(λa:Key×V=>decide (a.1=Sum.inl z))∘(λp:Int×V=>((Sum.inl p.1:Key),p.2))=λp=>decide (p.1=z):=by funext p;show decide ((Sum.inl p.1:Key)=Sum.inl z)=_;rw[yU];by_cases e:p.1=z<;>simp[e]
 rw[this];cases ps.find? λp=>decide (p.1=z)<;>rfl
def FE(ps:List (Int×V))(z:Int)(v:V):List (Int×V):=if(ps.any λp=>decide (p.1=z))=true then ps.map (λp=>if p.1=z then(p.1,v)else p)else ps++[(z,v)]
theorem Hx(ps:List (Int×V))(z:Int)(v:V):nN (kI ps) (Sum.inl z) v=kI (FE ps z v):=by
 unfold nN FE;have a:((kI ps).any λb=>decide (b.1=Sum.inl z))=ps.any λp=>decide (p.1=z):=by unfold kI;rw[List.any_map];congr 1;funext p;show decide ((Sum.inl p.1:Key)=Sum.inl z)=_;rw[yU];by_cases e:p.1=z<;>simp[e]
 rw[a];split
 .unfold kI;rw[K5,K5];refine LB λp _=> ?_;show(if(Sum.inl p.1:Key)=Sum.inl z then((Sum.inl p.1:Key),v)else(Sum.inl p.1,p.2))=((Sum.inl (if p.1=z then(p.1,v)else p).1:Key),(if p.1=z then(p.1,v)else p).2);by_cases e:p.1=z
  .rw[J5 e,J5 (by rw[e])]
  .rw[J4 e,J4 λq=>e (Sum.inl.inj q)]
 .unfold kI;rw[KP];rfl
end L2
namespace L2
open PySem PySem.Spec PyProof.Rows PySem.W
theorem Ed{K:PySem.W.Frag}{a:Addr}{xs:List V}{g:TG}{M:TT}{N:TE}{k:Nat}{fr:List Nat}{p:St}{H:Hp}{Q:VK}(f:Nat->V->Hp->Prop)(ak:∀i y H H',Same H H'->f i y H->f i y H')(ha:SqL K H a xs)(hn:xs.length<=sizeLine)
  (hs:∀ (i:Nat) (x:V) (vs:St) (D:Addr) (H':Hp) (R:V->St->Hp->Prop) (S:St->Hp->Prop),xs[i]?=some x->vs.length=k->Same H H'->(∃l,H' D=some (.lst l))->
   (∀y v d,f i y (hide d D)->v.length=k->Same H' d->R y (v++fr.map λj=>(p[j]?).join) d)->
    g x (vs++fr.map λj=>(p[j]?).join) H' λr H3=>M r H3 λb J=>if b=true then N r J λy o=>R y r o else S r J)
  (hd:∀D H' (c:List V),H D=none->Same H H'->H' D=some (.lst c)->c.length=xs.length->(∀ (j:Nat) (y:V),c[j]?=some y->f j y (hide H' D))->Q (.ref D) H'):LCW (Itl K a) g M N k fr p H Q:=by
 intro D w;refine#[λi m O H'=>m=xs.length-i/\i<=xs.length/\∃ (vs:St) (c:List V),vs.length=k/\O=vs++(fr.map λj=>(p[j]?).join)/\Same H H'/\H' D=some (.lst c)/\c.length=i/\(∀ (j:Nat) (y:V),c[j]?=some y->f j y (hide H' D)),#[xs.length,by simp,Ls _,List.replicate k none,[],by simp,rfl,Same.new w,av,rfl,by simp],?_];rintro i m O H' ⟨rfl,hi,vs,c,hv,rfl,u,A,hl,L⟩;have B:SqL K H' a xs:=u.seq ha;by_cases s:i<xs.length
 .refine .inr #[#[xs,xs[i],B,by simp[s]],λU d=>∃ (vs:St) (c:List V),vs.length=k/\U=vs++(fr.map λj=>(p[j]?).join)/\Same H d/\d D=some (.lst c)/\c.length=i+1/\(∀ (j:Nat) (y:V),c[j]?=some y->f j y (hide d D)),λU d q=>#[xs.length- (i+1),LW s (LN _),rfl,s,q],λx H2 y=> ?_];obtain⟨e1,e2⟩:=y;subst e1;have hx:=e2 xs B;refine hs i x vs D _ (λy r o=>∃t,o D=some (.lst t)/\t.length<sizeLine/\∃ (vs:St) (c:List V),vs.length=k/\r=vs++(fr.map λj=>(p[j]?).join)/\Same H (upd o D (.lst (t++[y])))/\upd o D (.lst (t++[y])) D=some (.lst c)/\c.length=i+1/\(∀ (j:Nat) (z:V),c[j]?=some z->f j z (hide (upd o D (.lst (t++[y]))) D))) _ hx hv u #[_,A] (λy v d pz a3 G=> ?_);have aj:=G D _ A;refine#[_,aj,by rw[hl];exact Kb s hn,v,c++[y],a3,rfl,(u.trans G).upd w,av,by rw[Kz,hl];rfl,λj z h=> ?_];rw[i0];by_cases hj:j<c.length
  .rw[KR hj]at h;exact ak _ _ _ _ (ia G) (L j z h)
  .rw[KN ()]at h;have aC:j-c.length=0:=by
    cases e:j-c.length with
    |zero=>rfl
    |succ n=>rw[e]at h;simp at h
   rw[aC]at h;cases h;have ej:j=i:=()
   subst ej;exact pz
 .have e:i=xs.length:=LO hi (LP s);subst e;exact .inl #[#[xs,B,Kk _],hd D H' c w u A hl L]
end L2
namespace L2
open PySem PySem.Spec PySem.W PyProof.Rows PySem.SeqAt
def CFd(_ j:Int):Prop:=j≠0/\j.natAbs.log2<9000
theorem DN:OpR X (binaryOp .FloorDiv) (rI CFd λi j=> .int (i.fdiv j)):=opI λ_ _ _ _ _ _ _ a q=>floordiv_int a.1 q (.inl (PyProof.noPylong_of_log2 a.2))
end L2
namespace L2
open PySem PySem.Spec PyProof.Rows
theorem sc_of{N P:List Str}{h:Scope}(a:h.kind= .function:=by rfl)(b:h.isCoroutine=false:=by rfl)(c:h.isGenerator=false:=by rfl)(d:N.Nodup:=by decide+kernel)(e:N.take P.length=P:=by rfl)(f:∀x∈P,h.names.lookup x=some .local\/h.names.lookup x=some .cell:=by decide+kernel)(g:∀y∈h.names,y.2≠ .free:=by decide+kernel):aK N P h:=#[a,b,c,d,e,f,g]
section
variable{X:Cx}{x:Str}{ps:List Str}{j k:Nat}{sp:Sp}{e a b tg:Expr}{es:List Expr}{t:TA}{p pos:Pos}{ta tb te:TE}
theorem wcal(C:Cal X.prog X.w X.K X.mg X.base j x ps sp)(l:Room k X.A)(c:PA X (e::es) t)(h:j<=k:=by first|decide|lia)(g:Gl X x:=by rfl)(d:(x==("__debug__":Str))=false:=by decide)
  (f:starEach (e::es) X.env=(false,eval e X.env)::starEach es X.env:=by rfl) (i:(backTo pos (starEach es X.env)).any (·.1)=false:=by rfl):PE X (.Call (.Name x p) (e::es) [] pos) (De sp [] E0 t):=Ih C l h g c d f i
theorem wset(i:Nat){pos':Pos}(c:X.N.Nodup)(d:PE X e te)(g:X.N[i]?=some x:=by rfl)(l:Loc X.env.scope x:=by first|exact N5 rfl|exact Or.inr rfl)(h:swapsWith e (some (.Name x pos')) pos.line X.env=pure false:=by rfl)(f:X.fn x=true\/X.env.scope.names.lookup x=some .local:=by first|exact .inl rfl|exact .inr rfl|assumption):PS X (.Assign [.Name x pos'] e pos) (yp te (bD i)):=DF c g l d h f
theorem wname(i:Nat)(c:X.N.Nodup)(f:X.N[i]?=some x:=by rfl)(g:Loc X.env.scope x:=by first|exact N5 rfl|exact Or.inr rfl)(d:X.fn x=true\/X.env.scope.names.lookup x=some .local:=by first|exact .inl rfl|exact .inr rfl|assumption):PG X (.Name x pos) (bD i):=AF c f g d
theorem dh(K:PySem.W.Frag)(c:PE X a ta)(d:PE X b tb)(h:X.K=K:=by rfl)(f:vz b:=by intro _ _;rfl):PE X (.Subscript a b pos) (tOp (DC K) ta tb):=AG (qA h) c d f
theorem kS(K:PySem.W.Frag)(c:PE X a ta)(d:PE X b tb)(h:X.K=K:=by rfl)(f:vz b:=by intro _ _;rfl):PE X (.Subscript a b pos) (tOp (Hw K) ta tb):=AG (Gb h) c d f
theorem wlen(K:PySem.W.Frag)(g:X.mg "len"=none)(d:PE X e te)(h:X.K=K:=by rfl)(f:Gl X "len":=by rfl)(c:starEach [e] X.env=(false,eval e X.env)::starEach [] X.env:=by rfl)(i:(backTo pos (starEach [] X.env)).any (·.1)=false:=by rfl):PE X (.Call (.Name "len" p) [e] [] pos) (tCB (GP K) (Dd te Fi)):=
 dX (rY h) f g PySem.boot_len (ae d aq c) ∅ ∅ c i
theorem wrng(g:X.mg "range"=none)(c:PE X a ta)(f:Gl X "range":=by rfl)(h:starEach [a] X.env=[(false,eval a X.env)]:=by rfl)(d:starEach [a] X.env=(false,eval a X.env)::starEach [] X.env:=by rfl):PI X tg (.Call (.Name "range" p) [a] [] pos) (GU (Dd ta Fi)):=BP f g (ae c aq d) h
theorem wil(K:PySem.W.Frag)(hl:PE X e te)(h:X.K=K:=by rfl):PI X tg e (En K te):=DG h hl
theorem wit(K:PySem.W.Frag)(hl:PE X e te)(h:X.K=K:=by rfl):PI X tg e (IE K te):=FI h hl
theorem wfor{body:List Stmt}{c:TI}{g:TG}{tb:TS}(i:PI X tg e c)(h:PG X tg g)(d:PSs X body tb)(l:PassesOwn (model X.prog X.w) X.A X.env X.xe:=by exact PassesOwn.never)(f:X.calm=true:=by rfl)(m:∀x,foldedSetIterable e X.env x=pure x:=by intro _;rfl):PS X (.For tg e body [] pos) (Jc c g tb):=Hy l f i h d m
theorem wpt{c:CmpOp}{r:R2}(h:OpR X (compareOp c) r)(d:PE X a ta)(f:PE X b tb)(g:behindInMarks c b=false:=by exact nomark _):PT X (.Compare a [c] [b] pos) (GH (tOp r ta tb)):=lY h d f g
theorem wpe{c:CmpOp}{r:R2}(h:OpR X (compareOp c) r)(d:PE X a ta)(f:PE X b tb)(g:behindInMarks c b=false:=by exact nomark _):PE X (.Compare a [c] [b] pos) (tOp r ta tb):=FQ h d f g
theorem wfld(K:PySem.W.Frag){f:Str}(d:PE X e ta)(h:X.K=K:=by rfl)(c:attributeBase e f X.env (eval e X.env)=eval e X.env:=by rfl):PE X (.Attribute e f pos) (Hl K ta f):=FP h d c
theorem wsf(K:PySem.W.Frag){f:Str}{pos':Pos}(c:PE X a ta)(g:PE X b tb)(h:X.K=K:=by rfl)(d:swapsWith b (some (.Attribute a f pos')) pos.line X.env=pure false:=by rfl):PS X (.Assign [.Attribute a f pos'] b pos) (Hr K ta tb f):=FG h c g d
end
section
variable{X:Cx}{elt target iter:Expr}{ifs:List Expr}{sc:Scope}{pos:Pos}{wi:TI}{g:TG}{tc:TT}{te:TE}
theorem wnC(i:Nat){x:Str}{N a:List Str}{e:Shared}{b:Hp}{c:List Addr}{d:List (Addr×Obj)}(f:(N++a).Nodup:=by decide+kernel)(j:(N++a)[i]?=some x:=by rfl)(k:Loc (cI X (N++a) sc e b c d).env.scope x:=by first|exact N5 rfl|exact Or.inr rfl)(h:(cI X (N++a) sc e b c d).fn x=true\/(cI X (N++a) sc e b c d).env.scope.names.lookup x=some .local:=by first|exact .inl rfl|exact .inr rfl|assumption):PG (cI X (N++a) sc e b c d) (.Name x pos) (bD i):=AF f j k h
theorem wlc(vars c:List Str)(fr:List Nat)(l:PI X target iter wi)(k:∀ {e a b d},PG (cI X (vars++c) sc e a b d) target g)(q:∀ {e a b d},PTs (cI X (vars++c) sc e a b d) ifs tc)(h:∀ {e a b d},PE (cI X (vars++c) sc e a b d) elt te)(f:X.calm=true:=by rfl)
  (i:sc.names.all (λy=> !(y.2== .free)||(X.env.kindOf y.1==some .cell||X.env.kindOf y.1==some .free))=true:=by rfl) (o:sc.names.all (λy=> !(y.2== .cell)|| !(c.contains y.1))=true:=by rfl) (m:sc.kind= .function:=by rfl) (n:sc.names.all (λy=> !(y.2== .local)||(sc.names.lookup y.1==some .local))=true:=by rfl)
  (j:o4 X sc fr c:=by repeat (first|exact MJ|refine⟨⟨⋯,N5 ⋯,N5 ⋯⟩,?_⟩)) (p:∀x,foldedSetIterable iter X.env x=pure x:=by intro _;rfl):PE X (.ListComp elt [#[target,iter,ifs,0]] sc pos) (tLC wi g tc te vars.length fr):=Ie f i o m n j l (λ_ _ _ _=>k) (λ_ _ _ _=>q) (λ_ _ _ _=>h) p
theorem wls(i:Nat){x:Str}{f h:Pos}(j:X.N.Nodup)(vars c:List Str)(fr:List Nat)(p:PI X target iter wi)(o:∀ {e a b d},PG (cI X (vars++c) sc e a b d) target g)(w:∀ {e a b d},PTs (cI X (vars++c) sc e a b d) ifs tc)(l:∀ {e a b d},PE (cI X (vars++c) sc e a b d) elt te)(q:X.N[i]?=some x:=by rfl)(z:X.env.kindOf x=some .local:=by rfl)(k:X.calm=true:=by rfl)
  (m:sc.names.all (λy=> !(y.2== .free)||(X.env.kindOf y.1==some .cell||X.env.kindOf y.1==some .free))=true:=by rfl) (t:sc.names.all (λy=> !(y.2== .cell)|| !(c.contains y.1))=true:=by rfl) (r:sc.kind= .function:=by rfl) (s:sc.names.all (λy=> !(y.2== .local)||(sc.names.lookup y.1==some .local))=true:=by rfl)
  (n:o4 X sc fr c:=by repeat (first|exact MJ|refine⟨⟨⋯,N5 ⋯,N5 ⋯⟩,?_⟩)) (v:swapsWith (.ListComp elt [#[target,iter,ifs,0]] sc pos) (some (.Name x f)) h.line X.env=pure true:=by rfl)
  (u:∀x,foldedSetIterable iter X.env x=pure x:=by intro _;rfl):PS X (.Assign [.Name x f] (.ListComp elt [#[target,iter,ifs,0]] sc pos) h) (yp (tLC wi g tc te vars.length fr) (bD i)):=BJ j q z k m t r s n p (λ_ _ _ _=>o) (λ_ _ _ _=>w) (λ_ _ _ _=>l) v u
end
end L2
namespace L2
open PySem PyProof PyProof.Rows
section
variable{X:Cx}{tg:Expr}
def IY(b:TA):TE:=λc H Q=>b c H λvs a=>∃i j:Int,vs=[.int i, .int j]/\∀p,a p=none->Q (.ref p) (upd a p (.rng i j))
theorem FL{a b:Expr}{g:TA}{p pos:Pos}(l:Gl X "range")(m:X.mg "range"=none)(k:PA X [a,b] g)(n:starEach [a,b] X.env=[(false,eval a X.env),(false,eval b X.env)]:=by rfl)(f:starEach [b] X.env=[(false,eval b X.env)]:=by rfl):
  PE X (.Call (.Name "range" p) [a,b] [] pos) (IY g):=by
 intro u s z H Q I h;refine Call_ (iS I l m boot_range (Ma (thn (k pos u s z H _ I h) λus y ⟨vs,A,d,r1,v⟩=> ?_) (by rw[n,f]) (by rw[f];rfl)));obtain⟨i,j,e,q⟩:=v;subst e;cases r1 with
 |cons r c=>
  cases c with
  |cons x c=>
   cases c;obtain⟨t,rfl⟩:=r;obtain⟨t',rfl⟩:=x;refine call_range_2 ?_;exact#[.ref y.heap.objs.size,_,d.laid (λb o e=>KU _ e) (Kk _) (show cU X.prog X.w _ _ _ (.rng i j)from#[_,_,_,Lw _ rfl]),rfl,q _ (d.hok.fresh (Kk _))]
end
def Fy:List V->Hp->VK->Prop:=λxs H Q=>∃ (p:Addr) (n:Nat),xs=[.ref p]/\H p=some (.rng 1 ((n+1:Nat):Int))/\n<=1000/\∀l,H l=none->Q (.ref l) (upd H l (.lst (((List.range' 1 n).map λi:Nat=>(i:Int)).map V.int)))
theorem xG{X:Cx}(g:X.calm=true):gJ X (.type "list") Fy:=by
 intro A s B H vs us Q I y h;obtain⟨p,n,rfl,l,k,q⟩:=h;obtain⟨u,rfl,x⟩:=vD y;cases x;obtain⟨t,u,v,e⟩:=I.hok p _ l;have m:IsRange s.heap p 1 ((n+1:Nat):Int) 1 t u v:=e;refine call_list_range (n:=n) (I.ok.hd g) m (small_one ∅ ∅ () ()) (by rw[rangeSize_one];split<;>lia) () λh' z a c j f b=> ?_;have o:Vals (((List.range' 1 n).map λi:Nat=>(i:Int)).map V.int) a.toList:=by refine pJ a.toList n 1 (by rw[ND];exact b.1) λi w r=> ?_;obtain⟨t',d⟩:=b.2 i w (by rw[<-r,NY]);exact#[t',by rw[d];congr 1;lia]
 refine#[.ref s.heap.objs.size,_,I.laid (t':=z) j (Kk _) (show cU X.prog X.w _ _ _ (.lst _)from#[?_,a.toList,c,o,?_]),rfl,q _ (I.hok.fresh (Kk _))]
 .rw[J2,J2,List.length_range'];exact Kd k ∅
 .rw[Array.toArray_toList];exact f
end L2
namespace Bh
def bits(n:Nat):List Int:=((List.range 8).filter n.testBit).map λ(k:Nat)=>(k:Int)
theorem dg{n:Nat}:z∈bits n↔∃k:Nat,k<8/\n.testBit k=true/\z=k:=by
 unfold bits;simp only[Ka,Kx,J9];constructor
 .rintro⟨k,⟨a,b⟩,rfl⟩;exact#[k,a,b,rfl]
 .rintro⟨k,a,b,rfl⟩;exact#[k,#[a,b],rfl]
theorem mD{n k:Nat}(h:k<8):(k:Int)∈bits n↔n.testBit k=true:=by
 rw[dg];constructor
 .rintro⟨j,_,a,e⟩;have:k=j:=()
  rw[this];exact a
 .intro a;exact#[k,h,a,rfl]
theorem jn(h:z∈bits n):0<=z/\z<8:=by obtain⟨k,a,_,rfl⟩:=dg.mp h;lia
theorem a9(n:Nat):(bits n).length<=8:=by unfold bits;rw[J2];exact Kd (Lu _ _) (by simp)
theorem Jr(b:n<256)(a:m<256):n|||m<256:=K4 (n:=8) b a
theorem EX(a:n<256):n&&&m<256:=Ks O0 a
def ur(a:List Int):Nat:=a.foldl (λs t=>s|||2^t.toNat) 0
theorem o6:∀ (a:List Int) (s k:Nat),(∀z∈a,0<=z)->((a.foldl (λs (t:Int)=>s|||2^t.toNat) s).testBit k=true↔s.testBit k=true\/(k:Int)∈a)
 | [],s,k,_=>by simp
 |z::r,s,k,h=>by
  rw[MV,o6 r _ k (λy b=>h y (Ke _ b)),Kl,KH,Kt,J7,decide_eq_true_eq];have c:=h z Kp;have:z.toNat=k↔(k:Int)=z:=()
  rw[this,O6]
theorem qR{n m:Nat}(e:n<256)(d:m<256)(h:∀k,k<8->(n.testBit k=true↔m.testBit k=true)):n=m:=by
 refine Kj λk=> ?_;by_cases c:k<8
 .have:=h k c;cases a:n.testBit k with
  |true=>exact(this.mp a).symm
  |false=>
   cases b:m.testBit k with
   |true=>exact absurd (this.mpr b) (by rw[a];simp)
   |false=>rfl
 .have f:2^8<=2^k:=Kw () ();rw[K1 (),K1 ()]
theorem Ax:∀ (b:List Int) (s:Nat),s<256->(∀z∈b,0<=z/\z<8)->b.foldl (λs (t:Int)=>s|||2^t.toNat) s<256
 | [],s,a,_=>a
 |z::r,s,a,h=>by rw[MV];refine Ax r _ (Jr a ?_) λy c=>h y (Ke _ c);have d:=h z Kp;exact Kb (LR () (show z.toNat<8 by lia)) ()
theorem Fp(d:n<256)(b:∀z∈a,0<=z/\z<8)(h:∀z,z∈a↔z∈bits n):ur a=n:=by refine qR (Ax a 0 () b) d λk c=> ?_;unfold ur;rw[o6 a 0 k (λz e=>(b z e).1),h,mD c,KI];simp
theorem fC{n k:Nat}:n.testBit k=decide (n/2^k % 2=1):=Nat.testBit_eq_decide_div_mod_eq
theorem EO:∀n:Nat,n<256->(List.range (if n=0 then 0 else n.log2+1)).filter n.testBit=(List.range 8).filter n.testBit:=by decide+kernel
end Bh
namespace Bh
theorem qZ(n:Nat):(bits n).Nodup:=by unfold bits;refine List.Pairwise.map _ (λa b h=> ?_) (List.Pairwise.filter _ La);intro e;exact h ()
def idxs(p:Nat->Int->Bool):Nat->List Int->List Int
 |_,[]=>[]
 |i,z::r=>if p i z=true then(i:Int)::idxs p (i+1) r else idxs p (i+1) r
def picks(p:Nat->Int->Bool):Nat->List Int->List Int
 |_,[]=>[]
 |i,z::r=>if p i z=true then z::picks p (i+1) r else picks p (i+1) r
theorem jT{p:Nat->Int->Bool}:∀ {e:List Int} {i:Nat} {y:Int},y∈idxs p i e↔∃ (j:Nat) (z:Int),e[j]?=some z/\p (i+j) z=true/\y=(i+j:Nat)
 | [],i,y=>by simp[idxs]
 |x::r,i,y=>by
  have f:= @jT p r (i+1) y;have g:(∃ (j:Nat) (z:Int),(x::r)[j]?=some z/\p (i+j) z=true/\y=(i+j:Nat))↔(p i x=true/\y=(i:Nat))\/∃ (j:Nat) (z:Int),r[j]?=some z/\p (i+1+j) z=true/\y=(i+1+j:Nat):=by
   constructor
   .rintro⟨j,z,a,b,c⟩;cases j with
    |zero=>
     have:x=z:=by simpa using a
     subst this;exact .inl #[b,c]
    |succ j=>exact .inr #[j,z,by simpa using a,by rw[show i+1+j=i+(j+1) by lia];exact b,by rw[c];lia]
   .rintro(⟨a,b⟩|⟨j,z,a,b,c⟩)
    .exact#[0,x,rfl,a,b]
    .exact#[j+1,z,by simpa using a,by rw[show i+(j+1)=i+1+j by lia];exact b,by rw[c];lia]
  rw[g,idxs];split
  .rename_i d;rw[J7,f];constructor
   .rintro(h|h)
    .exact .inl #[d,h]
    .exact .inr h
   .rintro(⟨_,h⟩|h)
    .exact .inl h
    .exact .inr h
  .rename_i d;rw[f];constructor
   .intro h;exact .inr h
   .rintro(⟨h,_⟩|h)
    .exact absurd h d
    .exact h
theorem kn{p:Nat->Int->Bool}:∀ {d:List Int} {i:Nat} {y:Int},y∈picks p i d↔∃ (j:Nat),d[j]?=some y/\p (i+j) y=true
 | [],i,y=>by simp[picks]
 |x::r,i,y=>by
  have e:= @kn p r (i+1) y;have f:(∃ (j:Nat),(x::r)[j]?=some y/\p (i+j) y=true)↔(p i x=true/\y=x)\/∃ (j:Nat),r[j]?=some y/\p (i+1+j) y=true:=by
   constructor
   .rintro⟨j,a,b⟩;cases j with
    |zero=>
     have:x=y:=by simpa using a
     subst this;exact .inl #[b,rfl]
    |succ j=>exact .inr #[j,by simpa using a,by rw[show i+1+j=i+(j+1) by lia];exact b]
   .rintro(⟨a,b⟩|⟨j,a,b⟩)
    .subst b;exact#[0,rfl,a]
    .exact#[j+1,by simpa using a,by rw[show i+(j+1)=i+1+j by lia];exact b]
  rw[f,picks];split
  .rename_i c;rw[J7,e];constructor
   .rintro(h|h)
    .exact .inl #[c,h]
    .exact .inr h
   .rintro(⟨_,h⟩|h)
    .exact .inl h
    .exact .inr h
  .rename_i c;rw[e];constructor
   .intro h;exact .inr h
   .rintro(⟨h,_⟩|h)
    .exact absurd h c
    .exact h
theorem nO:∀ (a:List Int) (i:Nat),(picks p i a).Sublist a
 | [],_=>List.Sublist.slnil
 |x::r,i=>by
  rw[picks];split
  .exact(nO r (i+1)).cons_cons x
  .exact(nO r (i+1)).cons x
theorem k7{a:List Int}(hl:a.length<=8):∀z∈idxs p 0 a,0<=z/\z<8:=λz c=>by obtain⟨j,y,b,_,e⟩:=jT.mp c;have:=(Kh.mp b).1;lia
def fN(s h:Nat):Nat:=ur (idxs (λ_ z=>s.testBit z.toNat) 0 (bits h))
def aN(s h:Nat):Nat:=ur (picks (λi _=>s.testBit i) 0 (bits h))
theorem iF:∀z∈picks p 0 (bits h),0<=z/\z<8:=λz a=>jn ((nO _ _).mem a)
theorem jK(h:∀z∈a,0<=z)(k:Nat):(ur a).testBit k=true↔(k:Int)∈a:=by unfold ur;rw[o6 a 0 k h,KI];simp
theorem mX{h i j:Nat}{z:Int}(c:(bits h)[i]?=some z)(d:(bits h)[j]?=some z):i=j:=by obtain⟨e,a⟩:=Kh.mp c;obtain⟨f,b⟩:=Kh.mp d;exact(OG (qZ h)).mp (a.trans b.symm)
theorem uB(o:s<2^(bits h).length):fN (aN s h) h=s:=by
 have m:(bits h).length<=8:=a9 h;have p:s<256:=Kb o (Kw () m);refine Fp p (k7 m) λz=> ?_;rw[jT,dg];constructor
 .rintro⟨j,y,c,a,rfl⟩;have q:=jn (Km c);have r:=(Kh.mp c).1;have e:(aN s h).testBit y.toNat=true:=a;unfold aN at e;rw[jK (λz f=>(iF z f).1),kn]at e;obtain⟨i,l,n⟩:=e;have d:((y.toNat:Nat):Int)=y:=()
  rw[d]at l;have:=mX c l;subst this;exact#[0+j,(),n,rfl]
 .rintro⟨k,c,a,rfl⟩;have b:k<(bits h).length:=by
   by_cases b:k<(bits h).length
   .exact b
   .have t:2^(bits h).length<=2^k:=Kw () ();rw[K1 ()]at a;cases a
  have g:(bits h)[k]?=some ((bits h)[k]'b):=by simp
  have q:=jn (Km g);refine#[k,_,g,?_,by simp];show(aN s h).testBit _=true;unfold aN;rw[jK (λz f=>(iF z f).1),kn];have d:((((bits h)[k]'b).toNat:Nat):Int)=(bits h)[k]'b:=()
  rw[d];exact#[k,g,by simpa using a]
theorem BM{s h j:Nat}{z:Int}(a:(bits h)[j]?=some z):(fN s h).testBit j=s.testBit z.toNat:=by
 have g:(fN s h).testBit j=true↔s.testBit z.toNat=true:=by
  unfold fN;rw[jK (λz a=>(k7 (a9 h) z a).1),jT];constructor
  .rintro⟨i,y,b,c,e⟩;have:i=j:=()
   subst this;rw[a]at b;cases b;exact c
  .intro q;exact#[j,z,a,q,by simp]
 cases d:(fN s h).testBit j<;>cases f:s.testBit z.toNat<;>simp_all
theorem xq{b:List Int}{q:Int->Bool}:∀ (i:Nat),idxs (λ_ z=>q z) i b=((List.range b.length).filter λj=>q (b.getD j 0)).map λ(j:Nat)=>((i+j:Nat):Int):=by
 induction b with
 |nil=>intro i;rfl
 |cons x r d=>
  intro i;rw[idxs,d (i+1),KA,List.range_succ_eq_map,LA];have e:List.map (λ(j:Nat)=>((i+j:Nat):Int)) (List.filter (λj=>q ((x::r).getD j 0)) (List.map Nat.succ (List.range r.length)))=List.map (λ(j:Nat)=>((i+1+j:Nat):Int)) (List.filter (λj=>q (r.getD j 0)) (List.range r.length)):=by
   rw[MW,K5];have c:((λj=>q ((x::r).getD j 0))∘Nat.succ)=λj=>q (r.getD j 0):=by funext j;simp
   rw[c];refine LB λj _=> ?_;show((i+(j+1):Nat):Int)=_;rw[show i+(j+1)=i+1+j by lia]
  by_cases a:q x=true
  .rw[J5 a,J5 (by simpa using a),KS,e];rfl
  .rw[J4 a,J4 (by simpa using a),e]
end Bh
namespace Bh
def iD(f:List Int)(t:Int):List Int:=f++f.map λp=>((p.toNat|||2^t.toNat:Nat):Int)
def iO(n:Nat):List Int:=(bits n).foldl iD [0]
def d8(n:Nat)(k:Int):List Int:=(iO n).filter λp=>decide ((((bits p.toNat).length:Nat):Int)=k)
def D7(n:Nat)(made:List (Int×Int))(k:Nat):List (Int×Int):=if n.testBit k=true then made++made.map λq=>(q.1+2^k,q.2+1)else made
def uT(n i:Nat):List (Int×Int):=(List.range i).foldl (D7 n) [(0,0)]
def lh(n:Nat):Bool:=decide ((uT n 8).map Prod.fst=iO n)&&(uT n 8).all (λq=>decide (0<=q.1/\q.1<256/\q.2=(((bits q.1.toNat).length:Nat):Int)))
theorem j4:∀n:Nat,n<256->lh n=true:=by decide+kernel
theorem wV(h:n<256):(uT n 8).map Prod.fst=iO n:=by have:=j4 n h;unfold lh at this;rw[Kn]at this;exact Ko this.1
theorem qw(h:n<256):∀q∈uT n 8,0<=q.1/\q.1<256/\q.2=(((bits q.1.toNat).length:Nat):Int):=λq a=>by have:=j4 n h;unfold lh at this;rw[Kn]at this;exact Ko (K2.mp this.2 q a)
theorem wU(h:n<256):∀p∈iO n,0<=p/\p<256:=λp a=>by rw[<-wV h]at a;obtain⟨q,b,rfl⟩:=Ka.mp a;exact#[(qw h q b).1,(qw h q b).2.1]
theorem Bq(f:List Int)(t:Int):(iD f t).length=2*f.length:=by unfold iD;rw[Kz,J2];lia
theorem nZ:∀ (a:List Int) (f:List Int),(a.foldl iD f).length=2^a.length*f.length
 | [],f=>by simp
 |t::r,f=>by rw[MV,nZ r,Bq,KA,NI,O7]
theorem BR(n:Nat):(iO n).length<=256:=by unfold iO;rw[nZ];have:=a9 n;have a:2^(bits n).length<=2^8:=Kw () this;simp;lia
theorem Di(h:∀p∈f,0<=p):∀p∈iD f t,0<=p:=λp a=>by
 rcases KC.mp a with q|q
 .exact h p q
 .obtain⟨x,_,rfl⟩:=Ka.mp q;lia
theorem xv:∀ (a:List Int) (f:List Int),(∀p∈f,0<=p)->∀p∈a.foldl iD f,0<=p
 | [],_,h=>h
 |t::r,f,h=>by rw[MV];exact xv r _ (Di h)
end Bh
namespace Bh
end Bh
namespace Bh
theorem Bt:∀n:Nat,n<256->(bits n).length=n % 2+(bits (n/2)).length:=by decide+kernel
theorem k4(h:n<=8):2^n<=256:=Kw (n:=2) () h
end Bh
namespace Bh
abbrev sz(n:Nat):Nat:=(bits n).length
theorem ig(n:Nat):sz n=((List.range 8).filter n.testBit).length:=by show(bits n).length=_;unfold bits;rw[J2]
theorem oe:∀ (l:List Nat),(∀x∈l,p x=true->q x=true)->(l.filter p).length<=(l.filter q).length
 | [],_=>Kk _
 |x::l,h=>by
  have d:=oe l λy e=>h y (Ke _ e);have c:=h x Kp;cases b:p x<;>cases a:q x
  .simp only[LA,b,a];exact d
  .simp only[LA,b,a,J5,KA];exact Nat.le_succ_of_le d
  .rw[b]at c;rw[c rfl]at a;cases a
  .simp only[LA,b,a,J5,KA];lia
theorem og:∀ (l:List Nat),(∀x∈l,p x=true->q x=true)->(l.filter p).length=(l.filter q).length->∀x∈l,p x=q x
 | [],_,_=>λx d=>by cases d
 |x::l,h,e=>λy c=>by
  have h':∀z∈l,p z=true->q z=true:=λz f=>h z (Ke _ f);have le:=oe l h';have d:=h x Kp;cases b:p x<;>cases a:q x
  .simp only[LA,b,a]at e;rcases J7.mp c with rfl|c
   .rw[b,a]
   .exact og l h' e y c
  .simp only[LA,b,a,J5,KA]at e;have g:(l.filter p).length=(l.filter q).length+1:=e;lia
  .rw[b]at d;rw[d rfl]at a;cases a
  .simp only[LA,b,a,J5,KA]at e;rcases J7.mp c with rfl|c
   .rw[b,a]
   .exact og l h' () y c
theorem fL{a b:Nat}(h:∀k,k<8->a.testBit k=true->b.testBit k=true):sz a<=sz b:=by rw[ig,ig];exact oe _ λk c=>h k (J9.mp c)
theorem sf{a b:Nat}(d:a<256)(f:b<256)(h:∀k,k<8->a.testBit k=true->b.testBit k=true)(e:sz a=sz b):a=b:=by rw[ig,ig]at e;refine qR d f λk c=> ?_;rw[og _ (λk c=>h k (J9.mp c)) e k (J9.mpr c)]
theorem Bn(a b:Nat):sz (a&&&b)<=sz a:=fL λk _ h=>by rw[KQ,Kn]at h;exact h.1
def cw(ms:List Int)(s:Nat):Nat:=ms.foldl (λr m=>max r (sz (s&&&m.toNat))) 0
theorem uA:∀ (ms:List Int) (s r:Nat),r<=ms.foldl (λr (m:Int)=>max r (sz (s&&&m.toNat))) r/\(∀m∈ms,sz (s&&&m.toNat)<=ms.foldl (λr (m:Int)=>max r (sz (s&&&m.toNat))) r)/\
  (ms.foldl (λr (m:Int)=>max r (sz (s&&&m.toNat))) r=r\/∃m∈ms,sz (s&&&m.toNat)=ms.foldl (λr (m:Int)=>max r (sz (s&&&m.toNat))) r)
 | [],s,r=>#[Kk _,λm hm=>(by cases hm), .inl rfl]
 |x::ms,s,r=>by
  obtain⟨b,c,a⟩:=uA ms s (max r (sz (s&&&x.toNat)));rw[MV];refine#[Kd (Nat.le_max_left _ _) b,λm hm=> ?_,?_]
  .rcases J7.mp hm with rfl|hm
   .exact Kd (Nat.le_max_right _ _) b
   .exact c m hm
  .rcases a with a|⟨m,hm,e⟩
   .rw[a];rcases Nat.le_total r (sz (s&&&x.toNat))with h|h
    .rw[Nat.max_eq_right h];exact .inr #[x,Kp,rfl]
    .rw[Nat.max_eq_left h];exact .inl rfl
   .exact .inr #[m,Ke _ hm,e]
theorem lU{m:Int}(h:m∈ms):sz (s&&&m.toNat)<=cw ms s:=(uA ms s 0).2.1 m h
theorem AB(h:ms≠[]):∃m∈ms,sz (s&&&m.toNat)=cw ms s:=by
 rcases(uA ms s 0).2.2 with e|e
 .cases ms with
  |nil=>exact absurd rfl h
  |cons m r=>
   have:=lU (s:=s) (m:=m) (ms:=m::r) Kp;have a:cw (m::r) s=0:=e;exact#[m,Kp,()]
 .exact e
theorem uz(h:ms≠[])(a:∀m∈ms,sz (s&&&m.toNat)<=b):cw ms s<=b:=by obtain⟨m,c,e⟩:=AB (s:=s) h;rw[<-e];exact a m c
theorem oB(d:∃m∈ms,sz (s&&&m.toNat)=r)(f:∀m∈ms,sz (s&&&m.toNat)<=r):cw ms s=r:=by obtain⟨m,c,e⟩:=d;have a:=lU (s:=s) c;have b:=uz (s:=s) (ms:=ms) (by rintro rfl;cases c) f;lia
theorem BG(ms:List Int)(s:Nat):cw ms s<=sz s:=by
 cases ms with
 |nil=>exact Ls _
 |cons m r=>exact uz (by simp) λm _=>Bn _ _
theorem br{s k j:Nat}(a:s.testBit k=true):(s^^^2^k).testBit j=(s.testBit j&& !decide (k=j)):=by
 rw[Ni,Kt];by_cases e:k=j
 .subst e;simp[a]
 .simp[e]
theorem jj:∀s:Nat,s<256->∀k:Nat,k<8->s.testBit k=true->s^^^2^k<s:=by decide+kernel
theorem BH{s:Nat}(f:ms≠[])(q:s<256)(p:∀m∈ms,¬(m.toNat&&&s=s)):
  (∃k,k<8/\s.testBit k=true/\cw ms (s^^^2^k)=cw ms s)/\∀k,s.testBit k=true->cw ms (s^^^2^k)<=cw ms s:=by
 have mono:∀k,s.testBit k=true->cw ms (s^^^2^k)<=cw ms s:=λk b=>uz f λm c=>by refine Kd (fL λj _ a=> ?_) (lU c);rw[KQ,br b,Kn,Kn]at a;rw[KQ,Kn];exact#[a.1.1,a.2]
 refine#[?_,mono];obtain⟨m,c,e⟩:=AB (s:=s) f;have r:∃k,k<8/\s.testBit k=true/\m.toNat.testBit k=false:=by
  refine Kr λg=>p m c ?_;refine Kj λj=> ?_;rw[KQ];cases a:s.testBit j with
  |false=>simp
  |true=>
   have i:j<8:=by refine MQ λh=> ?_;rw[K1 (Kb q (Kw () h:2^8<=2^j))]at a;cases a
   cases n:m.toNat.testBit j with
   |true=>rfl
   |false=>exact absurd #[j,i,a,n] g
 obtain⟨k,l,b,o⟩:=r;refine#[k,l,b,LO (mono k b) ?_];rw[<-e];refine Kd (fL λj _ a=> ?_) (lU c);rw[KQ,Kn]at a;rw[KQ,br b,Kn,Kn];refine#[#[a.1,?_],a.2];by_cases d:k=j
 .subst d;rw[o]at a;exact absurd a.2 Ku
 .simp[d]
theorem Fx{m:Int}(a:m∈ms)(h:m.toNat&&&s=s):cw ms s=sz s:=by refine LO (BG ms s) ?_;have:=lU (s:=s) a;rw[Nat.and_comm,h]at this;exact this
theorem nP:∀n:Nat,n<9->iO (2^n-1)=(List.range (2^n)).map λk:Nat=>(k:Int):=by decide+kernel
end Bh
namespace Bh
def fR(a:List Int)(s i:Nat):Int:=(List.range i).foldl (λr k=>if s.testBit k=true then(if a.getD (s^^^2^k) 0>r then a.getD (s^^^2^k) 0 else r)else r) 0
theorem oJ(a:List Int)(s i:Nat):fR a s (i+1)=if s.testBit i=true then(if a.getD (s^^^2^i) 0>fR a s i then a.getD (s^^^2^i) 0 else fR a s i)else fR a s i:=by unfold fR;rw[LX,NQ];rfl
theorem oK(c:List Int)(s:Nat):∀i,0<=fR c s i/\(∀k,k<i->s.testBit k=true->c.getD (s^^^2^k) 0<=fR c s i)/\(fR c s i=0\/∃k,k<i/\s.testBit k=true/\fR c s i=c.getD (s^^^2^k) 0)
 |0=>#[Int.le_refl 0,λk f=>absurd f (), .inl rfl]
 |i+1=>by
  obtain⟨l,h,j⟩:=oK c s i;rw[oJ];have lift:fR c s i=0\/∃k,k<i+1/\s.testBit k=true/\fR c s i=c.getD (s^^^2^k) 0:=by
   rcases j with j|⟨k,f,a,b⟩
   .exact .inl j
   .exact .inr #[k,(),a,b]
  by_cases g:s.testBit i=true
  .rw[J5 g];by_cases m:c.getD (s^^^2^i) 0>fR c s i
   .rw[J5 m];refine#[(),λk f d=> ?_, .inr #[i,(),g,rfl]];by_cases e:k=i
    .subst e;exact Int.le_refl _
    .have:=h k () d;lia
   .rw[J4 m];refine#[l,λk f d=> ?_,lift];by_cases e:k=i
    .subst e;lia
    .exact h k () d
  .rw[J4 g];refine#[l,λk f d=> ?_,lift];by_cases e:k=i
   .subst e;exact absurd d g
   .exact h k () d
theorem aW{s n k:Nat}(b:s<2^n)(a:s.testBit k=true):k<n:=by refine MQ λh=> ?_;rw[K1 (Kb b (Kw () h))]at a;cases a
theorem F4{d:List Int}(q:n<=8)(i:s<2^n)(r:ms≠[])(u:∀m∈ms,¬(m.toNat&&&s=s))(h:∀t,t<s->d.getD t 0=(cw ms t:Int)):fR d s n=(cw ms s:Int):=by
 have b:s<256:=Kb i (k4 q);obtain⟨⟨k,p,c,l⟩,le⟩:=BH r b u;obtain⟨v,o,f⟩:=oK d s n;have a:=o k (aW i c) c;rw[h _ (jj s b k p c),l]at a;rcases f with f|⟨j,w,g,e⟩
 .lia
 .rw[h _ (jj s b j () g)]at e;have:=le j g;lia
theorem Ju(h:∃m∈ms,m.toNat&&&s=s):(sz s:Int)=(cw ms s:Int):=by obtain⟨m,a,e⟩:=h;rw[Fx a e]
def Far(r:Int)(ps:List Int):Prop:=∀a∈ps,∀b∈ps,a≠b->(sz (a.toNat&&&b.toNat):Int)<=r-2
theorem Gk(r:Int):Far r []:=λa b=>by cases b
theorem Ey{z:Int}(h:Far r ps)(e:∀a∈ps,¬((sz (a.toNat&&&z.toNat):Int)>r-2)):Far r (ps++[z]):=by
 intro a i b j ne;rcases KC.mp i with c|c<;>rcases KC.mp j with d|d
 .exact h a c b d ne
 .have:b=z:=by simpa using d
  subst this;have:=e a c;lia
 .have:a=z:=by simpa using c
  subst this;have:=e b d;rw[Nat.and_comm];lia
 .have f:a=z:=by simpa using c
  have g:b=z:=by simpa using d
  exact absurd (f.trans g.symm) ne
theorem CZ:∀r:Nat,0<r->r<8->sz (2^r-1)=r/\sz (2^r-1-2^(r-1)+2^r)=r/\sz ((2^r-1)&&& (2^r-1-2^(r-1)+2^r))+1=r/\2^r-1≠2^r-1-2^(r-1)+2^r/\2^r-1-2^(r-1)+2^r<2^(r+1):=by
 intro r b a
 match r,b,a with
 |1,_,_=>decide+kernel
 |2,_,_=>decide+kernel
 |3,_,_=>decide+kernel
 |4,_,_=>decide+kernel
 |5,_,_=>decide+kernel
 |6,_,_=>decide+kernel
 |7,_,_=>decide+kernel
 |r+8,_,a=>lia
theorem yq:∀r:Nat,r<9->sz (2^r-1)=r:=by decide+kernel
theorem Ad{n r:Nat}{ps:List Int}(p:n<=8)(i:r<=n)(h:ps=[]\/(0<r/\r<n/\Far r ps)):∃s,s<2^n/\sz s=r/\(s:Int)∉ps:=by
 have b:2^r-1<2^n:=by have m:2^r<=2^n:=Kw () i;have o:0<2^r:=Mf ();lia
 rcases h with rfl|⟨j,r1,g⟩
 .exact#[2^r-1,b,yq r (),by simp]
 .obtain⟨c,d,k,l,e⟩:=CZ r j ();by_cases a:((2^r-1:Nat):Int)∈ps
  .refine#[2^r-1-2^(r-1)+2^r,Kb e (Kw () ()),d,λf=> ?_];have:=g _ a _ f ();rw[J8,J8]at this;lia
  .exact#[2^r-1,b,c,a]
def lF(r:Nat)(ps:List Int)(s:Nat):Bool:=decide (sz s=r)&&decide ((s:Int)∉ps)
def du(n r:Nat)(ps:List Int):List Int:=((List.range (2^n)).filter (lF r ps)).map λs:Nat=>(s:Int)
theorem nV:z∈du n r ps↔∃s:Nat,s<2^n/\sz s=r/\(s:Int)∉ps/\z=s:=by
 unfold du;rw[Ka];constructor
 .rintro⟨s,b,rfl⟩;rw[Kx,J9]at b;have a:=b.2;unfold lF at a;rw[Kn,Kf,Kf]at a;exact#[s,b.1,a.1,a.2,rfl]
 .rintro⟨s,c,a,d,rfl⟩;refine#[s,Kx.mpr #[J9.mpr c,?_],rfl];unfold lF;rw[J3 a,J3 d];rfl
section
variable{n r:Nat}{ps ms:List Int}
end
end Bh
namespace Bh
theorem oF:∀x:Nat,x<256->∀k:Nat,k<8->(x|||2^k) - (x&&&2^k)=x^^^2^k/\(x&&&2^k)<=(x|||2^k):=by decide+kernel
end Bh
namespace Bh
theorem oQ:∀ (n x y:Nat),x<=n->(x&&&y)+(x^^^ (x&&&y))=x:=by
 intro n
 induction n with
 |zero=>
  intro x y h;have:x=0:=()
  subst this;simp
 |succ n j=>
  intro x y h;by_cases g:x=0
  .subst g;simp
  have i:=j (x/2) (y/2) ();rw[<-Nat.and_div_two,<-Nat.xor_div_two]at i;have d:(x&&&y) % 2=1↔x % 2=1/\y % 2=1:=Nat.and_mod_two_eq_one;have e:(x^^^ (x&&&y)) % 2=1↔¬((x % 2=1)↔((x&&&y) % 2=1)):=Nat.xor_mod_two_eq_one;by_cases c:x % 2=1<;>by_cases f:y % 2=1
  .have a:=d.mpr #[c,f];have b:¬(x^^^ (x&&&y)) % 2=1:=λz=>(e.mp z) #[λ_=>a,λ_=>c];lia
  .have a:¬(x&&&y) % 2=1:=λz=>f (d.mp z).2;have b:=e.mpr λz=>a (z.mp c);lia
  .have a:¬(x&&&y) % 2=1:=λz=>c (d.mp z).1;have b:¬(x^^^ (x&&&y)) % 2=1:=λz=>(e.mp z) #[λq=>absurd q c,λq=>absurd q a];lia
  .have a:¬(x&&&y) % 2=1:=λz=>c (d.mp z).1;have b:¬(x^^^ (x&&&y)) % 2=1:=λz=>(e.mp z) #[λq=>absurd q c,λq=>absurd q a];lia
def au(s t:Nat):Nat:=s^^^ (s&&&t)
theorem F5(s t:Nat):(s||| (s&&&t)) - (s&&& (s&&&t))=au s t:=by
 have h:=oQ s s t (Kk _);have a:s||| (s&&&t)=s:=Kj λj=>by rw[Kl,KQ];cases s.testBit j<;>simp
 have b:s&&& (s&&&t)=s&&&t:=Kj λj=>by rw[KQ,KQ];cases s.testBit j<;>simp
 rw[a,b];unfold au;lia
theorem aG(s t j:Nat):(au s t).testBit j=(s.testBit j&& !t.testBit j):=by unfold au;rw[Ni,KQ];cases s.testBit j<;>cases t.testBit j<;>rfl
theorem iI(s t:Nat):au s t<=s:=by have:=oQ s s t (Kk _);unfold au;lia
theorem cz:∀s:Nat,s<256->∀k:Nat,k<8->s.testBit k=true->sz (s^^^2^k)+1=sz s:=by decide+kernel
end Bh
namespace Bh
end Bh
namespace Bh
def near(a b:Nat):Bool:=decide (sz a=sz (a&&&b)+1)&&decide (sz b=sz (a&&&b)+1)
def mP(s t y:Nat):Nat:=au s (2^t)|||2^y
end Bh
namespace Bh
def start(p:Nat):List Int:=(List.range p).map λi:Nat=>(i:Int)
structure Wk(p:Nat)(ts:List (Nat×Nat))(S:Nat->Prop)(ms:List Int)(pt:Nat)(seen row:List Nat)(here:Option (Nat×Nat)):Prop where
 self:pt∈seen
 sub:∀x∈row,x∈seen
 nd:seen.Nodup
 cls:∀x∈seen,x<p/\ms.getD x 0=ms.getD pt 0
 done:∀x∈seen,x∈row\/(∀k t,ts[k]?=some t->S k->(∀hi,here=some hi->x=hi.1->k<hi.2)->(t.1=x->t.2∈seen)/\(t.2=x->t.1∈seen))
theorem Wk.push{ms:List Int}(w:Wk p ts S ms pt seen row (some (h,i)))
  (o:y∉seen) (m:y<p) (l:ms.getD y 0=ms.getD pt 0):Wk p ts S ms pt (seen++[y]) (row++[y]) (some (h,i)):=by
 refine#[LZ _ w.self,λx c=> ?_,?_,λx c=> ?_,λx c=> ?_]
 .rcases KC.mp c with c|c
  .exact LZ _ (w.sub x c)
  .exact Lj _ c
 .rw[NR];exact#[w.nd,by simp,λa d b j e=>by rw[KZ.mp j]at e;rw[e]at d;exact o d]
 .rcases KC.mp c with c|c
  .exact w.cls x c
  .rw[KZ.mp c];exact#[m,l]
 .rcases KC.mp c with c|c
  .rcases w.done x c with n|hd
   .exact .inl (LZ _ n)
   .exact .inr λk t f g hh=>#[λe=>LZ _ ((hd k t f g hh).1 e),λe=>LZ _ ((hd k t f g hh).2 e)]
  .exact .inl (Lj _ c)
end Bh
namespace Bh
theorem EH(i l:Nat):min i l+(l- (i+1))<=l:=()
inductive jv(vs:List Nat):Nat->Prop
 |zero:jv vs 0
 |add {x v:Nat}:jv vs x->v∈vs->jv vs (x^^^v)
theorem jv.of_mem(h:v∈vs):jv vs v:=by
 have:=jv.add jv.zero h
 rwa [Nat.zero_xor]at this
theorem jv.xor(b:jv vs x)(c:jv vs y):jv vs (x^^^y):=by
 induction c with
 |zero=>rw[Nat.xor_zero];exact b
 |add _ a d=>rw[<-NV];exact d.add a
theorem jv.sub(h:∀v∈vs,jv ws v)(b:jv vs x):jv ws x:=by
 induction b with
 |zero=>exact .zero
 |add _ a c=>exact c.xor (h _ a)
theorem jv.snoc:jv (vs++[w]) x↔jv vs x\/jv vs (x^^^w):=by
 constructor
 .intro h
  induction h with
  |zero=>exact .inl .zero
  | @add x v _ a b=>
   rcases KC.mp a with a|a
   .rcases b with b|b
    .exact .inl (b.add a)
    .refine .inr ?_;rw[NV,Nat.xor_comm v w,<-NV];exact b.add a
   .rw[KZ.mp a];rcases b with b|b
    .refine .inr ?_;rw[NV,Nat.xor_self,Nat.xor_zero];exact b
    .exact .inl b
 .rintro(h|h)
  .exact h.sub λv a=> .of_mem (LZ _ a)
  .have c:=(h.sub (ws:=vs++[w]) λv a=> .of_mem (LZ _ a)).add (v:=w) (Lj _ (KZ.mpr rfl));rw[NV,Nat.xor_self,Nat.xor_zero]at c;exact c
theorem dM:∀ {a b:List Nat},a.Nodup->(∀x∈a,x∈b)->a.length<=b.length
 | [],_,_,_=>Ls _
 |x::r,b,d,h=>by have f:=h x Kp;rw[Lg]at d;have g:=dM (a:=r) (b:=b.erase x) d.2 λy c=>(List.mem_erase_of_ne (λe=>by rw[e]at c;exact d.1 c)).mpr (h y (Ke _ c));rw[List.length_erase_of_mem f]at g;have:0<b.length:=Nl f;rw[KA];lia
end Bh
namespace Bh
def par(p:Nat)(ms:List Int)(c:Int)(z:Nat):Bool:=(List.range p).foldl (λb i=>b^^ (z.testBit i&&decide (ms.getD i 0=c))) false
end Bh
namespace Bh
def Bin(n:Nat)(r:List Int):Prop:=r.length=n/\∀z∈r,z=0\/z=1
theorem Bin.at{r:List Int}(h:Bin n r)(a:j<n):r.getD j 0=0\/r.getD j 0=1:=by
 have:j<r.length:=by rw[h.1];exact a
 have e:r.getD j 0=r[j]:=by simp[this]
 rw[e];exact h.2 _ (LD this)
end Bh
namespace Bh
structure Mat(n:Nat)(r:Nat->Nat):Prop where
 n8:n<=8
 zero:r 0=0
 step:∀s k,s<2^n->k<n->r s<=r (s|||2^k)/\r (s|||2^k)<=r s+1
 sub:∀s j k,s<2^n->j<n->k<n->r (s|||2^j)=r s->r (s|||2^k)=r s->r (s|||2^j|||2^k)=r s
def Sub(a b:Nat):Prop:=∀k,a.testBit k=true->b.testBit k=true
theorem Sub.refl(a:Nat):Sub a a:=λ_ h=>h
theorem Sub.trans(h:Sub a b)(g:Sub b c):Sub a c:=λk d=>g k (h k d)
theorem Sub.lt(h:Sub a b)(c:b<2^n):a<2^n:=MC _ λi d=>by
 cases e:a.testBit i with
 |false=>rfl
 |true=>
  have:=h i e;rw[K1 (Kb c (Kw () d))]at this;cases this
theorem bP(b:s<2^n)(a:k<n):s|||2^k<2^n:=K4 b (LR () a)
theorem aV(s k j:Nat):(s|||2^k).testBit j=(s.testBit j||decide (k=j)):=by rw[Kl,Kt]
theorem fQ{s k:Nat}(h:s.testBit k=true):s|||2^k=s:=Kj λj=>by
 rw[aV];by_cases e:k=j
 .subst e;rw[h];rfl
 .rw[J6 e,Mp]
def upto(s t:Nat):Nat->Nat
 |0=>s
 |i+1=>if t.testBit i=true then upto s t i|||2^i else upto s t i
theorem gh(s t i:Nat):upto s t (i+1)=if t.testBit i=true then upto s t i|||2^i else upto s t i:=rfl
theorem jE(s t j:Nat):∀i,(upto s t i).testBit j=(s.testBit j||(decide (j<i)&&t.testBit j))
 |0=>by simp[upto]
 |i+1=>by
  rw[gh];by_cases a:t.testBit i=true
  .rw[J5 a,aV,jE s t j i];by_cases e:i=j
   .subst e;simp[a]
   .have b:decide (j<i+1)=decide (j<i):=by
     by_cases h:j<i
     .rw[J3 h,J3 ()]
     .rw[J6 h,J6 ()]
    rw[J6 e,b,Mp]
  .rw[J4 a,jE s t j i];by_cases e:i=j
   .subst e;simp[a]
   .have b:decide (j<i+1)=decide (j<i):=by
     by_cases h:j<i
     .rw[J3 h,J3 ()]
     .rw[J6 h,J6 ()]
    rw[b]
theorem jF(a:t<2^n):upto s t n=s|||t:=Kj λj=>by
 rw[jE,Kl];by_cases h:j<n
 .rw[J3 h,Lo]
 .rw[K1 (Kb a (Kw () ())),Ld]
theorem i8(a:s<2^n):∀i,i<=n->upto s t i<2^n
 |0,_=>a
 |i+1,b=>by
  rw[gh];split
  .exact bP (i8 a i ()) ()
  .exact i8 a i ()
theorem uF(h:Sub s t):s|||t=t:=Kj λj=>by
 rw[Kl];cases e:s.testBit j with
 |false=>rfl
 |true=>rw[h j e];rfl
namespace Mat
variable{n:Nat}{r:Nat->Nat}(M:Mat n r)
include M
theorem mono(h:Sub s t)(a:t<2^n):r s<=r t:=by
 have d:=h.lt a;have c:∀i,i<=n->r s<=r (upto s t i):=by
  intro i
  induction i with
  |zero=>intro _;exact Kk _
  |succ i b=>
   intro e;rw[gh];split
   .exact Kd (b ()) (M.step _ i (i8 d i ()) ()).1
   .exact b ()
 have:=c n (Kk _);rw[jF a,uF h]at this;exact this
theorem keep(h:Sub s t)(c:t<2^n)(b:k<n)(e:r (s|||2^k)=r s):r (t|||2^k)=r t:=by
 have j:=h.lt c;have g:∀i,i<=n->r (upto s t i|||2^k)=r (upto s t i):=by
  intro i
  induction i with
  |zero=>intro _;exact e
  |succ i a=>
   intro m;have a:=a ();rw[gh];split
   .have hl:=i8 (t:=t) j i ();generalize upto s t i=u at*;have o:=M.step u i hl ();have p:=M.step (u|||2^i) k (bP hl ()) b;have l:=M.step (u|||2^k) i (bP hl b) ();have f:u|||2^k|||2^i=u|||2^i|||2^k:=by rw[Nc,Na (2^k),<-Nc]
    rw[f]at l;by_cases d:r (u|||2^i)=r u
    .have:=M.sub u i k hl () b d a;lia
    .lia
   .exact a
 have:=g n (Kk _);rw[jF c,uF h]at this;exact this
theorem closed{s t:Nat}(e:s<2^n)(g:t<2^n)(h:∀k,t.testBit k=true->r (s|||2^k)=r s):r (s|||t)=r s:=by
 have b:∀i,i<=n->r (upto s t i)=r s:=by
  intro i
  induction i with
  |zero=>intro _;rfl
  |succ i a=>
   intro l;have a:=a ();rw[gh];split
   .rename_i c;have f:Sub s (upto s t i):=λj d=>by rw[jE,d];rfl
    rw[M.keep f (i8 e i ()) () (h i c)];exact a
   .exact a
 have:=b n (Kk _)
 rwa [jF g]at this
end Mat
def grow(r:Nat->Nat)(s t:Nat):Nat->Nat
 |0=>s
 |i+1=>if t.testBit i=true/\r (grow r s t i)<r (grow r s t i|||2^i)then grow r s t i|||2^i else grow r s t i
theorem Ct(r:Nat->Nat)(s t i:Nat):grow r s t (i+1)=if t.testBit i=true/\r (grow r s t i)<r (grow r s t i|||2^i)then grow r s t i|||2^i else grow r s t i:=rfl
theorem fD:∀s:Nat,s<256->∀k:Nat,k<8->s.testBit k=false->sz (s|||2^k)=sz s+1:=by decide+kernel
theorem GR(h:n<=8):2^n<=256:=Kw (n:=2) () h
namespace Mat
variable{n:Nat}{r:Nat->Nat}(M:Mat n r)
include M
theorem bW(a:s<2^n):s<256:=Kb a (GR M.n8)
theorem kQ:∀s,s<2^n->r s<=sz s:=by
 intro s d;have b:∀i,i<=n->r (upto 0 s i)<=sz (upto 0 s i):=by
  intro i
  induction i with
  |zero=>intro _;show r 0<=_;rw[M.zero];exact Ls _
  |succ i a=>
   intro e;have a:=a ();rw[gh];have hl:upto 0 s i<2^n:=i8 (Mf ()) i ();split
   .have c:(upto 0 s i).testBit i=false:=by rw[jE];simp
    rw[fD _ (M.bW hl) i (by have:=M.n8;lia) c];have:=(M.step _ i hl ()).2;lia
   .exact a
 have:=b n (Kk _);rw[jF d,NB]at this;exact this
theorem yX{s t:Nat}(v:Sub s t)(w:t<2^n)(q:r s=sz s):∀i,i<=n->Sub s (grow r s t i)/\Sub (grow r s t i) t/\r (grow r s t i)=sz (grow r s t i)/\
  ∀k,k<i->t.testBit k=true->r (grow r s t i|||2^k)=r (grow r s t i):=by
 intro i
 induction i with
 |zero=>intro _;exact#[Sub.refl _,v,q,λk f=>absurd f (Nj _)]
 |succ i x=>
  intro y;obtain⟨h,d,o,l⟩:=x ();rw[Ct];have hl:=d.lt w;generalize grow r s t i=g at*;have A:=M.n8;by_cases c:t.testBit i=true/\r g<r (g|||2^i)
  .rw[J5 c];have p:g.testBit i=false:=by
    cases e:g.testBit i with
    |false=>rfl
    |true=>rw[fQ e]at c;exact absurd c.2 (Mm _)
   have st:=M.step g i hl ();have u:=bP (k:=i) hl ();have m:Sub g (g|||2^i):=λj a=>by rw[aV,a];rfl
   refine#[h.trans m,λj a=> ?_,?_,λk f b=> ?_]
   .rw[aV]at a;by_cases e:i=j
    .subst e;exact c.1
    .rw[J6 e,Mp]at a;exact d j a
   .rw[fD g (M.bW hl) i () p];lia
   .by_cases e:k=i
    .subst e;rw[fQ];rw[aV];simp
    .exact M.keep m u () (l k () b)
  .rw[J4 c];refine#[h,d,o,λk f b=> ?_];by_cases e:k=i
   .subst e;have st:=M.step g k hl ();have:¬r g<r (g|||2^k):=λz=>c #[b,z];lia
   .exact l k () b
theorem extend(j:Sub s t)(a:t<2^n)(h:r s=sz s):∃g,Sub s g/\Sub g t/\r g=sz g/\r g=r t:=by
 obtain⟨d,b,e,f⟩:=M.yX j a h n (Kk _);refine#[grow r s t n,d,b,e,?_];have hl:=b.lt a;have:=M.closed hl a λk c=>f k (by
  refine MQ λi=> ?_;rw[K1 (Kb a (Kw () i))]at c;cases c) c
 rw[uF b]at this;exact this.symm
end Mat
end Bh
namespace Bh
theorem Bp(a b:Nat):Sub (a&&&b) a:=λk h=>by rw[KQ,Kn]at h;exact h.1
theorem Bo(a b:Nat):Sub (a&&&b) b:=λk h=>by rw[KQ,Kn]at h;exact h.2
theorem lJ(h:Sub a b)(g:Sub a c):Sub a (b&&&c):=λk d=>by rw[KQ,h k d,g k d];rfl
theorem cC(b:s<2^n):Sub s (2^n-1):=λk a=>by rw[KD];refine J3 (MQ λh=> ?_);rw[K1 (Kb b (Kw () h))]at a;cases a
theorem aQ(n:Nat):2^n-1<2^n:=by have:0<2^n:=Mf ();lia
theorem cH:sz 0=0:=∅
namespace Mat
variable{n:Nat}{r:Nat->Nat}(M:Mat n r)
include M
theorem uY(h:Sub x b)(c:b<2^n):r b+sz x<=r x+sz b:=by
 have f:=h.lt c;have d:∀i,i<=n->r (upto x b i)+sz x<=r x+sz (upto x b i):=by
  intro i
  induction i with
  |zero=>intro _;exact Kk _
  |succ i a=>
   intro g;have a:=a ();rw[gh];have hl:=i8 (t:=b) f i ();split
   .generalize upto x b i=u at*;cases e:u.testBit i with
    |true=>rw[fQ e];exact a
    |false=>
     rw[fD u (M.bW hl) i (by have:=M.n8;lia) e];have:=(M.step u i hl ()).2;lia
   .exact a
 have:=d n (Kk _);rw[jF c,uF h]at this;exact this
theorem qJ(h:Sub x b)(a:b<2^n)(e:r b=sz b):r x=sz x:=by have c:=M.uY h a;have d:=M.kQ x (h.lt a);lia
theorem mW(f:∀z,z∈ms↔∃b:Nat,b<2^n/\z=(b:Int)/\r b=sz b/\r b=r (2^n-1))(a:s<2^n):cw ms s=r s:=by
 obtain⟨g,_,e,x,H⟩:=M.extend (s:=0) (t:=s) (λk h=>by rw[KI]at h;cases h) a (by rw[M.zero,cH]);obtain⟨b,w,p,d,q⟩:=M.extend (t:=2^n-1) (cC (e.lt a)) (aQ n) x;have c:b<2^n:=p.lt (aQ n);have i:∀b:Nat,b<2^n->r b=sz b->sz (s&&&b)<=r s:=λb l u=>by rw[<-M.qJ (Bo s b) l u];exact M.mono (Bp s b) a
 refine oB #[(b:Int),(f _).mpr #[b,c,rfl,d,q],?_] λm A=> ?_
 .rw[J8];have B:=i b c d;have G:sz g<=sz (s&&&b):=fL λk _ y=>lJ e w k y;lia
 .obtain⟨j,o,rfl,v,_⟩:=(f m).mp A;rw[J8];exact i j o v
end Mat
def aF(a:List Nat)(s:Nat):List Nat:=(bits s).map λz:Int=>a.getD z.toNat 0
def rkG(m:Nat)(gone:List Int)(s:Nat):Nat:=min (sz s) m- (if(s:Int)∈gone then 1 else 0)
structure rz(n m:Nat)(gone:List Int):Prop where
 size:∀z∈gone,∃s:Nat,s<2^n/\z=(s:Int)/\sz s=m
 far:Far (m:Int) gone
 mid:gone=[]\/(0<m/\m<n)
theorem rz.not(h:rz n m gone)(a:¬sz s=m):¬(s:Int)∈gone:=λb=>by
 obtain⟨t,_,e,c⟩:=h.size _ b;have:s=t:=()
 rw[this]at a;exact a c
theorem zY{s j k:Nat}(c:s.testBit j=false)(e:s.testBit k=false)(d:j≠k):(s|||2^j)&&& (s|||2^k)=s:=Kj λi=>by
 rw[KQ,aV,aV];by_cases a:j=i
 .subst a;rw[c,J6 (Mo d)];simp
 .by_cases b:k=i
  .subst b;rw[e,J6 a];simp
  .rw[J6 a,J6 b];simp
theorem D1(q:n<=8)(h:rz n m gone):Mat n (rkG m gone):=by
 have b:∀ {s},s<2^n->s<256:=λa=>Kb a (GR q);have one:∀ (s:Nat),(if(s:Int)∈gone then 1 else 0)<=1:=λs=>by split<;>lia
 have off:∀ {s:Nat},¬sz s=m->rkG m gone s=min (sz s) m:=λa=>by unfold rkG;rw[J4 (h.not a)];rfl
 have r:∀ (s:Nat),rkG m gone s<=min (sz s) m/\min (sz s) m<=rkG m gone s+1:=λs=>by unfold rkG;have:=one s;lia
 refine#[q,?_,λs k a z=> ?_,λs j k a y z o v=> ?_]
 .unfold rkG;rw[cH];lia
 .cases e:s.testBit k with
  |true=>rw[fQ e];lia
  |false=>
   have K:=fD s (b a) k () e;have L:=r s;have l2:=r (s|||2^k);by_cases d:sz s=m
   .have H:=off (s:=s|||2^k) ();lia
   .have G:=off d;by_cases f:sz (s|||2^k)=m
    .lia
    .have H:=off f;lia
 .cases g:s.testBit j with
  |true=>rw[fQ g];exact v
  |false=>
   cases c:s.testBit k with
   |true=>
    have A:(s|||2^j).testBit k=true:=by rw[aV,c];rfl
    rw[fQ A];exact o
   |false=>
    by_cases i:j=k
    .subst i;rw[fQ (by rw[aV];simp)];exact o
    .have N:=fD s (b a) j () g;have Q:=fD s (b a) k () c;have p:(s|||2^j).testBit k=false:=by rw[aV,c,J6 i];rfl
     have O:=fD (s|||2^j) (b (bP a y)) k () p;by_cases d:sz s=m
     .have J:=off (s:=s|||2^j) ();have M:=off (s:=s|||2^j|||2^k) ();lia
     .have G:=off d;by_cases f:sz (s|||2^j)=m
      .exfalso;have w:((s|||2^j:Nat):Int)∈gone:=by
        refine Kr λl=> ?_;have:rkG m gone (s|||2^j)=min (sz (s|||2^j)) m:=by unfold rkG;rw[J4 l];rfl
        lia
       have x:((s|||2^k:Nat):Int)∈gone:=by
        refine Kr λl=> ?_;have:rkG m gone (s|||2^k)=min (sz (s|||2^k)) m:=by unfold rkG;rw[J4 l];rfl
        lia
       have B:((s|||2^j:Nat):Int)≠((s|||2^k:Nat):Int):=λe=>by
        have u:s|||2^j=s|||2^k:=()
        have:(s|||2^j).testBit k=(s|||2^k).testBit k:=by rw[u]
        rw[p,aV]at this;simp at this
       have:=h.far _ w _ x B;rw[J8,J8,zY g c i]at this;lia
      .have J:=off f;have ok:=off (s:=s|||2^k) ();by_cases t:sz (s|||2^j|||2^k)=m
       .lia
       .have:=off t;lia
end Bh
namespace Bh
theorem mN(p q:Nat->Bool):∀l:List Nat,(l.filter λk=>p k&&q k).length+(l.filter λk=>p k&& !q k).length=(l.filter p).length
 | []=>rfl
 |k::l=>by have c:=mN p q l;rw[LA,LA,LA];cases a:p k<;>cases b:q k<;>simp[a,b]<;>lia
theorem gC{s a b:Nat}(q:Nat->Bool)(f:∀k,k<8->a.testBit k=(s.testBit k&&q k))(g:∀k,k<8->b.testBit k=(s.testBit k&& !q k)):sz a+sz b=sz s:=by rw[ig,ig,ig,<-mN s.testBit q (List.range 8)];have d:(List.range 8).filter a.testBit=(List.range 8).filter λk=>s.testBit k&&q k:=Li λk c=>f k (J9.mp c);have e:(List.range 8).filter b.testBit=(List.range 8).filter λk=>s.testBit k&& !q k:=Li λk c=>g k (J9.mp c);rw[d,e]
theorem cm{n s:Nat}(k:Nat):(au (2^n-1) s).testBit k=(decide (k<n)&& !s.testBit k):=by rw[aG,KD]
theorem gx{n s k:Nat}(b:s<2^n)(h:s.testBit k=true):k<n:=by refine MQ λa=> ?_;rw[K1 (Kb b (Kw () a))]at h;cases h
theorem lH(e:n<=8)(d:s<2^n):sz s+sz (au (2^n-1) s)=n:=by
 have h:=gC (s:=2^n-1) (a:=s) (b:=au (2^n-1) s) s.testBit (λk _=> ?_) λk _=> ?_
 .rw[h];exact yq n ()
 .rw[KD];cases c:s.testBit k with
  |false=>rw[Ld]
  |true=>rw[J3 (gx d c)];rfl
 .rw[cm,KD]
def gc(n:Nat)(r:Nat->Nat)(s:Nat):Nat:=sz s+r (au (2^n-1) s) -r (2^n-1)
namespace Mat
variable{n:Nat}{r:Nat->Nat}(M:Mat n r)
include M
theorem Gp(a:s<2^n):r (2^n-1)<=sz s+r (au (2^n-1) s):=by have hl:au (2^n-1) s<2^n:=Ks (iI _ _) (aQ n);have h:=M.uY (cC hl) (aQ n);have b:=lH M.n8 a;have c:=yq n (by have:=M.n8;lia);lia
theorem cX(a:s<2^n):((gc n r s:Nat):Int)=(sz s:Int)+(r (au (2^n-1) s):Nat) - (r (2^n-1):Nat):=by have:=M.Gp a;unfold gc;lia
end Mat
end Bh
namespace Bh
theorem bF{s h t:Nat}:(aN s h).testBit t=true↔∃j,(bits h)[j]?=some (t:Int)/\s.testBit j=true:=by
 unfold aN;rw[jK λz c=>(iF z c).1,kn];constructor
 .rintro⟨j,b,a⟩;exact#[j,b,by rw[Nr]at a;exact a]
 .rintro⟨j,b,a⟩;exact#[j,b,by rw[Nr];exact a]
theorem AZ{h t:Nat}(b:h<256)(a:h.testBit t=true):∃j:Nat,(bits h)[j]?=some (t:Int):=by
 have d:t<8:=by refine MQ λc=> ?_;rw[K1 (Kb (show h<2^8 from b) (Kw () c))]at a;cases a
 exact LQ (dg.mpr #[t,d,a,rfl])
theorem ER{h j t:Nat}(b:(bits h)[j]?=some (t:Int)):h.testBit t=true:=by
 obtain⟨k,_,a,e⟩:=dg.mp (Km b);have:t=k:=()
 rw[this];exact a
theorem cE(s h:Nat):Sub (aN s h) h:=λt b=>by obtain⟨j,a,_⟩:=bF.mp b;exact ER a
theorem EN{k s:Nat}(h:Sub k s):bits k=(bits s).filter λz=>k.testBit z.toNat:=by
 unfold bits;rw[MW,MF];congr 1;refine Li λt _=> ?_;show k.testBit t=(k.testBit ((t:Nat):Int).toNat&&s.testBit t);rw[J8];cases a:k.testBit t with
 |false=>rfl
 |true=>rw[h t a];rfl
theorem xi(s:Nat):(bits s).length=sz s:=rfl
theorem BL(d:(bits h).length<=j):(fN s h).testBit j=false:=by
 cases e:(fN s h).testBit j with
 |false=>rfl
 |true=>
  unfold fN at e;rw[jK (λz b=>(k7 (a9 h) z b).1),jT]at e;obtain⟨i,y,a,_,c⟩:=e;have:=(Kh.mp a).1;lia
theorem zP(k s:Nat):bits (fN k s)=idxs (λ_ z=>k.testBit z.toNat) 0 (bits s):=by
 rw[xq (q:=λz=>k.testBit z.toNat) 0];have hl:(bits s).length<=8:=a9 s;unfold bits;have e:(List.range 8).filter (fN k s).testBit=(List.range (bits s).length).filter λj=>k.testBit ((bits s).getD j 0).toNat:=by
  have a:∀d,(bits s).length+d<=8->(List.range ((bits s).length+d)).filter (fN k s).testBit=(List.range (bits s).length).filter (fN k s).testBit:=by
   intro d
   induction d with
   |zero=>intro _;rfl
   |succ d h=>
    intro i;rw[show(bits s).length+(d+1)=(bits s).length+d+1 from rfl,LX,Mr,h (),List.filter_cons_of_neg (by rw[BL ()];exact Ku)];simp
  have g:=a (8- (bits s).length) ();rw[show(bits s).length+(8- (bits s).length)=8 by lia]at g;rw[g];refine Li λj b=> ?_;have c:=J9.mp b;have f:(bits s)[j]?=some ((bits s).getD j 0):=by simp[c]
  exact BM f
 show((List.range 8).filter (fN k s).testBit).map _=_;rw[e];refine LB λj _=> ?_;show(j:Int)=((0+j:Nat):Int);rw[Nr]
theorem qF:∀ (a:List Int) (i:Nat),(idxs (λ_ z=>q z) i a).length=(a.filter q).length
 | [],_=>rfl
 |x::r,i=>by
  rw[idxs,LA];split
  .rw[KA,KA,qF r (i+1)]
  .exact qF r (i+1)
theorem Df(h:Sub k s):sz (fN k s)=sz k:=by rw[<-xi,zP,qF,<-xi,EN h]
theorem CO:∀n:Nat,n<9->bits (2^n-1)=(List.range n).map λj:Nat=>(j:Int):=by decide+kernel
def df(r:Nat->Nat)(k w:Nat)(s:Nat):Nat:=r (aN s k|||w) -r w
theorem Mat.min_int(M:Mat n r)(c:k<2^n)(d:w<2^n)(s:Nat):((df r k w s:Nat):Int)=(r (aN s k|||w):Nat) - (r w:Nat):=by
 have a:aN s k|||w<2^n:=K4 ((cE s k).lt c) d;have b:Sub w (aN s k|||w):=λt h=>by rw[Kl,h,OM]
 have:=M.mono b a;unfold df;lia
end Bh
namespace Bh
theorem uG{s k:Nat}(h:s.testBit k=true):s|||2^k=s:=Kj λj=>by
 rw[aV];by_cases e:k=j
 .subst e;rw[h];rfl
 .rw[J6 e,Mp]
theorem yH(s k:Nat):s|||2^k|||2^k=s|||2^k:=by rw[Nc,Nat.or_self]
theorem AI(s j k:Nat):s|||2^j|||2^k=s|||2^k|||2^j:=by rw[Nc,Na (2^j),<-Nc]
theorem iZ(b:s<2^n)(a:k<n):s|||2^k<2^n:=K4 b (LR () a)
theorem ph{n s k:Nat}(a:k<n)(h:s.testBit k=false):au (2^n-1) (s|||2^k)|||2^k=au (2^n-1) s:=Kj λj=>by
 rw[aV,cm,cm,aV];by_cases e:k=j
 .subst e;rw[h,J3 a,J3 rfl];rfl
 .rw[J6 e,Mp,Mp]
theorem kr(n:Nat):au (2^n-1) 0=2^n-1:=Kj λj=>by rw[cm,KI,KD];simp
theorem gn{s k:Nat}(b:s<256)(a:k<8)(h:s.testBit k=false):sz (s|||2^k)=sz s+1:=fD s b k a h
theorem mF:au (2^n-1) s<2^n:=Ks (iI _ _) (by have:0<2^n:=Mf ();lia)
theorem sz0:sz 0=0:=∅
theorem Mat.dual(M:Mat n r):Mat n (gc n r):=by
 have K:=M.n8;refine#[K,?_,λs k b a=> ?_,λs j k b c a i B=> ?_]
 .unfold gc;rw[kr,sz0];lia
 .by_cases l:s.testBit k=true
  .rw[uG l];lia
  .have m:s.testBit k=false:=by simpa using l
   have N:=M.cX b;have y:=M.cX (iZ b a);have z:=ph a m;have A:=(M.step (au (2^n-1) (s|||2^k)) k mF a);rw[z]at A;rw[gn (M.bW b) () m]at y;lia
 .by_cases o:s.testBit j=true
  .rw[uG o];exact B
  by_cases q:s.testBit k=true
  .rw[AI,uG q];exact i
  by_cases f:j=k
  .subst f;rw[yH];exact i
  have g:s.testBit j=false:=by simpa using o
  have t:s.testBit k=false:=by simpa using q
  have G:(s|||2^k).testBit j=false:=by rw[aV,g,J6 (λe=>f e.symm)];rfl
  have p:(s|||2^j).testBit k=false:=by rw[aV,t,J6 f];rfl
  have h:=iZ b c;have H:=iZ b a;have J:=iZ h a;have v:=M.cX b;have w:=M.cX h;have x:=M.cX H;have L:=M.cX J;have O:=gn (M.bW b) (show j<8 by lia) g;have Q:=gn (M.bW b) (show k<8 by lia) t;have U:=gn (M.bW h) (show k<8 by lia) p;have u1:=ph (n:=n) a p;have u2:=ph (n:=n) c G;rw[<-AI s j k]at u2;have u3:=ph (n:=n) c g;have d:au (2^n-1) (s|||2^j|||2^k)<2^n:=mF;generalize au (2^n-1) (s|||2^j|||2^k)=u at*;rw[<-u3,<-u1]at v;rw[<-u1]at w;rw[<-u2]at x;have sub:=M.sub u k j d a c;have aa:=M.step u j d c;have ab:=M.step u k d a;have ag:=M.step (u|||2^k) j (iZ d a) c;lia
theorem nF{k i:Nat}(f:i<sz k):∃t,k.testBit t=true/\∀s,aN (s|||2^i) k=aN s k|||2^t:=by
 have g:i<(bits k).length:=f;have c:(bits k)[i]?=some (bits k)[i]:=Ky g;generalize (bits k)[i]=z at c;obtain⟨t,_,d,rfl⟩:=dg.mp (Km c);refine#[t,d,λs=>Kj λj=> ?_];rw[Mq,bF,aV,KH,bF];constructor
 .rintro⟨m,b,a⟩;rw[aV,KH]at a;rcases a with a|a
  .exact .inl #[m,b,a]
  .have e:=Ko a;subst e;rw[c]at b;have:=Lf b;exact .inr (J3 ())
 .rintro(⟨m,b,a⟩|h)
  .exact#[m,b,by rw[aV,a];rfl]
  .have e:=Ko h;subst e;exact#[i,c,by rw[aV,J3 rfl,OM]]
theorem ox(k:Nat):aN 0 k=0:=Kj λt=>by
 rw[KI];cases h:(aN 0 k).testBit t with
 |false=>rfl
 |true=>
  obtain⟨j,_,a⟩:=bF.mp h;rw[KI]at a;cases a
theorem qp(a b w:Nat):a|||b|||w=a|||w|||b:=by rw[Nc,Na b w,<-Nc]
theorem Mat.minor(M:Mat n r)(a:k<2^n)(b:w<2^n):Mat (sz k) (df r k w):=by
 have m:∀s,aN s k|||w<2^n:=λs=>K4 ((cE s k).lt a) b;refine#[a9 k,?_,λs i v d=> ?_,λs i j v d q z A=> ?_]
 .unfold df;rw[ox,NB];lia
 .obtain⟨t,f,e⟩:=nF d;have g:=gx a f;have h:=M.min_int a b s;have c:=M.min_int a b (s|||2^i);rw[e,qp]at c;have:=M.step _ t (m s) g;lia
 .obtain⟨t,f,e⟩:=nF d;obtain⟨u,x,l⟩:=nF q;have g:=gx a f;have un:=gx a x;have y:=M.min_int a b s;have h:=M.min_int a b (s|||2^i);have c:=M.min_int a b (s|||2^j);have o:=M.min_int a b (s|||2^i|||2^j);rw[e,qp]at h;rw[l,qp]at c;have p:aN (s|||2^i|||2^j) k|||w=aN s k|||w|||2^t|||2^u:=by rw[l,e,qp _ (2^u) w,qp _ (2^t) w]
  rw[p]at o;have:=M.sub _ t u (m s) g un () ();lia
theorem oy(g:k<256):aN (au (2^sz k-1) s) k=au k (aN s k):=Kj λt=>by
 rw[Mq,bF,aG,Kn,Lr];constructor
 .rintro⟨j,b,a⟩;rw[cm,Kn,Lr]at a;refine#[ER b,?_];cases h:(aN s k).testBit t with
  |false=>rfl
  |true=>
   obtain⟨m,e,d⟩:=bF.mp h;rw[mX e b,a.2]at d;cases d
 .rintro⟨b,a⟩;obtain⟨j,c⟩:=AZ g b;refine#[j,c,?_];have f:j<sz k:=(Kh.mp c).1;rw[cm,J3 f,Lo,Lr];cases h:s.testBit j with
  |false=>rfl
  |true=>rw[bF.mpr #[j,c,h]]at a;cases a
theorem lI{a b:Nat}(h:∀t,a.testBit t=true->b.testBit t=true->False):sz (a|||b)=sz a+sz b:=by
 refine(gC (s:=a|||b) (a:=a) (b:=b) a.testBit (λk _=> ?_) λk _=> ?_).symm
 .rw[Kl];cases a.testBit k<;>simp
 .rw[Kl];have:=h k;cases c:a.testBit k<;>cases d:b.testBit k<;>simp_all
theorem kX(a:k<256):aN (2^sz k-1) k=k:=by have h:=oy (k:=k) (s:=0) a;rw[kr,ox]at h;rw[h];exact Kj λt=>by rw[aG,KI];simp
theorem nu(b:s<2^sz k):sz (aN s k)=sz s:=by have h:=uB (s:=s) (h:=k) b;have a:=Df (cE s k);rw[h]at a;exact a.symm
theorem Mat.turn(M:Mat n r){o w:Nat}(g:o<2^n)(b:w<2^n)(h:∀t,o.testBit t=true->w.testBit t=true->False)(i:s<2^sz (au (2^n-1) (o|||w))):
  gc (sz (au (2^n-1) (o|||w))) (df r (au (2^n-1) (o|||w)) w) s=df (gc n r) (au (2^n-1) (o|||w)) o s:=by
 have d:∀t,(au (2^n-1) (o|||w)).testBit t=(decide (t<n)&& !(o.testBit t||w.testBit t)):=λt=>by rw[cm,Kl]
 have a:au (2^n-1) (o|||w)<2^n:=mF;generalize au (2^n-1) (o|||w)=k at*;have j:=M.bW a;have Mk:=M.minor a b;have l:=M.dual;have A:aN s k<2^n:=(cE s k).lt a;have B:=Mk.cX i;have J:au (2^sz k-1) s<2^sz k:=mF;have m:=M.min_int a b (au (2^sz k-1) s);have p:=M.min_int a b (2^sz k-1);rw[oy j]at m;rw[kX j]at p;have G:=l.min_int a g s;have x1:=M.cX (s:=aN s k|||o) (K4 A g);have x2:=M.cX (s:=o) g;have q:au (2^n-1) o=k|||w:=Kj λt=>by rw[cm,Kl,d];have e:=h t;have f:w.testBit t=true->t<n:=gx b;cases y:o.testBit t<;>cases z:w.testBit t<;>simp_all
 have u:au (2^n-1) (aN s k|||o)=au k (aN s k)|||w:=Kj λt=>by rw[cm,Kl,Kl,aG,d];have e:=h t;have f:w.testBit t=true->t<n:=gx b;have c:(aN s k).testBit t=true->k.testBit t=true:=cE s k t;rw[d]at c;cases y:o.testBit t<;>cases z:w.testBit t<;>cases H:(aN s k).testBit t<;>simp_all
 have v:sz (aN s k|||o)=sz (aN s k)+sz o:=lI λt e f=>by have c:=cE s k t e;rw[d,f]at c;simp at c
 have x:=nu i;rw[u,v,x]at x1;rw[q]at x2;lia
end Bh
namespace Bh
theorem bq{s k:Nat}(h:s.testBit k=true):Sub (s^^^2^k) s:=λj a=>by rw[br h,Kn]at a;exact a.1
theorem eC{s k:Nat}(h:s.testBit k=true):(s^^^2^k)|||2^k=s:=Kj λj=>by
 rw[aV,br h];by_cases e:k=j
 .subst e;rw[h];simp
 .rw[J6 e];simp
def JL(n:Nat)(r:Nat->Nat)(b:Nat):Prop:=b<2^n/\r b=sz b/\r b=r (2^n-1)
namespace Mat
variable{n:Nat}{r:Nat->Nat}(M:Mat n r)
include M
theorem jj{s k:Nat}(b:s<2^n)(a:s.testBit k=true):s^^^2^k<2^n:=(bq a).lt b
theorem Dg{s k:Nat}(b:s<2^n)(a:s.testBit k=true):sz (s^^^2^k)+1=sz s:=
 cz s (M.bW b) k (Kb (gx b a) M.n8) a
end Mat
end Bh
namespace Bh
end Bh
namespace Bh
end Bh
namespace Bh
def dJ(n k:Nat):List Nat:=(List.range (2^n)).filter λs=>decide (sz s=k)
def fc(n:Nat)(r:Nat->Nat)(m k:Nat):Bool:=decide (n=m)&&decide (r (2^n-1)=k)&&(dJ n k).all λs=>decide (r s=k)
def fv(n:Nat)(r:Nat->Nat):List Nat:=(dJ n 3).filter λs=>decide (r s<sz s)
def bT(n:Nat)(r:Nat->Nat):Bool:=decide (n=7)&&decide (r (2^n-1)=3)&&(dJ n 2).all λp=>decide (((fv n r).filter λt=>decide (p&&&t=p)).length=1)
def gF(n:Nat)(r:Nat->Nat)(s:Nat):Nat:=sz s+r (au (2^n-1) s) -r (2^n-1)
def cq(n:Nat)(r:Nat->Nat):List Nat:=(List.range (2^n)).filter λs=>decide (r s=sz s)&&decide (r s=r (2^n-1))
def gP(a:List Nat):List Nat:=(List.range 128).filter λs=>decide (sz s=3)&& !decide (s∈a)
def dW(a:List Nat):Bool:=decide (a.length=28)&&(decide ((gP a).length=7)&&(List.range 7).all λj=>(List.range j).all λk=>decide (((gP a).filter λt=>t.testBit j&&t.testBit k).length=1))
structure zZ(n:Nat)(r:Nat->Nat):Prop where
 le:∀s,s<2^n->r s<=sz s
 mono:∀s t,s<2^n->t<2^n->s&&&t=s->r s<=r t
 unit:∀s,s<2^n->r (2^n-1)<=r (au (2^n-1) s)+sz s
theorem jW{b:Type}{p:b->Bool}:∀l:List b,(l.filter p).length=l.length↔l.all p=true
 | []=>by simp
 |a::l=>by
  have c:=jW (p:=p) l;have hl:=Lu p l;rw[LA,Oz];by_cases h:p a=true
  .rw[J5 h,KA,KA,h,Lo,<-c];lia
  .rw[J4 h,KA,Mg.mpr h,Lc];constructor
   .intro e;lia
   .intro e;cases e
theorem nj(h:r (2^n-1)=k):cq n r=(dJ n k).filter λs=>decide (r s=k):=by
 unfold cq dJ;rw[MF];refine Li λs _=> ?_;rw[h];by_cases a:r s=k
 .rw[a];simp only[decide_true,Bool.and_true,Lo];exact LS.mpr #[λe=>e.symm,λe=>e.symm]
 .rw[J6 a,Ld,Lc]
theorem ve(r:Nat->Nat):fc n r m k=(decide (n=m)&&(decide (r (2^n-1)=k)&&decide ((cq n r).length=(dJ m k).length))):=by
 unfold fc;rw[Bool.and_assoc];by_cases b:n=m
 .subst b;by_cases c:r (2^n-1)=k
  .rw[nj c];congr 2;have:=jW (p:=λs=>decide (r s=k)) (dJ n k);by_cases a:(dJ n k).all (λs=>decide (r s=k))=true
   .rw[a,J3 (this.mpr a)]
   .rw[Mg.mpr a,J6 λe=>a (this.mp e)]
  .rw[J6 c,Lc,Lc]
 .rw[J6 b,Lc,Lc]
theorem sU(R:Nat->Bool):∀L:List Nat,(L.map λl=>if R l=true then 1 else 0).sum=(L.filter R).length
 | []=>rfl
 |a::L=>by
  rw[KS,Nf,sU R L,LA];by_cases h:R a=true
  .rw[J5 h,J5 h,KA];lia
  .rw[J4 h,J4 h];lia
theorem Ai(f g:Nat->Nat):∀L:List Nat,(L.map λl=>f l+g l).sum=(L.map f).sum+(L.map g).sum
 | []=>rfl
 |a::L=>by rw[KS,Nf,KS,Nf,KS,Nf,Ai f g L];lia
theorem vK(R:Nat->Nat->Bool)(L:List Nat):∀P:List Nat,(P.map λp=>(L.filter (R p)).length).sum=(L.map λl=>(P.filter λp=>R p l).length).sum
 | []=>by
  have:∀L:List Nat,(L.map λl=>(([]:List Nat).filter λp=>R p l).length).sum=0:=λL=>by
   induction L with
   |nil=>rfl
   |cons a L b=>rw[KS,Nf,b];rfl
  rw[this];rfl
 |p::P=>by
  rw[KS,Nf,vK R L P,<-sU (R p) L,<-Ai];congr 1;refine LB λl _=> ?_;rw[LA];by_cases h:R p l=true
  .rw[J5 h,J5 h,KA];lia
  .rw[J4 h,J4 h];lia
theorem nA(f:Nat->Nat):∀L:List Nat,(∀l∈L,f l=c)->(L.map f).sum=c*L.length
 | [],_=>rfl
 |a::L,h=>by rw[KS,Nf,h a Kp,nA f L (λl hl=>h l (Ke _ hl)),KA,Nat.mul_succ];lia
theorem BU:((List.range 128).all λp=> !(decide (sz p=2))||(List.range 7).any λj=>(List.range j).any λk=>decide (p=2^j|||2^k))=true:=by decide+kernel
theorem FV:((List.range 7).all λj=>(List.range j).all λk=>decide (2^j|||2^k<128)&&decide (sz (2^j|||2^k)=2))=true:=by decide+kernel
theorem wW:((List.range 7).all λj=>(List.range j).all λk=>(List.range 128).all λt=>decide ((2^j|||2^k)&&&t=2^j|||2^k)==(t.testBit j&&t.testBit k))=true:=by decide+kernel
theorem yR:((List.range 128).all λt=> !(decide (sz t=3))||decide (((dJ 7 2).filter λp=>decide (p&&&t=p)).length=3))=true:=by decide+kernel
theorem jZ:(dJ 4 2).length=6/\(dJ 5 2).length=10/\(dJ 5 3).length=10/\(dJ 7 3).length=35/\(dJ 7 2).length=21:=by decide+kernel
theorem gA:s∈dJ n k↔s<2^n/\sz s=k:=by unfold dJ;rw[Kx,J9,Kf]
theorem jV{b:Type}(p:b->Bool):∀l:List b,(l.filter p).length+(l.filter λx=> !p x).length=l.length
 | []=>rfl
 |a::l=>by
  have c:=jV p l;rw[LA,LA,KA];by_cases h:p a=true
  .rw[J5 h,J4 (by rw[h];decide),KA];lia
  .rw[J4 h,J5 (by rw[Mg.mpr h];rfl),KA];lia
theorem wz{d:List Nat}(r:∀s,s<128->(s∈d↔sz s=3/\f s=true))(hl:d.length=((dJ 7 3).filter f).length):
  dW d=(dJ 7 2).all λp=>decide (((((dJ 7 3).filter λs=> !f s)).filter λt=>decide (p&&&t=p)).length=1):=by
 have w:gP d=(dJ 7 3).filter λs=> !f s:=by
  unfold gP dJ;rw[MF];refine Li λs H=> ?_;have u:=J9.mp H;by_cases i:sz s=3
  .rw[J3 i,Lo,Bool.and_true];by_cases g:f s=true
   .rw[g,J3 ((r s u).mpr #[i,g])]
   .rw[Mg.mpr g,J6 λz=>g ((r s u).mp z).2]
  .rw[J6 i,Lc,Ld]
 unfold dW;rw[w];generalize q:((dJ 7 3).filter λs=> !f s)=L;have v:∀t∈L,t<128/\sz t=3:=λt c=>by rw[<-q]at c;exact gA.mp (Kx.mp c).1
 have J:d.length+L.length=35:=by rw[hl,<-q,jV,jZ.2.2.2.1]
 have M:=vK (λp t=>decide (p&&&t=p)) L (dJ 7 2);have K:(L.map λl=>((dJ 7 2).filter λp=>decide (p&&&l=p)).length).sum=3*L.length:=nA _ L λt c=>by obtain⟨x,y⟩:=v t c;have:=K2.mp yR t (J9.mpr x);rw[J3 y]at this;simpa using this
 have flt:∀j,j<7->∀k,k<j->(L.filter λt=>t.testBit j&&t.testBit k)=L.filter λt=>decide ((2^j|||2^k)&&&t=2^j|||2^k):=λj a k b=>Li λt c=>by have:=K2.mp (K2.mp (K2.mp wW j (J9.mpr a)) k (J9.mpr b)) t (J9.mpr (v t c).1);exact(by simpa using this:decide ((2^j|||2^k)&&&t=2^j|||2^k)=(t.testBit j&&t.testBit k)).symm
 rw[Mq];constructor
 .intro h;rw[Kn,Kn]at h;refine K2.mpr λp o=> ?_;obtain⟨p1,p2⟩:=gA.mp o;have:=K2.mp BU p (J9.mpr p1);rw[J3 p2]at this;obtain⟨j,a,B⟩:=ON.mp (by simpa using this:((List.range 7).any λj=>(List.range j).any λk=>decide (p=2^j|||2^k))=true);obtain⟨k,b,G⟩:=ON.mp B;have e:=Ko G;have m:=J9.mp a;have n:=J9.mp b;have:=K2.mp (K2.mp h.2.2 j a) k b;rw[flt j m k n,<-e]at this;exact this
 .intro h;have one:((dJ 7 2).map λp=>(L.filter λt=>decide (p&&&t=p)).length).sum=1*(dJ 7 2).length:=nA _ _ λp o=>Ko (K2.mp h p o);rw[jZ.2.2.2.2]at one;have A:L.length=7:=()
  rw[J3 (show d.length=28 by lia),J3 A,Lo,Lo];refine K2.mpr λj a=>K2.mpr λk b=> ?_;have m:=J9.mp a;have n:=J9.mp b;have:=K2.mp (K2.mp FV j a) k b;rw[Kn,Kf,Kf]at this;rw[flt j m k n];exact K2.mp h _ (gA.mpr this)
theorem Bw(h:zZ 7 r)(b:r 127=3):dW (cq 7 r)=bT 7 r:=by
 have e:=nj (n:=7) (r:=r) (k:=3) b;rw[wz (f:=λs=>decide (r s=3)) (λs a=> ?_) (by rw[e])]
 .unfold bT;rw[J3 rfl,J3 (show r (2^7-1)=3 from b),Lo,Lo];have d:((dJ 7 3).filter λs=> !decide (r s=3))=fv 7 r:=by
   unfold fv;refine Li λs a=> ?_;obtain⟨g,i⟩:=gA.mp a;have:=h.le s g;rw[i]at this⊢;by_cases c:r s=3
   .rw[c];rfl
   .rw[J6 c,J3 (show r s<3 by lia)];rfl
  rw[d]
 .rw[e,Kx,gA,Kf];exact#[λz=>#[z.1.2,z.2],λz=>#[#[a,z.1],z.2]]
theorem pA:∀s:Nat,s<128->au 127 s=127-s/\sz (127-s)+sz s=7:=by decide+kernel
theorem Hu:(List.range 128).map (127- ·)=(List.range 128).reverse:=by decide+kernel
theorem Bu(h:zZ 7 r)(b:r 127=4):dW ((cq 7 r).map (127- ·))=bT 7 (gF 7 r):=by
 have e:=nj (n:=7) (r:=r) (k:=4) b;have v:∀s,s<128->(s∈(cq 7 r).map (127- ·)↔sz s=3/\decide (r (127-s)=4)=true):=λs a=>by
  rw[Ka,Kf];have G:=(pA s a).2;constructor
  .rintro⟨t,d,rfl⟩;rw[e,Kx,gA,Kf]at d;have x:t<128:=d.1.1;have l2:=(pA t x).2;rw[show 127- (127-t)=t by lia];exact#[(),d.2]
  .rintro⟨g,c⟩;refine#[127-s,?_,()];rw[e,Kx,gA,Kf];exact#[#[by show 127-s<128;lia,()],c]
 have q:((cq 7 r).map (127- ·)).length=((dJ 7 3).filter λs=>decide (r (127-s)=4)).length:=by
  have l:cq 7 r=(List.range 128).filter ((λs=>decide (sz s=3)&&decide (r (127-s)=4))∘(127- ·)):=by rw[e];unfold dJ;rw[MF];refine Li λs a=> ?_;have w:s<128:=J9.mp a;have l2:=(pA s w).2;show _=(decide (sz (127-s)=3)&&decide (r (127- (127-s))=4));rw[show 127- (127-s)=s by lia,NA];congr 1;exact LS.mpr #[λz=>(),λz=>()]
  rw[l,<-MW,Hu,List.filter_reverse,NF];unfold dJ;rw[MF];congr 1;exact Li λs _=>NA _ _
 rw[wz (f:=λs=>decide (r (127-s)=4)) v q];unfold bT;have A:au 127 127=0:=∅
 have y:r 0=0:=by have:=h.le 0 ∅;have B:sz 0=0:=∅;lia
 have j:gF 7 r (2^7-1)=3:=by
  unfold gF;show sz 127+r (au 127 127) -r 127=3;have:sz 127=7:=∅
  rw[A,y,this,b]
 rw[J3 rfl,J3 j,Lo,Lo];have o:((dJ 7 3).filter λs=> !decide (r (127-s)=4))=fv 7 (gF 7 r):=by
  unfold fv;refine Li λs a=> ?_;obtain⟨g,c⟩:=gA.mp a;have p:s<128:=g;have hl:=pA s p;have u:=h.mono (127-s) 127 (by show 127-s<128;lia) ∅ (by
   have:∀t:Nat,t<128->t&&&127=t:=by decide+kernel
   exact this _ ())
  have m:gF 7 r s=sz s+r (127-s) -r 127:=by unfold gF;show sz s+r (au 127 s) -r 127=_;rw[hl.1]
  rw[m,c,b];rw[b]at u;by_cases i:r (127-s)=4
  .rw[i];rfl
  .rw[J6 i,J3 (show 3+r (127-s) -4<3 by lia)];rfl
 rw[o]
theorem Bv(h:zZ 7 r):bT 7 (gF 7 r)=true->r 127=4:=λe=>by
 unfold bT at e;rw[Kn,Kn,Kf,Kf]at e;have a:=e.1.2;unfold gF at a;have b:sz 127+r (au 127 127) -r 127=3:=a;have d:au 127 127=0:=∅
 have c:r 0=0:=by have:=h.le 0 ∅;have f:sz 0=0:=∅;lia
 have s7:sz 127=7:=∅
 have:=h.le 127 ∅;rw[d,c,s7]at b;lia
def kinds(n:Nat)(r:Nat->Nat):List Bool:=[decide (n=4)&&(decide (r (2^n-1)=2)&&decide ((cq n r).length=6)),decide (n=5)&&(decide (r (2^n-1)=2)&&decide ((cq n r).length=10)),decide (n=5)&&(decide (r (2^n-1)=3)&&decide ((cq n r).length=10)),
 decide (n=7)&&(decide (r (2^n-1)=3)&&dW (cq n r)),decide (n=7)&&(decide (r (2^n-1)=4)&&dW ((cq n r).map (127- ·)))]
theorem Ek(h:zZ n r):kinds n r=[fc n r 4 2,fc n r 5 2,fc n r 5 3,bT n r,bT n (gF n r)]:=by
 unfold kinds;rw[ve,ve,ve,jZ.1,jZ.2.1,jZ.2.2.1];by_cases b:n=7
 .subst b;have c:(decide (7=7)&&(decide (r (2^7-1)=3)&&dW (cq 7 r)))=bT 7 r:=by
   by_cases e:r (2^7-1)=3
   .rw[Bw h e,J3 e];simp
   .unfold bT;rw[J6 e];simp
  have d:(decide (7=7)&&(decide (r (2^7-1)=4)&&dW ((cq 7 r).map (127- ·))))=bT 7 (gF 7 r):=by
   by_cases a:r (2^7-1)=4
   .rw[Bu h a,J3 a];simp
   .rw[J6 a];have:bT 7 (gF 7 r)=false:=Mg.mpr λz=>a (Bv h z);rw[this];simp
  rw[c,d]
 .have c:bT n r=false:=by unfold bT;rw[J6 b];simp
  have d:bT n (gF n r)=false:=by unfold bT;rw[J6 b];simp
  rw[c,d,J6 b];simp
theorem qg(a:n<=8):decide (2^n=16)=decide (n=4)/\decide (2^n=32)=decide (n=5)/\decide (2^n=128)=decide (n=7):=by
 have:∀n:Nat,n<9->decide (2^n=16)=decide (n=4)/\decide (2^n=32)=decide (n=5)/\decide (2^n=128)=decide (n=7):=∅
 exact this n ()
end Bh
namespace Bh
abbrev Row:=Nat->Int
def sgn(i:Nat):Int:=if i % 2=0 then 1 else-1
theorem jJ(i:Nat):sgn (i+1)= -sgn i:=by
 unfold sgn;rcases Nat.mod_two_eq_zero_or_one i with h|h
 .rw[J4 (),J5 h]
 .rw[J5 (),J4 ()];rfl
theorem Hq(i:Nat):sgn i*sgn i=1:=by unfold sgn;split<;>rfl
def bp:Nat->(Nat->Int)->Int
 |0,_=>0
 |n+1,f=>bp n f+f n
theorem ba:∀ {n:Nat},(∀i,i<n->f i=g i)->bp n f=bp n g
 |0,_=>rfl
 |n+1,h=>by rw[bp,bp,ba λi a=>h i (),h n ()]
theorem jG(f g:Nat->Int):∀n,bp n (λi=>f i+g i)=bp n f+bp n g
 |0=>rfl
 |n+1=>by rw[bp,bp,bp,jG f g n];lia
theorem dI(a:Int)(f:Nat->Int):∀n,bp n (λi=>a*f i)=a*bp n f
 |0=>by show(0:Int)=a*0;lia
 |n+1=>by rw[bp,bp,dI a f n,Mv]
theorem nC:∀ {n:Nat},(∀i,i<n->f i=0)->bp n f=0
 |0,_=>rfl
 |n+1,h=>by rw[bp,nC λi a=>h i (),h n ()];rfl
theorem kW(f:Nat->Int)(m:Nat):∀n,bp (m+n) f=bp m f+bp n λk=>f (m+k)
 |0=>by show bp m f=bp m f+0;lia
 |n+1=>by rw[<-Nat.add_assoc,bp,bp,kW f m n];lia
theorem jc(f:Nat->Int)(n:Nat):bp (n+1) f=f 0+bp n λk=>f (k+1):=by
 rw[Nat.add_comm,kW];have a:bp 1 f=f 0:=by show 0+f 0=f 0;lia
 rw[a];refine K3 (f 0+ ·) (ba λi _=>by rw[Nat.add_comm])
theorem nE(f:Nat->Nat->Int)(n:Nat):∀m,bp m (λi=>bp n (f i))=bp n λj=>bp m λi=>f i j
 |0=>(nC λ_ _=>rfl).symm
 |m+1=>by rw[bp,nE f n m,<-jG];rfl
def rw0:Row:=λ_=>0
def aP:List Row->List Nat->Int
 |_,[]=>1
 |R,c::cs=>bp R.length λi=>sgn i*(R.getD i rw0 c*aP (R.eraseIdx i) cs)
theorem iU{a:Type}{A B:List a}{d:a}{i:Nat}(h:i<A.length):(A++B).getD i d=A.getD i d:=by rw[Kc,Kc,KR h]
theorem dY{a:Type}{A B:List a}{d:a}(k:Nat):(A++B).getD (A.length+k) d=B.getD k d:=by rw[Kc,Kc,KN (),OU]
theorem qQ{a:Type}{A B:List a}{i:Nat}(h:i<A.length):(A++B).eraseIdx i=A.eraseIdx i++B:=List.eraseIdx_append_of_lt_length h B
theorem gR{a:Type}{A B:List a}(k:Nat):(A++B).eraseIdx (A.length+k)=A++B.eraseIdx k:=by rw[List.eraseIdx_append_of_length_le (),OU]
theorem fK(A:List Row)(x:Row)(B:List Row)(c:Nat)(cs:List Nat):aP (A++x::B) (c::cs)=bp A.length (λi=>sgn i*(A.getD i rw0 c*aP (A.eraseIdx i++x::B) cs))+sgn A.length*(x c*aP (A++B) cs)+
  bp B.length λk=>sgn (A.length+1+k)*(B.getD k rw0 c*aP (A++x::B.eraseIdx k) cs):=by
 show bp (A++x::B).length _=_;rw[Kz,KA,kW,jc,<-Int.add_assoc];refine congr (K3 _ (congr (K3 _ (ba λi a=> ?_)) ?_)) (ba λk b=> ?_)
 .rw[iU a,qQ a]
 .show sgn (A.length+0)*((A++x::B).getD (A.length+0) rw0 c*aP ((A++x::B).eraseIdx (A.length+0)) cs)=_;rw[dY,gR];rfl
 .rw[dY,gR,show A.length+1+k=A.length+(k+1) by lia];rfl
theorem mU(a b:Int)(r p:Row):∀ (e:List Nat) (A B:List Row),e≠[]->A.length+1+B.length=e.length->aP (A++(λj=>a*r j+b*p j)::B) e=a*aP (A++r::B) e+b*aP (A++p::B) e
 | [],_,_,h,_=>absurd rfl h
 |c::cs,A,B,_,hl=>by
  rw[fK,fK,fK];have f:bp A.length (λi=>sgn i*(A.getD i rw0 c*aP (A.eraseIdx i++(λj=>a*r j+b*p j)::B) cs))=a*bp A.length (λi=>sgn i*(A.getD i rw0 c*aP (A.eraseIdx i++r::B) cs))+b*bp A.length (λi=>sgn i*(A.getD i rw0 c*aP (A.eraseIdx i++p::B) cs)):=by
   rw[<-dI,<-dI,<-jG];refine ba λi m=> ?_;have d:(A.eraseIdx i).length+1+B.length=cs.length:=by rw[Le m];simp at hl;lia
   rw[mU a b r p cs (A.eraseIdx i) B (λz=>by rw[z]at d;simp at d) d];generalize aP (A.eraseIdx i++r::B) cs=u;generalize aP (A.eraseIdx i++p::B) cs=v;generalize A.getD i rw0 c=w;generalize sgn i=s;simp only[Mv,K9]
  have g:bp B.length (λk=>sgn (A.length+1+k)*(B.getD k rw0 c*aP (A++(λj=>a*r j+b*p j)::B.eraseIdx k) cs))=a*bp B.length (λk=>sgn (A.length+1+k)*(B.getD k rw0 c*aP (A++r::B.eraseIdx k) cs))+b*bp B.length (λk=>sgn (A.length+1+k)*(B.getD k rw0 c*aP (A++p::B.eraseIdx k) cs)):=by
   rw[<-dI,<-dI,<-jG];refine ba λk n=> ?_;have d:A.length+1+(B.eraseIdx k).length=cs.length:=by rw[Le n];simp at hl;lia
   rw[mU a b r p cs A (B.eraseIdx k) (λz=>by rw[z]at d;simp at d) d];generalize aP (A++r::B.eraseIdx k) cs=u;generalize aP (A++p::B.eraseIdx k) cs=v;generalize B.getD k rw0 c=w;generalize sgn (A.length+1+k)=s;simp only[Mv,K9]
  have l:sgn A.length*((λj=>a*r j+b*p j) c*aP (A++B) cs)=a*(sgn A.length*(r c*aP (A++B) cs))+b*(sgn A.length*(p c*aP (A++B) cs)):=by show sgn A.length*((a*r c+b*p c)*aP (A++B) cs)=_;generalize aP (A++B) cs=u;generalize sgn A.length=s;rw[O3,Mv];simp only[KJ,K9]
  rw[f,g,l];simp only[Mv];lia
theorem sR(a:Int)(r:Row)(b:List Nat)(A B:List Row)(hl:A.length+1+B.length=b.length):aP (A++(λj=>a*r j)::B) b=a*aP (A++r::B) b:=by have h:=mU a 0 r r b A B (λz=>by rw[z]at hl;simp at hl) hl;rw[MA,MI]at h;rw[<-h];refine K3 (λz=>aP (A++z::B) b) (funext λj=> ?_);rw[MA,MI]
theorem mR(x y:Row):∀ (a:List Nat) (A B:List Row),A.length+2+B.length=a.length->aP (A++x::y::B) a= -aP (A++y::x::B) a
 | [],A,B,hl=>by simp at hl
 |c::cs,A,B,hl=>by
  rw[fK A x (y::B),fK A y (x::B)];have f:bp A.length (λi=>sgn i*(A.getD i rw0 c*aP (A.eraseIdx i++x::y::B) cs))= -bp A.length (λi=>sgn i*(A.getD i rw0 c*aP (A.eraseIdx i++y::x::B) cs)):=by
   have:∀z:Int,-z=(-1)*z:=λz=>()
   rw[this,<-dI];refine ba λi b=> ?_;have d:(A.eraseIdx i).length+2+B.length=cs.length:=by rw[Le b];simp at hl;lia
   rw[mR x y cs (A.eraseIdx i) B d,NC,NC,<-this]
  have e:∀u v:Row,bp (v::B).length (λk=>sgn (A.length+1+k)*((v::B).getD k rw0 c*aP (A++u::(v::B).eraseIdx k) cs))=sgn (A.length+1)*(v c*aP (A++u::B) cs)+bp B.length (λk=>sgn (A.length+2+k)*(B.getD k rw0 c*aP (A++u::v::B.eraseIdx k) cs)):=λu v=>by rw[KA,jc];refine K3 (λz=>sgn (A.length+1)*(v c*aP (A++u::B) cs)+z) (ba λk _=> ?_);rw[show A.length+1+(k+1)=A.length+2+k by lia];rfl
  have g:bp B.length (λk=>sgn (A.length+2+k)*(B.getD k rw0 c*aP (A++x::y::B.eraseIdx k) cs))= -bp B.length (λk=>sgn (A.length+2+k)*(B.getD k rw0 c*aP (A++y::x::B.eraseIdx k) cs)):=by
   have:∀z:Int,-z=(-1)*z:=λz=>()
   rw[this,<-dI];refine ba λi b=> ?_;have d:A.length+2+(B.eraseIdx i).length=cs.length:=by rw[Le b];simp at hl;lia
   rw[mR x y cs A (B.eraseIdx i) d,NC,NC,<-this]
  rw[f,e,e,g,jJ,LU,LU];lia
theorem jY(x:Row)(c:List Nat):∀ (A b B:List Row),b.length+A.length+1+B.length=c.length->aP (b++(A++x::B)) c=sgn A.length*aP (b++x::(A++B)) c
 | [],b,B,_=>by show _=1*_;rw[LH];rfl
 |a::A,b,B,hl=>by have h:=jY x c A (b++[a]) B (by simp at hl⊢;lia);rw[Mh,Mh]at h;have d:=mR a x c b (A++B) (by simp at hl⊢;lia);show aP (b++([a]++(A++x::B))) c=_;rw[h];show sgn A.length*aP (b++a::x::(A++B)) c=_;rw[d,KA,jJ,NC,LU];rfl
theorem xB(p:Row)(a:List Nat)(A B:List Row)(hl:A.length+2+B.length=a.length):aP (p::(A++p::B)) a=0:=by
 have h:=jY p a A [p] B (by simp;lia);have b:=mR p p a [] (A++B) (by simp;lia);have c:aP (p::p::(A++B)) a=0:=by have:aP (p::p::(A++B)) a= -aP (p::p::(A++B)) a:=b;lia
 have d:aP (p::(A++p::B)) a=sgn A.length*aP (p::p::(A++B)) a:=h;rw[d,c,Ms]
theorem sS(p:Row)(a:Int)(b:Row->Int)(d:List Nat):∀ (S c:List Row),c.length+1+S.length=d.length->
  aP (p::(c++S.map λr j=>a*r j+b r*p j)) d=a^S.length*aP (p::(c++S)) d
 | [],c,_=>by rw[Nq,OZ,OO,LH]
 |r::S,c,hl=>by have h:=sS p a b d S (c++[λj=>a*r j+b r*p j]) (by simp at hl⊢;lia);rw[Mh,Mh]at h;rw[KS];show aP (p::(c++([λj=>a*r j+b r*p j]++S.map λr j=>a*r j+b r*p j))) d=_;rw[h];show a^S.length*aP ((p::c)++(λj=>a*r j+b r*p j)::S) d=_;rw[mU a (b r) r p d (p::c) S (λz=>by rw[z]at hl;simp at hl) (by simp at hl⊢;lia)];have e:aP ((p::c)++p::S) d=0:=xB p d c S (by simp at hl;lia);rw[e,Ms,MI,KA,N8,KJ];rfl
theorem qS(p:Row)(d:Int)(g:Row->Row)(b:List Nat):∀ (S a:List Row),a.length+1+S.length=b.length->
  aP (p::(a++S.map λr j=>d*g r j)) b=d^S.length*aP (p::(a++S.map g)) b
 | [],a,_=>by rw[Nq,Nq,OZ,OO,LH]
 |r::S,a,hl=>by have h:=qS p d g b S (a++[λj=>d*g r j]) (by simp at hl⊢;lia);rw[Mh,Mh]at h;rw[KS,KS];show aP (p::(a++([λj=>d*g r j]++S.map λr j=>d*g r j))) b=_;rw[h];show d^S.length*aP ((p::a)++(λj=>d*g r j)::S.map g) b=_;rw[sR d (g r) b (p::a) (S.map g) (by simp at hl⊢;lia),KA,N8,KJ];rfl
theorem Cw(p:Row)(B:List Row)(c:Nat)(cs:List Nat)(h:∀r∈B,r c=0):aP (p::B) (c::cs)=p c*aP B cs:=by
 have e:=fK [] p B c cs;have b:bp B.length (λk=>sgn (([]:List Row).length+1+k)*(B.getD k rw0 c*aP ([]++p::B.eraseIdx k) cs))=0:=nC λk a=>by
  have:B.getD k rw0 c=0:=by
   have d:B.getD k rw0=B[k]:=by simp[a]
   rw[d];exact h _ (LD a)
  rw[this,MA,Ms]
 rw[b]at e;show aP ([]++p::B) (c::cs)=_;rw[e];show(0:Int)+1*(p c*aP B cs)+0=_;lia
theorem gw:∀ (d:List Nat) (R a:List Row),R.length=a.length->(∀i j,j∈d->R.getD i rw0 j=a.getD i rw0 j)->aP R d=aP a d
 | [],_,_,_,_=>rfl
 |c::cs,R,a,hl,h=>by
  show bp R.length _=bp a.length _;rw[<-hl];refine ba λi f=> ?_;rw[h i c Kp,gw cs (R.eraseIdx i) (a.eraseIdx i) (by rw[Le f,Le (),hl]) λk j e=> ?_];rw[Kc,Kc,Nm,Nm];by_cases b:k<i
  .rw[J5 b,J5 b,<-Kc,<-Kc];exact h k j (Ke _ e)
  .rw[J4 b,J4 b,<-Kc,<-Kc];exact h (k+1) j (Ke _ e)
theorem rV(p:Row)(g h:Row->Row)(a:List Nat)(S:List Row)(e:∀r∈S,∀j∈a,g r j=h r j):aP (p::S.map g) a=aP (p::S.map h) a:=by
 refine gw a _ _ (by simp) λi j b=> ?_;cases i with
 |zero=>rfl
 |succ i=>
  rw[Kc,Kc,NK,NK,Kv,Kv];cases c:S[i]? with
  |none=>rfl
  |some r=>exact e r (Km c) j b
theorem Gs(p r:Row)(c j:Nat):aP [p,r] [c,j]=p c*r j-r c*p j:=by simp[aP,bp,sgn];lia
def oT(d:Int)(R:List Row)(cs:List Nat):Prop:=∀ (S:List Row) (T:List Nat) (k:Nat),(∀r∈S,r∈R)->(∀t∈T,t∈cs)->S.length=k+1->T.length=k+1->d^k∣aP S T
theorem i3(R:List Row)(cs:List Nat):oT 1 R cs:=λS T k _ _ _ _=>by rw[Int.one_pow];exact Int.one_dvd _
def cN(d:Int)(p:Row)(c:Nat)(r:Row):Row:=λj=>(r j*p c-p j*r c).fdiv d
section
variable{d:Int}{R:List Row}{c:Nat}{cs:List Nat}{p:Row}
theorem ip(h:oT d R (c::cs))(f:d≠0)(i:p∈R)(l:r∈R)(g:j∈c::cs):d*cN d p c r j=r j*p c-p j*r c:=by
 have b:=h [p,r] [c,j] 1 (λx a=>by
  rcases J7.mp a with rfl|a
  .exact i
  .rw[KZ.mp a];exact l) (λx a=>by
  rcases J7.mp a with rfl|a
  .exact Kp
  .rw[KZ.mp a];exact g) rfl rfl
 rw[Gs,N8,OO,LH]at b;obtain⟨q,k⟩:=b;have e:r j*p c-p j*r c=d*q:=by rw[<-k,KG (r j),KG (p j)]
 unfold cN;rw[e,Int.mul_fdiv_cancel_left _ f]
theorem vP(h:oT d R (c::cs))(b:d≠0)(m:p∈R){S:List Row}{T:List Nat}(l:∀r∈S,r∈R)(o:∀t∈T,t∈cs)(hl:S.length=T.length):d^S.length*(p c*aP (S.map (cN d p c)) T)=p c^S.length*aP (p::S) (c::T):=by
 have a:=sS p (p c) (λr=> -r c) (c::T) S [] (by simp;lia);have k:=qS p d (cN d p c) (c::T) S [] (by simp;lia);have n:=rV p (λr j=>d*cN d p c r j) (λr j=>p c*r j+(-r c)*p j) (c::T) S λr i j g=>by
  have q:j∈c::cs:=by
   rcases J7.mp g with rfl|g
   .exact Kp
   .exact Ke _ (o j g)
  rw[ip h b m (l r i) q,LU,KG (r j),KG (p j)];lia
 have z:∀r∈S.map (cN d p c),r c=0:=λx s=>by
  obtain⟨r,i,rfl⟩:=Ka.mp s;have e:=ip h b m (l r i) Kp;rw[KG (p c),LJ]at e;rcases O1.mp e with e|e
  .exact absurd e b
  .exact e
 have f:=Cw p (S.map (cN d p c)) c T z;rw[Mw]at a k;rw[Mw]at a k;rw[<-f,<-k,n,a]
theorem unmap{i β:Type}(f:i->β)(L:List i):∀S:List β,(∀x∈S,x∈L.map f)->∃g:List i,(∀x∈g,x∈L)/\S=g.map f
 | [],_=>#[[],(λ_ b=>nomatch b),rfl]
 |y::S,h=>by
  obtain⟨a,l,e⟩:=Ka.mp (h y Kp);obtain⟨g,k,j⟩:=unmap f L S λx b=>h x (Ke _ b);refine#[a::g,λx b=> ?_,by rw[KS,e,j]];rcases J7.mp b with rfl|b
  .exact l
  .exact k x b
theorem Cu(h:oT d R (c::cs))(i:d≠0)(j:p∈R)(t:p c≠0){L:List Row}(f:∀r∈L,r∈R):oT (p c) (L.map (cN d p c)) cs:=by
 intro S T k s g l z;obtain⟨b,e,rfl⟩:=unmap _ L S s;rw[J2]at l;have m:=vP h i j (λr y=>f r (e r y)) g (show b.length=T.length by lia);obtain⟨q,w⟩:=h (p::b) (c::T) (k+1) (λx a=>by
  rcases J7.mp a with rfl|a
  .exact j
  .exact f x (e x a)) (λx a=>by
  rcases J7.mp a with rfl|a
  .exact Kp
  .exact Ke _ (g x a)) (by simp;lia) (by simp;lia)
 rw[w,l]at m;refine#[q,?_];have n:d^(k+1)≠0:=Int.pow_ne_zero i;have o:d^(k+1)*(p c*aP (b.map (cN d p c)) T)=d^(k+1)*(p c*(p c^k*q)):=by rw[m,N8 (p c)];generalize p c^k=u;generalize d^(k+1)=v;simp only[KJ,K9,KG]
 exact OE t (OE n o)
end
theorem xC(r:Row):∀ (a:List Nat) (R:List Row),R.length+1=a.length->aP (R++[r]) a=bp a.length λj=>sgn (a.length-1-j)*(r (a.getD j 0)*aP R (a.eraseIdx j))
 | [],R,hl=>by simp at hl
 |c::cs,R,hl=>by
  have f:R.length=cs.length:=by simpa using hl
  rw[fK R r [] c cs,KA,jc,LF];have b:bp ([]:List Row).length (λk=>sgn (R.length+1+k)*(([]:List Row).getD k rw0 c*aP (R++r::([]:List Row).eraseIdx k) cs))=0:=rfl;rw[b,MI,Int.add_comm];refine congr (K3 _ ?_) ?_
  .rw[f];rfl
  .have d:∀j,j<cs.length->sgn (cs.length+1-1- (j+1))*(r ((c::cs).getD (j+1) 0)*aP R ((c::cs).eraseIdx (j+1)))=bp R.length λi=>sgn i*(R.getD i rw0 c*(sgn (cs.length-1-j)*(r (cs.getD j 0)*aP (R.eraseIdx i) (cs.eraseIdx j)))):=λj g=>by show sgn (cs.length+1-1- (j+1))*(r (cs.getD j 0)*bp R.length λi=>sgn i*(R.getD i rw0 c*aP (R.eraseIdx i) (cs.eraseIdx j)))=_;rw[show cs.length+1-1- (j+1)=cs.length-1-j by lia,<-KJ,<-dI];refine ba λi _=> ?_;simp only[KJ,K9]
   rw[ba d,<-nE (λi j=>sgn i*(R.getD i rw0 c*(sgn (cs.length-1-j)*(r (cs.getD j 0)*aP (R.eraseIdx i) (cs.eraseIdx j))))) cs.length R.length];refine ba λi e=> ?_;rw[xC r cs (R.eraseIdx i) (by rw[Le e];lia),<-KJ,<-dI];refine ba λj _=> ?_;rw[KJ]
theorem pF(r:Row):∀ (d:List Nat) (R:List Row),R.length+1=d.length->aP (r::R) d=bp d.length λj=>sgn j*(r (d.getD j 0)*aP R (d.eraseIdx j))
 | [],R,hl=>by simp at hl
 |c::cs,R,hl=>by
  have k:R.length=cs.length:=by simpa using hl
  have sp:=fK [] r R c cs;rw[Mw]at sp;rw[sp,KA,jc];have e:bp ([]:List Row).length (λi=>sgn i*(([]:List Row).getD i rw0 c*aP (([]:List Row).eraseIdx i++r::R) cs))=0:=rfl;rw[e,Lk];refine congr (K3 _ rfl) ?_;have f:∀j,j<cs.length->sgn (j+1)*(r ((c::cs).getD (j+1) 0)*aP R ((c::cs).eraseIdx (j+1)))=bp R.length λi=>sgn (i+1)*(R.getD i rw0 c*(sgn j*(r (cs.getD j 0)*aP (R.eraseIdx i) (cs.eraseIdx j)))):=λj h=>by show sgn (j+1)*(r (cs.getD j 0)*bp R.length λi=>sgn i*(R.getD i rw0 c*aP (R.eraseIdx i) (cs.eraseIdx j)))=_;rw[<-KJ,<-dI];refine ba λi _=> ?_;rw[jJ,jJ,LU,LU,LU];refine K3 (λz:Int=> -z) ?_;generalize aP (R.eraseIdx i) (cs.eraseIdx j)=z;generalize R.getD i rw0 c=y;generalize sgn i=b;generalize sgn j=a;simp only[KJ,K9,KG]
  rw[ba f,<-nE (λi j=>sgn (i+1)*(R.getD i rw0 c*(sgn j*(r (cs.getD j 0)*aP (R.eraseIdx i) (cs.eraseIdx j))))) cs.length R.length];refine ba λi g=> ?_;show sgn (([]:List Row).length+1+i)*(R.getD i rw0 c*aP ([]++r::R.eraseIdx i) cs)=_;rw[Mw,pF r cs (R.eraseIdx i) (by rw[Le g];lia),<-KJ,<-dI,show([]:List Row).length+1+i=i+1 by simp;lia];refine ba λj _=> ?_;rw[KJ]
theorem qP{b β:Type}(f:b->β)(l:List b)(j:Nat):(l.map f).eraseIdx j=(l.eraseIdx j).map f:=by
 induction l generalizing j with
 |nil=>rfl
 |cons a l c=>
  cases j with
  |zero=>rfl
  |succ j=>show f a::(l.map f).eraseIdx j=f a::(l.eraseIdx j).map f;rw[c]
theorem mQ(M:Nat->Nat->Int):∀ (J I:List Nat),I.length=J.length->aP (I.map λi j=>M i j) J=aP (J.map λj i=>M i j) I
 | [],I,hl=>by have:I=[]:=NL.mp hl;subst this;rfl
 |c::cs,I,hl=>by
  rw[KS,pF (λi=>M i c) I (cs.map λj i=>M i j) (by rw[J2];simpa using hl.symm)];show bp (I.map _).length _=_;rw[J2];refine ba λk a=> ?_;rw[qP,mQ M cs (I.eraseIdx k) (by rw[Le a];simp at hl;lia)];have e:(I.map λi j=>M i j).getD k rw0 c=M (I.getD k 0) c:=by rw[Kc,Kc,Kv,Ky a];rfl
  rw[e]
end Bh
namespace Bh
theorem i5:∀ {n:Nat},(∀i,i<n->m∣f i)->m∣bp n f
 |0,_=>KY m
 |n+1,h=>Mi (i5 λi a=>h i ()) (h n ())
def Van(m:Int)(k:Nat)(R:List Row)(cs:List Nat):Prop:=∀ (S:List Row) (T:List Nat),(∀r∈S,r∈R)->(∀t∈T,t∈cs)->S.length=k->T.length=k->m∣aP S T
def Mnr(m:Int)(k:Nat)(R:List Row)(cs:List Nat):Prop:=∃ (S:List Row) (T:List Nat),S.Sublist R/\T.Sublist cs/\S.length=k/\T.length=k/\¬m∣aP S T
theorem iQ{a:Type}{l:List a}{i:Nat}{x:a}(h:x∈l.eraseIdx i):x∈l:=(List.eraseIdx_sublist l i).subset h
theorem Van.up(h:Van m k R cs):Van m (k+1) R cs:=by
 intro S T a b f lt
 match T,lt with
 |t::T,lt=>
  refine i5 λi c=> ?_;refine Kg (Kg (h (S.eraseIdx i) T (λr d=>a r (iQ d)) (λt e=>b t (Ke _ e)) ?_ ?_))
  .rw[Le c];lia
  .simpa using lt
theorem Van.le(h:Van m k R cs):∀ {l:Nat},k<=l->Van m l R cs
 |0,hl=>by rw[show 0=k by lia];exact h
 |l+1,hl=>by
  by_cases e:k=l+1
  .rw[<-e];exact h
  .exact(Van.le h ()).up
theorem Mnr.not_van(h:Mnr m k R cs):¬Van m k R cs:=by obtain⟨S,T,a,b,e,lt,n⟩:=h;exact λv=>n (v S T (λr c=>a.subset c) (λt d=>b.subset d) e lt)
theorem lA(h:¬Van m k R cs)(v:Van m (l+1) R cs):k<=l:=by
 by_cases e:k<=l
 .exact e
 .exact absurd (v.le (show l+1<=k by lia)) h
theorem Be(h:¬Van m k R cs)(v:Van m (k+1) R cs)(h':¬Van m l R cs)(a:Van m (l+1) R cs):k=l:=by have:=lA h a;have:=lA h' v;lia
theorem ue(a:¬m∣1)(R:List Row)(cs:List Nat):Mnr m 0 R cs:=#[[],[],List.nil_sublist _,List.nil_sublist _,rfl,rfl,a]
theorem t7(m:Int)(R:List Row):Van m 1 R []:=λS T _ a _ lt=>by
 match T,lt with
 |t::T,_=>exact absurd (a t Kp) (λh=>nomatch h)
theorem AR:∀ (T:List Nat) (S:List Row),c∈T->(∀r∈S,m∣r c)->m∣aP S T
 |t::T,S,d,h=>by
  refine i5 λi a=> ?_;by_cases e:t=c
  .subst e;have b:S.getD i rw0=S[i]:=by simp[a]
   rw[b];exact Kg (KW (h _ (LD a)))
  .have:c∈T:=by
    rcases J7.mp d with rfl|h
    .exact absurd rfl e
    .exact h
   exact Kg (Kg (AR T (S.eraseIdx i) this λr f=>h r (iQ f)))
theorem Gn{S:List Row}{T:List Nat}(c:r∈S)(hl:S.length=T.length)(h:∀t∈T,m∣r t):m∣aP S T:=by
 obtain⟨A,B,rfl⟩:=Om c;have b:=jY r T A [] B (by simp at hl⊢;lia);rw[Mw,Mw]at b;rw[b,pF r T (A++B) (by simp at hl⊢;lia)];refine Kg (i5 λj a=>Kg (KW ?_));have e:T.getD j 0=T[j]:=by simp[a]
 rw[e];exact h _ (LD a)
theorem jD(f:∀r∈R,m∣r c)(h:Van m k R cs):Van m k R (c::cs):=by
 intro S T a d i lt;by_cases e:c∈T
 .exact AR T S e λr g=>f r (a r g)
 .refine h S T a (λt b=> ?_) i lt;rcases J7.mp (d t b)with rfl|h
  .exact absurd b e
  .exact h
theorem vN(h:Mnr m k R cs):Mnr m k R (c::cs):=by obtain⟨S,T,a,b,d,lt,n⟩:=h;exact#[S,T,a,b.trans (List.sublist_cons_self c cs),d,lt,n]
theorem Az{T:List Nat}{A B:List Row}(hl:A.length+1+B.length=T.length)(h:∀j∈T,a*r j=d*s j+b*p j):a*aP (A++r::B) T=d*aP (A++s::B) T+b*aP (A++p::B) T:=by
 rw[<-sR a r T A B hl,<-mU d b s p T A B (λz=>by rw[z]at hl;simp at hl) hl];refine gw T _ _ (by simp) λi j e=> ?_;by_cases c:i<A.length
 .rw[iU c,iU c]
 .obtain⟨k,rfl⟩:∃k,i=A.length+k:=#[i-A.length,()];rw[dY,dY];cases k with
  |zero=>exact h j e
  |succ k=>rfl
theorem oH(d:∀x y:Int,m∣x*y->m∣x\/m∣y)(b:¬m∣1)(c:¬m∣a):∀k:Nat,¬m∣a^k
 |0=>by rw[OO];exact b
 |k+1=>λh=>by
  rw[N8]at h;rcases d _ _ h with h|h
  .exact oH d b c k h
  .exact c h
section
variable{m d:Int}{R:List Row}{c:Nat}{cs:List Nat}{p:Row}
theorem pI(hm:∀x y:Int,m∣x*y->m∣x\/m∣y)(h:oT d R (c::cs))(q:d≠0)(K:R=A++p::B)(ha:¬m∣p c)(v:Van m k ((A++B).map (cN d p c)) cs):Van m (k+1) R (c::cs):=by
 have u:p∈R:=by rw[K];simp
 have ex:∀r∈R,∀j∈c::cs,p c*r j=d*cN d p c r j+r c*p j:=λr n j i=>by rw[ip h q u n i,KG (r c),KG (r j)];lia
 have zc:∀r∈R,cN d p c r c=0:=λr n=>by
  have e:=ip h q u n Kp;rw[KG (p c),LJ]at e;rcases O1.mp e with e|e
  .exact absurd e q
  .exact e
 have zp:∀j∈c::cs,cN d p c p j=0:=λj i=>by
  have e:=ip h q u u i;rw[LJ]at e;rcases O1.mp e with e|e
  .exact absurd e q
  .exact e
 have N:Van m k (R.map (cN d p c)) (c::cs):=by
  refine jD (λr n=> ?_) λS T g f H lt=> ?_
  .obtain⟨x,a,rfl⟩:=Ka.mp n;rw[zc x a];exact KY m
  .by_cases z:∃s∈S,∀j∈T,m∣s j
   .obtain⟨s,w,hz⟩:=z;exact Gn w () hz
   .refine v S T (λs w=> ?_) f H lt;obtain⟨x,a,rfl⟩:=Ka.mp (g s w);refine Ka.mpr #[x,?_,rfl];have L:=a;rw[K]at L;rcases KC.mp L with o|o
    .exact KC.mpr (.inl o)
    .rcases J7.mp o with e|o
     .refine absurd #[_,w,λj i=> ?_] z;rw[e,zp j (Ke _ (f j i))];exact KY m
     .exact KC.mpr (.inr o)
 have pull:∀x:Int,m∣p c*x->m∣x:=λx a=>(hm _ _ a).resolve_left ha;have J:∀ {r:Row} {T:List Nat},r∈R->(∀t∈T,t∈c::cs)->∀j∈T,p c*r j=d*cN d p c r j+r c*p j:=λn f j i=>ex _ n j (f j i);have Q:∀ (S b:List Row) (T:List Nat),(∀r∈b,r∈R.map (cN d p c))->(∀r∈S,r∈R)->(∀t∈T,t∈c::cs)->b.length+S.length=k->T.length=k+1->m∣aP (p::(b++S)) T:=by
  intro S
  induction S with
  |nil=>
   intro b T l _ f hl lt;rw[LF,pF p T b (by simp at hl;lia)];refine i5 λj i=>Kg (Kg (N b (T.eraseIdx j) l (λt ht=>f t (iQ ht)) (by simpa using hl) ?_));rw[Le i];lia
  |cons r S G=>
   intro b T l g f hl lt;simp only[KA]at hl;have e:=Az (A:=p::b) (B:=S) (by simp only[KA];lia) (J (g r Kp) f);have U:aP ((p::b)++p::S) T=0:=xB p T b S ();rw[U,Ms,MI]at e;refine pull _ ?_;show m∣p c*aP ((p::b)++r::S) T;rw[e];refine Kg ?_;have:=G (b++[cN d p c r]) T (λx a=>by
    rcases KC.mp a with a|a
    .exact l x a
    .rw[KZ.mp a];exact Oh (g r Kp)) (λx a=>g x (Ke _ a)) f (by simp;lia) lt
   rw[Mh]at this;exact this
 have O:∀ (S b:List Row) (T:List Nat),(∀r∈b,r∈R.map (cN d p c))->(∀r∈S,r∈R)->(∀t∈T,t∈c::cs)->b.length+S.length=k+1->T.length=k+1->m∣aP (b++S) T:=by
  intro S
  induction S with
  |nil=>
   intro b T l _ f hl lt;rw[LF];exact N.up b T l f (by simpa using hl) lt
  |cons r S G=>
   intro b T l g f hl lt;simp only[KA]at hl;have e:=Az (A:=b) (B:=S) () (J (g r Kp) f);refine pull _ ?_;rw[e];refine Mi (Kg ?_) (Kg ?_)
   .have:=G (b++[cN d p c r]) T (λx a=>by
     rcases KC.mp a with a|a
     .exact l x a
     .rw[KZ.mp a];exact Oh (g r Kp)) (λx a=>g x (Ke _ a)) f (by simp;lia) lt
    rw[Mh]at this;exact this
   .have M:=jY p T b [] S (by simp;lia);rw[Mw,Mw]at M;rw[M];exact Kg (Q S b T l (λx a=>g x (Ke _ a)) f () lt)
 intro S T g f H lt;have:=O S [] T (λx a=>nomatch a) g f (by simpa using H) lt
 rwa [Mw]at this
theorem pP(g:∀x y:Int,m∣x*y->m∣x\/m∣y)(u:¬m∣1)(h:oT d R (c::cs))(K:d≠0)(L:¬m∣d)(f:R=A++p::B)(J:¬m∣p c)(v:Mnr m k ((A++B).map (cN d p c)) cs):Mnr m (k+1) R (c::cs):=by
 have M:p∈R:=by rw[f];simp
 obtain⟨S,T,w,o,i,lt,n⟩:=v;obtain⟨S0,G,rfl⟩:=N9.mp w;obtain⟨a,b,rfl,j,l⟩:=OV.mp G;rw[J2]at i;have H:∀r∈a++b,r∈R:=λr e=>by
  rw[f];rcases KC.mp e with e|e
  .exact KC.mpr (.inl (j.subset e))
  .exact KC.mpr (.inr (Ke _ (l.subset e)))
 have O:=vP h K M H (λt N=>o.subset N) (show(a++b).length=T.length by lia);refine#[a++p::b,c::T,?_,o.cons_cons c,by simp at i⊢;lia,by simp;lia,λz=> ?_]
 .rw[f];exact j.append (l.cons_cons p)
 .have s:=jY p (c::T) a [] b (by simp at i⊢;lia);rw[Mw,Mw]at s;rw[s]at z;have Q:m∣aP (p::(a++b)) (c::T):=by
   have:m∣sgn a.length*(sgn a.length*aP (p::(a++b)) (c::T)):=Kg z
   rwa [<-KJ,Hq,LH]at this
  have U:m∣d^(a++b).length*(p c*aP ((a++b).map (cN d p c)) T):=by rw[O];exact Kg Q
  rcases g _ _ U with q|q
  .exact oH g u L _ q
  .rcases g _ _ q with q|q
   .exact J q
   .exact n q
end
theorem vh:∀ (n:List Nat) (R a:List Row),R.length=a.length->(∀i j,j∈n->m∣R.getD i rw0 j-a.getD i rw0 j)->m∣aP R n-aP a n
 | [],_,_,_,_=>by show m∣(1:Int) -1;exact KY m
 |c::cs,R,a,hl,h=>by
  show m∣bp R.length _-bp a.length _;rw[<-hl];have e:∀f g:Nat->Int,bp R.length f-bp R.length g=bp R.length λi=>f i+(-1)*g i:=λf g=>by rw[jG,dI];lia
  rw[e];refine i5 λi r=> ?_;have p:=h i c Kp;have q:m∣aP (R.eraseIdx i) cs-aP (a.eraseIdx i) cs:=vh cs (R.eraseIdx i) (a.eraseIdx i) (by rw[Le r,Le (),hl]) λk j o=>by
   rw[Kc,Kc,Nm,Nm];by_cases d:k<i
   .rw[J5 d,J5 d,<-Kc,<-Kc];exact h k j (Ke _ o)
   .rw[J4 d,J4 d,<-Kc,<-Kc];exact h (k+1) j (Ke _ o)
  generalize R.getD i rw0 c=x at*;generalize a.getD i rw0 c=b at*;generalize aP (R.eraseIdx i) cs=y at*;generalize aP (a.eraseIdx i) cs=l at*;have:sgn i*(x*y)+ -1*(sgn i*(b*l))=sgn i*((x-b)*y+b*(y-l)):=by rw[O4,Mj,show x*y-b*y+(b*y-b*l)=x*y-b*l by lia,Mj];lia
  rw[this];exact Kg (Mi (KW p) (Kg q))
theorem mE{S:List Row}(h:∀r∈S,m∣f r j-r j):m∣(S.map f).getD i rw0 j-S.getD i rw0 j:=by
 rw[Kc,Kc,Kv];cases e:S[i]? with
 |none=>show m∣rw0 j-rw0 j;rw[LJ];exact KY m
 |some r=>exact h r (Km e)
theorem zA{m a b:Int}(h:m∣a-b)(c:m∣b):m∣a:=by
 have:=Mi h c
 rwa [Mx]at this
theorem xw{m a b:Int}(h:m∣a-b)(c:m∣a):m∣b:=by
 have:=LC c h
 rwa [show a- (a-b)=b by lia]at this
section
variable{m:Int}{k:Nat}{R:List Row}{cs:List Nat}{f:Row->Row}
theorem Fe(h:∀r∈R,∀j∈cs,m∣f r j-r j)(v:Van m k (R.map f) cs):Van m k R cs:=by
 intro S T b c g lt;have:=v (S.map f) T (λr a=>by obtain⟨x,e,rfl⟩:=Ka.mp a;exact Oh (b x e)) c (by rw[J2];exact g) lt
 exact xw (vh T (S.map f) S (J2 _) λi j d=>mE λr a=>h r (b r a) j (c j d)) this
theorem Fj(h:∀r∈R,∀j∈cs,m∣f r j-r j)(v:Mnr m k (R.map f) cs):Mnr m k R cs:=by obtain⟨S,T,e,c,d,lt,n⟩:=v;obtain⟨a,b,rfl⟩:=N9.mp e;rw[J2]at d;refine#[a,T,b,c,d,lt,λz=>n ?_];exact zA (vh T (a.map f) a (J2 _) λi j g=>mE λr l=>h r (b.subset l) j (c.subset g)) z
end
theorem mV(f:Nat->Nat):∀ (T:List Nat) (S:List Row),aP (S.map λr j=>r (f j)) T=aP S (T.map f)
 | [],_=>rfl
 |t::T,S=>by
  show bp (S.map _).length _=bp S.length _;rw[J2];refine ba λi a=> ?_;rw[qP,mV f T];have e:(S.map λr j=>r (f j)).getD i rw0 t=S.getD i rw0 (f t):=by rw[Kc,Kc,Kv,Ky a];rfl
  rw[e]
theorem sr{R d:List Row}{f:Nat->Nat}{T:List Nat}:∀ (S:List Row),(∀r∈S,r∈d)->(∀r∈d,∃c∈R,∀j∈T,r j=c (f j))->∃a:List Row,(∀r∈a,r∈R)/\a.length=S.length/\∀i j,j∈T->S.getD i rw0 j=(a.map λr j=>r (f j)).getD i rw0 j
 | [],_,_=>#[[],(λ_ h=>nomatch h),rfl,λ_ _ _=>rfl]
 |r::S,e,h=>by
  obtain⟨a,k,l,m⟩:=sr S (λx b=>e x (Ke _ b)) h;obtain⟨c,g1,g2⟩:=h r (e r Kp);refine#[c::a,λx b=> ?_,by simp[l],λi j g=> ?_]
  .rcases J7.mp b with rfl|b
   .exact g1
   .exact k x b
  .cases i with
   |zero=>exact g2 j g
   |succ i=>exact m i j g
theorem ic{m:Int}{k:Nat}{R d:List Row}{cs a:List Nat}{f:Nat->Nat}(p:∀j∈a,f j∈cs)(q:∀r∈d,∃c∈R,∀j∈a,r j=c (f j))(v:Van m k R cs):Van m k d a:=by
 intro S T o g u lt;obtain⟨e,i,l,n⟩:=sr (T:=T) S o λr h=>by obtain⟨c,g1,g2⟩:=q r h;exact#[c,g1,λj b=>g2 j (g j b)]
 rw[gw T S (e.map λr j=>r (f j)) (by rw[J2,l]) n,mV];refine v e (T.map f) i (λt s=> ?_) () (by rw[J2];exact lt);obtain⟨j,b,rfl⟩:=Ka.mp s;exact p j (g j b)
section
variable{l u:Nat->Nat->Int}{r:Nat}
end
end Bh
namespace Bh
structure cy(m:Int):Prop where
 nn:0<=m
 lt:m<128
 one:¬m∣1
 mul:∀x y:Int,m∣x*y->m∣x\/m∣y
theorem BK{p:Nat}(c:2<=p)(hl:p<128)(b:∀d,d<p+1->d∣p->d=1\/d=p):cy (p:Int):=#[(),(),λh=>by
 have:=Int.le_of_dvd ∅ h;lia,λx y h=>by
 have a:p∣x.natAbs*y.natAbs:=by rw[<-Oi];exact Oo.mp h
 by_cases e:p∣x.natAbs
 .exact .inl (Oo.mpr e)
 .refine .inr (Oo.mpr ?_);have g:Nat.gcd p x.natAbs=1:=by
   rcases b _ (Nat.lt_succ_of_le (Nat.le_of_dvd () (Nat.gcd_dvd_left p x.natAbs))) (Nat.gcd_dvd_left p x.natAbs)with g|g
   .exact g
   .exact absurd (g▸Nat.gcd_dvd_right p x.natAbs) e
  exact Nat.Coprime.dvd_of_dvd_mul_left g a]
def AE:List Nat:=[2,3,5,7,11,13,17,19,23,29,31,37,41,43,47,53,59,61,67,71,73,79,83,89,97]
theorem yz:∀p∈AE,cy (p:Int):=by
 have h:∀p∈AE,2<=p/\p<128/\∀d,d<p+1->d∣p->d=1\/d=p:=by decide+kernel
 exact λp a=>BK (h p a).1 (h p a).2.1 (h p a).2.2
theorem sg:∀ {n:Nat} {I:List Nat},I.Sublist (List.range n)->∃s,s<2^n/\I=(List.range n).filter s.testBit
 |0,I,h=>#[0,∅,by simpa using h]
 |n+1,I,h=>by
  rw[LX]at h;obtain⟨l,b,rfl,f,g⟩:=OV.mp h;obtain⟨s,d,rfl⟩:=sg f;have p:=NI (n:=2) (m:=n);have i:b=[]\/b=[n]:=by
   rcases List.sublist_cons_iff.mp g with a|⟨r,c,a⟩
   .exact .inl (List.sublist_nil.mp a)
   .have e:=List.sublist_nil.mp a;rw[e]at c;exact .inr c
  rcases i with rfl|rfl
  .refine#[s,(),?_];rw[LX,Mr];simp[K1 d]
  .refine#[2^n+s,(),?_];rw[LX,Mr];refine congr (K3 _ (Li λj k=> ?_)) ?_
   .exact(Nat.testBit_two_pow_add_gt (J9.mp k) s).symm
   .have:(2^n+s).testBit n=true:=by rw[Nat.testBit_two_pow_add_eq,K1 d];rfl
    simp[this]
theorem iu{a:Type}(l:List a)(d:a):(List.range l.length).map (λi=>l.getD i d)=l:=by
 refine List.ext_getElem? λi=> ?_;rw[Kv];by_cases h:i<l.length
 .rw[LG h,Ky h];simp[h]
 .rw[MX (by simp;lia),MX ()];rfl
theorem Dh{a:Type}{L S:List a}{d:a}(h:S.Sublist L):∃s,s<2^L.length/\S=((List.range L.length).filter s.testBit).map λi=>L.getD i d:=by rw[<-iu L d]at h;obtain⟨I,b,rfl⟩:=N9.mp h;obtain⟨s,c,rfl⟩:=sg b;exact#[s,c,rfl]
end Bh
namespace Bh
end Bh
namespace Bh
def RkV(m:Int)(R:List Row)(cs:List Nat)(r:Nat):Prop:=Van m (r+1) R cs/\¬Van m r R cs
theorem lC(h:∀j∈a,j∈cs)(v:Van m k R cs):Van m k R a:=
 ic (f:=id) h (λr b=>#[r,b,λ_ _=>rfl]) v
theorem RkV.mem(h:∀j,j∈cs↔j∈cs')(v:RkV m R cs r):RkV m R cs' r:=
 #[lC (λj a=>(h j).mpr a) v.1,λz=>v.2 (lC (λj a=>(h j).mp a) z)]
theorem RkV.one(h:RkV m R cs r)(h':RkV m R cs r'):r=r':=Be h.2 h.1 h'.2 h'.1
theorem RkV.zeroC(a:∀x∈R,m∣x c)(h:RkV m R cs r):RkV m R (c::cs) r:=
 #[jD a h.1,λz=>h.2 (lC (λj b=>Ke _ b) z)]
theorem om(m:Int)(c:Nat)(R:List Row):(∀x∈R,m∣x c)\/∃p A B,R=A++p::B/\¬m∣p c:=by
 by_cases h:∀x∈R,m∣x c
 .exact .inl h
 .obtain⟨p,a⟩:=Oa.mp h;obtain⟨a,b⟩:=Classical.not_imp.mp a;obtain⟨A,B,e⟩:=Om a;exact .inr #[p,A,B,e,b]
theorem ib(a:cy m):∀ (cs:List Nat) (R:List Row),∃r,Van m (r+1) R cs/\Mnr m r R cs
 | [],R=>#[0,t7 m R,ue a.one R []]
 |c::cs,R=>by
  rcases om m c R with h|⟨p,A,B,e,f⟩
  .obtain⟨r,b,d⟩:=ib a cs R;exact#[r,jD h b,vN d]
  .obtain⟨r,b,d⟩:=ib a cs ((A++B).map (cN 1 p c));exact#[r+1,pI a.mul (i3 R (c::cs)) ∅ e f b,pP a.mul a.one (i3 R (c::cs)) ∅ a.one e f d]
theorem RkV.pivot(a:cy m)(e:R=A++p::B)(f:¬m∣p c)(h:RkV m ((A++B).map (cN 1 p c)) cs r):RkV m R (c::cs) (r+1):=by obtain⟨g,b,d⟩:=ib a cs ((A++B).map (cN 1 p c));have:r=g:=h.one #[b,d.not_van];subst this;exact#[pI a.mul (i3 R (c::cs)) ∅ e f b,(pP a.mul a.one (i3 R (c::cs)) ∅ a.one e f d).not_van]
open Classical in
noncomputable def rho(m:Int)(R:List Row)(cs:List Nat):Nat:=if h:∃r,RkV m R cs r then Classical.choose h else 0
theorem gp(c:cy m)(R:List Row)(cs:List Nat):RkV m R cs (rho m R cs):=by
 have h:∃r,RkV m R cs r:=by obtain⟨r,a,b⟩:=ib c cs R;exact#[r,a,b.not_van]
 unfold rho;rw[dif_pos h];exact Nt h
theorem fj(a:cy m)(h:RkV m R cs r):rho m R cs=r:=(gp a R cs).one h
theorem je(a:cy m)(h:∀j,j∈cs↔j∈cs'):rho m R cs=rho m R cs':=fj a ((gp a R cs').mem λj=>(h j).symm)
theorem Ht(a:cy m)(h:∀j∈cs,j∈cs'):rho m R cs<=rho m R cs':=
 lA (λz=>(gp a R cs).2 (lC h z)) (gp a R cs').1
theorem o9(a:cy m)(c:Nat)(R:List Row):(∀cs,rho m R (c::cs)=rho m R cs)\/∃b,∀cs,rho m R (c::cs)=rho m b cs+1:=by
 rcases om m c R with h|⟨p,A,B,e,d⟩
 .exact .inl λcs=>fj a ((gp a R cs).zeroC h)
 .exact .inr #[(A++B).map (cN 1 p c),λcs=>fj a ((gp a _ cs).pivot a e d)]
theorem jd(a:cy m)(R:List Row):rho m R []=0:=fj a #[t7 m R,λz=>a.one (z [] [] (by simp) (by simp) rfl rfl)]
theorem wG(a:cy m)(R:List Row)(j c:Nat)(cs:List Nat):rho m R (j::c::cs)=rho m R (c::j::cs):=je a λx=>by rw[J7,J7,J7,J7];exact#[λh=>by rcases h with h|h|h;exact .inr (.inl h);exact .inl h;exact .inr (.inr h),λh=>by rcases h with h|h|h;exact .inr (.inl h);exact .inl h;exact .inr (.inr h)]
theorem qd(a:cy m)(k:Nat):∀ (cs:List Nat) (R:List Row),rho m R (k::cs)<=rho m R cs+1
 | [],R=>by
  rcases o9 a k R with h|⟨b,h⟩
  .rw[h];lia
  .rw[h,jd a,jd a];lia
 |c::cs,R=>by
  rw[wG a];rcases o9 a c R with h|⟨b,h⟩
  .rw[h,h];exact qd a k cs R
  .rw[h,h];have:=qd a k cs b;lia
theorem uy(a:cy m)(j k:Nat):∀ (cs:List Nat) (R:List Row),rho m R (j::cs)=rho m R cs->rho m R (k::cs)=rho m R cs->rho m R (k::j::cs)=rho m R cs
 | [],R,d,b=>by
  rcases o9 a k R with h|⟨f,h⟩
  .rw[h];exact d
  .rw[h,jd a,jd a]at b;cases b
 |c::cs,R,d,b=>by
  rw[wG a]at d b;have e:rho m R (k::j::c::cs)=rho m R (c::k::j::cs):=je a λx=>by rw[J7,J7,J7,J7,J7,J7];exact#[λh=>by rcases h with h|h|h|h;exact .inr (.inl h);exact .inr (.inr (.inl h));exact .inl h;exact .inr (.inr (.inr h)),λh=>by rcases h with h|h|h|h;exact .inr (.inr (.inl h));exact .inl h;exact .inr (.inl h);exact .inr (.inr (.inr h))]
  rw[e];rcases o9 a c R with h|⟨f,h⟩
  .rw[h,h]at d b;rw[h,h];exact uy a j k cs R d b
  .rw[h,h]at d b;rw[h,h,uy a j k cs f () ()]
def az(s:Nat):List Nat:=(List.range 8).filter s.testBit
theorem aT{s k:Nat}:k∈az s↔k<8/\s.testBit k=true:=by unfold az;rw[Kx,J9]
theorem qV(c:k<8)(j:Nat):j∈az (s|||2^k)↔j∈k::az s:=by
 rw[J7,aT,aT,Kl,Kt,KH,Kf];constructor
 .rintro⟨b,a|a⟩
  .exact .inr #[b,a]
  .exact .inl a.symm
 .rintro(rfl|⟨b,a⟩)
  .exact#[c, .inr rfl]
  .exact#[b, .inl a]
noncomputable def de(m:Int)(R:List Row)(s:Nat):Nat:=rho m R (az s)
theorem lP(b:cy m)(a:k<8):de m R (s|||2^k)=rho m R (k::az s):=je b (qV a)
theorem iX(hm:cy m)(R:List Row)(n8:n<=8):Mat n (de m R) where
 n8:=n8
 zero:=by
  have e:az 0=[]:=List.filter_eq_nil_iff.mpr λk _=>by rw[KI];exact Ku
  unfold de;rw[e];exact jd hm R
 step:=λs k _ hk=>by rw[lP hm ()];exact#[Ht hm λj hj=>Ke _ hj,qd hm k _ R]
 sub:=λs j k _ hj hk a b=>by
  rw[lP hm ()]at a b;have e:de m R (s|||2^j|||2^k)=rho m R (k::j::az s):=(lP hm ()).trans (je hm λx=>by rw[J7,qV (),J7,J7,J7])
  rw[e];exact uy hm j k _ R a b
end Bh
namespace Bh
theorem jg{s n:Nat}(a:n<=8)(c:s<2^n):(List.range n).filter s.testBit=(List.range 8).filter s.testBit:=by
 have e:List.range 8=List.range n++(List.range (8-n)).map (n+ ·):=by rw[<-List.range_add,Nat.add_sub_cancel' a]
 rw[e,Mr];have z:((List.range (8-n)).map (n+ ·)).filter s.testBit=[]:=List.filter_eq_nil_iff.mpr λk b=>by obtain⟨j,_,rfl⟩:=Ka.mp b;rw[K1 (Kb c (Kw () (Nx n j)))];exact Ku
 rw[z,LF]
def yj(m:Int)(R:List Row)(cs:List Nat):Prop:=∃S,S.Sublist R/\S.length=cs.length/\¬m∣aP S cs
theorem wF(f:cy m)(R:List Row)(cs:List Nat):rho m R cs=cs.length↔yj m R cs:=by
 obtain⟨r,c,S,T,d,a,h,i,b⟩:=ib f cs R;have e:rho m R cs=r:=fj f #[c,Mnr.not_van #[S,T,d,a,h,i,b]];have lt:=a.length_le;rw[e];constructor
 .intro z;have:T=cs:=a.eq_of_length ();rw[this]at b;exact#[S,d,(),b]
 .rintro⟨g,g1,g2,g3⟩;have:=lA (m:=m) (k:=cs.length) (R:=R) (cs:=cs) (λv=>g3 (v g cs (λx l=>g1.subset l) (λt j=>j) g2 rfl)) c;lia
theorem a7(s:Nat):(az s).length=sz s:=by unfold sz bits;rw[J2];rfl
theorem BE(a:cy m)(R:List Row)(s:Nat):de m R s=sz s↔yj m R (az s):=by rw[<-a7];exact wF a R _
theorem yj.few{R:List Row}{cs:List Nat}(h:yj m R cs):cs.length<=R.length:=by obtain⟨S,a,b,_⟩:=h;rw[<-b];exact a.length_le
end Bh
namespace Bh
def exB(b x y:Nat):Nat:=(b^^^2^x)|||2^y
theorem AO(b x y j:Nat):(exB b x y).testBit j=((b.testBit j^^decide (x=j))||decide (y=j)):=by unfold exB;rw[Kl,Ni,Kt,Kt]
namespace Mat
variable{n:Nat}{r:Nat->Nat}(M:Mat n r)
include M
end Mat
theorem Ji{n B x y:Nat}(M:Mat n r)(c:B<2^n)(a:B.testBit x=true)(d:B.testBit y=false)(f:y<n):exB B x y<2^n/\sz (exB B x y)=sz B:=by
 have b:=M.jj c a;have h:=M.Dg c a;refine#[bP b f,?_];have g:(B^^^2^x).testBit y=false:=by
  rw[Ni,d,Kt];have:¬x=y:=λe=>by rw[e,d]at a;cases a
  simp[this]
 have i:=gn (M.bW b) (Kb f M.n8) g;unfold exB;lia
end Bh
namespace Bh
def dP(f:Nat->Nat->Int)(J:List Nat):List Row:=J.map λi t=>f t i
theorem xr{L:List Row}{cs:List Nat}(h:L.length=cs.length):yj m L cs↔¬m∣aP L cs:=by
 constructor
 .rintro⟨S,a,b,c⟩;have:S=L:=a.eq_of_length (b.trans h.symm);rw[<-this];exact c
 .exact λz=>#[L,List.Sublist.refl _,h,z]
theorem dC(b:cy m){L:List Row}{cs:List Nat}(h:L.length=R)(a:cs.length=R):rho m L cs=R↔¬m∣aP L cs:=by rw[<-xr (h.trans a.symm),<-wF b,a]
theorem vQ(a:cy m)(f:Nat->Nat->Int){cs:List Nat}(hl:cs.length=R)(b:Van m (k+1) (cs.map λt j=>f t j) (List.range R))(c:Mnr m k (cs.map λt j=>f t j) (List.range R)):
  k=R↔rho m (dP f (List.range R)) cs=R:=by
 have e:rho m (cs.map λt j=>f t j) (List.range R)=k:=fj a #[b,c.not_van];rw[<-e,dC a (by rw[J2,hl]) (Kq ..),dC a (by unfold dP;rw[J2,Kq]) hl,mQ f (List.range R) cs (by rw[Kq,hl])];rfl
theorem wD(c:cy m)(L:List Row)(cs:List Nat):rho m L cs<=L.length:=by obtain⟨r,d,S,T,a,e,b,f,g⟩:=ib c cs L;rw[fj c #[d,Mnr.not_van #[S,T,a,e,b,f,g]],<-b];exact a.length_le
theorem r8(n:cy m)(f:Nat->Nat->Int)(g:Nat->Nat):∀ (I J:List Nat),I.Nodup->J.Nodup->(∀i∈I,i∈J)->(∀i∈I,∀j∈J,f (g i) j=if j=i then 1 else 0)->
  ∃d:List Nat,d.Nodup/\(∀j,j∈d↔j∈J/\j∉I)/\∀l,rho m (dP f J) (I.map g++l)=rho m (dP f d) l+I.length
 | [],J,_,q,_,_=>#[J,q,λj=>by simp,λl=>rfl]
 |i::I,J,L,q,r,s=>by
  obtain⟨A,B,e⟩:=Om (r i Kp);subst e;have u:=Lg.mp L;have K:(A++B).Nodup:=(List.Sublist.append (List.Sublist.refl A) (List.sublist_cons_self i B)).nodup q;have v:i∉A++B:=λz=>by
   have o:=NR.mp q;rw[KC]at z;rcases z with z|z
   .exact o.2.2 i z i Kp rfl
   .exact(Lg.mp o.2.1).1 z
  have p:∀j,j∈A++i::B↔j=i\/j∈A++B:=λj=>by rw[KC,J7,KC];exact#[λh=>by rcases h with h|h|h;exact .inr (.inl h);exact .inl h;exact .inr (.inr h),λh=>by rcases h with h|h|h;exact .inr (.inl h);exact .inl h;exact .inr (.inr h)]
  obtain⟨d,o,y,G⟩:=r8 n f g I (A++B) u.2 K (λj c=>by
   rcases(p j).mp (r j (Ke _ c))with z|z
   .exact absurd (z▸c) u.1
   .exact z) λj c k H=>s j (Ke _ c) k ((p k).mpr (.inr H))
  refine#[d,o,λj=> ?_,λl=> ?_]
  .rw[y,p,J7];constructor
   .rintro⟨a,b⟩;exact#[.inr a,λz=>by rcases z with z|z;exact v (z▸a);exact b z]
   .rintro⟨a,b⟩;exact#[by rcases a with a|a;exact absurd (.inl a) b;exact a,λz=>b (.inr z)]
  .have w:dP f (A++i::B)=(A.map λi t=>f t i)++(λt=>f t i)::(B.map λi t=>f t i):=by unfold dP;rw[KP,KS]
   have u1:f (g i) i=1:=by rw[s i Kp i (r i Kp),J5 rfl]
   have x:((A.map λi t=>f t i)++(B.map λi t=>f t i)).map (cN 1 (λt=>f t i) (g i))=dP f (A++B):=by unfold dP;rw[<-KP,K5];refine LB λj c=> ?_;funext t;show(f t j*f (g i) i-f t i*f (g i) j).fdiv 1=f t j;rw[Int.fdiv_one,u1,s i Kp j ((p j).mpr (.inr c)),J4 (show¬j=i from λz=>v (z▸c))];lia
   have pv:=fj n ((gp n _ (I.map g++l)).pivot n w (by show¬m∣f (g i) i;rw[u1];exact n.one));rw[x,G]at pv;rw[KS,List.cons_append,pv,KA];lia
end Bh
namespace Bh
theorem ir{S:Nat}(h:sz S≠0):∃a,S.testBit a=true:=Kr λz=>h (by
 have:S=0:=Kj λj=>by
  rw[KI];cases e:S.testBit j with
  |false=>rfl
  |true=>exact absurd #[j,e] z
 rw[this];exact cH)
theorem lE{n S:Nat}(p:n<=8)(f:S<2^n)(h:sz S=2):∃a b,a≠b/\S.testBit a=true/\S.testBit b=true/\S=2^a|||2^b:=by
 have j:S<256:=Kb f (Kw ∅ p);obtain⟨a,c⟩:=ir (S:=S) ();have s:=aW f c;have q:=cz S j a () c;obtain⟨b,d⟩:=ir (S:=S^^^2^a) ();have e:=d;rw[br c,Kn]at e;have ne:a≠b:=λz=>by have:=e.2;rw[J3 z]at this;cases this
 have t:=aW f e.1;have m:S^^^2^a<256:=(bq c).lt (n:=8) j;have r:=cz (S^^^2^a) m b () d;have o:S^^^2^a^^^2^b=0:=(sf (a:=0) ∅ ((bq d).lt (n:=8) m) (λk _ l=>by rw[KI]at l;cases l) (by rw[cH];lia)).symm;have g:=eC d;rw[o,NB]at g;have i:=eC c;rw[<-g,Na]at i;exact#[a,b,ne,c,e.1,i.symm]
end Bh
namespace Bh
theorem Mat.pull(M:Mat n r)(m8:m<=8)(c:Nat->Nat)(l:c 0=0)(i:∀s,s<2^m->c s<2^n)
  (hk:∀k,k<m->(∀s,c (s|||2^k)=c s)\/∃j,j<n/\∀s,c (s|||2^k)=c s|||2^j):Mat m (λs=>r (c s)) where
 n8:=m8
 zero:=by show r (c 0)=0;rw[l];exact M.zero
 step:=λs k g f=>by
  show r (c s)<=r (c (s|||2^k))/\r (c (s|||2^k))<=r (c s)+1;rcases hk k f with h|⟨j,hj,h⟩
  .rw[h];lia
  .rw[h];exact M.step _ j (i s g) hj
 sub:=λs j k g hj f d e=>by
  have d:r (c (s|||2^j))=r (c s):=d;have e:r (c (s|||2^k))=r (c s):=e;show r (c (s|||2^j|||2^k))=r (c s);rcases hk k f with h|⟨b,o,h⟩
  .rw[h];exact d
  .rcases hk j hj with h'|⟨a,ha,h'⟩
   .rw[h,h',<-h];exact e
   .rw[h,h'];rw[h]at e;rw[h']at d;exact M.sub _ a b (i s g) ha o d e
theorem Mat.coloop(M:Mat m r)(hl:∀s,r (s|||2^p)=r s):Mat m (λs=>r s+if s.testBit p=true then 1 else 0) where
 n8:=M.n8
 zero:=by show r 0+(if(0:Nat).testBit p=true then 1 else 0)=0;rw[M.zero,KI];rfl
 step:=λs k f hk=>by
  show r s+_<=r (s|||2^k)+_/\r (s|||2^k)+_<=r s+_+1;have a:=M.step s k f hk;by_cases e:k=p
  .subst e;rw[hl];have:(s|||2^k).testBit k=true:=by rw[Kl,Kt];simp
   rw[J5 this];split<;>lia
  .have:(s|||2^k).testBit p=s.testBit p:=by rw[Kl,Kt,J6 e,Mp]
   rw[this];split<;>lia
 sub:=λs j k f hj hk b d=>by
  have b:r (s|||2^j)+(if(s|||2^j).testBit p=true then 1 else 0)=r s+(if s.testBit p=true then 1 else 0):=b;have d:r (s|||2^k)+(if(s|||2^k).testBit p=true then 1 else 0)=r s+(if s.testBit p=true then 1 else 0):=d;show r (s|||2^j|||2^k)+(if(s|||2^j|||2^k).testBit p=true then 1 else 0)=r s+(if s.testBit p=true then 1 else 0);have o:=M.step s j f hj;have q:=M.step s k f hk;have i:(s|||2^j).testBit p=(s.testBit p||decide (j=p)):=by rw[Kl,Kt]
  have l:(s|||2^k).testBit p=(s.testBit p||decide (k=p)):=by rw[Kl,Kt]
  have n:(s|||2^j|||2^k).testBit p=(s.testBit p||decide (j=p)||decide (k=p)):=by rw[Kl,Kl,Kt,Kt]
  rw[i]at b;rw[l]at d;rw[n];have c:=M.sub s j k f hj hk;cases e:s.testBit p with
  |true=>
   rw[e]at b d;simp only[Bool.true_or,J5]at b d⊢;rw[c () ()]
  |false=>
   rw[e]at b d;by_cases g:j=p
   .subst g;rw[hl]at b;simp at b
   .by_cases h:k=p
    .subst h;rw[hl]at d;simp at d
    .simp only[J6 g,J6 h,Mp]at b d⊢;rw[c () ()]
def bC(p s:Nat):Nat:=2^p*(s/2^(p+1))+s % 2^p
def bh(p s:Nat):Nat:=2^(p+1)*(s/2^p)+s % 2^p
theorem cJ(p s j:Nat):(bC p s).testBit j=if j<p then s.testBit j else s.testBit (j+1):=by
 unfold bC;rw[Oq _ (Nat.mod_lt _ (Nat.two_pow_pos p))];split
 .rename_i h;rw[NM,J3 h,Lo]
 .rename_i h;rw[OW];congr 1;lia
theorem eS(p s j:Nat):(bh p s).testBit j=if j<p then s.testBit j else if j=p then false else s.testBit (j-1):=by
 unfold bh;rw[Oq _ (Kb (Nat.mod_lt _ (Nat.two_pow_pos p)) (Kw ∅ (Nat.le_succ p)))];by_cases h:j<p
 .rw[J5 h,J5 (),NM,J3 h,Lo]
 .rw[J4 h];by_cases e:j=p
  .rw[J5 e,J5 (),NM,J6 h,Lc]
  .rw[J4 e,J4 (),OW];congr 1;lia
theorem hZ(p s:Nat):bC p (bh p s)=s:=Kj λj=>by
 rw[cJ];split
 .rename_i h;rw[eS,J5 h]
 .rename_i h;rw[eS,J4 (),J4 ()];rfl
theorem rZ{p s:Nat}(h:s.testBit p=false):bh p (bC p s)=s:=Kj λj=>by
 rw[eS];split
 .rename_i h;rw[cJ,J5 h]
 .split
  .rename_i e;rw[e,h]
  .rename_i a b;rw[cJ,J4 ()];congr 1;lia
theorem se(p:Nat):bC p 0=0:=by unfold bC;simp
theorem ja(c:p<=n)(a:s<2^(n+1)):bC p s<2^n:=MC _ λi b=>by rw[cJ,J4 ()];exact K1 (Kb a (Kw ∅ ()))
theorem gm(p s:Nat):bC p (s|||2^p)=bC p s:=Kj λj=>by
 rw[cJ,cJ,Kl,Kl,Kt,Kt];split
 .rw[J6 (show¬p=j by lia),Mp]
 .rw[J6 (show¬p=j+1 by lia),Mp]
theorem Af(h:k≠p)(s:Nat):bC p (s|||2^k)=bC p s|||2^(if k<p then k else k-1):=Kj λj=>by
 rw[Kl,cJ,cJ,Kl,Kl,Kt,Kt,Kt];by_cases a:j<p
 .rw[J5 a,J5 a];congr 1;refine LS.mpr ?_;split<;>lia
 .rw[J4 a,J4 a];congr 1;refine LS.mpr ?_;split<;>lia
theorem Mat.loop(M:Mat n r)(a:p<=n)(d:n<8):Mat (n+1) (λs=>r (bC p s)):=
 M.pull () (bC p) (se p) (λs b=>ja a b) λk c=>by
  by_cases e:k=p
  .subst e;exact .inl (gm k)
  .exact .inr #[_,by split<;>lia,Af e]
theorem Mat.inAll(M:Mat n r)(a:p<=n)(b:n<8):Mat (n+1) (λs=>r (bC p s)+if s.testBit p=true then 1 else 0):=
 (M.loop a b).coloop λs=>by rw[gm]
def eJ(p s:Nat):Nat:=if s.testBit p=true then bC p s|||2^p else bC p s
theorem jq(p s j:Nat):(eJ p s).testBit j=((bC p s).testBit j||(s.testBit p&&decide (p=j))):=by
 unfold eJ;cases e:s.testBit p
 .simp
 .rw[J5 rfl,Kl,Kt,Lo]
theorem Mat.beside(M:Mat n r)(a:p<n)(d:n<8):Mat (n+1) (λs=>r (eJ p s)):=
 M.pull () (eJ p) (by unfold eJ;rw[KI,se];rfl) (λs b=>by
  have:=ja (p:=p) () b;unfold eJ;split
  .exact K4 this (LR ∅ a)
  .exact this) λk c=>by
  by_cases e:k=p
  .subst e;refine .inr #[k,a,λs=>Kj λj=> ?_];rw[Kl,jq,jq,gm,Kl,Kt,Kt];cases (bC k s).testBit j<;>cases s.testBit k<;>cases decide (k=j)<;>simp
  .refine .inr #[if k<p then k else k-1,by split<;>lia,λs=>Kj λj=> ?_];rw[Kl,jq,jq,Af e,Kl,Kl,Kt,Kt,J6 e,Mp];cases (bC p s).testBit j<;>simp[Bool.or_comm]
theorem uc:∀t:Nat,t<256->∀p:Nat,p<8->sz (bC p t)+(if t.testBit p=true then 1 else 0)=sz t:=by decide+kernel
theorem jb:∀s:Nat,s<128->∀p:Nat,p<8->sz (bh p s)=sz s/\bh p s<256/\(bh p s).testBit p=false:=by decide+kernel
theorem vC:∀s:Nat,s<128->∀p:Nat,p<8->bh p s+2^p=bh p s|||2^p:=by decide+kernel
theorem EV:∀t:Nat,t<256->∀p:Nat,p<7->t.testBit p=true->t.testBit (p+1)=false->bh p (eJ p t) -2^p=t/\(eJ p t).testBit p=true/\sz (eJ p t)=sz t:=by decide+kernel
theorem Gx:∀s:Nat,s<128->∀p:Nat,p<7->s.testBit p=true->eJ p (bh p s-2^p)=s/\sz (bh p s-2^p)=sz s/\bh p s-2^p<256:=by decide+kernel
theorem EU:∀t:Nat,t<256->∀p:Nat,p<7->t.testBit p=true->t.testBit (p+1)=true->sz (eJ p t)+1=sz t:=by decide+kernel
theorem lz(a:s<2^n)(c:p<=n):bh p s<2^(n+1):=MC _ λi b=>by rw[eS,J4 (),J4 ()];exact K1 (Kb a (Kw ∅ ()))
theorem kP(b:n<8)(a:s<2^n):s<128:=Kb a (show 2^n<=2^7 from Kw ∅ ())
theorem xh(b:n<8)(a:s<2^(n+1)):s<256:=Kb a (show 2^(n+1)<=2^8 from Kw ∅ ())
theorem Mat.loop_bases(M:Mat n r)(f:p<=n)(d:n<8)(c:t<2^(n+1)):(sz t=R/\r (bC p t)=R)↔∃s,s<2^n/\sz s=R/\r s=R/\t=bh p s:=by
 constructor
 .rintro⟨b,a⟩;have lt:=ja f c;have z:=uc t (xh d c) p ();have q:=M.kQ (bC p t) lt;cases e:t.testBit p with
  |true=>
   rw[J5 e]at z;lia
  |false=>
   rw[J4 (by rw[e];exact Ku)]at z;exact#[_,lt,(),a,(rZ e).symm]
 .rintro⟨s,g,b,a,rfl⟩;rw[hZ,(jb s (kP d g) p ()).1];exact#[b,a]
theorem Mat.inAll_bases{n p R t:Nat}(M:Mat n r)(i:∀s,s<2^n->r s<=R)(k:p<=n)(f:n<8)(g:t<2^(n+1)):
  (sz t=R+1/\(r (bC p t)+if t.testBit p=true then 1 else 0)=R+1)↔∃s,s<2^n/\sz s=R/\r s=R/\t=bh p s+2^p:=by
 have add:∀s,s<2^n->bh p s+2^p=bh p s|||2^p:=λs b=>vC s (kP f b) p ();constructor
 .rintro⟨h,d⟩;have lt:=ja k g;have z:=uc t (xh f g) p ();have q:=i (bC p t) lt;cases e:t.testBit p with
  |false=>
   rw[J4 (by rw[e];exact Ku)]at d;lia
  |true=>
   rw[J5 e]at z d;refine#[_,lt,(),(),?_];rw[add _ lt];refine Kj λj=> ?_;rw[Kl,Kt,eS];by_cases c:j<p
   .rw[J5 c,cJ,J5 c,J6 (show¬p=j by lia),Mp]
   .by_cases a:j=p
    .rw[J3 a.symm,OM,a,e]
    .rw[J4 c,J4 a,cJ,J4 (),J6 (λz=>a z.symm),Mp];congr 1;lia
 .rintro⟨s,b,h,d,rfl⟩;have w:=jb s (kP f b) p ();rw[add s b];have bt:(bh p s|||2^p).testBit p=true:=by rw[Kl,Kt,J3 rfl,OM]
  rw[gm,hZ,J5 bt,gn w.2.1 () w.2.2,w.1];exact#[(),()]
theorem Mat.beside_bases(M:Mat n r)(j:p<n)(c:n<8)(f:t<2^(n+1)):
  (sz t=R/\r (eJ p t)=R)↔∃s,s<2^n/\sz s=R/\r s=R/\(t=bh p s\/s.testBit p=true/\t=bh p s-2^p):=by
 have bl:eJ p t<2^n:=by
  have:=ja (p:=p) () f;unfold eJ;split
  .exact K4 this (LR ∅ j)
  .exact this
 constructor
 .rintro⟨g,a⟩;cases e:t.testBit p with
  |false=>
   have d:eJ p t=bC p t:=by unfold eJ;rw[e];rfl
   have z:=uc t (xh c f) p ();rw[J4 (by rw[e];exact Ku)]at z;exact#[_,bl,by rw[d];lia,a, .inl (by rw[d,rZ e])]
  |true=>
   cases h:t.testBit (p+1)with
   |true=>
    have z:=EU t (xh c f) p () e h;have q:=M.kQ (eJ p t) bl;lia
   |false=>
    have z:=EV t (xh c f) p () e h;exact#[_,bl,(),a, .inr #[z.2.1,z.1.symm]]
 .rintro⟨s,i,g,a,rfl|⟨b,rfl⟩⟩
  .have w:=jb s (kP c i) p ();have d:eJ p (bh p s)=s:=by unfold eJ;rw[w.2.2,hZ];rfl
   rw[d,w.1];exact#[g,a]
  .have w:=Gx s (kP c i) p () b;rw[w.1,w.2.1];exact#[g,a]
end Bh
namespace Bh
def sL:List Nat->(Nat->Int)->Int
 | [],_=>0
 |c::cs,f=>f c+sL cs f
theorem cV:∀ {cs:List Nat},(∀c∈cs,f c=g c)->sL cs f=sL cs g
 | [],_=>rfl
 |c::cs,h=>by unfold sL;rw[h c Kp,cV λd a=>h d (Ke _ a)]
theorem fM(c:Nat)(cs:List Nat)(f:Nat->Int):sL (c::cs) f=f c+sL cs f:=rfl
theorem pY(f g:Nat->Int):∀cs,sL cs (λc=>f c+g c)=sL cs f+sL cs g
 | []=>rfl
 |c::cs=>by rw[fM,fM,fM,pY f g cs];lia
theorem gK(a:Int)(f:Nat->Int):∀cs,sL cs (λc=>a*f c)=a*sL cs f
 | []=>by unfold sL;lia
 |c::cs=>by unfold sL;rw[gK a f cs,Mv]
theorem nK:∀ {cs:List Nat},(∀c∈cs,m∣f c)->m∣sL cs f
 | [],_=>KY m
 |c::cs,h=>Mi (h c Kp) (nK λd a=>h d (Ke _ a))
theorem Dt(f g:Nat->Int)(cs:List Nat):sL cs (λc=>f c-g c)=sL cs f-sL cs g:=by have:=pY (λc=>f c-g c) g cs;rw[cV (g:=f) λc _=>()]at this;lia
theorem kY(h:∀c∈cs,m∣f c-g c):m∣sL cs f-sL cs g:=by rw[<-Dt];exact nK h
theorem jL:∀ {cs:List Nat},cs.Nodup->a∈cs->(∀c∈cs,c≠a->f c=0)->sL cs f=f a
 | [],_,h,_=>absurd h Ki
 |c::cs,l,i,h=>by
  obtain⟨j,k⟩:=Lg.mp l;unfold sL;by_cases e:c=a
  .subst e;have:sL cs f=0:=by
    have:=cV (f:=f) (g:=λ_=>0*0) (cs:=cs) λd b=>by rw[h d (Ke _ b) λz=>j (z▸b)];rfl
    rw[this,gK];lia
   lia
  .rw[h c Kp e,jL k (by rcases J7.mp i with z|z;exact absurd z.symm e;exact z) λd b=>h d (Ke _ b)];lia
theorem Ay(f:Nat->Nat->Int)(bs:List Nat):∀cs,sL cs (λc=>sL bs (f c))=sL bs λb=>sL cs λc=>f c b
 | []=>by have:=gK 0 (λ_=>0) bs;simp only[MA]at this;exact this.symm
 |c::cs=>by show sL bs (f c)+sL cs (λc=>sL bs (f c))=_;rw[Ay f bs cs,<-pY];rfl
def LI(m:Int)(L:List Row)(cs:List Nat):Prop:=∀g:Nat->Int,(∀x∈L,m∣sL cs λc=>g c*x c)->∀c∈cs,m∣g c
theorem da(d:cy m)(c:¬m∣a)(h:m∣a*b):m∣b:=by
 rcases d.mul _ _ h with z|z
 .exact absurd z c
 .exact z
theorem GC(b:cy m)(g:c∉cs)(h:∀x∈L,m∣x c):¬LI m L (c::cs):=λf=>by
 refine b.one ?_;have:=f (λd=>if d=c then 1 else 0) (λx e=> ?_) c Kp
 .rw[J5 rfl]at this;exact this
 .rw[fM];rw[J5 rfl,LH];refine Mi (h x e) (nK λd a=> ?_);rw[J4 (show¬d=c from λz=>g (z▸a)),MA];exact KY m
theorem pS(g:Nat->Int)(p x:Row)(c:Nat)(cs:List Nat):sL cs (λd=>g d*cN 1 p c x d)=p c*sL cs (λd=>g d*x d) -x c*sL cs (λd=>g d*p d):=by
 rw[<-gK,<-gK,<-Dt];refine cV λd _=> ?_;unfold cN;rw[Int.fdiv_one,Mj];have a:g d*(x d*p c)=p c*(g d*x d):=by rw[<-KJ,KG]
 have b:g d*(p d*x c)=x c*(g d*p d):=by rw[<-KJ,KG]
 rw[a,b]
theorem E5(l:cy m)(H:c∉cs)(e:L=A++p::B)(n:¬m∣p c):LI m L (c::cs)↔LI m ((A++B).map (cN 1 p c)) cs:=by
 have q:p∈L:=by rw[e];exact Lj _ Kp
 constructor
 .intro i g b d hd;have ne:∀d∈cs,¬d=c:=λd hd z=>H (z▸hd);have o:=i (λd=>if d=c then-sL cs (λd=>g d*p d)else p c*g d) (λx f=> ?_) d (Ke _ hd)
  .rw[J4 (ne d hd)]at o;exact da l n o
  .have r:sL (c::cs) (λd=>(if d=c then-sL cs (λd=>g d*p d)else p c*g d)*x d)=sL cs (λd=>g d*cN 1 p c x d):=by
    rw[pS,fM];generalize sL cs (λd=>g d*p d)=Pp;have s:sL cs (λd=>(if d=c then-Pp else p c*g d)*x d)=p c*sL cs λd=>g d*x d:=by rw[<-gK];refine cV λd hd=> ?_;rw[J4 (ne d hd),KJ]
    rw[s,J5 rfl,LU,KG Pp];lia
   rw[r];rw[e]at f;by_cases h:x∈A++B
   .exact b _ (Ka.mpr #[x,h,rfl])
   .have:x=p:=by
     rcases KC.mp f with z|z
     .exact absurd (LZ _ z) h
     .rcases J7.mp z with z|z
      .exact z
      .exact absurd (Lj _ z) h
    rw[this,pS,LJ];exact KY m
 .intro i g b;have j:∀d∈cs,m∣g d:=i g λy G=>by
   obtain⟨x,f,rfl⟩:=Ka.mp G;have J:x∈L:=by
    rw[e];rcases KC.mp f with z|z
    .exact LZ _ z
    .exact Lj _ (Ke _ z)
   have k:=b x J;have a:=b p q;rw[fM]at k a;rw[pS];have t:p c*sL cs (λd=>g d*x d) -x c*sL cs (λd=>g d*p d)=p c*(g c*x c+sL cs λd=>g d*x d) -x c*(g c*p c+sL cs λd=>g d*p d):=by
    rw[Mv,Mv];have:p c*(g c*x c)=x c*(g c*p c):=by rw[<-KJ,<-KJ,KG (p c),KG (x c),KJ,KJ,KG (p c)]
    lia
   rw[t];exact LC (Kg k) (Kg a)
  intro d hd;rcases J7.mp hd with rfl|hd
  .have a:=b p q;unfold sL at a;have u:m∣sL cs λe=>g e*p e:=nK λe w=>KW (j e w);have v:m∣p d*g d:=by have:=LC a u;rw[Ot]at this;rw[KG];exact this
   exact da l n v
  .exact j d hd
theorem yx(c:cy m)(cs:List Nat)(R:List Row):rho m R cs<=cs.length:=by obtain⟨r,d,S,T,e,a,f,b,g⟩:=ib c cs R;rw[fj c #[d,Mnr.not_van #[S,T,e,a,f,b,g]],<-b];exact a.length_le
theorem iV(a:cy m):∀ (cs:List Nat) (L:List Row),cs.Nodup->(rho m L cs=cs.length↔LI m L cs)
 | [],L,_=>by rw[jd a];exact#[λ_ g _ c i=>absurd i Ki,λ_=>rfl]
 |c::cs,L,k=>by
  obtain⟨f,j⟩:=Lg.mp k;rcases om m c L with h|⟨p,A,B,e,d⟩
  .have b:rho m L (c::cs)=rho m L cs:=fj a ((gp a L cs).zeroC h);have l:=yx a cs L;rw[b,KA];exact#[λz=>(),λz=>absurd z (GC a f h)]
  .have b:rho m L (c::cs)=rho m ((A++B).map (cN 1 p c)) cs+1:=fj a ((gp a _ cs).pivot a e d);rw[b,KA,E5 a f e d,<-iV a cs _ j];lia
end Bh
namespace Bh
theorem aD:cy 3:=yz 3 ∅
def cf(f:Nat->Nat->Int)(R S:Nat):Prop:=∀a:Nat->Int,(∀t,S.testBit t=true->(3:Int)∣sL (List.range R) λi=>a i*f t i)->∀i,i<R->(3:Int)∣a i
theorem mY(l:S<256)(q:sz S=R):de 3 (dP f (List.range R)) S=R↔cf f R S:=by
 have g:(az S).length=R:=(a7 S).trans q;have c:=aD;show rho 3 _ (az S)=R↔_;rw[dC c (by unfold dP;rw[J2,Kq]) g];have e:=mQ f (List.range R) (az S) (by rw[Kq,g]);have m:aP (dP f (List.range R)) (az S)=aP ((az S).map λt j=>f t j) (List.range R):=e.symm;rw[m,<-dC c (R:=R) (by rw[J2,g]) (Kq ..)];have:=iV c (List.range R) ((az S).map λt j=>f t j) La;rw[Kq]at this;rw[this];constructor
 .intro p k h i d;refine p k (λx o=> ?_) i (J9.mpr d);obtain⟨t,a,rfl⟩:=Ka.mp o;exact h t (aT.mp a).2
 .intro b k h i d;refine b k (λt a=> ?_) i (J9.mp d);exact h _ (Ka.mpr #[t,aT.mpr #[aW (n:=8) l a,a],rfl])
theorem yw(h:Nat->Nat)(F:Nat->Int):∀cs:List Nat,sL (cs.map h) F=sL cs λc=>F (h c)
 | []=>rfl
 |c::cs=>by rw[KS,fM,fM,yw h F cs]
theorem yr(h:¬(3:Int)∣a):(3:Int)∣1-a*a:=by
 have b:a % 3=1\/a % 3=2:=by have:¬a % 3=0:=λz=>h (MP z);lia
 have e:=N1 a 3;refine MP ?_;rcases b with z|z<;>rw[Int.sub_emod,Int.mul_emod,z]<;>rfl
def bAt(B i:Nat):Nat:=(az B).getD i 0
theorem kE(c:sz B=R):(List.range R).map (bAt B)=az B:=by have b:(az B).length=R:=(a7 B).trans c;refine OP (by rw[J2,Kq,b]) λi d a=> ?_;rw[OQ,Ou];unfold bAt;simp[a]
theorem bJ{B R i:Nat}(b:sz B=R)(a:i<R):B.testBit (bAt B i)=true/\bAt B i<8:=by
 have:bAt B i∈az B:=by rw[<-kE b];exact Ka.mpr #[i,J9.mpr a,rfl]
 have:=aT.mp this;exact#[this.2,this.1]
theorem fX(g:sz B=R)(h:i<R)(k:j<R)(e:bAt B i=bAt B j):i=j:=by
 have l:(az B).length=R:=(a7 B).trans g;have c:i<(az B).length:=()
 have d:j<(az B).length:=()
 have f:(az B).Nodup:=La.filter _;unfold bAt at e;have a:(az B).getD i 0=(az B)[i]:=by simp[c]
 have b:(az B).getD j 0=(az B)[j]:=by simp[d]
 rw[a,b]at e;exact(OG f).mp e
theorem fY{B R t:Nat}(B8:B<256)(b:sz B=R)(h:B.testBit t=true):∃i,i<R/\bAt B i=t:=by have:t∈az B:=aT.mpr #[aW (n:=8) B8 h,h];rw[<-kE b]at this;obtain⟨i,a,e⟩:=Ka.mp this;exact#[i,J9.mp a,e]
def fg(f:Nat->Nat->Int)(B R:Nat):Prop:=∀i j,i<R->j<R->f (bAt B i) j=if j=i then 1 else 0
theorem pT(L:List Row)(n8:n<=8)(H:B<2^n)(m:sz B=R)(rB:de 3 L B=R)(top:∀s,s<2^n->de 3 L s<=R):
  ∃κ:Nat->Nat->Int,fg κ B R/\∀S,S<2^n->sz S=R->(de 3 L S=R↔cf κ R S):=by
 have r:=aD;have B8:B<256:=Kb H (Kw ∅ n8);have lB:(az B).length=R:=(a7 B).trans m;have nd:(az B).Nodup:=La.filter _;have ai:LI 3 L (az B):=(iV r _ L nd).mp (by rw[lB];exact rB);obtain⟨u,hinv⟩:∃u:Nat->Nat,∀i,i<R->u (bAt B i)=i:=by
  have:∀b,∃i,∀j,j<R->bAt B j=b->i=j:=λb=>by
   by_cases h:∃j,j<R/\bAt B j=b
   .obtain⟨j,p,e⟩:=h;exact#[j,λk J A=>fX m p J (e.trans A.symm)]
   .exact#[0,λj p e=>absurd #[j,p,e] h]
  obtain⟨u,h⟩:=NN this;exact#[u,λi d=>h _ i d rfl]
 have bt:∀h:Nat->Int,(∀x∈L,(3:Int)∣sL (List.range R) λi=>h i*x (bAt B i))->∀i,i<R->(3:Int)∣h i:=λh hh i d=>by
  have:=ai (λb=>h (u b)) (λx f=>by rw[<-kE m,yw,cV (g:=λi=>h i*x (bAt B i)) λi d=>by rw[hinv i (J9.mp d)]];exact hh x f) (bAt B i) (by rw[<-kE m];exact Ka.mpr #[i,J9.mpr d,rfl])
  rw[hinv i d]at this;exact this
 have bc:∀t,t<n->∃k:Nat->Int,(∀x∈L,(3:Int)∣x t-sL (List.range R) λi=>k i*x (bAt B i))/\∀i,i<R->bAt B i=t->∀j,k j=if j=i then 1 else 0:=λt w=>by
  by_cases M:B.testBit t=true
  .obtain⟨i,d,e⟩:=fY B8 m M;refine#[λj=>if j=i then 1 else 0,λx _=> ?_,λj p ej k=> ?_]
   .rw[jL (a:=i) La (J9.mpr d) λj _ ne=>by show(if j=i then 1 else 0)*x (bAt B j)=0;rw[J4 ne,MA]];show(3:Int)∣x t- (if i=i then 1 else 0)*x (bAt B i);rw[J5 rfl,LH,e,LJ];exact KY _
   .rw[fX m p d (ej.trans e.symm)]
  .have tn:t∉az B:=λz=>M (aT.mp z).2;have K:¬LI 3 L (t::az B):=λv=>by have q:=(iV r (t::az B) L (Lg.mpr #[tn,nd])).mpr v;have G:=top (B|||2^t) (bP H w);rw[lP r (),q,KA,lB]at G;lia
   unfold LI at K;simp only[Oa]at K;obtain⟨g,o,c,l,Q⟩:=K;have gt:¬(3:Int)∣g t:=λz=>by
    have:=ai g λx f=>by have:=o x f;rw[fM]at this;have h4:(3:Int)∣g t*x t:=KW z;have:=LC this h4;rw[Int.add_comm,Ot]at this;exact this
    rcases J7.mp l with e|e
    .exact Q (e▸z)
    .exact Q (this c e)
   refine#[λi=> - (g t*g (bAt B i)),λx f=> ?_,λi d e=>absurd (e▸ (bJ m d).1) M];have N:=o x f;rw[fM,<-kE m,yw]at N;have e6:sL (List.range R) (λi=> - (g t*g (bAt B i))*x (bAt B i))= -g t*sL (List.range R) λi=>g (bAt B i)*x (bAt B i):=by rw[<-gK];refine cV λi _=> ?_;rw[<-KJ,LU,LU,LU]
   rw[e6];generalize sL (List.range R) (λi=>g (bAt B i)*x (bAt B i))=s at*;have h7:=yr gt;have e8:x t- -g t*s=x t*(1-g t*g t)+g t*(g t*x t+s):=by
    rw[Mj,Mv,MG,LU];have:x t*(g t*g t)=g t*(g t*x t):=by rw[KG (x t),KJ]
    lia
   rw[e8];exact Mi (Kg h7) (Kg N)
 have bj:∀t,∃k:Nat->Int,t<n->(∀x∈L,(3:Int)∣x t-sL (List.range R) λi=>k i*x (bAt B i))/\∀i,i<R->bAt B i=t->∀j,k j=if j=i then 1 else 0:=λt=>by
  by_cases w:t<n
  .obtain⟨k,J⟩:=bc t w;exact#[k,λ_=>J]
  .exact#[λ_=>0,λz=>absurd z w]
 obtain⟨κ,U⟩:=NN bj;refine#[κ,λi j d p=> ?_,λS O zS=> ?_]
 .exact(U (bAt B i) (aW H (bJ m d).1)).2 i d rfl j
 .have S8:S<256:=Kb O (Kw ∅ n8);rw[<-mY S8 zS];have ar:(az S).Nodup:=La.filter _;have lS:(az S).length=R:=(a7 S).trans zS;have i1:=iV r (az S) L ar;have i2:=iV r (az S) (dP κ (List.range R)) ar;rw[lS]at i1 i2;show rho 3 L (az S)=R↔rho 3 _ (az S)=R;rw[i1,i2];have lt:∀c∈az S,c<n:=λc l=>aW O (aT.mp l).2;have sw:∀ (g:Nat->Int),∀x∈L,(3:Int)∣sL (az S) (λc=>g c*x c) -sL (List.range R) λi=>(sL (az S) λc=>g c*κ c i)*x (bAt B i):=λg x f=>by
   have e1:sL (List.range R) (λi=>(sL (az S) λc=>g c*κ c i)*x (bAt B i))=sL (az S) λc=>g c*sL (List.range R) λi=>κ c i*x (bAt B i):=by have A:=Ay (λc i=>g c*(κ c i*x (bAt B i))) (List.range R) (az S);rw[cV (g:=λc=>sL (List.range R) λi=>g c*(κ c i*x (bAt B i))) λc _=>(gK _ _ _).symm,A];refine cV λi _=> ?_;rw[KG,<-gK];refine cV λc _=> ?_;rw[KG,KJ]
   rw[e1];refine kY λc l=> ?_;rw[<-Mj];exact Kg ((U c (lt c l)).1 x f)
  constructor
  .intro v g o c l;refine v g (λx f=> ?_) c l;have q:=sw g x f;have G:(3:Int)∣sL (List.range R) λi=>(sL (az S) λc=>g c*κ c i)*x (bAt B i):=nK λi d=>KW (o _ (Ka.mpr #[i,d,rfl]));have:=Mi q G;rw[Mx]at this;exact this
  .intro v g o c l;refine v g (λy hy=> ?_) c l;obtain⟨i,d,rfl⟩:=Ka.mp hy;exact bt (λi=>sL (az S) λc=>g c*κ c i) (λx f=>by have q:=sw g x f;have:=LC (o x f) q;rw[ML]at this;exact this) i (J9.mp d)
end Bh
namespace Bh
theorem vf:(3:Int)∣ -a↔(3:Int)∣a:=Int.dvd_neg
theorem oU{R S:Nat}(h:∀t,S.testBit t=true->∀i,i<R->(3:Int)∣f t i-g t i):cf f R S->cf g R S:=λb a j=>b a λt c=>by
 have d:=kY (m:=3) (f:=λi=>a i*f t i) (g:=λi=>a i*g t i) (cs:=List.range R) λi e=>by rw[<-Mj];exact Kg (h t c i (J9.mp e))
 have:=Mi d (j t c);rw[Mx]at this;exact this
def Pm(a:Int):Prop:=a=1\/a= -1
theorem Pm.sq(h:Pm a):a*a=1:=by rcases h with rfl|rfl<;>rfl
theorem Pm.mul(h:Pm a)(g:Pm b):Pm (a*b):=by rcases h with rfl|rfl<;>rcases g with rfl|rfl<;>first|exact .inl rfl|exact .inr rfl
theorem Pm.dv(h:Pm a):(3:Int)∣a*b↔(3:Int)∣b:=by
 rcases h with rfl|rfl
 .rw[LH]
 .rw[LU,LH,vf]
theorem j9{f:Nat->Nat->Int}{R S:Nat}{d e:Nat->Int}(c:∀i,Pm (d i))(l:∀t,Pm (e t)):cf (λt i=>d i*e t*f t i) R S↔cf f R S:=by
 have m:∀ (a:Nat->Int) t,sL (List.range R) (λi=>a i*(d i*e t*f t i))=e t*sL (List.range R) λi=>a i*d i*f t i:=λa t=>by rw[<-gK];refine cV λi _=> ?_;simp only[KJ,K9]
 constructor
 .intro b a h i j;have:=b (λi=>a i*d i) (λt k=>by rw[m,(l t).dv,cV (g:=λi=>a i*f t i) λi _=>by rw[KJ (a i),(c i).sq,MG]];exact h t k) i j
  rw[KG]at this;exact(c i).dv.mp this
 .intro b a h i j;have:=b (λi=>a i*d i) (λt k=>by have:=h t k;rw[m,(l t).dv]at this;exact this) i j
  rw[KG]at this;exact(c i).dv.mp this
theorem gZ{d:Nat->Int}{h:Nat->Int}{i R:Nat}(b:i<R)(c:∀j,j<R->h j=if j=i then 1 else 0):sL (List.range R) (λj=>d j*h j)=d i:=by rw[jL (a:=i) La (J9.mpr b) λj e ne=>by rw[c j (J9.mp e),J4 ne,Ms],c i b,J5 rfl,MG]
theorem Ds{cs:List Nat}(g:cs.Nodup)(k:a∈cs)(l:b∈cs)(ne:a≠b)(h:∀c∈cs,c≠a->c≠b->(3:Int)∣F c):(3:Int)∣sL cs F- (F a+F b):=by
 have i:sL cs (λc=>if c=a then F a else 0)=F a:=by rw[jL (a:=a) g k λc _ z=>J4 z,J5 rfl]
 have j:sL cs (λc=>if c=b then F b else 0)=F b:=by rw[jL (a:=b) g l λc _ z=>J4 z,J5 rfl]
 have f:=pY (λc=>if c=a then F a else 0) (λc=>if c=b then F b else 0) cs;rw[i,j]at f;rw[<-f];refine kY λc m=> ?_;by_cases d:c=a
 .have e:¬c=b:=λz=>ne (d.symm.trans z);rw[J5 d,J4 e,d,MI,LJ];exact KY _
 .by_cases e:c=b
  .rw[J4 d,J5 e,e,Lk,LJ];exact KY _
  .rw[J4 d,J4 e,MI,Ob];exact h c m d e
theorem rh{B R i z:Nat}(B8:B<256)(m:sz B=R)(u:fg f B R)(g:i<R)(y:B.testBit z=false):cf f R (exB B (bAt B i) z)↔¬(3:Int)∣f z i:=by
 have n:∀t,(exB B (bAt B i) z).testBit t=true↔(B.testBit t=true/\t≠bAt B i)\/t=z:=λt=>by
  rw[AO];by_cases e:bAt B i=t
  .subst e;rw[(bJ m g).1];simp;exact Ng
  .have w:¬t=bAt B i:=λq=>e q.symm;simp[e,w];exact Nb Ng
 constructor
 .intro b h;have:=b (λj=>if j=i then 1 else 0) (λt x=> ?_) i g
  .rw[J5 rfl]at this;exact aD.one this
  .rcases(n t).mp x with ⟨d,l⟩|d
   .obtain⟨j,c,rfl⟩:=fY B8 m d;rw[gZ c λk o=>u j k c o,J4 (λq=>l (by rw[q]))];exact KY _
   .rw[d,jL (a:=i) La (J9.mpr g) λj _ ne=>by rw[J4 ne,MA],J5 rfl,LH];exact h
 .intro h p v;have r:∀j,j<R->j≠i->(3:Int)∣p j:=λj c ne=>by have:=v (bAt B j) ((n _).mpr (.inl #[(bJ m c).1,λq=>ne (fX m c g q)]));rw[gZ c λk o=>u j k c o]at this;exact this
  have d:=v z ((n z).mpr (.inr rfl));have l:(3:Int)∣sL (List.range R) (λj=>p j*f z j) -sL (List.range R) (λj=>if j=i then p i*f z i else 0):=kY λj c=>by
   by_cases e:j=i
   .rw[J5 e,e,LJ];exact KY _
   .rw[J4 e,Ob];exact KW (r j (J9.mp c) e)
  rw[jL (a:=i) La (J9.mpr g) λj _ ne=>J4 ne,J5 rfl]at l;have s:=LC d l;rw[ML,KG]at s;intro j c;by_cases e:j=i
  .rw[e];exact da aD h s
  .exact r j c e
end Bh
namespace Bh
def bR(l:List Nat):Nat:=l.foldr (λt s=>s|||2^t) 0
theorem bx:∀ (l:List Nat) (t:Nat),(bR l).testBit t=true↔t∈l
 | [],t=>by show(0:Nat).testBit t=true↔_;rw[KI];simp
 |a::l,t=>by show(bR l|||2^a).testBit t=true↔_;rw[aV,KH,bx l t,Kf,J7,or_comm];exact or_congr_left Ng
theorem AJ(h:∀t∈l,t<n):bR l<2^n:=MC _ λi a=>by
 cases e:(bR l).testBit i with
 |false=>rfl
 |true=>have:=h i ((bx l i).mp e);lia
theorem iG{l:List Nat}(b:l.Nodup)(h:∀t∈l,t<8):sz (bR l)=l.length:=by rw[<-a7];have c:(az (bR l)).Nodup:=La.filter _;refine LO (dM c λt a=>(bx l t).mp (aT.mp a).2) (dM b λt a=>aT.mpr #[h t a,(bx l t).mpr a])
theorem qK{b:Type}(p:b->Bool):∀l:List b,(l.filter p).length+(l.filter λa=> !p a).length=l.length
 | []=>rfl
 |a::l=>by have:=qK p l;cases h:p a<;>simp[h]<;>lia
structure rD(f:Nat->Nat->Int)(R G k:Nat)(x t:Nat->Nat):Prop where
 lt:∀l,l<=k->x l<R
 inj:∀l m,l<=k->m<=k->x l=x m->l=m
 col:∀l,l<k->G.testBit (t l)=true
 one:∀l,l<k->¬(3:Int)∣f (t l) (x l)
 two:∀l,l<k->¬(3:Int)∣f (t l) (x (l+1))
 no:∀l m,l<k->m<=k->m≠l->m≠l+1->(3:Int)∣f (t l) (x m)
def psi(f:Nat->Nat->Int)(x t:Nat->Nat):Nat->Int
 |0=>1
 |l+1=> - (psi f x t l*(f (t l) (x l)*f (t l) (x (l+1))))
theorem qf(C:rD f R G k x t):∀l,l<=k->¬(3:Int)∣psi f x t l
 |0,_=>aD.one
 |l+1,h=>λz=>by unfold psi at z;rw[vf]at z;have a:=da aD (qf C l ()) z;exact C.two l () (da aD (C.one l ()) a)
open Classical in
noncomputable def me(f:Nat->Nat->Int)(x t:Nat->Nat)(k i:Nat):Int:=if h:∃l,l<=k/\x l=i then psi f x t (Classical.choose h)else 0
theorem kg(C:rD f R G k x t)(hl:l<=k):me f x t k (x l)=psi f x t l:=by unfold me;have h:∃m,m<=k/\x m=x l:=#[l,hl,rfl];rw[dif_pos h];have:=Nt h;rw[C.inj _ _ this.1 hl this.2]
theorem md(h:∀l,l<=k->x l≠i):me f x t k i=0:=by unfold me;rw[dif_neg];rintro⟨l,hl,e⟩;exact h l hl e
theorem zH(C:rD f R G k x t)(hl:l<k)(g:m<k)(e:t l=t m):l=m:=by
 have c:=C.one m g;rw[<-e]at c;have d:=C.two m g;rw[<-e]at d;by_cases a:m=l
 .exact a.symm
 .by_cases b:m=l+1
  .exfalso;exact d (C.no l (m+1) hl () () ())
  .exact absurd (C.no l m hl () a b) c
open Classical in
theorem CJ{B R G k z:Nat}(B8:B<256)(r:sz B=R)(u:fg f B R)(C:rD f R G k x t)(L:G<256)(N:G.testBit z=false)(z8:z<8)(A:Sub B G):
  ∃S,Sub S (G|||2^z)/\sz S=R/\∀s,S.testBit s=true↔s=z\/(∃l,l<k/\s=t l)\/∃i,i<R/\(∀l,l<=k->x l≠i)/\s=bAt B i:=by
 have tB:∀l,l<k->B.testBit (t l)=false:=λl hl=>by
  cases e:B.testBit (t l)with
  |false=>rfl
  |true=>
   obtain⟨i,c,y⟩:=fY B8 r e;have m:=C.one l hl;have v:=C.two l hl;rw[<-y,u i _ c (C.lt l ())]at m;rw[<-y,u i _ c (C.lt (l+1) ())]at v;have J:x l=i:=Kr λq=>m (by rw[J4 q];exact KY _);have K:x (l+1)=i:=Kr λq=>v (by rw[J4 q];exact KY _);have:=C.inj l (l+1) () () (J.trans K.symm);lia
 let p:List Nat:=(List.range R).filter λi=>decide (∀l,l<=k->x l≠i)
 have j:∀i,i∈p↔i<R/\∀l,l<=k->x l≠i:=λi=>by show i∈(List.range R).filter _↔_;rw[Kx,J9,Kf]
 have lo:p.length+(k+1)=R:=by
  have m:=qK (λi=>decide (∀l,l<=k->x l≠i)) (List.range R);rw[Kq]at m;have v:((List.range R).filter λi=> !decide (∀l,l<=k->x l≠i)).length=k+1:=by
   have O:((List.range (k+1)).map x).Nodup:=by
    rw[MB,OC];refine NJ (λ{a b} d g ne e=>ne (C.inj a b ?_ ?_ e)) (MB.mp (La (n:=k+1)))
    .have:=J9.mp d;lia
    .have:=J9.mp g;lia
   have e:((List.range (k+1)).map x).length=k+1:=by rw[J2,Kq]
   rw[<-e];refine LO (dM (La.filter _) λi c=> ?_) (dM O λi c=> ?_)
   .have c:=(Kx.mp c).2;have c:¬∀l,l<=k->x l≠i:=by simpa using c
    simp only[Oa]at c;obtain⟨l,hl,e⟩:=c;exact Ka.mpr #[l,J9.mpr (),Kr e]
   .obtain⟨l,hl,rfl⟩:=Ka.mp c;have hl:=J9.mp hl;refine Kx.mpr #[J9.mpr (C.lt l ()),?_];rw[Lr,MO];exact λq=>q l () rfl
  show((List.range R).filter _).length+_=R;lia
 have U:p.Nodup:=La.filter _
 let lst:List Nat:=z::((List.range k).map t++p.map (bAt B))
 have w:∀s,s∈lst↔s=z\/(∃l,l<k/\s=t l)\/∃i,i<R/\(∀l,l<=k->x l≠i)/\s=bAt B i:=λs=>by
  show s∈z::((List.range k).map t++p.map (bAt B))↔_;rw[J7,KC,Ka,Ka];refine Nb (or_congr #[?_,?_] #[?_,?_])
  .rintro⟨l,hl,rfl⟩;exact#[l,J9.mp hl,rfl]
  .rintro⟨l,hl,rfl⟩;exact#[l,J9.mpr hl,rfl]
  .rintro⟨i,c,rfl⟩;exact#[i,((j i).mp c).1,((j i).mp c).2,rfl]
  .rintro⟨i,m,v,rfl⟩;exact#[i,(j i).mpr #[m,v],rfl]
 have H:∀s,G.testBit s=true->s≠z:=λs o e=>by rw[e,N]at o;cases o
 have Q:lst.Nodup:=by
  refine Lg.mpr #[λM=> ?_,NR.mpr #[?_,?_,?_]]
  .rcases KC.mp M with h|h
   .obtain⟨l,hl,e⟩:=Ka.mp h;exact H _ (C.col l (J9.mp hl)) e
   .obtain⟨i,c,e⟩:=Ka.mp h;exact H _ (A _ (bJ r ((j i).mp c).1).1) e
  .rw[MB,OC];exact NJ (λ{a b} d g ne e=>ne (zH C (J9.mp d) (J9.mp g) e)) (MB.mp (La (n:=k)))
  .rw[MB,OC];exact NJ (λ{a b} d g ne e=>ne (fX r ((j a).mp d).1 ((j b).mp g).1 e)) (MB.mp U)
  .intro a d b g e;obtain⟨l,hl,rfl⟩:=Ka.mp d;obtain⟨i,c,rfl⟩:=Ka.mp g;have:=tB l (J9.mp hl);rw[e,(bJ r ((j i).mp c).1).1]at this;cases this
 have l8:∀s∈lst,s<8:=λs o=>by
  rcases(w s).mp o with rfl|⟨l,hl,rfl⟩|⟨i,c,_,rfl⟩
  .exact z8
  .exact aW (n:=8) L (C.col l hl)
  .exact(bJ r c).2
 refine#[bR lst,λs o=> ?_,?_,λs=>(bx lst s).trans (w s)]
 .rw[aV,KH,Kf];rcases(w s).mp ((bx lst s).mp o)with rfl|⟨l,hl,rfl⟩|⟨i,c,_,rfl⟩
  .exact .inr rfl
  .exact .inl (C.col l hl)
  .exact .inl (A _ (bJ r c).1)
 .rw[iG Q l8];show(z::((List.range k).map t++p.map (bAt B))).length=R;rw[KA,Kz,J2,J2,Kq];lia
end Bh
namespace Bh
theorem sW{f h:Nat->Nat->Int}{R G k:Nat}{x t:Nat->Nat}(C:rD f R G k x t)(p:∀s,G.testBit s=true->∀i,i<R->(3:Int)∣f s i-h s i){l:Nat}(hl:l<k)(d:Nat->Int)(off:∀i,i<R->(∀l,l<=k->x l≠i)->(3:Int)∣d i):
  (3:Int)∣sL (List.range R) (λi=>d i*h (t l) i) - (d (x l)*f (t l) (x l)+d (x (l+1))*f (t l) (x (l+1))):=by
 have n:(3:Int)∣sL (List.range R) (λi=>d i*f (t l) i) -sL (List.range R) (λi=>d i*h (t l) i):=kY λi g=>by rw[<-Mj];exact Kg (p _ (C.col l hl) i (J9.mp g))
 have ne:x l≠x (l+1):=λe=>by have:=C.inj l (l+1) () () e;lia
 have o:=Ds (F:=λi=>d i*f (t l) i) (a:=x l) (b:=x (l+1)) (cs:=List.range R) La (J9.mpr (C.lt l ())) (J9.mpr (C.lt (l+1) ())) ne λi g r u=>by
  by_cases e:∃m,m<=k/\x m=i
  .obtain⟨m,j,rfl⟩:=e;exact Kg (C.no l m hl j (λq=>r (by rw[q])) λq=>u (by rw[q]))
  .exact KW (off i (J9.mp g) λm j q=>e #[m,j,q])
 have:=LC o n;rw[show∀a b c:Int,a-b- (a-c)=c-b from λa b c=>()]at this;exact this
theorem qW{B R G k z S:Nat}(B8:B<256)(zB:sz B=R)(M:fg h B R)(C:rD f R G k x t)(L:∀s,G.testBit s=true->∀i,i<R->(3:Int)∣f s i-h s i)
  (r:∀s,S.testBit s=true↔s=z\/(∃l,l<k/\s=t l)\/∃i,i<R/\(∀l,l<=k->x l≠i)/\s=bAt B i):cf h R S↔¬(3:Int)∣sL (List.range R) λi=>me f x t k i*h z i:=by
 constructor
 .intro b hd;have:=b (me f x t k) (λs hs=> ?_) (x 0) (C.lt 0 ())
  .rw[kg C ()]at this;exact aD.one this
  .rcases(r s).mp hs with rfl|⟨l,hl,rfl⟩|⟨i,g,n,rfl⟩
   .exact hd
   .have o:=sW C L hl (me f x t k) λi _ n=>by rw[md n];exact KY _
    rw[kg C (),kg C ()]at o;have v:(3:Int)∣psi f x t l*f (t l) (x l)+psi f x t (l+1)*f (t l) (x (l+1)):=by
     have e:psi f x t l*f (t l) (x l)+psi f x t (l+1)*f (t l) (x (l+1))=psi f x t l*f (t l) (x l)*(1-f (t l) (x (l+1))*f (t l) (x (l+1))):=by show _+ - (psi f x t l*(f (t l) (x l)*f (t l) (x (l+1))))*f (t l) (x (l+1))=_;rw[Mj,MG,LU,<-Int.sub_eq_add_neg];simp only[KJ]
     rw[e];exact Kg (yr (C.two l hl))
    have:=Mi o v;rw[Mx]at this;exact this
   .rw[gZ g λj w=>M i j g w,md n];exact KY _
 .intro hn d A;have off:∀i,i<R->(∀l,l<=k->x l≠i)->(3:Int)∣d i:=λi g n=>by have:=A (bAt B i) ((r _).mpr (.inr (.inr #[i,g,n,rfl])));rw[gZ g λj w=>M i j g w]at this;exact this
  have on:∀l,l<=k->(3:Int)∣d (x l) -d (x 0)*psi f x t l:=λl=>by
   induction l with
   |zero=>
    intro _;show(3:Int)∣d (x 0) -d (x 0)*1;rw[MG,LJ];exact KY _
   |succ l ih=>
    intro hl;have i1:=ih ();have o:=sW C L (show l<k by lia) d off;have v:=A (t l) ((r _).mpr (.inr (.inl #[l,(),rfl])));have H:=LC v o;rw[ML]at H;have sq:=yr (C.two l ());show(3:Int)∣d (x (l+1)) -d (x 0)* - (psi f x t l*(f (t l) (x l)*f (t l) (x (l+1))));generalize f (t l) (x l)=a at*;generalize f (t l) (x (l+1))=b at*;generalize d (x l)=p at*;generalize d (x (l+1))=q at*;generalize d (x 0)=c at*;generalize psi f x t l=y at*;have e:q-c* -(y*(a*b))=q*(1-b*b)+b*(p*a+q*b) -a*b*(p-c*y):=by
     rw[NC,Mj,Mv,Mj,MG];have N:q*(b*b)=b*(q*b):=by simp only[KG,K9]
     have O:b*(p*a)=a*b*p:=by simp only[KG,K9]
     have Q:c*(y*(a*b))=a*b*(c*y):=by simp only[KG,K9]
     rw[N,O,Q];lia
    rw[e];exact LC (Mi (Kg sq) (Kg H)) (Kg i1)
  have all:∀i,i<R->(3:Int)∣d i-d (x 0)*me f x t k i:=λi g=>by
   by_cases e:∃m,m<=k/\x m=i
   .obtain⟨m,u,rfl⟩:=e;rw[kg C u];exact on m u
   .have n:∀l,l<=k->x l≠i:=λm u q=>e #[m,u,q];rw[md n,Ms,Ob];exact off i g n
  have hz:=A z ((r z).mpr (.inl rfl));have J:(3:Int)∣sL (List.range R) (λi=>d i*h z i) -sL (List.range R) (λi=>d (x 0)*(me f x t k i*h z i)):=kY λi g=>by rw[<-KJ,<-O4];exact KW (all i (J9.mp g))
  rw[gK]at J;have K:=LC hz J;rw[ML,KG]at K;have U:=da aD hn K;intro i g;have h7:(3:Int)∣d (x 0)*me f x t k i:=KW U;have:=Mi (all i g) h7;rw[Mx]at this;exact this
def Lay(f:Nat->Nat->Int)(R G:Nat)(P:Nat->Prop):Nat->Nat->Prop
 |0,i=>i<R/\P i
 |k+1,j=>Lay f R G P k j\/(j<R/\∃i,Lay f R G P k i/\∃t,G.testBit t=true/\¬(3:Int)∣f t i/\¬(3:Int)∣f t j)
theorem qy:∀ {k i:Nat},Lay f R G P k i->i<R
 |0,_,h=>h.1
 |_+1,_, .inl h=>qy h
 |_+1,_, .inr h=>h.1
theorem xn{R G:Nat}:∀ (k j:Nat),Lay f R G P k j->(∀m,m<k->¬Lay f R G P m j)->∃x t:Nat->Nat,x k=j/\(∀l,l<=k->Lay f R G P l (x l)/\∀m,m<l->¬Lay f R G P m (x l))/\∀l,l<k->G.testBit (t l)=true/\¬(3:Int)∣f (t l) (x l)/\¬(3:Int)∣f (t l) (x (l+1))
 |0,j,h,a=>#[λ_=>j,λ_=>0,rfl,λl hl=>by
   have:l=0:=()
   subst this;exact#[h,a],λl hl=>absurd hl (Nj _)]
 |k+1,j,h,a=>by
  rcases h with h|⟨p,i,o,n,b,c,d⟩
  .exact absurd h (a k ())
  .obtain⟨x,t,e,s,r⟩:=xn k i o λm v q=>a (m+1) () (.inr #[p,i,q,n,b,c,d]);refine#[λl=>if l=k+1 then j else x l,λl=>if l=k then n else t l,by simp,λl hl=> ?_,λl hl=> ?_]
   .by_cases q:l=k+1
    .subst q;simp only[J5];exact#[.inr #[p,i,o,n,b,c,d],a]
    .simp only[J4 q];exact s l ()
   .by_cases q:l=k
    .subst q;have g:¬l=l+1:=()
     simp only[J5,J4 g,e];exact#[b,c,d]
    .have g:¬l=k+1:=()
     have u:¬l+1=k+1:=()
     simp only[J4 q,J4 g,J4 u];exact r l ()
theorem Cj(h:Lay f R G P k j)(o:∀m,m<k->¬Lay f R G P m j):∃x t:Nat->Nat,x k=j/\(∀l,l<=k->Lay f R G P l (x l)/\∀m,m<l->¬Lay f R G P m (x l))/\rD f R G k x t:=by
 obtain⟨x,t,e,a,b⟩:=xn k j h o;refine#[x,t,e,a,λl hl=>qy (a l hl).1,λl m hl d q=> ?_,λl hl=>(b l hl).1,λl hl=>(b l hl).2.1,λl hl=>(b l hl).2.2,λl m hl d s u=> ?_]
 .refine Kr λne=> ?_;rcases Nat.lt_or_gt_of_ne ne with c|c
  .exact(a m d).2 l c (q▸ (a l hl).1)
  .exact(a l hl).2 m c (q▸ (a m d).1)
 .refine Kr λg=> ?_;have i:Lay f R G P (l+1) (x m):= .inr #[qy (a m d).1,x l,(a l ()).1,t l,(b l hl).1,(b l hl).2.1,g];have n:Lay f R G P (m+1) (x (l+1)):= .inr #[qy (a (l+1) ()).1,x m,(a m d).1,t l,(b l hl).1,g,(b l hl).2.2];have p:¬l+1<m:=λq=>(a m d).2 (l+1) q i;have r:¬m+1<l+1:=λq=>(a (l+1) ()).2 (m+1) q n;lia
end Bh
namespace Bh
theorem three(a:Int):(3:Int)∣a\/(3:Int)∣a-1\/(3:Int)∣a+1:=()
theorem Jt(d:¬(3:Int)∣p)(e:¬(3:Int)∣q):¬((3:Int)∣p+q↔(3:Int)∣p-q):=λh=>by
 by_cases c:(3:Int)∣p+q
 .have:=h.mp c;omega
 .have:¬(3:Int)∣p-q:=λz=>c (h.mpr z);rcases three p with a|a|a<;>rcases three q with b|b|b<;>lia
open Classical in
theorem Bg{B R G z:Nat}(B8:B<256)(o:sz B=R)(uf:fg f B R)(uk:fg κ B R)(hG:G<256)(L:Sub B G)(N:G.testBit z=false)(z8:z<8)
  (ag:∀t,G.testBit t=true->∀i,i<R->(3:Int)∣f t i-κ t i) (same:∀S,Sub S (G|||2^z)->sz S=R->(cf f R S↔cf κ R S)):
  ∃d e:Nat->Int,(∀i,Pm (d i))/\(∀t,Pm (e t))/\∀t,(G|||2^z).testBit t=true->∀i,i<R->(3:Int)∣f t i-d i*e t*κ t i:=by
 have J:B.testBit z=false:=by
  cases e:B.testBit z with
  |false=>rfl
  |true=>rw[L z e]at N;cases N
 have aa:∀i,i<R->((3:Int)∣f z i↔(3:Int)∣κ z i):=λi g=>by
  have hs:Sub (exB B (bAt B i) z) (G|||2^z):=λt y=>by
   rw[aV,KH,Kf];by_cases e:z=t
   .exact .inr e
   .rw[AO]at y;by_cases K:bAt B i=t
    .subst K;exact .inl (L _ (bJ o g).1)
    .simp[e,K]at y;exact .inl (L t y)
  have ne:bAt B i≠z:=λq=>by rw[<-q,(bJ o g).1]at J;cases J
  have bN:sz (exB B (bAt B i) z)=R:=by have w:=cz B B8 (bAt B i) (bJ o g).2 (bJ o g).1;have A:=gn (s:=B^^^2^bAt B i) ((bq (bJ o g).1).lt (n:=8) B8) z8 (by rw[br (bJ o g).1,J];rfl);unfold exB;lia
  have:=same _ hs bN;rw[rh B8 o uf g J,rh B8 o uk g J]at this;exact#[λq=>Kr λv=>this.mpr v q,λq=>Kr λv=>this.mp v q]
 let P:Nat->Prop:=λi=>¬(3:Int)∣f z i/\(3:Int)∣f z i-κ z i
 have aB:∀i,i<R->¬(3:Int)∣f z i->¬(3:Int)∣f z i-κ z i->(3:Int)∣f z i+κ z i:=λi g w A=>by have h3:¬(3:Int)∣κ z i:=λq=>w ((aa i g).mpr q);rcases three (f z i)with a|a|a<;>rcases three (κ z i)with b|b|b<;>lia
 by_cases ak:∃k j,Lay f R G P k j/\¬(3:Int)∣f z j/\¬(3:Int)∣f z j-κ z j
 .exfalso;obtain⟨k,⟨j,M,O,Q⟩,least⟩:∃k,(∃j,Lay f R G P k j/\¬(3:Int)∣f z j/\¬(3:Int)∣f z j-κ z j)/\∀m,m<k->¬∃j,Lay f R G P m j/\¬(3:Int)∣f z j/\¬(3:Int)∣f z j-κ z j:=by
   obtain⟨k,H⟩:=ak;have:∀k,(∃j,Lay f R G P k j/\¬(3:Int)∣f z j/\¬(3:Int)∣f z j-κ z j)->∃k,(∃j,Lay f R G P k j/\¬(3:Int)∣f z j/\¬(3:Int)∣f z j-κ z j)/\∀m,m<k->¬∃j,Lay f R G P m j/\¬(3:Int)∣f z j/\¬(3:Int)∣f z j-κ z j:=λk=>by
    induction k using Nat.strongRecOn with
    |ind k ih=>
     intro h;by_cases c:∃m,m<k/\∃j,Lay f R G P m j/\¬(3:Int)∣f z j/\¬(3:Int)∣f z j-κ z j
     .obtain⟨m,u,q⟩:=c;exact ih m u q
     .exact#[k,h,λm u q=>c #[m,u,q]]
   exact this k H
  obtain⟨x,t,ex,hx,C⟩:=Cj M λm u q=>least m u #[j,q,O,Q];have k0:0<k:=Ov λq=>by subst q;exact Q M.2.2
  obtain⟨S,hS,zS,mS⟩:=CJ B8 o uf C hG N z8 L;have U:=same S hS zS;rw[qW B8 o uf C (λs _ i _=>by rw[LJ];exact KY _) mS,qW B8 o uk C ag mS]at U;have x0:=(hx 0 ()).1.2;have bk:∀l,0<l->l<k->(3:Int)∣f z (x l):=λl w A=>Kr λq=>by
   have hl:=hx l ();by_cases c:(3:Int)∣f z (x l) -κ z (x l)
   .exact hl.2 0 w #[C.lt l (),q,c]
   .exact least l A #[x l,hl.1,q,c]
  have two:∀h:Nat->Int,(∀i,i<R->(3:Int)∣f z i->(3:Int)∣h i)->(3:Int)∣sL (List.range R) (λi=>me f x t k i*h i) - (psi f x t 0*h (x 0)+psi f x t k*h (x k)):=λh hh=>by
   have:=Ds (F:=λi=>me f x t k i*h i) (a:=x 0) (b:=x k) (cs:=List.range R) La (J9.mpr (C.lt 0 ())) (J9.mpr (C.lt k ())) (λq=>by have:=C.inj 0 k () () q;lia) λi g n1 n2=>by
    by_cases e:∃m,m<=k/\x m=i
    .obtain⟨m,u,rfl⟩:=e;have m0:m≠0:=λq=>n1 (by rw[q]);have mk:m≠k:=λq=>n2 (by rw[q]);exact Kg (hh _ (C.lt m u) (bk m () ()))
    .rw[md λm u q=>e #[m,u,q],MA];exact KY _
   rw[kg C (),kg C ()]at this;exact this
  have t1:=two (f z) λi _ q=>q;have t2:=two (κ z) λi g q=>(aa i g).mp q;have xk:(3:Int)∣f z (x k)+κ z (x k):=by rw[ex];exact aB j (qy M) O Q
  have fk:¬(3:Int)∣f z (x k):=by rw[ex];exact O
  have u0:=qf C 0 ();have bS:=qf C k ();have np:¬(3:Int)∣psi f x t 0*f z (x 0):=λq=>x0.1 (da aD u0 q);have nq:¬(3:Int)∣psi f x t k*f z (x k):=λq=>fk (da aD bS q);refine Jt np nq ?_;have e1:(3:Int)∣sL (List.range R) (λi=>me f x t k i*f z i)↔(3:Int)∣psi f x t 0*f z (x 0)+psi f x t k*f z (x k):=()
  have K:(3:Int)∣sL (List.range R) (λi=>me f x t k i*κ z i)↔(3:Int)∣psi f x t 0*f z (x 0) -psi f x t k*f z (x k):=by
   have a1:(3:Int)∣psi f x t 0*f z (x 0) -psi f x t 0*κ z (x 0):=by rw[<-Mj];exact Kg x0.2
   have a2:(3:Int)∣psi f x t k*f z (x k)+psi f x t k*κ z (x k):=by rw[<-Mv];exact Kg xk
   omega
  rw[<-e1,<-K];exact#[λq=>Kr λv=>U.mpr v q,λq=>Kr λv=>U.mp v q]
 .have good:∀k j,Lay f R G P k j->¬(3:Int)∣f z j->(3:Int)∣f z j-κ z j:=λk j w A=>Kr λq=>ak #[k,j,w,A,q];refine#[λi=>if∃k,Lay f R G P k i then 1 else-1,λt=>if t=z then 1 else if∃i,(∃k,Lay f R G P k i)/\¬(3:Int)∣f t i then 1 else-1,λi=> ?_,λt=> ?_,λt y i g=> ?_]
  .dsimp only;split
   .exact .inl rfl
   .exact .inr rfl
  .dsimp only;split
   .exact .inl rfl
   .split
    .exact .inl rfl
    .exact .inr rfl
  .dsimp only;by_cases tz:t=z
   .subst tz;rw[J5 rfl,MG];by_cases p:(3:Int)∣f t i
    .exact LC p (Kg ((aa i g).mp p))
    .by_cases r:∃k,Lay f R G P k i
     .rw[J5 r,LH];obtain⟨k,H⟩:=r;exact good k i H p
     .rw[J4 r,LU,LH,Int.sub_neg];exact aB i g p λq=>r #[0,g,p,q]
   .have tG:G.testBit t=true:=by
     rw[aV,KH]at y;rcases y with q|q
     .exact q
     .exact absurd (Ko q).symm tz
    rw[J4 tz];have a:=ag t tG i g;by_cases p:(3:Int)∣f t i
    .have:(3:Int)∣κ t i:=()
     exact LC p (Kg this)
    .by_cases r:∃k,Lay f R G P k i
     .rw[J5 r,J5 #[i,r,p],LH,LH];exact a
     .have c3:¬∃i,(∃k,Lay f R G P k i)/\¬(3:Int)∣f t i:=by rintro⟨i',⟨k,H⟩,h'⟩;exact r #[k+1, .inr #[g,i',H,t,tG,h',p]]
      rw[J4 r,J4 c3,show((-1:Int)* -1)=1 from rfl,LH];exact a
theorem uniq(B8:B<256)(u:sz B=R)(r:fg f B R)(s:fg κ B R):∀ (m G:Nat),sz (au G B)=m->G<256->Sub B G->(∀S,Sub S G->sz S=R->(cf f R S↔cf κ R S))->
  ∃d e:Nat->Int,(∀i,Pm (d i))/\(∀t,Pm (e t))/\∀t,G.testBit t=true->∀i,i<R->(3:Int)∣f t i-d i*e t*κ t i
 |0,G,hm,k,H,same=>by
  refine#[λ_=>1,λ_=>1,λ_=> .inl rfl,λ_=> .inl rfl,λt c i b=> ?_];have tB:B.testBit t=true:=by
   cases e:B.testBit t with
   |true=>rfl
   |false=>
    have Q:(au G B).testBit t=true:=by rw[aG,c,e];rfl
    have o:=cz (au G B) (Ks (iI _ _) k) t (aW (n:=8) k c) Q;lia
  obtain⟨j,a,rfl⟩:=fY B8 u tB;rw[r j i a b,s j i a b,LH,LH,LJ];exact KY _
 |m+1,G,hm,k,H,same=>by
  obtain⟨z,y⟩:=ir (S:=au G B) ();have K:=y;rw[aG,Kn,Lr]at K;obtain⟨g,M⟩:=K;have L:=aW (n:=8) k g;have A:=eC g;have J:G^^^2^z<256:=(bq g).lt (n:=8) k;have ai:(G^^^2^z).testBit z=false:=by rw[br g];simp
  have v:Sub B (G^^^2^z):=λt c=>by
   rw[br g,H t c];have:¬z=t:=λq=>by rw[q,c]at M;cases M
   simp[this]
  have ag:sz (au (G^^^2^z) B)=m:=by
   have o:=cz (au G B) (Ks (iI _ _) k) z L y;have h:au (G^^^2^z) B=au G B^^^2^z:=Kj λt=>by rw[br y,aG,aG,br g];cases G.testBit t<;>cases B.testBit t<;>simp
   rw[h];lia
  obtain⟨d,e,w,x,o⟩:=uniq B8 u r s m (G^^^2^z) ag J v λS p=>same S (p.trans (bq g));have ub:∀j,j<R->d j*e (bAt B j)=1:=λj a=>by
   have:=o (bAt B j) (v _ (bJ u a).1) j a;rw[r j j a a,s j j a a,J5 rfl,MG]at this;rcases(w j).mul (x (bAt B j))with q|q
   .exact q
   .rw[q]at this;exact absurd this ∅
  have aj:fg (λt i=>d i*e t*κ t i) B R:=λi j b a=>by
   show d j*e (bAt B i)*κ (bAt B i) j=_;rw[s i j b a];by_cases q:j=i
   .rw[J5 q,MG,q];exact ub i b
   .rw[J4 q,Ms]
  obtain⟨l,h,U,aa,O⟩:=Bg (κ:=λt i=>d i*e t*κ t i) B8 u r aj J v ai L o (by
   intro S p zS;rw[j9 w x];rw[A]at p;exact same S p zS)
  refine#[λi=>l i*d i,λt=>h t*e t,λi=>(U i).mul (w i),λt=>(aa t).mul (x t),λt c i b=> ?_];have:=O t (by rw[A];exact c) i b;have N:l i*d i*(h t*e t)*κ t i=l i*h t*(d i*e t*κ t i):=by simp only[KJ,K9]
  show(3:Int)∣f t i-l i*d i*(h t*e t)*κ t i;rw[N];exact this
end Bh
namespace Bh
def Tern(n:Nat)(r:Nat->Nat):Prop:=∃L:List Row,∀s,s<2^n->r s=de 3 L s
def lV(f:Nat->Nat->Int)(y:Nat)(c:Nat->Int):Nat->Nat->Int:=λt=>if t=y then c else f t
theorem i7{R S:Nat}(h:∀t,S.testBit t=true->∀i,i<R->(3:Int)∣f t i-g t i):cf f R S↔cf g R S:=
 #[oU h,oU λt b i a=>by have:=h t b i a;lia]
theorem C4{n B R G y:Nat}(M:Mat n r)(T:Tern n r)(J:r (2^n-1)=R)(h:B<2^n)(b:sz B=R)(rB:r B=R)(k:G<2^n)(p:Sub B G)(uf:fg f B R)
  (good:∀S,Sub S G->sz S=R->(cf f R S↔r S=R)) (o:y<n) (l:G.testBit y=false):
  ∃c:Nat->Int,(∀i,i<R->0<=c i/\c i<3)/\(∀i,i<R->(¬c i=0↔r (exB B (bAt B i) y)=R))/\∀S,Sub S G->sz S+1=R->(cf (lV f y c) R (S|||2^y)↔r (S|||2^y)=R):=by
 obtain⟨L,m⟩:=T;have U:=M.n8;have B8:B<256:=M.bW h;have G8:G<256:=M.bW k;have top:∀s,s<2^n->de 3 L s<=R:=λs v=>by rw[<-m s v,<-J];exact M.mono (cC v) (aQ n)
 obtain⟨κ,x,K⟩:=pT L U h b (by rw[<-m B h];exact rB) top;have bk:∀S,S<2^n->sz S=R->(cf κ R S↔r S=R):=λS a g=>by rw[<-K S a g,<-m S a]
 obtain⟨d,e,u,H,N⟩:=uniq B8 b uf x _ G rfl G8 p λS a g=>(good S a g).trans (bk S (a.lt k) g).symm;have A:B.testBit y=false:=by
  cases q:B.testBit y with
  |false=>rfl
  |true=>rw[p y q]at l;cases l
 refine#[λi=>d i*κ y i % 3,λi _=>#[Me _ ∅,Mb _ ∅],λi j=> ?_,λS a g=> ?_]
 .have O:exB B (bAt B i) y<2^n:=bP (M.jj h (bJ b j).1) o;have zx:sz (exB B (bAt B i) y)=R:=(Ji M h (bJ b j).1 A o).2.trans b;rw[<-bk _ O zx,rh B8 b x j A,<-(u i).dv];exact#[λq z=>q (NO z),λq z=>q (MP z)]
 .have Q:S.testBit y=false:=by
   cases q:S.testBit y with
   |false=>rfl
   |true=>rw[a y q]at l;cases l
  have ai:sz (S|||2^y)=R:=by rw[gn (M.bW (a.lt k)) () Q];exact g
  have sc:cf (λt i=>d i*(if t=y then 1 else e t)*κ t i) R (S|||2^y)↔cf κ R (S|||2^y):=j9 (e:=λt=>if t=y then 1 else e t) u λt=>by
   by_cases q:t=y
   .rw[J5 q];exact .inl rfl
   .rw[J4 q];exact H t
  rw[<-bk _ (bP (a.lt k) o) ai,<-sc];refine i7 λt w i j=> ?_;unfold lV;by_cases q:t=y
  .rw[J5 q,J5 q,q,MG];have:=N1 (d i*κ y i) 3;lia
  .rw[J4 q,J4 q];rw[aV,KH]at w;exact N t (a t (by rcases w with z|z;exact z;exact absurd (Ko z).symm q)) i j
end Bh
namespace Bh
def jt(E R:Nat)(β:Nat->Prop):Prop:=∃L:List Row,(∀s,de 3 L s<=R)/\∀S,Sub S E->sz S=R->(de 3 L S=R↔β S)
theorem lQ(h:jt E R β)(b:E<256)(a:Sub B E)(e:sz B=R)(g:β B):∃κ:Nat->Nat->Int,fg κ B R/\∀S,Sub S E->sz S=R->(cf κ R S↔β S):=by obtain⟨L,top,c⟩:=h;obtain⟨κ,j,i⟩:=pT (n:=8) L (Kk _) (a.lt (n:=8) b) e ((c B a e).mpr g) λs _=>top s;exact#[κ,j,λS d f=>by rw[<-i S (d.lt (n:=8) b) f,c S d f]]
theorem jf(c:E<256)(h:∀S,Sub S E->sz S=R->(cf κ R S↔β S)):jt E R β:=by
 refine#[dP κ (List.range R),λs=> ?_,λS a b=>by rw[mY (a.lt (n:=8) c) b,h S a b]];have:=wD aD (dP κ (List.range R)) (az s);have e:(dP κ (List.range R)).length=R:=by unfold dP;rw[J2,Kq]
 rw[e]at this;exact this
theorem qe(h:jt E R β)(e:∀S,Sub S E->sz S=R->(β S↔γ S)):jt E R γ:=by obtain⟨L,top,c⟩:=h;exact#[L,top,λS a b=>(c S a b).trans (e S a b)]
theorem o7{I:List Nat}(g:I.Nodup)(d:∀i∈I,i<R)(h:∀i,i<R->i∉I->(3:Int)∣F i):(3:Int)∣sL (List.range R) F-sL I F:=by
 have l:∀ (I:List Nat),I.Nodup->(∀i∈I,i<R)->sL (List.range R) (λi=>if i∈I then F i else 0)=sL I F:=λI=>by
  induction I with
  |nil=>
   intro _ _;have:=gK 0 (λ_=>0) (List.range R);simp only[MA]at this;simp only[Ki,if_false];exact this
  |cons a I f=>
   intro g d;obtain⟨m,n⟩:=Lg.mp g;have f:=f n λi e=>d i (Ke _ e);have k:sL (List.range R) (λi=>if i=a then F i else 0)=F a:=by rw[jL (a:=a) La (J9.mpr (d a Kp)) λc _ z=>J4 z,J5 rfl]
   have j:=pY (λi=>if i=a then F i else 0) (λi=>if i∈I then F i else 0) (List.range R);rw[k,f]at j;rw[fM,<-j];refine cV λi _=> ?_;by_cases c:i=a
   .subst c;rw[J5 Kp,J5 rfl,J4 m,MI]
   .by_cases b:i∈I
    .rw[J5 (Ke _ b),J4 c,J5 b,Lk]
    .rw[J4 (by rw[J7];exact λz=>z.elim c b),J4 c,J4 b,MI]
 rw[<-l I g d];refine kY λi e=> ?_;by_cases c:i∈I
 .rw[J5 c,LJ];exact KY _
 .rw[J4 c,Ob];exact h i (J9.mp e) c
theorem GD{M:Nat->Nat->Int}{I J:List Nat}(b:I.Nodup)(c:J.Nodup)(e:I.length=J.length):LI 3 (J.map λj i=>M i j) I↔LI 3 (I.map λi j=>M i j) J:=by have a:=aD;rw[<-iV a I _ b,<-iV a J _ c,dC a (R:=I.length) (by rw[J2,e]) rfl,dC a (R:=J.length) (by rw[J2,e]) rfl,mQ M J I e]
theorem aR(s t:Nat):Sub (au s t) s:=λk a=>by rw[aG,Kn]at a;exact a.1
theorem bG(d:E<256)(c:Sub S E):sz S+sz (au E S)=sz E:=by
 have:=gC (s:=E) (a:=S) (b:=au E S) (λk=>S.testBit k) (λk _=>by
  cases e:S.testBit k with
  |false=>rw[Ld]
  |true=>rw[c k e];rfl) (λk _=>by rw[aG])
 lia
theorem gv(a:Sub S E):au E (au E S)=S:=Kj λk=>by rw[aG,aG];have:=a k;cases b:E.testBit k<;>cases c:S.testBit k<;>simp_all
end Bh
namespace Bh
theorem AY{h:Nat->Nat->Int}{B R T:Nat}(B8:B<256)(H:sz B=R)(u:fg h B R){I J:List Nat}{y:Nat->Nat}(m:∀i,i∈I↔i<R/\T.testBit (bAt B i)=false)(p:I.Nodup)
  (s:∀t,T.testBit t=true->B.testBit t=false->∃j∈J,y j=t) (v:∀j∈J,T.testBit (y j)=true):cf h R T↔LI 3 (J.map λj i=>h (y j) i) I:=by
 have lt:∀i∈I,i<R:=λi a=>((m i).mp a).1;constructor
 .intro b g w i a;have:=b (λi=>if i∈I then g i else 0) (λt l=> ?_) i (lt i a)
  .rw[J5 a]at this;exact this
  .cases r:B.testBit t with
   |true=>
    obtain⟨j,c,rfl⟩:=fY B8 H r;rw[gZ c λk f=>u j k c f,J4 (λq=>by rw[((m j).mp q).2]at l;cases l)];exact KY _
   |false=>
    obtain⟨j,c,rfl⟩:=s t l r;have e:=o7 (F:=λi=>(if i∈I then g i else 0)*h (y j) i) p lt λi _ d=>by rw[J4 d,MA];exact KY _
    rw[cV (cs:=I) (g:=λi=>g i*h (y j) i) λi a=>by rw[J5 a]]at e;have:=Mi e (w _ (Ka.mpr #[j,c,rfl]));rw[Mx]at this;exact this
 .intro A n o;have off:∀i,i<R->i∉I->(3:Int)∣n i:=λi a d=>by
   have:T.testBit (bAt B i)=true:=by
    cases q:T.testBit (bAt B i)with
    |true=>rfl
    |false=>exact absurd ((m i).mpr #[a,q]) d
   have:=o _ this;rw[gZ a λk f=>u i k a f]at this;exact this
  have G:=A n λx z=>by obtain⟨j,c,rfl⟩:=Ka.mp z;have e:=o7 (F:=λi=>n i*h (y j) i) p lt λi a d=>KW (off i a d);have:=LC (o _ (v j c)) e;rw[ML]at this;exact this
  intro i a;by_cases q:i∈I
  .exact G i q
  .exact off i a q
theorem wC(a:sz B=R)(p:Nat->Bool):((List.range R).filter λi=>p (bAt B i)).length=((az B).filter p).length:=by rw[<-kE a,MW,J2];rfl
theorem zF(B T:Nat):((az B).filter λt=> !T.testBit t).length=sz (au B T):=by rw[<-a7];unfold az;rw[MF];congr 1;refine Li λt _=> ?_;rw[aG,NA]
theorem sk(l:E<256)(h:jt E R β)(hb:∃B,Sub B E/\sz B=R/\β B):jt E (sz E-R) λS=>β (au E S):=by
 obtain⟨B,w,p,bB⟩:=hb;obtain⟨κ,uk,A⟩:=lQ h l w p bB;have B8:B<256:=w.lt (n:=8) l;have K:au E B<256:=(aR E B).lt (n:=8) l;have u:sz (au E B)=sz E-R:=by have:=bG l w;lia
 obtain⟨o,hinv⟩:∃o:Nat->Nat,∀i,i<R->o (bAt B i)=i:=by
  have:∀b,∃i,∀j,j<R->bAt B j=b->i=j:=λb=>by
   by_cases h:∃j,j<R/\bAt B j=b
   .obtain⟨j,g,e⟩:=h;exact#[j,λk A N=>fX p g A (e.trans N.symm)]
   .exact#[0,λj g e=>absurd #[j,g,e] h]
  obtain⟨o,h⟩:=NN this;exact#[o,λi c=>h _ i c rfl]
 generalize hD:au E B=D at*;generalize hQ:sz E-R=Q at*;have v:∀t,D.testBit t=true↔E.testBit t=true/\B.testBit t=false:=λt=>by rw[<-hD,aG,Kn,Lr]
 let f:Nat->Nat->Int:=λt j=>if B.testBit t=true then κ (bAt D j) (o t)else if t=bAt D j then 1 else 0
 have uf:fg f D Q:=λi j c g=>by
  show(if B.testBit (bAt D i)=true then κ (bAt D j) (o (bAt D i))else if bAt D i=bAt D j then 1 else 0)=_;rw[((v _).mp (bJ u c).1).2,J4 Ku];by_cases q:j=i
  .rw[q,J5 rfl,J5 rfl]
  .rw[J4 q,J4 λe=>q (fX u c g e).symm]
 refine jf (κ:=f) l λS hS zS=> ?_;have z:Sub (au E S) E:=aR E S;have zT:sz (au E S)=R:=by have O:=bG l hS;have U:=bG l w;lia
 have H:∀t,E.testBit t=true->(S.testBit t=true↔(au E S).testBit t=false):=λt m=>by rw[aG,m];cases S.testBit t<;>simp
 rw[<-A _ z zT];generalize au E S=T at*
 let I:=(List.range R).filter λi=> !T.testBit (bAt B i)
 let J:=(List.range Q).filter λj=>T.testBit (bAt D j)
 have r:∀i,i∈I↔i<R/\T.testBit (bAt B i)=false:=λi=>by show i∈(List.range R).filter _↔_;rw[Kx,J9,Lr]
 have G:∀j,j∈J↔j<Q/\T.testBit (bAt D j)=true:=λj=>by show j∈(List.range Q).filter _↔_;rw[Kx,J9]
 have nI:I.Nodup:=La.filter _;have nJ:J.Nodup:=La.filter _;have len:I.length=J.length:=by
  have L:I.length=sz (au B T):=(wC p λt=> !T.testBit t).trans (zF B T);have N:J.length=sz (au T B):=by refine(wC u T.testBit).trans ?_;rw[<-a7];unfold az;rw[MF];congr 1;refine Li λt _=> ?_;rw[aG];have:=z t;have d:=v t;cases O:T.testBit t<;>cases U:B.testBit t<;>cases h3:D.testBit t<;>simp_all
  have a1:sz (au B T)+sz (B&&&T)=sz B:=by have:=gC (s:=B) (a:=B&&&T) (b:=au B T) T.testBit (λk _=>by rw[KQ]) (λk _=>by rw[aG]);lia
  have a2:sz (au T B)+sz (B&&&T)=sz T:=by have:=gC (s:=T) (a:=B&&&T) (b:=au T B) B.testBit (λk _=>by rw[KQ,NA]) (λk _=>by rw[aG]);lia
  lia
 rw[AY B8 p uk (y:=bAt D) (J:=J) r nI (λt m x=>by
   obtain⟨j,g,e⟩:=fY K u ((v t).mpr #[z t m,x]);exact#[j,(G j).mpr #[g,by rw[e];exact m],e]) λj g=>((G j).mp g).2,
  AY K u uf (y:=bAt B) (I:=J) (J:=I) (λj=>by
   rw[G];refine Oc λg=> ?_;have:=H (bAt D j) ((v _).mp (bJ u g).1).1;cases O:T.testBit (bAt D j)<;>cases U:S.testBit (bAt D j)<;>simp_all) nJ (λt m x=>by
   have tE:=hS t m;have b:B.testBit t=true:=by
    cases q:B.testBit t with
    |true=>rfl
    |false=>rw[(v t).mpr #[tE,q]]at x;cases x
   obtain⟨i,c,e⟩:=fY B8 p b;exact#[i,(r i).mpr #[c,by rw[e];exact(H t tE).mp m],e]) λi c=>(H _ (w _ (bJ p ((r i).mp c).1).1)).mpr ((r i).mp c).2]
 have L:(I.map λi j=>f (bAt B i) j)=I.map λi j=>κ (bAt D j) i:=LB λi c=>by funext j;show(if B.testBit (bAt B i)=true then κ (bAt D j) (o (bAt B i))else _)=_;rw[J5 (bJ p ((r i).mp c).1).1,hinv i ((r i).mp c).1]
 rw[L];exact(GD (M:=λi j=>κ (bAt D j) i) nI nJ len).symm
end Bh
namespace Bh
def gW(E R:Nat)(β:Nat->Prop):Prop:=∀S T,Sub S E->Sub T E->sz S=R->sz T=R->¬β S->¬β T->S≠T->sz (S&&&T)+2<=R
def eO(E R:Nat)(β:Nat->Prop)(m d:Nat):Prop:=∃W K,Sub W E/\Sub K E/\(∀t,K.testBit t=true->W.testBit t=false)/\sz K=m/\sz W+d=R/\∀s,Sub s K->sz s=d->β (W|||s)
def GF(E R:Nat)(β:Nat->Prop):Prop:=∃W K,Sub W E/\Sub K E/\(∀t,K.testBit t=true->W.testBit t=false)/\sz K=7/\sz W+3=R/\∀u v,K.testBit u=true->K.testBit v=true->u≠v->∃c,K.testBit c=true/\c≠u/\c≠v/\¬β (W||| (2^u|||2^v|||2^c))
def iJ(E:Nat)(β:Nat->Prop):Nat->Prop:=λS=>β (au E S)
def Bad(E R:Nat)(β:Nat->Prop):Prop:=eO E R β 5 2\/eO E R β 5 3\/GF E R β\/GF E (sz E-R) (iJ E β)
theorem sP(c:E<256)(G:R<=sz E)(H:d<=m)(h:eO E (sz E-R) (iJ E β) m d):eO E R β m (m-d):=by
 obtain⟨W,K,k,b,f,o,zW,l⟩:=h;have i:=b.lt (n:=8) c;have j:Sub W (au E K):=λt a=>by
  rw[aG,k t a];cases q:K.testBit t with
  |false=>rfl
  |true=>rw[f t q]at a;cases a
 have z:=bG c b;have A:=bG ((aR E K).lt (n:=8) c) j;refine#[au (au E K) W,K,(aR _ _).trans (aR _ _),b,λt a=>by rw[aG,aG,a];simp,o,(),λs g J=> ?_];have B:=bG i g;have:=l (au K s) (aR _ _) ();have e:au E (W|||au K s)=au (au E K) W|||s:=Kj λt=>by rw[aG,Kl,aG,Kl,aG,aG];have p:=g t;have r:=b t;have u:=f t;cases v:E.testBit t<;>cases w:W.testBit t<;>cases x:K.testBit t<;>cases y:s.testBit t<;>simp_all
 unfold iJ at this;rw[e]at this;exact this
theorem dF{K u:Nat}(h:K.testBit u=true):Sub (2^u) K:=λt a=>by rw[Kt,Kf]at a;exact a▸h
theorem eh(h:Sub a c)(g:Sub b c):Sub (a|||b) c:=λt d=>by
 rw[Kl,KH]at d;rcases d with z|z
 .exact h t z
 .exact g t z
theorem EW(e:E<256)(f:R<=sz E)(h:Bad E (sz E-R) (iJ E β)):Bad E R β:=by
 rcases h with h|h|h|h
 .exact .inr (.inl (sP e f ∅ h))
 .exact .inl (sP e f ∅ h)
 .exact .inr (.inr (.inr h))
 .refine .inr (.inr (.inl ?_));rw[show sz E- (sz E-R)=R by lia]at h;obtain⟨W,K,g,a,k,o,zW,n⟩:=h;refine#[W,K,g,a,k,o,zW,λu v i j ne=> ?_];obtain⟨c,d,l,m,b⟩:=n u v i j ne;refine#[c,d,l,m,?_];unfold iJ at b;rw[gv (eh g (eh (eh (dF (a u i)) (dF (a v j))) (dF (a c d))))]at b;exact b
theorem IU(l:E<256)(d:Sub F E)(M:R<=sz F)(h:Bad F R β):Bad E R β:=by
 rcases h with ⟨W,K,g,f,h⟩|⟨W,K,g,f,h⟩|⟨W,K,g,f,h⟩|⟨W,K,g,f,w,G,zW,B⟩
 .exact .inl #[W,K,g.trans d,f.trans d,h]
 .exact .inr (.inl #[W,K,g.trans d,f.trans d,h])
 .exact .inr (.inr (.inl #[W,K,g.trans d,f.trans d,h]))
 .have i:=bG l d;have H:=g.lt (n:=8) (d.lt (n:=8) l);have e:sz (W|||au E F)=sz W+sz (au E F):=by
   have:=gC (s:=W|||au E F) (a:=W) (b:=au E F) W.testBit (λk _=>by rw[Kl];cases W.testBit k<;>simp) (λk _=>by rw[Kl,aG];have:=g k;cases q:W.testBit k<;>cases r:F.testBit k<;>simp_all)
   lia
  refine .inr (.inr (.inr #[W|||au E F,K,eh (g.trans d) (aR _ _),f.trans d,λt m=> ?_,G,(),λu v o p ne=> ?_]))
  .rw[Kl,w t m,aG,f t m];simp
  .obtain⟨c,i,y,z,j⟩:=B u v o p ne;refine#[c,i,y,z,?_];unfold iJ at j⊢;generalize A:2^u|||2^v|||2^c=X at*;have N:Sub X F:=by rw[<-A];exact eh (eh (dF (f u o)) (dF (f v p))) (dF (f c i))
   have x:au E (W|||au E F|||X)=au F (W|||X):=Kj λt=>by rw[aG,Kl,Kl,aG,aG,Kl];have:=d t;cases q:E.testBit t<;>cases r:F.testBit t<;>cases J:W.testBit t<;>cases L:X.testBit t<;>simp_all
   rw[x];exact j
theorem qN(c:E<256)(p:R<=sz E)(h:gW E R β):gW E (sz E-R) (iJ E β):=λS T d f q r g i ne=>by
 have n:=bG c d;have o:=bG c f;have:=h _ _ (aR E S) (aR E T) () () g i λe=>ne (by rw[<-gv d,e,gv f]);have j:sz S+sz (au T S)=sz (S|||T):=by
  have:=gC (s:=S|||T) (a:=S) (b:=au T S) S.testBit (λk _=>by rw[Kl];cases S.testBit k<;>simp) (λk _=>by rw[Kl,aG];cases S.testBit k<;>simp)
  lia
 have l:sz (S&&&T)+sz (au T S)=sz T:=by have:=gC (s:=T) (a:=S&&&T) (b:=au T S) S.testBit (λk _=>by rw[KQ,NA]) (λk _=>by rw[aG]);lia
 have m:=bG c (eh d f);have e:au E S&&&au E T=au E (S|||T):=Kj λk=>by rw[KQ,aG,aG,aG,Kl];cases E.testBit k<;>cases S.testBit k<;>cases T.testBit k<;>rfl
 rw[e]at this;lia
theorem DB(b:E<256)(g:R<=sz E)(e:∃B,Sub B E/\sz B=R/\β B)(h:jt E (sz E-R) (iJ E β)):jt E R β:=by obtain⟨B,a,i,c⟩:=e;have f:=bG b a;have:=sk b h #[au E B,aR _ _,(),by unfold iJ;rw[gv a];exact c];rw[show sz E- (sz E-R)=R by lia]at this;refine qe this λS d _=> ?_;show β (au E (au E S))↔β S;rw[gv d]
theorem tj(c:E<256)(d:∃B,Sub B E/\sz B=R/\β B):∃B,Sub B E/\sz B=sz E-R/\iJ E β B:=by obtain⟨B,a,f,b⟩:=d;have e:=bG c a;exact#[au E B,aR _ _,(),by unfold iJ;rw[gv a];exact b]
theorem DA(a:E<256)(f:∃B,Sub B E/\sz B=0/\β B):jt E 0 β:=by
 obtain⟨B,e,h,d⟩:=f;refine jf (κ:=λ_ _=>0) a λS b j=>#[λ_=> ?_,λ_ l _ i g=>absurd g (Nj _)];have:S=B:=sf (b.lt (n:=8) a) (e.lt (n:=8) a) (λk _ c=>by have:=cz S (b.lt (n:=8) a) k (aW (n:=8) (b.lt (n:=8) a) c) c;lia) (j.trans h.symm)
 rw[this];exact d
theorem FW(c:S<256)(h:sz S=1):∃t,S=2^t:=by obtain⟨t,b⟩:=ir (S:=S) ();have f:=cz S c t (aW (n:=8) c b) b;have e:S^^^2^t=0:=(sf (a:=0) ∅ ((bq b).lt (n:=8) c) (λk _ d=>by rw[KI]at d;cases d) (by rw[cH];lia)).symm;have:=eC b;rw[e,NB]at this;exact#[t,this.symm]
open Classical in
theorem Fu(d:E<256):jt E 1 β:=by
 refine jf (κ:=λt _=>if β (2^t)then 1 else 0) d λS f k=> ?_;obtain⟨t,rfl⟩:=FW (f.lt (n:=8) d) k;have e:∀a:Nat->Int,∀s,(2^t:Nat).testBit s=true->sL (List.range 1) (λi=>a i*if β (2^s)then 1 else 0)=a 0*if β (2^t)then 1 else 0:=λa s c=>by rw[Kt,Kf]at c;rw[<-c];show a 0*_+0=_;lia
 constructor
 .intro b;refine Kr λj=> ?_;have:=b (λ_=>1) (λs c=>by rw[e _ s c,J4 j,Ms];exact KY _) 0 ∅
  exact aD.one this
 .intro g a h i l;have:=h t (by rw[Kt];exact J3 rfl);rw[e a t (by rw[Kt];exact J3 rfl),J5 g,MG]at this;have:i=0:=()
  subst this;assumption
end Bh
namespace Bh
def dt2(a b:Nat->Int):Int:=a 0*b 1-a 1*b 0
theorem rg:cf κ 2 (2^s|||2^t)↔¬(3:Int)∣dt2 (κ s) (κ t):=by
 have g:∀ (a:Nat->Int) (u:Nat),sL (List.range 2) (λi=>a i*κ u i)=a 0*κ u 0+a 1*κ u 1:=λa u=>by show a 0*κ u 0+(a 1*κ u 1+0)=_;lia
 have mem:∀u,(2^s|||2^t:Nat).testBit u=true↔u=s\/u=t:=λu=>by rw[aV,KH,Kt,Kf,Kf];exact or_congr Ng Ng
 constructor
 .intro b e;unfold dt2 at e;have f:∀p q:Int,(3:Int)∣p*κ s 0+q*κ s 1->(3:Int)∣p*κ t 0+q*κ t 1->(3:Int)∣p/\(3:Int)∣q:=λp q c d=>by
   have:=b (λi=>if i=0 then p else q) (λu o=>by
    rw[g];rcases(mem u).mp o with rfl|rfl
    .exact c
    .exact d)
   exact#[this 0 ∅,this 1 ∅]
  have w:=f (-κ s 1) (κ s 0) (by rw[LU,KG (κ s 0)];lia) (by rw[LU];lia);have x:=f (-κ t 1) (κ t 0) (by
   rw[LU,KG (κ t 1),KG (κ t 0)];lia) (by rw[LU,KG (κ t 0)];lia)
  have r:=f 1 0 () ();exact aD.one r.1
 .intro e a h;have c:=h s ((mem s).mpr (.inl rfl));have d:=h t ((mem t).mpr (.inr rfl));rw[g]at c d;have m:(3:Int)∣dt2 (κ s) (κ t)*a 0:=by
   have:dt2 (κ s) (κ t)*a 0=κ t 1*(a 0*κ s 0+a 1*κ s 1) -κ s 1*(a 0*κ t 0+a 1*κ t 1):=by
    unfold dt2;rw[O4,Mv,Mv];have j:κ s 0*κ t 1*a 0=κ t 1*(a 0*κ s 0):=by simp only[KG,K9,KJ]
    have k:κ s 1*κ t 0*a 0=κ s 1*(a 0*κ t 0):=by simp only[KG,K9,KJ]
    have l:κ t 1*(a 1*κ s 1)=κ s 1*(a 1*κ t 1):=by simp only[KG,K9,KJ]
    lia
   rw[this];exact LC (Kg c) (Kg d)
  have n:(3:Int)∣dt2 (κ s) (κ t)*a 1:=by
   have:dt2 (κ s) (κ t)*a 1=κ s 0*(a 0*κ t 0+a 1*κ t 1) -κ t 0*(a 0*κ s 0+a 1*κ s 1):=by
    unfold dt2;rw[O4,Mv,Mv];have j:κ s 0*κ t 1*a 1=κ s 0*(a 1*κ t 1):=by simp only[KG,K9,KJ]
    have k:κ s 1*κ t 0*a 1=κ t 0*(a 1*κ s 1):=by simp only[KG,K9,KJ]
    have l:κ s 0*(a 0*κ t 0)=κ t 0*(a 0*κ s 0):=by simp only[KG,K9,KJ]
    lia
   rw[this];exact LC (Kg d) (Kg c)
  intro i v;have:i=0\/i=1:=()
  rcases this with rfl|rfl
  .exact da aD e m
  .exact da aD e n
def pt4(v i:Nat):Int:=if v=0 then(if i=0 then 1 else 0)else if v=1 then(if i=0 then 0 else 1)else if v=2 then 1 else if i=0 then 1 else 2
theorem FF:∀v:Nat,v<4->∀w:Nat,w<4->v≠w->¬(3:Int)∣dt2 (pt4 v) (pt4 w):=∅
theorem uD(k:¬((3:Int)∣a 0/\(3:Int)∣a 1))(d:(3:Int)∣dt2 a p)(e:(3:Int)∣dt2 a b):(3:Int)∣dt2 p b:=by
 have i:(3:Int)∣a 0*dt2 p b:=by
  have:a 0*dt2 p b=p 0*dt2 a b-b 0*dt2 a p:=by
   unfold dt2;rw[Mj,Mj,Mj];have f:a 0*(p 0*b 1)=p 0*(a 0*b 1):=by simp only[KG,K9,KJ]
   have g:a 0*(p 1*b 0)=b 0*(a 0*p 1):=by simp only[KG,K9,KJ]
   have h:p 0*(a 1*b 0)=b 0*(a 1*p 0):=by simp only[KG,K9,KJ]
   lia
  rw[this];exact LC (Kg e) (Kg d)
 have j:(3:Int)∣a 1*dt2 p b:=by
  have:a 1*dt2 p b=p 1*dt2 a b-b 1*dt2 a p:=by
   unfold dt2;rw[Mj,Mj,Mj];have f:a 1*(p 0*b 1)=b 1*(a 1*p 0):=by simp only[KG,K9,KJ]
   have g:a 1*(p 1*b 0)=p 1*(a 1*b 0):=by simp only[KG,K9,KJ]
   have h:p 1*(a 0*b 1)=b 1*(a 0*p 1):=by simp only[KG,K9,KJ]
   lia
  rw[this];exact LC (Kg e) (Kg d)
 by_cases c:(3:Int)∣a 0
 .exact da aD (λz=>k #[c,z]) j
 .exact da aD c i
theorem gG(a b:Nat->Int):(3:Int)∣dt2 a b↔(3:Int)∣dt2 b a:=by
 have:dt2 b a= -dt2 a b:=by unfold dt2;rw[KG (b 0),KG (b 1)];lia
 rw[this,vf]
theorem FU(f:¬((3:Int)∣a 0/\(3:Int)∣a 1))(g:¬((3:Int)∣b 0/\(3:Int)∣b 1))(c:(3:Int)∣dt2 a p)(d:(3:Int)∣dt2 b q)(e:(3:Int)∣dt2 a b):(3:Int)∣dt2 p q:=
 uD g ((gG p b).mp (uD f c e)) d
theorem sO{E R W:Nat}{l:List Nat}(f:E<256)(g:Sub W E)(zW:sz W+2=R)(m:l.Nodup)(k:l.length=5)(hl:∀t∈l,E.testBit t=true/\W.testBit t=false)(i:∀u∈l,∀v∈l,u≠v->β (W||| (2^u|||2^v))):eO E R β 5 2:=by have l8:∀t∈l,t<8:=λt c=>aW (n:=8) f (hl t c).1;refine#[W,bR l,g,λt c=>(hl t ((bx l t).mp c)).1,λt c=>(hl t ((bx l t).mp c)).2,by rw[iG m l8,k],zW,λs d o=> ?_];obtain⟨a,b,ne,h,j,e⟩:=lE (n:=8) (Kk _) (d.lt (n:=8) (AJ l8)) o;rw[e];exact i a ((bx l a).mp (d a h)) b ((bx l b).mp (d b j)) ne
end Bh
namespace Bh
theorem ud(a:s<8)(b:t<8)(ne:s≠t):sz (2^s|||2^t)=2:=by
 have c:sz (2^s)=1:=by have:=gn (s:=0) ∅ a (KI s);rw[NB,cH]at this;exact this
 rw[gn (s:=2^s) (LR ∅ a) b (by rw[Kt];exact J6 ne),c]
theorem DJ:(2^s|||2^t)&&& (2^s|||2^u)≠0:=λe=>by
 have:((2^s|||2^t)&&& (2^s|||2^u)).testBit s=true:=by rw[KQ,aV,aV,Kt];simp
 rw[e,KI]at this;cases this
theorem qL{E:Nat}(i:E<256)(F:gW E 2 β)(a:E.testBit s=true)(b:E.testBit t=true)(d:E.testBit u=true)(st:s≠t)(j:s≠u)(m:t≠u)(h:¬β (2^s|||2^t)):β (2^s|||2^u):=Kr λg=>by
 have l:=λ{x} (h:E.testBit x=true)=>aW (n:=8) i h;have ne:(2^s|||2^t:Nat)≠2^s|||2^u:=λe=>by
  have:(2^s|||2^t:Nat).testBit t=true:=by rw[aV];simp
  rw[e,aV,Kt]at this;have f:¬u=t:=λq=>m q.symm;simp[st,f]at this
 have:=F _ _ (eh (dF a) (dF b)) (eh (dF a) (dF d)) (ud (l a) (l b) st) (ud (l a) (l d) j) h g ne;have z:(2^s|||2^t)&&& (2^s|||2^u)=0:=by
  refine Kj λk=> ?_;rw[KI];cases q:((2^s|||2^t)&&& (2^s|||2^u)).testBit k with
  |false=>rfl
  |true=>
   have c:(2^s|||2^t)&&& (2^s|||2^u)<256:=Ks O0 (K4 (n:=8) (LR ∅ (l a)) (LR ∅ (l b)));have:=cz _ c k (aW (n:=8) c q) q;lia
 exact DJ z
open Classical in
theorem CW{E G B y:Nat}(H:E<256)(F:gW E 2 β)(f:Sub G E)(A:Sub B G)(O:sz B=2)(uk:fg κ B 2)(good:∀S,Sub S G->sz S=2->(cf κ 2 S↔β S))(hy:E.testBit y=true)(yG:G.testBit y=false):
  (∃Q,fg Q B 2/\∀S,Sub S (G|||2^y)->sz S=2->(cf Q 2 S↔β S))\/eO E 2 β 5 2:=by
 have l:=λ{x} (h:E.testBit x=true)=>aW (n:=8) H h;have G8:=f.lt (n:=8) H;have B8:B<256:=A.lt (n:=8) G8;have p:∀ {x},G.testBit x=true->x≠y:=λ{x} h e=>by rw[e,yG]at h;cases h
 have dt:∀ {s t},G.testBit s=true->G.testBit t=true->s≠t->(¬(3:Int)∣dt2 (κ s) (κ t)↔β (2^s|||2^t)):=λ{s t} g c ne=>by rw[<-rg];exact good _ (eh (dF g) (dF c)) (ud (l (f _ g)) (l (f _ c)) ne)
 have nz:∀t,G.testBit t=true->¬((3:Int)∣κ t 0/\(3:Int)∣κ t 1):=λt c z=>by
  by_cases tb:B.testBit t=true
  .obtain⟨i,r,rfl⟩:=fY B8 O tb;have:=uk i i r r;rw[J5 rfl]at this;have r:i=0\/i=1:=()
   rcases r with rfl|rfl
   .rw[this]at z;exact aD.one z.1
   .rw[this]at z;exact aD.one z.2
  .have b0:=bJ O (show 0<2 by decide);have b1:=bJ O (show 1<2 by decide);have n0:bAt B 0≠t:=λe=>tb (e▸b0.1);have n1:bAt B 1≠t:=λe=>tb (e▸b1.1);have c1:bAt B 0≠bAt B 1:=λe=>by have:=fX O (show 0<2 by decide) (show 1<2 by decide) e;lia
   have J:(3:Int)∣dt2 (κ t) (κ (bAt B 0)):=by unfold dt2;exact LC (KW z.1) (KW z.2)
   have K:(3:Int)∣dt2 (κ t) (κ (bAt B 1)):=by unfold dt2;exact LC (KW z.1) (KW z.2)
   have c0:¬β (2^t|||2^bAt B 0):=λq=>(dt c (A _ b0.1) λe=>n0 e.symm).mpr q J;exact(dt c (A _ b1.1) λe=>n1 e.symm).mpr (qL H F (f _ c) (f _ (A _ b0.1)) (f _ (A _ b1.1)) (λe=>n0 e.symm) (λe=>n1 e.symm) c1 c0) K
 have bj:∀v:Nat->Int,(∀t,G.testBit t=true->(¬(3:Int)∣dt2 (κ t) v↔β (2^t|||2^y)))->∃Q,fg Q B 2/\∀S,Sub S (G|||2^y)->sz S=2->(cf Q 2 S↔β S):=λv m=>by
  have N:∀ {t},G.testBit t=true->lV κ y v t=κ t:=λ{t} h=>by unfold lV;rw[J4 (p h)]
  have new:lV κ y v y=v:=by unfold lV;rw[J5 rfl]
  refine#[lV κ y v,λi j r hj=>by rw[N (A _ (bJ O r).1)];exact uk i j r hj,λS hS zS=> ?_];have S8:S<256:=hS.lt (n:=8) (K4 (n:=8) G8 (LR ∅ (l hy)));obtain⟨a,b,ne,ha,hb,e⟩:=lE (n:=8) (Kk _) S8 zS;have ab:∀ {x},S.testBit x=true->x≠y->G.testBit x=true:=λ{x} h cM=>by
   have:=hS x h;rw[aV,KH,Kf]at this;rcases this with q|q
   .exact q
   .exact absurd q.symm cM
  rw[e,rg];by_cases ay:a=y
  .subst ay;have M:=ab hb λq=>ne q.symm;rw[new,N M,gG,m b M,Na]
  .by_cases a5:b=y
   .subst a5;have L:=ab ha ne;rw[new,N L,m a L]
   .have L:=ab ha ay;have M:=ab hb a5;rw[N L,N M];exact dt L M ne
 by_cases cA:∃t,G.testBit t=true/\¬β (2^t|||2^y)
 .obtain⟨t,c,hn⟩:=cA;refine .inl (bj (κ t) λs g=> ?_);by_cases e:s=t
  .subst e;refine#[λq=>absurd (by unfold dt2;rw[KG,LJ];exact KY _) q,λq=>absurd q hn]
  .rw[dt g c e];have cK:¬β (2^t|||2^y):=hn;have cL:¬β (2^y|||2^t):=by rw[Na];exact hn
   have r1:=qL H F (f _ c) hy (f _ g) (p c) (λq=>e q.symm) (λq=>p g q.symm) cK;have r2:=qL H F hy (f _ c) (f _ g) (λq=>p c q.symm) (λq=>p g q.symm) (λq=>e q.symm) cL;rw[Na]at r1 r2;exact#[λ_=>r2,λ_=>r1]
 .have all:∀t,G.testBit t=true->β (2^t|||2^y):=λt c=>Kr λq=>cA #[t,c,q];by_cases cB:∃v,v<4/\∀t,G.testBit t=true->¬(3:Int)∣dt2 (κ t) (pt4 v)
  .obtain⟨v,_,m⟩:=cB;exact .inl (bj (pt4 v) λt c=>#[λ_=>all t c,λ_=>m t c])
  .right
   have U:∀v,v<4->∃t,G.testBit t=true/\(3:Int)∣dt2 (κ t) (pt4 v):=λv m=>Kr λq=>cB #[v,m,λt c d=>q #[t,c,d]];obtain⟨t0,g0,J⟩:=U 0 ∅;obtain⟨t1,g1,K⟩:=U 1 ∅;obtain⟨t2,g2,d2⟩:=U 2 ∅;obtain⟨t3,g3,d3⟩:=U 3 ∅;have apart:∀ {v w s t},v<4->w<4->v≠w->G.testBit s=true->G.testBit t=true->(3:Int)∣dt2 (κ s) (pt4 v)->(3:Int)∣dt2 (κ t) (pt4 w)->s≠t/\β (2^s|||2^t):=λ{v w s t} m hw ne g c h1 h2=>by have nd:¬(3:Int)∣dt2 (κ s) (κ t):=λq=>FF v m w hw ne (FU (nz s g) (nz t c) h1 h2 q);have st:s≠t:=λe=>nd (by rw[e];unfold dt2;rw[KG,LJ];exact KY _);exact#[st,(dt g c st).mp nd]
   have ag:=apart ∅ ∅ ∅ g0 g1 J K;have ai:=apart ∅ ∅ ∅ g0 g2 J d2;have aj:=apart ∅ ∅ ∅ g0 g3 J d3;have ak:=apart ∅ ∅ ∅ g1 g2 K d2;have ar:=apart ∅ ∅ ∅ g1 g3 K d3;have aA:=apart ∅ ∅ ∅ g2 g3 d2 d3;have y0:=all t0 g0;have y1:=all t1 g1;have y2:=all t2 g2;have y3:=all t3 g3;refine sO (W:=0) (l:=[t0,t1,t2,t3,y]) H (λk hk=>by rw[KI]at hk;cases hk) (by rw[cH]) (by simp[ag.1,ai.1,aj.1,ak.1,ar.1,aA.1,p g0,p g1,p g2,p g3]) rfl (λt c=> ?_) λu hu v m ne=> ?_
   .rw[KI];simp only[J7,Ki,K0]at c;rcases c with rfl|rfl|rfl|rfl|rfl
    .exact#[f _ g0,rfl]
    .exact#[f _ g1,rfl]
    .exact#[f _ g2,rfl]
    .exact#[f _ g3,rfl]
    .exact#[hy,rfl]
   .rw[NB];have o:∀ {a b:Nat},β (2^a|||2^b)->β (2^b|||2^a):=λ{a b} h=>by rw[Na];exact h
    simp only[J7,Ki,K0]at hu m;rcases hu with rfl|rfl|rfl|rfl|rfl<;>rcases m with rfl|rfl|rfl|rfl|rfl<;>first|exact absurd rfl ne|exact ag.2|exact ai.2|exact aj.2|exact ak.2|exact ar.2|exact aA.2|exact y0|exact y1|exact y2|exact y3|exact o ag.2|exact o ai.2|exact o aj.2|exact o ak.2|exact o ar.2|exact o aA.2|exact o y0|exact o y1|exact o y2|exact o y3
theorem Es{E B:Nat}{P:Nat->Prop}(h:E<256)(r:Sub B E)(p:P B)(w:∀G y,Sub G E->Sub B G->P G->E.testBit y=true->G.testBit y=false->P (G|||2^y)):P E:=by
 have o:∀ (m G:Nat),sz (au G B)=m->Sub G E->Sub B G->P G:=λm=>by
  induction m with
  |zero=>
   intro G u b e;have:B=G:=Kj λt=>by
    cases c:G.testBit t with
    |false=>
     cases d:B.testBit t with
     |false=>rfl
     |true=>rw[e t d]at c;cases c
    |true=>
     cases d:B.testBit t with
     |true=>rfl
     |false=>
      have G8:=b.lt (n:=8) h;have s:(au G B).testBit t=true:=by rw[aG,c,d];rfl
      have:=cz (au G B) ((aR G B).lt (n:=8) G8) t (aW (n:=8) G8 c) s;lia
   exact this▸p
  |succ m x=>
   intro G u b e;have G8:=b.lt (n:=8) h;obtain⟨z,f⟩:=ir (S:=au G B) ();have j:=f;rw[aG,Kn,Lr]at j;obtain⟨a,k⟩:=j;have v:sz (au (G^^^2^z) B)=m:=by
    have c:=cz (au G B) ((aR G B).lt (n:=8) G8) z (aW (n:=8) G8 a) f;have l:au (G^^^2^z) B=au G B^^^2^z:=Kj λt=>by rw[br f,aG,aG,br a];cases G.testBit t<;>cases B.testBit t<;>simp
    rw[l];lia
   have g:Sub B (G^^^2^z):=λt i=>by
    rw[br a,e t i];have:¬z=t:=λq=>by rw[q,i]at k;cases k
    simp[this]
   have:=w (G^^^2^z) z ((bq a).trans b) g (x _ v ((bq a).trans b) g) (b z a) (by rw[br a];simp);rw[eC a]at this;exact this
 exact o _ E rfl (Sub.refl _) r
theorem Ft(b:E<256)(F:gW E 2 β)(q:∃B,Sub B E/\sz B=2/\β B):jt E 2 β\/eO E 2 β 5 2:=by
 obtain⟨B,g,f,m⟩:=q;have B8:=g.lt (n:=8) b;have:=Es (P:=λG=>(∃κ,fg κ B 2/\∀S,Sub S G->sz S=2->(cf κ 2 S↔β S))\/eO E 2 β 5 2) b g ?_ ?_
 .rcases this with ⟨κ,_,h⟩|h
  .exact .inl (jf b h)
  .exact .inr h
 .left
  obtain⟨c,hinv⟩:∃c:Nat->Nat,∀i,i<2->c (bAt B i)=i:=#[λt=>if t=bAt B 0 then 0 else 1,λi a=>by
   have:i=0\/i=1:=()
   rcases this with rfl|rfl
   .exact J5 rfl
   .exact J4 λe=>by have:=fX f (show 1<2 by decide) (show 0<2 by decide) e;lia]
  have d:fg (λt j=>if j=c t then 1 else 0) B 2:=λi j a w=>by show(if j=c (bAt B i)then(1:Int)else 0)=_;rw[hinv i a]
  refine#[_,d,λS l v=> ?_];have e:S=B:=sf (l.lt (n:=8) B8) B8 (λk _ h=>l k h) (v.trans f.symm);rw[e];refine#[λ_=>m,λ_ x h i a=> ?_];have:=h (bAt B i) (bJ f a).1;rw[gZ a λk r=>d i k a r]at this;exact this
 .rintro G y p o (⟨κ,d,good⟩|h) s u
  .exact CW b F p o f d good s u
  .exact .inr h
end Bh
namespace Bh
theorem IT{B R S:Nat}{I T:List Nat}(B8:B<256)(o:sz B=R)(u:fg κ B R)(v:I.Nodup)(h:∀i∈I,i<R)(l:∀s,S.testBit s=true↔(B.testBit s=true/\∀i∈I,s≠bAt B i)\/s∈T):
  cf κ R S↔LI 3 (T.map λt i=>κ t i) I:=by
 constructor
 .intro b g w i a;have:=b (λi=>if i∈I then g i else 0) (λt n=> ?_) i (h i a)
  .rw[J5 a]at this;exact this
  .rcases(l t).mp n with ⟨J,A⟩|H
   .obtain⟨j,c,rfl⟩:=fY B8 o J;rw[gZ c λk m=>u j k c m,J4 (λq=>A j q rfl)];exact KY _
   .have f:=o7 (F:=λi=>(if i∈I then g i else 0)*κ t i) v h λi _ d=>by rw[J4 d,MA];exact KY _
    rw[cV (cs:=I) (g:=λi=>g i*κ t i) λi a=>by rw[J5 a]]at f;have:=Mi f (w _ (Ka.mpr #[t,H,rfl]));rw[Mx]at this;exact this
 .intro z p r;have off:∀i,i<R->i∉I->(3:Int)∣p i:=λi a d=>by have:=r (bAt B i) ((l _).mpr (.inl #[(bJ o a).1,λj c e=>d (fX o a (h j c) e▸c)]));rw[gZ a λk m=>u i k a m]at this;exact this
  have G:=z p λx y=>by obtain⟨t,n,rfl⟩:=Ka.mp y;have f:=o7 (F:=λi=>p i*κ t i) v h λi a d=>KW (off i a d);have:=LC (r _ ((l t).mpr (.inr n))) f;rw[ML]at this;exact this
  intro i a;by_cases q:i∈I
  .exact G i q
  .exact off i a q
def dt(κ:Nat->Nat->Int)(i j s t:Nat):Int:=κ s i*κ t j-κ s j*κ t i
theorem E3(ne:i≠j):LI 3 ([s,t].map λt i=>κ t i) [i,j]↔¬(3:Int)∣dt κ i j s t:=by
 have e:=rg (κ:=λt k=>if k=0 then κ t i else κ t j) (s:=s) (t:=t);have n:dt2 ((λt k=>if k=0 then κ t i else κ t j) s) ((λt k=>if k=0 then κ t i else κ t j) t)=dt κ i j s t:=rfl;rw[n]at e;rw[<-e];have mem:∀u,(2^s|||2^t:Nat).testBit u=true↔u=s\/u=t:=λu=>by rw[aV,KH,Kt,Kf,Kf];exact or_congr Ng Ng
 have l:∀ (a:Nat->Int) (u:Nat),sL (List.range 2) (λk=>a k*(if k=0 then κ u i else κ u j))=a 0*κ u i+a 1*κ u j:=λa u=>by show a 0*κ u i+(a 1*κ u j+0)=_;lia
 have m:∀ (g:Nat->Int) (u:Nat),sL [i,j] (λk=>g k*κ u k)=g i*κ u i+g j*κ u j:=λg u=>by show g i*κ u i+(g j*κ u j+0)=_;lia
 constructor
 .intro v a h k w;have:=v (λk=>if k=i then a 0 else a 1) λx p=>by obtain⟨u,f,rfl⟩:=Ka.mp p;have:=h u ((mem u).mpr (by simpa using f));rw[l]at this;rw[m,J5 rfl,J4 λq=>ne q.symm];exact this
  have r:k=0\/k=1:=()
  rcases r with rfl|rfl
  .have:=this i (by simp);rw[J5 rfl]at this;exact this
  .have:=this j (by simp);rw[J4 λq=>ne q.symm]at this;exact this
 .intro b g o c d;have:=b (λk=>if k=0 then g i else g j) λu f=>by rw[l];have:=o _ (Ka.mpr #[u,by simpa using (mem u).mp f,rfl]);rw[m]at this;exact this
  rcases J7.mp d with rfl|d
  .exact this 0 ∅
  .have:c=j:=by simpa using d
   subst this;exact(by assumption:∀i,i<2->(3:Int)∣(λk=>if k=0 then g _ else g _) i) 1 ∅
theorem IV{κ:Nat->Nat->Int}{i t:Nat}:LI 3 ([t].map λt i=>κ t i) [i]↔¬(3:Int)∣κ t i:=by
 constructor
 .intro h d;exact aD.one (h (λ_=>1) (λx f=>by
   obtain⟨u,e,rfl⟩:=Ka.mp f;have:u=t:=by simpa using e
   subst this;show(3:Int)∣1*κ u i+0;lia) i (by simp))
 .intro d g b c a;have:c=i:=by simpa using a
  subst this;have:(3:Int)∣g c*κ t c+0:=b _ (Ka.mpr #[t,by simp,rfl]);rw[MI,KG]at this;exact da aD d this
theorem dq{s t:Nat}(h:∀k,s.testBit k=true↔t.testBit k=true):s=t:=Kj λk=>Mq.mpr (h k)
theorem yO{f:Nat->Nat}:∀ {l:List Nat},l.Nodup->(∀i∈l,∀j∈l,f i=f j->i=j)->(l.map f).Nodup
 | [],_,_=>List.nodup_nil
 |a::l,c,h=>by rw[KS,Lg];rw[Lg]at c;refine#[λq=> ?_,yO c.2 λi g j k=>h i (Ke _ g) j (Ke _ k)];obtain⟨b,d,e⟩:=Ka.mp q;exact c.1 (h b (Ke _ d) a Kp e▸d)
def ov(W:Nat)(l:List Nat):Nat:=W|||bR l
theorem bO{W:Nat}:(ov W l).testBit t=true↔W.testBit t=true\/t∈l:=by unfold ov;rw[Kl,KH,bx]
theorem nQ{E W:Nat}(h:Sub W E)(g:∀t∈l,E.testBit t=true):Sub (ov W l) E:=λt a=>(bO.mp a).elim (h t) (g t)
theorem oC{E W:Nat}{l:List Nat}(b:E<256)(h:Sub W E)(d:l.Nodup)(g:∀t∈l,E.testBit t=true/\W.testBit t=false):sz (ov W l)=sz W+l.length:=by
 have c:=bG (S:=W) ((nQ h λt a=>(g t a).1).lt (n:=8) b) λt a=>bO.mpr (.inl a);have e:au (ov W l) W=bR l:=dq λt=>by rw[aG,Kn,bO,bx,Lr];exact#[λz=>z.1.resolve_left (by rw[z.2];decide),λz=>#[.inr z,(g t z).2]]
 rw[e,iG d λt a=>aW (n:=8) b (g t a).1]at c;lia
theorem uE(h:∀t,t∈l↔t∈m):ov W l=ov W m:=dq λt=>by rw[bO,bO,h t]
structure Ab(E R a b B:Nat)(β:Nat->Prop)(κ:Nat->Nat->Int):Prop where
 hE:E<256
 far:gW E R β
 hB:Sub B E
 zB:sz B=R
 u:fg κ B R
 aB:B.testBit a=false
 bB:B.testBit b=false
 good:∀S,Sub S E->sz S=R->¬(S.testBit a=true/\S.testBit b=true)->(cf κ R S↔β S)
def WI(B:Nat)(I:List Nat):Nat:=au B (bR (I.map (bAt B)))
theorem gU{B t:Nat}:(WI B I).testBit t=true↔B.testBit t=true/\∀i∈I,t≠bAt B i:=by unfold WI;rw[aG,Kn,Lr];refine Oc λ_=> ?_;rw[<-Mc,bx,Ka];exact#[λh i a e=>h #[i,a,e.symm],λh ⟨i,a,e⟩=>h i a e.symm]
section
variable{E R a b B:Nat}{β:Nat->Prop}{κ:Nat->Nat->Int}(A:Ab E R a b B β κ)
include A
theorem Ab.B8:B<256:=A.hB.lt (n:=8) A.hE
theorem Ab.swap:Ab E R b a B β κ:=#[A.hE,A.far,A.hB,A.zB,A.u,A.bB,A.aB,λS c d e=>A.good S c d λz=>e #[z.2,z.1]]
theorem Ab.bt(c:i<R):B.testBit (bAt B i)=true:=(bJ A.zB c).1
theorem Ab.bne(c:i<R)(d:j<R)(f:i≠j):bAt B i≠bAt B j:=λe=>f (fX A.zB c d e)
theorem Ab.WI_sub(I:List Nat):Sub (WI B I) E:=λt c=>A.hB t (gU.mp c).1
theorem Ab.WI_sz{I:List Nat}(k:I.Nodup)(d:∀i∈I,i<R):sz (WI B I)+I.length=R:=by
 have g:=bG (S:=bR (I.map (bAt B))) A.B8 λt f=>by obtain⟨i,c,rfl⟩:=Ka.mp ((bx _ _).mp f);exact A.bt (d i c)
 have l:(I.map (bAt B)).Nodup:=yO k λi c j h e=>fX A.zB (d i c) (d j h) e;rw[iG l λt f=>by obtain⟨i,c,rfl⟩:=Ka.mp f;exact(bJ A.zB (d i c)).2,J2,A.zB]at g
 unfold WI;lia
theorem Ab.base{I T:List Nat}(d:I.Nodup)(c:∀i∈I,i<R):cf κ R (ov (WI B I) T)↔LI 3 (T.map λt i=>κ t i) I:=
 IT A.B8 A.zB A.u d c λs=>by rw[bO,gU]
theorem Ab.agree{I T:List Nat}(f:I.Nodup)(c:∀i∈I,i<R)(j:T.Nodup)(e:T.length=I.length)(d:∀t∈T,E.testBit t=true/\(WI B I).testBit t=false)(k:¬(a∈T/\b∈T)):β (ov (WI B I) T)↔LI 3 (T.map λt i=>κ t i) I:=by
 rw[<-A.base f c];refine(A.good _ (nQ (A.WI_sub I) λt g=>(d t g).1) (by rw[oC A.hE (A.WI_sub I) j d,e];exact A.WI_sz f c) λz=>k #[?_,?_]).symm
 .exact(bO.mp z.1).resolve_left λq=>by have h:=(gU.mp q).1;rw[A.aB]at h;cases h
 .exact(bO.mp z.2).resolve_left λq=>by have h:=(gU.mp q).1;rw[A.bB]at h;cases h
theorem Ab.row(g:i<R)(k:∀j∈J,j<R)(h:∀j,j∈I↔j=i\/j∈J)(l:i∉J):ov (WI B I) (bAt B i::T)=ov (WI B J) T:=dq λt=>by
 rw[bO,bO,gU,gU,J7];constructor
 .rintro(⟨d,e⟩|rfl|f)
  .exact .inl #[d,λj c=>e j ((h j).mpr (.inr c))]
  .exact .inl #[A.bt g,λj c=>A.bne g (k j c) λq=>l (q▸c)]
  .exact .inr f
 .rintro(⟨d,e⟩|f)
  .by_cases q:t=bAt B i
   .exact .inr (.inl q)
   .exact .inl #[d,λj c=>((h j).mp c).elim (λz=>z▸q) (e j)]
  .exact .inr (.inr f)
end
end Bh
namespace Bh
structure Pr(Q:Nat->Nat->Prop)(P:Nat->Prop):Prop where
 sy:∀ {u v},Q u v->Q v u
 far:∀ {u v w},P u->P v->P w->u≠v->u≠w->v≠w->¬Q u v->Q u w
def dv2(f g:Nat->Int)(s t:Nat):Int:=f s*g t-g s*f t
theorem kC(f g:Nat->Int)(s t:Nat):dv2 f g s t=dt2 (λk=>if k=0 then f s else g s) (λk=>if k=0 then f t else g t):=rfl
theorem vg(h:¬(3:Int)∣f s)(a:(3:Int)∣dv2 f g s t)(b:(3:Int)∣dv2 f g s u):(3:Int)∣dv2 f g t u:=by rw[kC]at*;exact uD (λz=>h z.1) a b
theorem sQ(fs:¬(3:Int)∣f s)(i:¬(3:Int)∣g s)(d:¬(3:Int)∣f t)(j:¬(3:Int)∣g t)(h:¬(3:Int)∣f u)(l:¬(3:Int)∣g u):(3:Int)∣dv2 f g s t\/(3:Int)∣dv2 f g s u\/(3:Int)∣dv2 f g t u:=by
 have two:∀s,¬(3:Int)∣f s->¬(3:Int)∣g s->(3:Int)∣dt2 (λk=>if k=0 then f s else g s) (pt4 2)\/(3:Int)∣dt2 (λk=>if k=0 then f s else g s) (pt4 3):=λs m n=>by
  show(3:Int)∣f s*1-g s*1\/(3:Int)∣f s*2-g s*1;clear fs i d j h l;have a1:f s % 3=1\/f s % 3=2:=()
  have a2:g s % 3=1\/g s % 3=2:=()
  rcases a1 with a1|a1<;>rcases a2 with a2|a2<;>first|exact .inl ()|exact .inr ()
 have e:∀ {s t v},¬(3:Int)∣f s->¬(3:Int)∣f t->v=2\/v=3->(3:Int)∣dt2 (λk=>if k=0 then f s else g s) (pt4 v)->(3:Int)∣dt2 (λk=>if k=0 then f t else g t) (pt4 v)->(3:Int)∣dv2 f g s t:=λ{s t v} p q o m n=>by
  rw[kC];refine uD (a:=pt4 v) (λz=> ?_) ((gG _ _).mp m) ((gG _ _).mp n);rcases o with rfl|rfl
  .exact aD.one z.1
  .exact aD.one z.1
 rcases two s fs i with a|a<;>rcases two t d j with b|b<;>rcases two u h l with c|c
 .exact .inl (e fs d (.inl rfl) a b)
 .exact .inl (e fs d (.inl rfl) a b)
 .exact .inr (.inl (e fs h (.inl rfl) a c))
 .exact .inr (.inr (e d h (.inr rfl) b c))
 .exact .inr (.inr (e d h (.inl rfl) b c))
 .exact .inr (.inl (e fs h (.inr rfl) a c))
 .exact .inl (e fs d (.inr rfl) a b)
 .exact .inl (e fs d (.inr rfl) a b)
theorem quad(p:Pr Q P)(l:P x)(m:P y)(i:P a)(j:P b)(J:x≠y)(n:x≠a)(o:x≠b)(r:y≠a)(s:y≠b)(k:a≠b)
  (t:Q y a↔¬(3:Int)∣f a) (u:Q y b↔¬(3:Int)∣f b) (v:Q x a↔¬(3:Int)∣g a) (w:Q x b↔¬(3:Int)∣g b) (K:Q a b↔(3:Int)∣dv2 f g a b):
  (¬(3:Int)∣f a/\¬(3:Int)∣g a)/\¬(3:Int)∣f b/\¬(3:Int)∣g b:=by
 by_cases q:Q a b
 .have d:=K.mp q;unfold dv2 at d;have ff:(3:Int)∣f a->(3:Int)∣f b->False:=λc e=>u.mp (p.far m i j r s k λz=>t.mp z c) e;have G:(3:Int)∣g a->(3:Int)∣g b->False:=λc e=>w.mp (p.far l i j n o k λz=>v.mp z c) e;have A:(3:Int)∣f a->(3:Int)∣g a->False:=λc e=>v.mp (p.sy (p.far i m l r.symm n.symm J.symm λz=>t.mp (p.sy z) c)) e;have B:(3:Int)∣f b->(3:Int)∣g b->False:=λc e=>w.mp (p.sy (p.far j m l s.symm o.symm J.symm λz=>u.mp (p.sy z) c)) e;refine#[#[λh=> ?_,λh=> ?_],λh=> ?_,λh=> ?_]
  .have:(3:Int)∣g a*f b:=by have:=LC (KW h:(3:Int)∣f a*g b) d;rw[ML]at this;exact this
   exact ff h (da aD (λz=>A h z) this)
  .have:(3:Int)∣f a*g b:=by have:=Mi d (KW h:(3:Int)∣g a*f b);rw[Mx]at this;exact this
   exact G h (da aD (λz=>A z h) this)
  .have:(3:Int)∣f a*g b:=by have:=Mi d (Kg h:(3:Int)∣g a*f b);rw[Mx]at this;exact this
   exact B h (da aD (λz=>ff z h) this)
  .have:(3:Int)∣g a*f b:=by have:=LC (Kg h:(3:Int)∣f a*g b) d;rw[ML]at this;exact this
   exact B (da aD (λz=>G z h) this) h
 .have H:¬Q b a:=λz=>q (p.sy z);exact#[#[t.mp (p.sy (p.far i j m k r.symm s.symm q)),v.mp (p.sy (p.far i j l k n.symm o.symm q))],u.mp (p.sy (p.far j i m k.symm s.symm r.symm H)),w.mp (p.sy (p.far j i l k.symm o.symm n.symm H))]
theorem k1(p:Pr Q P)(px:P x)(py:P y)(r:P z)(e:P a)(i:P b)(O:[x,y,z,a,b].Nodup)(xy:Q x y)
  (fz:Q y z↔¬(3:Int)∣f z) (gz:Q x z↔¬(3:Int)∣g z) (s:Q z a↔¬(3:Int)∣dv2 f g z a) (t:Q z b↔¬(3:Int)∣dv2 f g z b) (B:¬(3:Int)∣f z) (L:¬(3:Int)∣g z)
  (w:Q y a↔¬(3:Int)∣f a) (A:Q y b↔¬(3:Int)∣f b) (G:Q x a↔¬(3:Int)∣g a) (J:Q x b↔¬(3:Int)∣g b) (j:Q a b↔(3:Int)∣dv2 f g a b):
  ∀u∈[x,y,z,a,b],∀v∈[x,y,z,a,b],u≠v->Q u v:=by
 simp only[Lg,J7,Ki,K0,OL]at O;obtain⟨⟨n1,n2,n3,n4⟩,⟨n5,n6,n7⟩,⟨n,o⟩,c,_⟩:=O;obtain⟨⟨l,H⟩,m,K⟩:=quad p px py e i n1 n3 n4 n6 n7 c w A G J j;have aE:Q a b/\Q z a/\Q z b:=by
  by_cases q:Q a b
  .have d:=j.mp q;have d':(3:Int)∣dv2 f g b a:=by rw[kC]at*;exact(gG _ _).mp d
   have U:¬(3:Int)∣dv2 f g z a:=λh=>by
    have h':(3:Int)∣dv2 f g a z:=by rw[kC]at*;exact(gG _ _).mp h
    have h2:=vg l h' d;exact t.mp (p.far r e i n o c λk=>s.mp k h) h2
   have aA:¬(3:Int)∣dv2 f g z b:=λh=>by
    have h':(3:Int)∣dv2 f g b z:=by rw[kC]at*;exact(gG _ _).mp h
    exact U (vg m h' d')
   exact#[q,s.mpr U,t.mpr aA]
  .exfalso;have d:¬(3:Int)∣dv2 f g a b:=λh=>q (j.mpr h);rcases sQ B L l H m K with h|h|h
   .exact s.mp (p.sy (p.far e i r c (Mo n) (Mo o) q)) h
   .exact t.mp (p.sy (p.far i e r (Mo c) (Mo o) (Mo n) λk=>q (p.sy k))) h
   .exact d h
 have c1:=fz.mpr B;have c2:=gz.mpr L;have c3:=w.mpr l;have c4:=A.mpr m;have c5:=G.mpr H;have c6:=J.mpr K;obtain⟨c7,c8,c9⟩:=aE;intro u M v N ne;simp only[J7,Ki,K0]at M N;rcases M with rfl|rfl|rfl|rfl|rfl<;>rcases N with rfl|rfl|rfl|rfl|rfl<;>first|exact absurd rfl ne|assumption|(apply p.sy;assumption)
end Bh
namespace Bh
structure Tri(T:Nat->Nat->Nat->Prop):Prop where
 s1:∀ {u v w},T u v w->T v u w
 s2:∀ {u v w},T u v w->T u w v
 far:∀ {u v w z},[u,v,w,z].Nodup/\(∀t∈[u,v,w,z],t<7)->¬T u v w->T u v z
def Five(T:Nat->Nat->Nat->Prop):Prop:=∃e l,(e::l).Nodup/\l.length=5/\(∀t∈e::l,t<7)/\∀u∈l,∀v∈l,u≠v->T e u v
def E1(T:Nat->Nat->Nat->Prop):Prop:=∀u,u<7->∀v,v<7->u≠v->∃c,c<7/\c≠u/\c≠v/\¬T u v c
section
variable{T:Nat->Nat->Nat->Prop}(t:Tri T)
include t
theorem Tri.off(n:¬T i j k)(z:Nat)(h:[i,j,k,z].Nodup/\(∀t∈[i,j,k,z],t<7)):T i j z/\T i k z/\T j k z:=by have e:∀l:List Nat,l.Perm [i,j,k,z]->l.Nodup/\(∀t∈l,t<7):=λl p=>#[p.nodup_iff.mpr h.1,λt a=>h.2 t (p.mem_iff.mp a)];refine#[t.far h n,t.far (e [i,k,j,z] (.cons _ (.swap _ _ _))) λq=>n (t.s2 q),t.far (e [j,k,i,z] ?_) λq=>n (t.s1 (t.s2 q))];exact((List.Perm.swap _ _ _).cons _).trans (.swap _ _ _)
theorem kB(e a b c d f:Nat)(h:[e,a,b,c,d,f].Nodup/\(∀t∈[e,a,b,c,d,f],t<7))(k:T e a b)(l:T e a c)(m:T e a d)(n:T e a f)(o:T e b c)(p:T e b d)(q:T e b f)(r:T e c d)(s:T e c f)(j:T e d f):Five T:=by refine#[e,[a,b,c,d,f],h.1,rfl,h.2,λu g v i ne=> ?_];simp only[J7,Ki,K0]at g i;rcases g with rfl|rfl|rfl|rfl|rfl<;>rcases i with rfl|rfl|rfl|rfl|rfl<;>first|exact absurd rfl ne|assumption|exact t.s2 (by assumption)
theorem EJ(L1:¬T 1 2 3)(L2:¬T 0 2 4)(L3:¬T 0 1 6)(B:T 0 1 5)(G:T 0 2 5)(H:T 1 2 5)(par:(T 3 4 6↔T 0 3 5)↔(T 1 4 5↔T 2 5 6)):Five T\/E1 T:=by
 have J:T 0 3 5->T 2 5 6->T 3 5 6->Five T\/E1 T:=λb a g=> .inl (kB t 5 0 1 2 3 6 ∅ (t.s1 (t.s2 B)) (t.s1 (t.s2 G)) (t.s1 (t.s2 b)) (t.s1 (t.s2 (t.off L3 5 ∅).2.1)) (t.s1 (t.s2 H)) (t.s1 (t.s2 (t.off L1 5 ∅).2.1)) (t.s1 (t.s2 (t.off L3 5 ∅).2.2)) (t.s1 (t.s2 (t.off L1 5 ∅).2.2)) (t.s1 a) (t.s1 g));have K:T 1 4 5->T 2 5 6->T 4 5 6->Five T\/E1 T:=λd a p=> .inl (kB t 5 0 1 2 4 6 ∅ (t.s1 (t.s2 B)) (t.s1 (t.s2 G)) (t.s1 (t.s2 (t.off L2 5 ∅).2.1)) (t.s1 (t.s2 (t.off L3 5 ∅).2.1)) (t.s1 (t.s2 H)) (t.s1 (t.s2 d)) (t.s1 (t.s2 (t.off L3 5 ∅).2.2)) (t.s1 (t.s2 (t.off L2 5 ∅).2.2)) (t.s1 a) (t.s1 p));by_cases f:T 3 4 6
 .by_cases b:T 0 3 5
  .by_cases d:T 1 4 5
   .have a:T 2 5 6:=by simpa [f,b,d]using par
    by_cases g:T 3 5 6
    .exact J b a g
    .exact K d a (t.s1 (t.s2 (t.off g 4 ∅).2.2))
   .have a:¬T 2 5 6:=by simpa [f,b,d]using par
    have r:T 3 4 5:=t.s1 (t.s2 (t.off d 3 ∅).2.2);have g:T 3 5 6:=t.s1 (t.s2 (t.off a 3 ∅).2.2);exact .inl (kB t 3 1 0 4 5 6 ∅ (t.s1 (t.s2 (t.s1 (t.s1 (t.s2 (t.off L1 0 ∅).2.1))))) (t.s1 (t.off L1 4 ∅).2.1) (t.s1 (t.off L1 5 ∅).2.1) (t.s1 (t.off L1 6 ∅).2.1) (t.s1 (t.s2 (t.off L2 3 ∅).2.1)) (t.s1 b) (t.s1 (t.s2 (t.off L3 3 ∅).2.1)) r f g)
  .by_cases d:T 1 4 5
   .have a:¬T 2 5 6:=by simpa [f,b,d]using par
    have r:T 3 4 5:=t.s2 (t.off b 4 ∅).2.2;have p:T 4 5 6:=t.s1 (t.s2 (t.off a 4 ∅).2.2);exact .inl (kB t 4 0 1 3 5 6 ∅ (t.s1 (t.s2 (t.s2 (t.off L2 1 ∅).2.1))) (t.s1 (t.s2 (t.s2 (t.off L2 3 ∅).2.1))) (t.s1 (t.off L2 5 ∅).2.1) (t.s1 (t.off L2 6 ∅).2.1) (t.s1 (t.s2 (t.off L1 4 ∅).2.1)) (t.s1 d) (t.s1 (t.s2 (t.off L3 4 ∅).2.2)) (t.s1 r) (t.s1 f) p)
   .have a:T 2 5 6:=by simpa [f,b,d]using par
    have g:T 3 5 6:=(t.off b 6 ∅).2.2;have p:T 4 5 6:=(t.off d 6 ∅).2.2;exact .inl (kB t 6 0 2 3 4 5 ∅ (t.s1 (t.s2 (t.off L2 6 ∅).1)) (t.s1 (t.s2 (t.s2 (t.off L3 3 ∅).2.1))) (t.s1 (t.s2 (t.off L2 6 ∅).2.1)) (t.s1 (t.s2 (t.s2 (t.off L3 5 ∅).2.1))) (t.s1 (t.s2 (t.off L1 6 ∅).2.2)) (t.s1 (t.s2 (t.off L2 6 ∅).2.2)) (t.s1 (t.s2 a)) (t.s1 (t.s2 f)) (t.s1 (t.s2 g)) (t.s1 (t.s2 p)))
 .have g:T 3 5 6:=t.s2 (t.off f 5 ∅).2.1;have p:T 4 5 6:=t.s2 (t.off f 5 ∅).2.2;have r:T 3 4 5:=(t.off f 5 ∅).1;by_cases a:T 2 5 6
  .by_cases b:T 0 3 5
   .exact J b a g
   .exact K (by simpa [f,b,a]using par) a p
  .by_cases b:T 0 3 5
   .have d:T 1 4 5:=by simpa [f,b,a]using par
    exact .inl (kB t 5 0 1 2 3 4 ∅ (t.s1 (t.s2 B)) (t.s1 (t.s2 G)) (t.s1 (t.s2 b)) (t.s1 (t.s2 (t.off L2 5 ∅).2.1)) (t.s1 (t.s2 H)) (t.s1 (t.s2 (t.off L1 5 ∅).2.1)) (t.s1 (t.s2 d)) (t.s1 (t.s2 (t.off L1 5 ∅).2.2)) (t.s1 (t.s2 (t.off L2 5 ∅).2.2)) (t.s1 (t.s2 r)))
   .have d:¬T 1 4 5:=by simpa [f,b,a]using par
    refine .inr λu y v A ne=> ?_;have q:∀ {i j k:Nat},¬T i j k->[i,j,k].Nodup/\i<7/\j<7/\k<7->∀ {u v},u∈[i,j,k]->v∈[i,j,k]->u≠v->∃c,c<7/\c≠u/\c≠v/\¬T u v c:=λ{i j k} n h {u v} y A ne=>by
     obtain⟨M,m,o,L⟩:=h;simp only[Lg,J7,Ki,K0,OL]at M;obtain⟨⟨s,w⟩,x,_⟩:=M;simp only[J7,Ki,K0]at y A;rcases y with rfl|rfl|rfl<;>rcases A with rfl|rfl|rfl
     .exact absurd rfl ne
     .exact#[k,L,λe=>w e.symm,λe=>x e.symm,n]
     .exact#[j,o,λe=>s e.symm,x,λz=>n (t.s2 z)]
     .exact#[k,L,λe=>x e.symm,λe=>w e.symm,λz=>n (t.s1 z)]
     .exact absurd rfl ne
     .exact#[i,m,s,w,λz=>n (t.s1 (t.s2 z))]
     .exact#[j,o,x,λe=>s e.symm,λz=>n (t.s2 (t.s1 z))]
     .exact#[i,m,w,s,λz=>n (t.s1 (t.s2 (t.s1 z)))]
     .exact absurd rfl ne
    have pick:∀u,u<7->∀v,v<7->∃l∈[[1,2,3],[0,2,4],[0,1,6],[3,4,6],[0,3,5],[1,4,5],[2,5,6]],u∈l/\v∈l:=∅
    obtain⟨l,hl,m,o⟩:=pick u y v A;simp only[J7,Ki,K0]at hl;rcases hl with rfl|rfl|rfl|rfl|rfl|rfl|rfl
    .exact q L1 ∅ m o ne
    .exact q L2 ∅ m o ne
    .exact q L3 ∅ m o ne
    .exact q f ∅ m o ne
    .exact q b ∅ m o ne
    .exact q d ∅ m o ne
    .exact q a ∅ m o ne
end
end Bh
namespace Bh
theorem i9{S:Nat}(f:S<256)(h:sz S=3):∃a b c,a≠b/\a≠c/\b≠c/\∀t,S.testBit t=true↔t=a\/t=b\/t=c:=by
 obtain⟨a,d⟩:=ir (S:=S) ();have l:=cz S f a (aW (n:=8) f d) d;obtain⟨b,c,j,g,i,e⟩:=lE (n:=8) (Kk _) ((bq d).lt (n:=8) f) (by lia:sz (S^^^2^a)=2);rw[br d,Kn,Lr,MO]at g i;refine#[a,b,c,g.2,i.2,j,λt=>#[λk=> ?_,?_]]
 .by_cases q:t=a
  .exact .inl q
  .have:(S^^^2^a).testBit t=true:=by rw[br d,k];have:¬a=t:=λz=>q z.symm;simp[this]
   rw[e,aV,KH,Kt,Kf,Kf]at this;exact .inr (this.imp Eq.symm Eq.symm)
 .rintro(rfl|rfl|rfl)
  .exact d
  .exact g.1
  .exact i.1
theorem zh{E R W:Nat}{l:List Nat}(m:E<256)(o:Sub W E)(zW:sz W+3=R)(r:l.Nodup)(q:l.length=5)(hl:∀t∈l,E.testBit t=true/\W.testBit t=false)(p:∀u∈l,∀v∈l,∀w∈l,u≠v->u≠w->v≠w->β (ov W [u,v,w])):eO E R β 5 3:=by
 have l8:∀t∈l,t<8:=λt d=>aW (n:=8) m (hl t d).1;refine#[W,bR l,o,λt d=>(hl t ((bx l t).mp d)).1,λt d=>(hl t ((bx l t).mp d)).2,by rw[iG r l8,q],zW,λs f x=> ?_];obtain⟨a,b,c,g,j,k,e⟩:=i9 (f.lt (n:=8) (AJ l8)) x;have i:=λ{t} (h:s.testBit t=true)=>(bx l t).mp (f t h);have:=p a (i ((e a).mpr (.inl rfl))) b (i ((e b).mpr (.inr (.inl rfl)))) c (i ((e c).mpr (.inr (.inr rfl)))) g j k
 rwa [show W|||s=ov W [a,b,c]from dq λt=>by rw[bO,Kl,KH,e t];simp only[J7,Ki,K0]]
theorem AQ{E R W e:Nat}{l:List Nat}(c:E<256)(d:Sub W E)(zW:sz W+3=R)(k:(e::l).Nodup)(j:l.length=5)(hl:∀t∈e::l,E.testBit t=true/\W.testBit t=false)(g:∀u∈l,∀v∈l,u≠v->β (ov W [e,u,v])):eO E R β 5 2:=by
 have f:=Lg.mp k;have z:=oC (l:=[e]) c d (by simp) (λt b=>hl t (by simp at b;simp[b]));have m:sz (ov W [e])=sz W+1:=z;refine sO (W:=ov W [e]) (l:=l) c (nQ d λt b=>(hl t (by simp at b;simp[b])).1) () f.2 j (λt b=>#[(hl t (Ke _ b)).1,?_]) λu h v i ne=> ?_
 .rw[<-Mc,bO,(hl t (Ke _ b)).2];rintro(q|q)
  .cases q
  .have:t=e:=by simpa using q
   exact f.1 (this▸b)
 .have:=g u h v i ne
  rwa [show ov W [e]||| (2^u|||2^v)=ov W [e,u,v]from dq λt=>by rw[bO,Kl,KH,bO,aV,KH,Kt,Kf,Kf];simp only[J7,Ki,K0,O6,Ng (a:=t)]]
theorem va{E R W u v w z:Nat}(B:E<256)(F:gW E R β)(i:Sub W E)(zW:sz W+3=R)(o:[u,v,w,z].Nodup)(hl:∀t∈[u,v,w,z],E.testBit t=true/\W.testBit t=false)(n:¬β (ov W [u,v,w])):β (ov W [u,v,z]):=Kr λG=>by
 have d:∀l:List Nat,l.Nodup->(∀t∈l,t∈[u,v,w,z])->Sub (ov W l) E/\sz (ov W l)=sz W+l.length:=λl A h=>#[nQ i λt c=>(hl t (h t c)).1,oC B i A λt c=>hl t (h t c)];simp only[Lg,J7,Ki,K0,OL]at o;obtain⟨⟨b,f,s⟩,⟨g,x⟩,y,_⟩:=o;have p:=d [u,v,w] (by simp[b,f,g]) (by simp);have r:=d [u,v,z] (by simp[b,s,x]) (by simp);have H:=d [u,v] (by simp[b]) (by simp);have:=F _ _ p.1 r.1 (by rw[p.2];exact zW) (by rw[r.2];exact zW) n G λe=>by
  have:(ov W [u,v,w]).testBit w=true:=bO.mpr (.inr (by simp));rw[e,bO,(hl w (by simp)).2]at this;simp[y,Ng (a:=w)]at this;rcases this with q|q
  .exact f q
  .exact g q
 have m:sz (ov W [u,v])<=sz (ov W [u,v,w]&&&ov W [u,v,z]):=fL λk _ j=>by
  rw[KQ,Kn,bO,bO];rw[bO]at j;rcases j with q|q
  .exact#[.inl q, .inl q]
  .simp only[J7,Ki,K0]at q;rcases q with rfl|rfl<;>simp
 have l2:[u,v].length=2:=rfl;rw[H.2,l2]at m;lia
end Bh
namespace Bh
structure Rows(R i j k:Nat)(I:List Nat):Prop where
 hi:i<R
 hj:j<R
 hk:k<R
 ij:i≠j
 ik:i≠k
 jk:j≠k
 h:∀r,r∈I↔r=i\/r=j\/r=k
 nd:I.Nodup
 ll:I.length=3
theorem Rows.r1(r:Rows R i j k I):Rows R j i k I:=#[r.hj,r.hi,r.hk,r.ij.symm,r.jk,r.ik,λx=>(r.h x).trans #[λz=>(),λz=>()],r.nd,r.ll]
theorem Rows.r2(r:Rows R i j k I):Rows R i k j I:=#[r.hi,r.hk,r.hj,r.ik,r.ij,r.jk.symm,λx=>(r.h x).trans #[λz=>(),λz=>()],r.nd,r.ll]
theorem Rows.lt(r:Rows R i j k I):∀x∈I,x<R:=λx a=>by
 rcases(r.h x).mp a with rfl|rfl|rfl
 .exact r.hi
 .exact r.hj
 .exact r.hk
section
variable{E R a b B:Nat}{β:Nat->Prop}{κ:Nat->Nat->Int}(A:Ab E R a b B β κ){i j k:Nat}{I:List Nat}(r:Rows R i j k I)
include A r
theorem Ab.zW:sz (WI B I)+3=R:=by have:=A.WI_sz r.nd r.lt;rw[r.ll]at this;exact this
theorem Ab.pB:E.testBit (bAt B i)=true/\(WI B I).testBit (bAt B i)=false:=by refine#[A.hB _ (A.bt r.hi),?_];rw[<-Mc,gU];exact λz=>z.2 i ((r.h i).mpr (.inl rfl)) rfl
omit r in
theorem Ab.pN{t:Nat}(d:E.testBit t=true)(c:B.testBit t=false)(I:List Nat):E.testBit t=true/\(WI B I).testBit t=false:=by refine#[d,?_];rw[<-Mc,gU,c];exact λz=>by cases z.1
omit r in
theorem Ab.nB{t:Nat}(c:B.testBit t=false)(d:i<R):bAt B i≠t:=λe=>by have:=A.bt d;rw[e,c]at this;cases this
theorem Ab.hh:∀x,x∈I↔x=k\/x∈[i,j]:=λx=>by rw[r.h];simp only[J7,Ki,K0];lia
theorem Ab.two(d:E.testBit s=true)(h:B.testBit s=false)(f:E.testBit t=true)(tB:B.testBit t=false)(st:s≠t)(g:¬((a=s\/a=t)/\(b=s\/b=t))):β (ov (WI B I) [bAt B k,s,t])↔¬(3:Int)∣dt κ i j s t:=by
 have e:=A.row (T:=[s,t]) r.hk (J:=[i,j]) (by simp[r.hi,r.hj]) (A.hh r) (by simp[r.ik.symm,r.jk.symm]);rw[e,A.agree (I:=[i,j]) (T:=[s,t]) (by simp[r.ij]) (by simp[r.hi,r.hj]) (by simp[st]) rfl (λx c=> ?_) (by simpa using g)]
 .exact E3 r.ij
 .simp only[J7,Ki,K0]at c;rcases c with rfl|rfl
  .exact A.pN d h _
  .exact A.pN f tB _
theorem Ab.ent(h:E.testBit t=true)(tB:B.testBit t=false)(c:a≠b):β (ov (WI B I) [bAt B k,bAt B j,t])↔¬(3:Int)∣κ t i:=by
 have e:=A.row (T:=[bAt B j,t]) r.hk (J:=[i,j]) (by simp[r.hi,r.hj]) (A.hh r) (by simp[r.ik.symm,r.jk.symm]);have d:=A.row (T:=[t]) r.hj (J:=[i]) (I:=[i,j]) (by simp[r.hi]) (λx=>by simp[or_comm]) (by simp[r.ij.symm]);rw[e,d,A.agree (I:=[i]) (T:=[t]) (by simp) (by simp[r.hi]) (by simp) rfl (λx l=> ?_) (λz=> ?_)]
 .exact IV
 .have:x=t:=by simpa using l
  exact this▸A.pN h tB _
 .have f:a=t:=by simpa using z.1
  have g:b=t:=by simpa using z.2
  exact c (f.trans g.symm)
theorem Ab.full:β (ov (WI B I) [bAt B k,bAt B i,bAt B j]):=by have e:=A.row (T:=[bAt B i,bAt B j]) r.hk (J:=[i,j]) (by simp[r.hi,r.hj]) (A.hh r) (by simp[r.ik.symm,r.jk.symm]);have d:=A.row (T:=[bAt B j]) r.hi (J:=[j]) (I:=[i,j]) (by simp[r.hj]) (λx=>by simp) (by simp[r.ij]);have f:=A.row (T:=[]) r.hj (J:=[]) (I:=[j]) (by simp) (λx=>by simp) (by simp);rw[e,d,f,A.agree (I:=[]) (T:=[]) (by simp) (by simp) (by simp) rfl (by simp) (by simp)];exact λg _ c h=>absurd h (by simp)
theorem Ab.pr:Pr (λu v=>β (ov (WI B I) [bAt B k,u,v])) λt=>(E.testBit t=true/\(WI B I).testBit t=false)/\t≠bAt B k:=by
 refine#[λ{u v} h=> ?_,λ{u v w} d e f g l vw n=> ?_]
 .rw[uE (m:=[bAt B k,v,u]) λt=>by simp only[J7,Ki,K0];lia]at h;exact h
 .refine va (w:=v) A.hE A.far (A.WI_sub I) (A.zW r) ?_ (λt c=> ?_) n
  .simp[g,l,vw,d.2.symm,e.2.symm,f.2.symm]
  .simp only[J7,Ki,K0]at c;rcases c with rfl|rfl|rfl|rfl
   .exact A.pB r.r2.r1
   .exact d.1
   .exact e.1
   .exact f.1
theorem Ab.quad(c:a≠b)(d:E.testBit a=true)(e:E.testBit b=true)(h:β (ov (WI B I) [bAt B k,a,b])↔(3:Int)∣dt κ i j a b):(¬(3:Int)∣κ a i/\¬(3:Int)∣κ a j)/\¬(3:Int)∣κ b i/\¬(3:Int)∣κ b j:=
 Bh.quad (x:=bAt B i) (y:=bAt B j) (f:=λt=>κ t i) (g:=λt=>κ t j) (A.pr r) #[A.pB r,A.bne r.hi r.hk r.ik] #[A.pB r.r1,A.bne r.hj r.hk r.jk] #[A.pN d A.aB _,(A.nB A.aB r.hk).symm] #[A.pN e A.bB _,(A.nB A.bB r.hk).symm] (A.bne r.hi r.hj r.ij) (A.nB A.aB r.hi) (A.nB A.bB r.hi) (A.nB A.aB r.hj) (A.nB A.bB r.hj) c
  (A.ent r d A.aB c) (A.ent r e A.bB c) (A.ent r.r1 d A.aB c) (A.ent r.r1 e A.bB c) h
theorem Ab.core1(d:a≠b)(l:E.testBit a=true)(m:E.testBit b=true)(s:β (ov (WI B I) [bAt B k,a,b])↔(3:Int)∣dt κ i j a b)(h:E.testBit z=true)(c:B.testBit z=false)(n:z≠a)(o:z≠b)(u:¬(3:Int)∣κ z i)(v:¬(3:Int)∣κ z j):eO E R β 5 2:=by
 have q:[bAt B i,bAt B j,z,a,b].Nodup:=by simp[A.bne r.hi r.hj r.ij,A.nB A.aB r.hi,A.nB A.bB r.hi,A.nB A.aB r.hj,A.nB A.bB r.hj,A.nB c r.hi,A.nB c r.hj,d,n,o]
 have:=k1 (x:=bAt B i) (y:=bAt B j) (f:=λt=>κ t i) (g:=λt=>κ t j) (A.pr r) #[A.pB r,A.bne r.hi r.hk r.ik] #[A.pB r.r1,A.bne r.hj r.hk r.jk] #[A.pN h c _,(A.nB c r.hk).symm] #[A.pN l A.aB _,(A.nB A.aB r.hk).symm] #[A.pN m A.bB _,(A.nB A.bB r.hk).symm] q (A.full r)
  (A.ent r h c d) (A.ent r.r1 h c d) (A.two r h c l A.aB n (by simp[o.symm,d.symm])) (A.two r h c m A.bB o (by simp[n.symm,d])) u v (A.ent r l A.aB d) (A.ent r m A.bB d) (A.ent r.r1 l A.aB d) (A.ent r.r1 m A.bB d) s
 refine AQ (e:=bAt B k) (W:=WI B I) A.hE (A.WI_sub I) (A.zW r) (Lg.mpr #[?_,q]) rfl (λt p=> ?_) this
 .simp[A.bne r.hk r.hi r.ik.symm,A.bne r.hk r.hj r.jk.symm,A.nB c r.hk,A.nB A.aB r.hk,A.nB A.bB r.hk]
 .simp only[J7,Ki,K0]at p;rcases p with rfl|rfl|rfl|rfl|rfl|rfl
  .exact A.pB r.r2.r1
  .exact A.pB r
  .exact A.pB r.r1
  .exact A.pN h c _
  .exact A.pN l A.aB _
  .exact A.pN m A.bB _
end
end Bh
namespace Bh
theorem Jo(h:v=0\/Pm v)(n:¬(3:Int)∣v):Pm v:=h.resolve_left λe=>n (e▸KY _)
theorem yA(e:Pm u)(f:Pm v)(a:Pm c)(b:Pm d):(3:Int)∣u*v-c*d↔u*c*(d*v)=1:=by rcases e with rfl|rfl<;>rcases f with rfl|rfl<;>rcases a with rfl|rfl<;>rcases b with rfl|rfl<;>decide
theorem HN(e:Pm u)(f:Pm v)(a:Pm c)(b:Pm d):(3:Int)∣u*v+c*d↔u*c*(d*v)= -1:=by rcases e with rfl|rfl<;>rcases f with rfl|rfl<;>rcases a with rfl|rfl<;>rcases b with rfl|rfl<;>decide
theorem HJ(a:Pm P)(b:Pm Q)(c:Pm S)(d:Pm x)(e:Pm y)(f:Pm z):(¬Q*P*S= -1↔¬P*(y*z)=1)↔(¬Q*(x*z)=1↔x*y*S=1):=by rcases a with rfl|rfl<;>rcases b with rfl|rfl<;>rcases c with rfl|rfl<;>rcases d with rfl|rfl<;>rcases e with rfl|rfl<;>rcases f with rfl|rfl<;>decide
theorem E4{κ:Nat->Nat->Int}{i j k p q b:Nat}(ij:i≠j)(K:i≠k)(L:j≠k)(p0:κ p i=0)(Q:κ q j=0)(z:κ b k=0)(N:Pm (κ p j))(O:Pm (κ p k))(U:Pm (κ q i))(qk:Pm (κ q k))(bi:Pm (κ b i))(bj:Pm (κ b j)):
  LI 3 ([p,q,b].map λt i=>κ t i) [i,j,k]↔¬(3:Int)∣κ q i*κ q k*κ b i+κ p j*κ p k*κ b j:=by
 have f:∀ (g:Nat->Int) (u:Nat),sL [i,j,k] (λx=>g x*κ u x)=g i*κ u i+g j*κ u j+g k*κ u k:=λg u=>by show g i*κ u i+(g j*κ u j+(g k*κ u k+0))=_;lia
 constructor
 .intro li d;have:=li (λx=>if x=i then- (κ q i*κ q k)else if x=j then- (κ p j*κ p k)else 1) (λx r=>by
   obtain⟨u,J,rfl⟩:=Ka.mp r;rw[f,J5 rfl,J4 ij.symm,J5 rfl,J4 K.symm,J4 L.symm];simp only[J7,Ki,K0]at J;rcases J with rfl|rfl|rfl
   .rw[p0,Ms];rcases N with e|e<;>rcases O with a|a<;>rw[e,a]<;>decide
   .rw[Q,Ms];rcases U with e|e<;>rcases qk with a|a<;>rw[e,a]<;>decide
   .rw[z,LU,LU];lia) k (by simp)
  rw[J4 K.symm,J4 L.symm]at this;exact aD.one this
 .intro d g o;have m:(3:Int)∣g i*κ p i+g j*κ p j+g k*κ p k:=f g p▸o _ (Ka.mpr #[p,by simp,rfl]);have n:(3:Int)∣g i*κ q i+g j*κ q j+g k*κ q k:=f g q▸o _ (Ka.mpr #[q,by simp,rfl]);have G:(3:Int)∣g i*κ b i+g j*κ b j+g k*κ b k:=f g b▸o _ (Ka.mpr #[b,by simp,rfl]);rw[p0]at m;rw[Q]at n;rw[z]at G;have M:∀ {u v x y:Int},Pm x->Pm y->(3:Int)∣u*x+v*y->(3:Int)∣u+x*y*v:=λ{u v x y} r hy h=>by rcases r with rfl|rfl<;>rcases hy with rfl|rfl<;>lia
  have s:=M N O (by rw[Ms,Lk]at m;exact m);have w:=M U qk (by rw[Ms,MI]at n;exact n);have a3:(3:Int)∣(κ q i*κ q k*κ b i+κ p j*κ p k*κ b j)*g k:=by have:=LC (Mi (KW w:(3:Int)∣_*κ b i) (KW s:(3:Int)∣_*κ b j)) G;rw[O3,O3,Ms,Int.mul_right_comm _ (g k),Int.mul_right_comm _ (g k)]at this;rw[O3];lia
  have l:=da aD d a3;have all:(3:Int)∣g i/\(3:Int)∣g j/\(3:Int)∣g k:=by have A:=LC s (Kg l:(3:Int)∣κ p j*κ p k*g k);have B:=LC w (Kg l:(3:Int)∣κ q i*κ q k*g k);rw[Ot]at A B;exact#[B,A,l]
  intro c H;simp only[J7,Ki,K0]at H;rcases H with rfl|rfl|rfl
  .exact all.1
  .exact all.2.1
  .exact all.2.2
end Bh
namespace Bh
theorem mn(W u v w:Nat):ov W [u,v,w]=ov W [v,u,w]:=uE λt=>by simp only[J7,Ki,K0];lia
theorem mm(W u v w:Nat):ov W [u,v,w]=ov W [u,w,v]:=uE λt=>by simp only[J7,Ki,K0];lia
theorem Gq(κ:Nat->Nat->Int)(i j a b:Nat):dt κ i j a b=dv2 (κ a) (κ b) i j:=by unfold dt dv2;rw[KG (κ a j)]
theorem Fg{T:Nat->Nat->Nat->Prop}(c:∀ {u v w},T u v w->T v u w)(d:∀ {u v w},T u v w->T u w v){x y z a b:Nat}(k:T z x y)(l:T x y a)(m:T x y b)(n:T z x a)(o:T z x b)(p:T z y a)(q:T z y b)(r:T x a b)(s:T y a b)(j:T z a b):
  ∀u∈[x,y,z,a,b],∀v∈[x,y,z,a,b],∀w∈[x,y,z,a,b],u≠v->u≠w->v≠w->T u v w:=λu e v f w g h i vw=>by
 simp only[J7,Ki,K0]at e f g;rcases e with rfl|rfl|rfl|rfl|rfl<;>rcases f with rfl|rfl|rfl|rfl|rfl<;>first|exact absurd rfl h|(rcases g with rfl|rfl|rfl|rfl|rfl<;>first|exact absurd rfl i|exact absurd rfl vw|assumption|(apply c;assumption)|(apply d;assumption)|(apply c;apply d;assumption)|(apply d;apply c;assumption)|(apply c;apply d;apply c;assumption))
section
variable{E R a b B:Nat}{β:Nat->Prop}{κ:Nat->Nat->Int}(A:Ab E R a b B β κ){i j k:Nat}{I:List Nat}(r:Rows R i j k I)
include A r
theorem Ab.farT{u v w z:Nat}(c:[u,v,w,z].Nodup)(hl:∀t∈[u,v,w,z],E.testBit t=true/\(WI B I).testBit t=false)(n:¬β (ov (WI B I) [u,v,w])):β (ov (WI B I) [u,v,z]):=va A.hE A.far (A.WI_sub I) (A.zW r) c hl n
theorem Ab.abx(e:a≠b)(d:E.testBit a=true)(f:E.testBit b=true):(β (ov (WI B I) [bAt B i,a,b])\/β (ov (WI B I) [bAt B j,a,b])):=by
 by_cases h:β (ov (WI B I) [bAt B i,a,b])
 .exact .inl h
 .right
  rw[mn,mm]at h;rw[mn,mm];refine A.farT r ?_ (λt c=> ?_) h
  .simp[e,(A.nB A.aB r.hi).symm,(A.nB A.aB r.hj).symm,(A.nB A.bB r.hi).symm,(A.nB A.bB r.hj).symm,A.bne r.hi r.hj r.ij]
  .simp only[J7,Ki,K0]at c;rcases c with rfl|rfl|rfl|rfl
   .exact A.pN d A.aB _
   .exact A.pN f A.bB _
   .exact A.pB r
   .exact A.pB r.r1
theorem Ab.core3(c:a≠b)(e:E.testBit a=true)(f:E.testBit b=true)(g:β (ov (WI B I) [bAt B k,a,b])↔(3:Int)∣dt κ i j a b)
  (m:β (ov (WI B I) [bAt B j,a,b])↔¬(3:Int)∣dt κ i k a b) (n:β (ov (WI B I) [bAt B i,a,b])↔¬(3:Int)∣dt κ j k a b) (s:¬(3:Int)∣κ a k) (bk:¬(3:Int)∣κ b k):eO E R β 5 3:=by
 obtain⟨⟨o,p⟩,x,y⟩:=A.quad r c e f g;rw[Gq]at g m n;have t1:=A.abx r c e f;have t2:=A.abx r.r2 c e f;have t3:=A.abx r.r1.r2 c e f;have all:β (ov (WI B I) [bAt B i,a,b])/\β (ov (WI B I) [bAt B j,a,b])/\β (ov (WI B I) [bAt B k,a,b]):=by
  by_cases q:β (ov (WI B I) [bAt B k,a,b])
  .have d:=g.mp q;rcases t1 with h|h
   .refine#[h,m.mpr λz=>n.mp h (vg o d z),q]
   .refine#[n.mpr λz=>m.mp h ?_,h,q];have d':(3:Int)∣dv2 (κ a) (κ b) j i:=by rw[kC]at*;exact(gG _ _).mp d
    exact vg p d' z
  .have Q:=t2.resolve_right q;have U:=t3.resolve_right q;exfalso;rcases sQ o x p y s bk with h|h|h
   .exact q (g.mpr h)
   .exact m.mp U h
   .exact n.mp Q h
 obtain⟨u1,u2,u3⟩:=all;have H:=(A.ent r e A.aB c).mpr o;have J:=(A.ent r f A.bB c).mpr x;have K:=(A.ent r.r1 e A.aB c).mpr p;have L:=(A.ent r.r1 f A.bB c).mpr y;have M:=(A.ent r.r1.r2.r1 e A.aB c).mpr s;have N:=(A.ent r.r1.r2.r1 f A.bB c).mpr bk;have O:=A.full r;refine zh (W:=WI B I) (l:=[bAt B i,bAt B j,bAt B k,a,b]) A.hE (A.WI_sub I) (A.zW r) ?_ rfl (λt G=> ?_) λu hu v hv w hw uv uw vw=> ?_
 .simp[c,A.nB A.aB r.hi,A.nB A.aB r.hj,A.nB A.bB r.hi,A.nB A.bB r.hj,A.nB A.aB r.hk,A.nB A.bB r.hk,A.bne r.hi r.hj r.ij,A.bne r.hi r.hk r.ik,A.bne r.hj r.hk r.jk]
 .simp only[J7,Ki,K0]at G;rcases G with rfl|rfl|rfl|rfl|rfl
  .exact A.pB r
  .exact A.pB r.r1
  .exact A.pB r.r2.r1
  .exact A.pN e A.aB _
  .exact A.pN f A.bB _
 .exact Fg (T:=λu v w=>β (ov (WI B I) [u,v,w])) (λ{u v w} h=>by rw[mn];exact h) (λ{u v w} h=>by rw[mm];exact h) O M N K L H J u1 u2 u3 u hu v hv w hw uv uw vw
end
end Bh
namespace Bh
theorem pD(l:List Nat)(h:m<l.length):l.getD m 0=l[m]:=by rw[Kc,Ky h];rfl
section
variable{E R a b B:Nat}{β:Nat->Prop}{κ:Nat->Nat->Int}(A:Ab E R a b B β κ){i j k:Nat}{I:List Nat}(r:Rows R i j k I)(en:∀t i,κ t i=0\/Pm (κ t i))(ab:a≠b)(aE:E.testBit a=true)(bE:E.testBit b=true)(dis:β (ov (WI B I) [bAt B k,a,b])↔(3:Int)∣dt κ i j a b)
 {p q:Nat} (pE:E.testBit p=true) (pB:B.testBit p=false) (pa:p≠a) (pb:p≠b) (qE:E.testBit q=true) (qB:B.testBit q=false) (qa:q≠a) (qb:q≠b) (pq:p≠q)
include A r en ab aE bE dis pE pB pa pb qE qB qa qb pq
theorem Ab.core4(hp:(3:Int)∣κ p i)(Q:¬(3:Int)∣κ p j)(U:¬(3:Int)∣κ p k)(hq:(3:Int)∣κ q j)(aa:¬(3:Int)∣κ q i)(ag:¬(3:Int)∣κ q k)(K:¬(3:Int)∣κ a k)(bk:(3:Int)∣κ b k):Bad E R β:=by
 obtain⟨⟨H,J⟩,L,M⟩:=A.quad r ab aE bE dis;have z0:∀ {t x},(3:Int)∣κ t x->κ t x=0:=λ{t x} h=>(en t x).resolve_right λz=>by rcases z with e|e<;>rw[e]at h<;>revert h<;>decide
 have d:∀ {t x},¬(3:Int)∣κ t x->Pm (κ t x):=λ{t x} h=>Jo (en t x) h;have nd:[bAt B i,bAt B j,bAt B k,p,q,a,b].Nodup:=by simp[ab,A.nB A.aB r.hi,A.nB A.aB r.hj,A.nB A.bB r.hi,A.nB A.bB r.hj,A.nB A.aB r.hk,A.nB A.bB r.hk,A.bne r.hi r.hj r.ij,A.bne r.hi r.hk r.ik,A.bne r.hj r.hk r.jk,pa,pb,qa,qb,pq,A.nB pB r.hi,A.nB pB r.hj,A.nB pB r.hk,A.nB qB r.hi,A.nB qB r.hj,A.nB qB r.hk]
 have hl:∀t∈[bAt B i,bAt B j,bAt B k,p,q,a,b],E.testBit t=true/\(WI B I).testBit t=false:=λt o=>by
  simp only[J7,Ki,K0]at o;rcases o with rfl|rfl|rfl|rfl|rfl|rfl|rfl
  .exact A.pB r
  .exact A.pB r.r1
  .exact A.pB r.r2.r1
  .exact A.pN pE pB _
  .exact A.pN qE qB _
  .exact A.pN aE A.aB _
  .exact A.pN bE A.bB _
 obtain⟨f,s⟩:∃f:Nat->Nat,f=λm=>[bAt B i,bAt B j,bAt B k,p,q,a,b].getD m 0:=#[_,rfl];have fm:∀m,m<7->f m∈[bAt B i,bAt B j,bAt B k,p,q,a,b]:=λm g=>by rw[s];show List.getD _ m 0∈_;rw[pD _ (by exact g)];exact LD _
 have fi:∀ {m n},m<7->n<7->f m=f n->m=n:=λ{m n} g y e=>by
  rw[s]at e;have e:List.getD _ m 0=List.getD _ n 0:=e;rw[pD _ (by exact g),pD _ (by exact y)]at e;have pw:=List.pairwise_iff_getElem.mp nd;rcases Nat.lt_trichotomy m n with h|h|h
  .exact absurd e (pw m n g y h)
  .exact h
  .exact absurd e.symm (pw n m y g h)
 have fn:∀ {l:List Nat},l.Nodup->(∀t∈l,t<7)->(l.map f).Nodup/\∀t∈l.map f,E.testBit t=true/\(WI B I).testBit t=false:=λ{l} O G=>#[yO O λi hi j hj=>fi (G i hi) (G j hj),λt o=>by obtain⟨m,g,rfl⟩:=Ka.mp o;exact hl _ (fm m (G m g))]
 have t:Tri λu v w=>β (ov (WI B I) [f u,f v,f w]):=#[λ{u v w} h=>by rw[mn];exact h,λ{u v w} h=>by rw[mm];exact h,λ{u v w z} h n=>A.farT r (fn h.1 h.2).1 (fn h.1 h.2).2 n];have f0:f 0=bAt B i:=by rw[s];rfl
 have f1:f 1=bAt B j:=by rw[s];rfl
 have f2:f 2=bAt B k:=by rw[s];rfl
 have f3:f 3=p:=by rw[s];rfl
 have f4:f 4=q:=by rw[s];rfl
 have N:f 5=a:=by rw[s];rfl
 have f6:f 6=b:=by rw[s];rfl
 have:=EJ t (by rw[f1,f2,f3,mn,A.ent r pE pB ab];exact λz=>z hp) (by rw[f0,f2,f4,mn,A.ent r.r1 qE qB ab];exact λz=>z hq) (by rw[f0,f1,f6,A.ent r.r1.r2.r1 bE A.bB ab];exact λz=>z bk)
  (by rw[f0,f1,N,A.ent r.r1.r2.r1 aE A.aB ab];exact K) (by rw[f0,f2,N,mn,A.ent r.r1 aE A.aB ab];exact J) (by rw[f1,f2,N,mn,A.ent r aE A.aB ab];exact H) (by
   rw[f0,f1,f2,f3,f4,N,f6,dis,A.two r.r1.r2 pE pB aE A.aB pa (by simp[pb.symm,ab.symm]),A.two r.r2 qE qB aE A.aB qa (by simp[qb.symm,ab.symm])];have e:WI B I=WI B [i,j,k]:=dq λt=>by rw[gU,gU];exact Oc λ_=>#[λh x hx=>h x ((r.h x).mpr (by simpa using hx)),λh x hx=>h x (by simpa using (r.h x).mp hx)]
   rw[e,A.agree (I:=[i,j,k]) (T:=[p,q,b]) (by simp[r.ij,r.ik,r.jk]) (by simp[r.hi,r.hj,r.hk]) (by simp[pq,pb,qb]) rfl (λt o=> ?_) (by simp[pa.symm,qa.symm,ab]),E4 r.ij r.ik r.jk (z0 hp) (z0 hq) (z0 bk) (d Q) (d U) (d aa) (d ag) (d L) (d M)]
   .unfold dt;rw[HN ((d aa).mul (d ag)) (d L) ((d Q).mul (d U)) (d M),yA (d Q) (d K) (d U) (d J),yA (d aa) (d K) (d ag) (d H),yA (d H) (d M) (d J) (d L)];have:=HJ ((d Q).mul (d U)) ((d aa).mul (d ag)) ((d L).mul (d M)) (d H) (d J) (d K);rw[KG (κ b i)]at this;rw[KG (κ b i)];exact this
   .rw[<-e];simp only[J7,Ki,K0]at o;rcases o with rfl|rfl|rfl
    .exact A.pN pE pB _
    .exact A.pN qE qB _
    .exact A.pN bE A.bB _)
 rcases this with ⟨e,l,O,G,h3,h4⟩|h
 .refine .inl (AQ (e:=f e) (l:=l.map f) A.hE (A.WI_sub I) (A.zW r) (fn O h3).1 (by rw[J2,G]) (fn O h3).2 λu hu v hv ne=> ?_);obtain⟨m,g,rfl⟩:=Ka.mp hu;obtain⟨n,y,rfl⟩:=Ka.mp hv;exact h4 m g n y λq=>ne (by rw[q])
 .refine .inr (.inr (.inl #[WI B I,bR [bAt B i,bAt B j,bAt B k,p,q,a,b],A.WI_sub I,λt o=>(hl t ((bx _ t).mp o)).1,λt o=>(hl t ((bx _ t).mp o)).2,iG nd λt o=>aW (n:=8) A.hE (hl t o).1,A.zW r,λu v hu hv ne=> ?_]));have bN:∀ {u},(bR [bAt B i,bAt B j,bAt B k,p,q,a,b]).testBit u=true->∃m,m<7/\f m=u:=λ{u} h=>by have h:=(bx _ _).mp h;obtain⟨m,g,e⟩:=List.mem_iff_getElem.mp h;refine#[m,g,?_];rw[s,<-e];exact pD _ g
  obtain⟨m,g,rfl⟩:=bN hu;obtain⟨n,y,rfl⟩:=bN hv;obtain⟨c,hc,c1,c2,h5⟩:=h m g n y λq=>ne (by rw[q]);refine#[f c,(bx _ _).mpr (fm c hc),λq=>c1 (fi hc g q),λq=>c2 (fi hc y q),λq=>h5 ?_]
  rwa [show WI B I||| (2^f m|||2^f n|||2^f c)=ov (WI B I) [f m,f n,f c]from dq λt=>by rw[bO,Kl,KH,aV,aV,KH,KH,Kt,Kf,Kf,Kf];simp only[J7,Ki,K0,O6,Ng (a:=t)]]at q
end
end Bh
namespace Bh
section
variable{E R a b B:Nat}{β:Nat->Prop}{κ:Nat->Nat->Int}(A:Ab E R a b B β κ){i j k:Nat}{I:List Nat}(r:Rows R i j k I)
include A r
theorem Ab.zz(d:a≠b)(c:E.testBit t=true)(tB:B.testBit t=false)(h:(3:Int)∣κ t i):¬(3:Int)∣κ t j:=by have P:=A.pr r;refine(A.ent r.r1 c tB d).mp (P.sy (P.far (v:=bAt B j) #[A.pN c tB _,(A.nB tB r.hk).symm] #[A.pB r.r1,A.bne r.hj r.hk r.jk] #[A.pB r,A.bne r.hi r.hk r.ik] (A.nB tB r.hj).symm (A.nB tB r.hi).symm (A.bne r.hj r.hi r.ij.symm) λz=> ?_));exact(A.ent r c tB d).mp (P.sy z) h
theorem Ab.ss(d:a≠b)(e:E.testBit s=true)(c:B.testBit s=false)(f:E.testBit t=true)(tB:B.testBit t=false)(st:s≠t)(h:(3:Int)∣κ s i):¬(3:Int)∣κ t i:=
 (A.ent r f tB d).mp ((A.pr r).far #[A.pB r.r1,A.bne r.hj r.hk r.jk] #[A.pN e c _,(A.nB c r.hk).symm] #[A.pN f tB _,(A.nB tB r.hk).symm] (A.nB c r.hj) (A.nB tB r.hj) st λz=>(A.ent r e c d).mp z h)
variable(en:∀t i,κ t i=0\/Pm (κ t i))(ab:a≠b)(aE:E.testBit a=true)(bE:E.testBit b=true)(dis:β (ov (WI B I) [bAt B k,a,b])↔(3:Int)∣dt κ i j a b)
 {p q:Nat} (pE:E.testBit p=true) (pB:B.testBit p=false) (pa:p≠a) (pb:p≠b) (qE:E.testBit q=true) (qB:B.testBit q=false) (qa:q≠a) (qb:q≠b) (pq:p≠q)
include en ab aE bE dis pE pB pa pb qE qB qa qb pq
theorem Ab.core5(d:(3:Int)∣κ p i)(e:(3:Int)∣κ q j):Bad E R β:=by
 have f:=A.zz r ab pE pB d;have g:=A.zz r.r2 ab pE pB d;have h:=A.zz r.r1 ab qE qB e;have l:=A.zz r.r1.r2 ab qE qB e;by_cases c:(3:Int)∣κ a k
 .have bk:=A.ss r.r1.r2.r1 ab aE A.aB bE A.bB ab c;refine A.swap.core4 r en ab.symm bE aE ?_ pE pB pb pa qE qB qb qa pq d f g e h l bk c;rw[mm,dis];have:dt κ i j b a= -dt κ i j a b:=by unfold dt;rw[KG (κ b i),KG (κ b j)];lia
  rw[this,vf]
 .by_cases bk:(3:Int)∣κ b k
  .exact A.core4 r en ab aE bE dis pE pB pa pb qE qB qa qb pq d f g e h l c bk
  .by_cases m:β (ov (WI B I) [bAt B j,a,b])↔(3:Int)∣dt κ i k a b
   .exact .inl (A.core1 r.r2 ab aE bE m qE qB qa qb h l)
   .by_cases n:β (ov (WI B I) [bAt B i,a,b])↔(3:Int)∣dt κ j k a b
    .exact .inl (A.core1 r.r1.r2 ab aE bE n pE pB pa pb f g)
    .exact .inr (.inl (A.core3 r ab aE bE dis (by
      by_cases o:β (ov (WI B I) [bAt B j,a,b])<;>by_cases s:(3:Int)∣dt κ i k a b<;>simp_all) (by
      by_cases o:β (ov (WI B I) [bAt B i,a,b])<;>by_cases s:(3:Int)∣dt κ j k a b<;>simp_all) c bk))
theorem Ab.core2:Bad E R β:=by
 by_cases p1:(3:Int)∣κ p i
 .by_cases d:(3:Int)∣κ q j
  .exact A.core5 r en ab aE bE dis pE pB pa pb qE qB qa qb pq p1 d
  .exact .inl (A.core1 r ab aE bE dis qE qB qa qb (A.ss r ab pE pB qE qB pq p1) d)
 .by_cases p2:(3:Int)∣κ p j
  .by_cases c:(3:Int)∣κ q i
   .exact A.core5 r en ab aE bE dis qE qB qa qb pE pB pa pb pq.symm c p2
   .exact .inl (A.core1 r ab aE bE dis qE qB qa qb c (A.ss r.r1 ab pE pB qE qB pq p2))
  .exact .inl (A.core1 r ab aE bE dis pE pB pa pb p1 p2)
end
end Bh
namespace Bh
def wJ(v:Int):Int:=if v % 3=0 then 0 else if v % 3=1 then 1 else-1
theorem Fv(v:Int):wJ v=0\/Pm (wJ v):=by
 unfold wJ Pm;split
 .exact .inl rfl
 .split
  .exact .inr (.inl rfl)
  .exact .inr (.inr rfl)
theorem Fw(v:Int):(3:Int)∣v-wJ v:=by
 unfold wJ;split
 .lia
 .split<;>lia
theorem sA{X:Nat}(h:1<=sz X):∃u,X.testBit u=true:=ir ()
theorem sx{X:Nat}(c:X<256)(h:2<=sz X):∃u v,u≠v/\X.testBit u=true/\X.testBit v=true:=by obtain⟨u,a⟩:=sA (X:=X) ();have:=cz X c u (aW (n:=8) c a) a;obtain⟨v,b⟩:=sA (X:=X^^^2^u) ();rw[br a,Kn,Lr,MO]at b;exact#[u,v,b.2,a,b.1]
theorem Jp{X:Nat}(b:X<256)(h:3<=sz X):∃u v w,[u,v,w].Nodup/\X.testBit u=true/\X.testBit v=true/\X.testBit w=true:=by obtain⟨u,a⟩:=sA (X:=X) ();have:=cz X b u (aW (n:=8) b a) a;obtain⟨v,w,vw,c,d⟩:=sx (X:=X^^^2^u) ((bq a).lt (n:=8) b) ();rw[br a,Kn,Lr,MO]at c d;exact#[u,v,w,by simp[c.2,d.2,vw],a,c.1,d.1]
theorem cc{E a b t:Nat}:(au E (bR [a,b])).testBit t=true↔E.testBit t=true/\t≠a/\t≠b:=by rw[aG,Kn,Lr,<-Mc,bx];simp
theorem jX{E a b:Nat}(d:E<256)(e:E.testBit a=true)(f:E.testBit b=true)(g:a≠b):sz (au E (bR [a,b]))+2=sz E:=by
 have h:=bG (S:=bR [a,b]) d λt c=>by
  have:=(bx _ _).mp c;simp only[J7,Ki,K0]at this;rcases this with rfl|rfl
  .exact e
  .exact f
 rw[iG (by simp[g]) (λt c=>by
  simp only[J7,Ki,K0]at c;rcases c with rfl|rfl
  .exact aW (n:=8) d e
  .exact aW (n:=8) d f)]at h
 have l2:[a,b].length=2:=rfl;lia
theorem Gj{E R W u v w:Nat}(x:E<256)(F:gW E R β)(g:Sub W E)(zW:sz W+2=R)(i:[u,v,w].Nodup)(hl:∀t∈[u,v,w],E.testBit t=true/\W.testBit t=false)(n:¬β (ov W [u,v])):β (ov W [u,w]):=Kr λy=>by
 have c:∀l:List Nat,l.Nodup->(∀t∈l,t∈[u,v,w])->Sub (ov W l) E/\sz (ov W l)=sz W+l.length:=λl s f=>#[nQ g λt b=>(hl t (f t b)).1,oC x g s λt b=>hl t (f t b)];simp only[Lg,J7,Ki,K0,OL]at i;obtain⟨⟨d,p⟩,r,_⟩:=i;have j:=c [u,v] (by simp[d]) (by simp);have o:=c [u,w] (by simp[p]) (by simp);have z:=c [u] (by simp) (by simp);have:=F _ _ j.1 o.1 (by rw[j.2];exact zW) (by rw[o.2];exact zW) n y λe=>by have:(ov W [u,v]).testBit v=true:=bO.mpr (.inr (by simp));rw[e,bO,(hl v (by simp)).2]at this;simp[r,Ng (a:=v)]at this;exact d this
 have m:sz (ov W [u])<=sz (ov W [u,v]&&&ov W [u,w]):=fL λk _ h=>by
  rw[KQ,Kn,bO,bO];rw[bO]at h;rcases h with q|q
  .exact#[.inl q, .inl q]
  .have:k=u:=by simpa using q
   exact#[.inr (by simp[this]), .inr (by simp[this])]
 have l2:[u].length=1:=rfl;rw[z.2,l2]at m;lia
theorem glue{E R a b B:Nat}(r:E<256)(ab:a≠b)(m:E.testBit a=true)(o:E.testBit b=true)(J:jt (E^^^2^a) R β)(K:jt (E^^^2^b) R β)(p:Sub B E)(w:B.testBit a=false)(x:B.testBit b=false)(v:sz B=R)(y:β B):
  ∃κ:Nat->Nat->Int,∀S,Sub S E->sz S=R->¬(S.testBit a=true/\S.testBit b=true)->(cf κ R S↔β S):=by
 have sub:∀ {S c},E.testBit c=true->Sub S E->S.testBit c=false->Sub S (E^^^2^c):=λ{S c} L k h t j=>by
  rw[br L,k t j];have:¬c=t:=λq=>by rw[q,j]at h;cases h
  simp[this]
 have B8:=p.lt (n:=8) r;have G8:au E (bR [a,b])<256:=(aR _ _).lt (n:=8) r;obtain⟨f,uf,A⟩:=lQ J ((bq m).lt (n:=8) r) (sub m p w) v y;obtain⟨g,ug,G⟩:=lQ K ((bq o).lt (n:=8) r) (sub o p x) v y;obtain⟨d,e,M,N,h⟩:=uniq B8 v uf ug _ (au E (bR [a,b])) rfl G8 (λt j=>cc.mpr #[p t j,(λq=>by rw[q,w]at j;cases j),λq=>by rw[q,x]at j;cases j]) λS k l=>by
  have Q:S.testBit a=false:=by rw[<-Mc];exact λz=>(cc.mp (k a z)).2.1 rfl
  have U:S.testBit b=false:=by rw[<-Mc];exact λz=>(cc.mp (k b z)).2.2 rfl
  have H:=k.trans (aR _ _);rw[A S (sub m H Q) l,G S (sub o H U) l]
 refine#[λt i=>if t=a then d i*g a i else f t i,λS k l n=> ?_];cases u:S.testBit a with
 |false=>
  rw[<-A S (sub m k u) l];refine i7 λt j i _=> ?_;rw[J4 (λq=>by rw[q,u]at j;cases j),LJ];exact KY _
 |true=>
  have s:S.testBit b=false:=by
   cases s:S.testBit b with
   |false=>rfl
   |true=>exact absurd #[u,s] n
  refine Iff.trans (i7 (g:=λt i=>d i*(if t=a then 1 else e t)*g t i) λt j i O=> ?_) ((j9 M λt=> ?_).trans (G S (sub o k s) l))
  rotate_left
  .show Pm (if t=a then 1 else e t);split
   .exact .inl rfl
   .exact N t
  show(3:Int)∣(if t=a then d i*g a i else f t i) -d i*(if t=a then 1 else e t)*g t i;by_cases q:t=a
  .subst q;rw[J5 rfl,J5 rfl,MG,LJ];exact KY _
  .rw[J4 q,J4 q];exact h t (cc.mpr #[k t j,q,λz=>by rw[z,s]at j;cases j]) i O
end Bh
namespace Bh
theorem third(h:3<=R):∃k,k<R/\k≠i/\k≠j:=by
 by_cases a:0≠i/\0≠j
 .exact#[0,(),a]
 .by_cases b:1≠i/\1≠j
  .exact#[1,(),b]
  .exact#[2,(),(),()]
theorem wrong{E R a b S:Nat}(e:E<256)(F:gW E R β)(ab:a≠b)(aE:E.testBit a=true)(bE:E.testBit b=true)(R3:3<=R)(c3:R+3<=sz E)
  (good:∀S,Sub S E->sz S=R->¬(S.testBit a=true/\S.testBit b=true)->(cf κ R S↔β S)) (g:Sub S E) (s:sz S=R) (aS:S.testBit a=true) (bS:S.testBit b=true) (no:¬(cf κ R S↔β S)):
  ∃B O i j k,Ab E R a b B β O/\Rows R i j k [i,j,k]/\(∀t i,O t i=0\/Pm (O t i))/\(β (ov (WI B [i,j,k]) [bAt B k,a,b])↔(3:Int)∣dt O i j a b):=by
 have S8:=g.lt (n:=8) e;have U:Sub (au S (bR [a,b])) E:=(aR _ _).trans g;have zW:=jX S8 aS bS ab;have zE:=jX e aE bE ab;have sp:=bG (E:=au E (bR [a,b])) (S:=au S (bR [a,b])) ((aR _ _).lt (n:=8) e) λt d=>by have:=cc.mp d;exact cc.mpr #[g t this.1,this.2]
 obtain⟨u,v,w,nd,hu,hv,hw⟩:=Jp (X:=au (au E (bR [a,b])) (au S (bR [a,b]))) (((aR _ _).trans (aR _ _)).lt (n:=8) e) ();have un:∀ {t},(au (au E (bR [a,b])) (au S (bR [a,b]))).testBit t=true->(E.testBit t=true/\t≠a/\t≠b)/\(au S (bR [a,b])).testBit t=false:=λ{t} h=>by rw[aG,Kn,Lr]at h;exact#[cc.mp h.1,h.2]
 have hl:∀t∈[u,v,w],(E.testBit t=true/\t≠a/\t≠b)/\(au S (bR [a,b])).testBit t=false:=λt d=>by
  simp only[J7,Ki,K0]at d;rcases d with rfl|rfl|rfl
  .exact un hu
  .exact un hv
  .exact un hw
 obtain⟨x,y,xy,o,p,bB⟩:∃x y,x≠y/\x∈[u,v,w]/\y∈[u,v,w]/\β (ov (au S (bR [a,b])) [x,y]):=by
  have aj:=nd;simp only[Lg,J7,Ki,K0,OL]at aj;by_cases h:β (ov (au S (bR [a,b])) [u,v])
  .exact#[u,v,aj.1.1,by simp,by simp,h]
  .exact#[u,w,aj.1.2,by simp,by simp,Gj e F U () nd (λt d=>#[(hl t d).1.1,(hl t d).2]) h]
 have o:=hl x o;have p:=hl y p;have aa:∀t∈[x,y],(E.testBit t=true/\t≠a/\t≠b)/\(au S (bR [a,b])).testBit t=false:=λt d=>by
  simp only[J7,Ki,K0]at d;rcases d with rfl|rfl
  .exact o
  .exact p
 obtain⟨B,L⟩:∃B,B=ov (au S (bR [a,b])) [x,y]:=#[_,rfl];rw[<-L]at bB;have K:∀t,B.testBit t=true↔(S.testBit t=true/\t≠a/\t≠b)\/t=x\/t=y:=λt=>by rw[L,bO,cc];simp only[J7,Ki,K0]
 have M:Sub B E:=L▸nQ U λt d=>(aa t d).1.1;have B8:=M.lt (n:=8) e;have J:sz B=R:=by rw[L,oC e U (by simp[xy]) λt d=>#[(aa t d).1.1,(aa t d).2]];have l2:[x,y].length=2:=rfl;lia
 have nB:∀ {c},c=a\/c=b->B.testBit c=false:=λ{c} h=>by
  rw[<-Mc,K];rintro(z|rfl|rfl)
  .exact h.elim z.2.1 z.2.2
  .exact h.elim o.1.2.1 o.1.2.2
  .exact h.elim p.1.2.1 p.1.2.2
 have bk:cf κ R B:=(good B M J λz=>by rw[nB (.inl rfl)]at z;cases z.1).mpr bB;obtain⟨f,uf,gf⟩:=lQ (β:=cf κ R) (jf e λS _ _=>Iff.rfl) e M J bk;have gr:∀S,Sub S E->sz S=R->(cf (λt i=>wJ (f t i)) R S↔cf κ R S):=λS g s=>(i7 λt _ i _=>by rw[<-Int.neg_sub,Int.dvd_neg];exact Fw _).trans (gf S g s)
 have A:Ab E R a b B β λt i=>wJ (f t i):=#[e,F,M,J,λi j G H=>by show wJ (f (bAt B i) j)=_;rw[uf i j G H];split<;>decide,nB (.inl rfl),nB (.inr rfl),λS g s n=>(gr S g s).trans (good S g s n)]
 obtain⟨i,G,ei⟩:=fY B8 J ((K x).mpr (.inr (.inl rfl)));obtain⟨j,H,ej⟩:=fY B8 J ((K y).mpr (.inr (.inr rfl)));have N:i≠j:=λq=>xy (by rw[<-ei,<-ej,q]);obtain⟨k,hk,ki,kj⟩:=third (i:=i) (j:=j) R3;have rows:Rows R i j k [i,j,k]:=#[G,H,hk,N,ki.symm,kj.symm,λr=>by simp,by simp[N,ki.symm,kj.symm],rfl];refine#[B,_,i,j,k,A,rows,λt i=>Fv _,?_];have e1:ov (WI B [i,j,k]) [bAt B k,a,b]=ov (WI B [i,j]) [a,b]:=A.row hk (by simp[G,H]) (A.hh rows) (by simp[ki,kj]);have e2:ov (WI B [i,j]) [a,b]=S:=dq λt=>by
  rw[bO,gU,K];simp only[J7,Ki,K0,forall_eq_or_imp,forall_eq,ei,ej];constructor
  .rintro(⟨⟨h,_⟩|h|h,l,m⟩|rfl|rfl)
   .exact h
   .exact absurd h l
   .exact absurd h m
   .exact aS
   .exact bS
  .intro h;by_cases l:t=a
   .exact .inr (.inl l)
   .by_cases m:t=b
    .exact .inr (.inr m)
    .refine .inl #[.inl #[h,l,m],λq=> ?_,λq=> ?_]
     .have:=o.2;rw[<-q,<-Mc,cc]at this;exact this #[h,l,m]
     .have:=p.2;rw[<-q,<-Mc,cc]at this;exact this #[h,l,m]
 have Q:=A.base (I:=[i,j]) (T:=[a,b]) (by simp[N]) (by simp[G,H]);rw[e2,gr S g s,E3 N]at Q;rw[e1,e2];by_cases q:β S
 .have:¬cf κ R S:=λz=>no #[λ_=>q,λ_=>z];exact#[λ_=>Kr λz=>this (Q.mpr z),λ_=>q]
 .have:cf κ R S:=Kr λz=>no #[λw=>absurd w z,λw=>absurd w q];exact#[λz=>absurd z q,λz=>absurd z (Q.mp this)]
theorem step{E R a b:Nat}(f:E<256)(F:gW E R β)(e:a≠b)(m:E.testBit a=true)(o:E.testBit b=true)(M:3<=R)(N:jt (E^^^2^a) R β)(O:jt (E^^^2^b) R β)(hb:∃B,Sub B (au E (bR [a,b]))/\sz B=R/\β B)
  (s:R+4<=sz E\/R+3<=sz E/\∀S,Sub S (au E (bR [a,b]))->sz S=R->β S):jt E R β\/Bad E R β:=by
 obtain⟨B0,w,a3,U⟩:=hb;obtain⟨κ,good⟩:=glue f e m o N O (w.trans (aR _ _)) (by
  rw[<-Mc];exact λz=>(cc.mp (w a z)).2.1 rfl) (by
  rw[<-Mc];exact λz=>(cc.mp (w b z)).2.2 rfl) a3 U
 by_cases all:∀S,Sub S E->sz S=R->(cf κ R S↔β S)
 .exact .inl (jf f all)
 right
 obtain⟨S,H,L,K⟩:∃S,Sub S E/\sz S=R/\¬(cf κ R S↔β S):=Kr λz=>all λS h1 h2=>Kr λh3=>z #[S,h1,h2,h3];have J:S.testBit a=true/\S.testBit b=true:=Kr λz=>K (good S H L z);obtain⟨B,bb,i,j,k,A,rows,en,G⟩:=wrong f F e m o M (by rcases s with h|h<;>lia) good H L J.1 J.2 K;have zE:=jX f m o e;have r:Sub B (au E (bR [a,b])):=λt d=>cc.mpr #[A.hB t d,(λq=>by rw[q,A.aB]at d;cases d),λq=>by rw[q,A.bB]at d;cases d];have sp:=bG ((aR _ _).lt (n:=8) f) r;have zB:=A.zB;have un:∀ {t},(au (au E (bR [a,b])) B).testBit t=true->(E.testBit t=true/\t≠a/\t≠b)/\B.testBit t=false:=λ{t} h=>by rw[aG,Kn,Lr]at h;exact#[cc.mp h.1,h.2]
 rcases s with s|⟨s,Q⟩
 .obtain⟨p,q,pq,g,l⟩:=sx (X:=au (au E (bR [a,b])) B) (((aR _ _).trans (aR _ _)).lt (n:=8) f) ();have g:=un g;have l:=un l;exact A.core2 rows en e m o G g.1.1 g.2 g.1.2.1 g.1.2.2 l.1.1 l.2 l.1.2.1 l.1.2.2 pq
 .obtain⟨z,c⟩:=sA (X:=au (au E (bR [a,b])) B) ();have c:=un c;have full:∀ {x y},B.testBit x=true->B.testBit y=true->x≠y->(WI B [i,j,k]).testBit x=false->(WI B [i,j,k]).testBit y=false->β (ov (WI B [i,j,k]) [x,y,z]):=λ{x y} u v xy wx wy=>by
   refine Q _ (λt d=> ?_) ?_
   .rcases bO.mp d with q|q
    .exact r t (gU.mp q).1
    .simp only[J7,Ki,K0]at q;rcases q with rfl|rfl|rfl
     .exact r _ u
     .exact r _ v
     .exact cc.mpr c.1
   .rw[oC f (A.WI_sub _) ?_ λt d=> ?_]
    .exact A.zW rows
    .have n1:x≠z:=λq=>by rw[q,c.2]at u;cases u
     have n2:y≠z:=λq=>by rw[q,c.2]at v;cases v
     simp[xy,n1,n2]
    .simp only[J7,Ki,K0]at d;rcases d with rfl|rfl|rfl
     .exact#[A.hB _ u,wx]
     .exact#[A.hB _ v,wy]
     .exact A.pN c.1.1 c.2 _
  refine .inl (A.core1 rows e m o G c.1.1 c.2 c.1.2.1 c.1.2.2 ((A.ent rows c.1.1 c.2 e).mp ?_) ((A.ent rows.r1 c.1.1 c.2 e).mp ?_))
  .exact full (A.bt rows.hk) (A.bt rows.hj) (A.bne rows.hk rows.hj rows.jk.symm) (A.pB rows.r2.r1).2 (A.pB rows.r1).2
  .exact full (A.bt rows.hk) (A.bt rows.hi) (A.bne rows.hk rows.hi rows.ik.symm) (A.pB rows.r2.r1).2 (A.pB rows).2
end Bh
namespace Bh
theorem uZ(F:gW E R β)(h:Sub G E):gW G R β:=λS T a b=>F S T (a.trans h) (b.trans h)
theorem pQ:∀ (d:Nat) {E:Nat},E<256->sz E=m+d->∃X,Sub X E/\sz X=m
 |0,E,_,h=>#[E,Sub.refl _,h]
 |d+1,E,b,h=>by obtain⟨u,a⟩:=sA (X:=E) ();have:=cz E b u (aW (n:=8) b a) a;obtain⟨X,c,e⟩:=pQ d ((bq a).lt (n:=8) b) (by lia:sz (E^^^2^u)=m+d);exact#[X,c.trans (bq a),e]
theorem qO(l:E<256)(F:gW E R β)(i:1<=R)(j:R+1<=sz E):∃B,Sub B E/\sz B=R/\β B:=by
 obtain⟨X,g,w⟩:=pQ (m:=R+1) (sz E- (R+1)) l ();have f:=g.lt (n:=8) l;obtain⟨u,v,o,d,c⟩:=sx f ();have x:=cz X f u (aW (n:=8) f d) d;have y:=cz X f v (aW (n:=8) f c) c;have t:=jX f d c o;by_cases a:β (X^^^2^u)
 .exact#[_,(bq d).trans g,(),a]
 by_cases b:β (X^^^2^v)
 .exact#[_,(bq c).trans g,(),b]
 exfalso;have:=F _ _ ((bq d).trans g) ((bq c).trans g) () () a b λe=>by
  have:(X^^^2^u).testBit v=true:=by rw[br d,c];simp[o]
  rw[e,br c]at this;simp at this
 have m:sz (au X (bR [u,v]))<=sz ((X^^^2^u)&&& (X^^^2^v)):=fL λk _ s=>by obtain⟨h,i,j⟩:=cc.mp s;rw[KQ,br d,br c,h];have p:¬u=k:=λq=>i q.symm;have r:¬v=k:=λq=>j q.symm;simp[p,r]
 lia
def Told(E R:Nat)(β:Nat->Prop):Prop:=jt E R β\/Bad E R β
theorem sd(a:E<256)(b:R<=sz E)(c:∃B,Sub B E/\sz B=R/\β B)(h:Told E (sz E-R) (iJ E β)):Told E R β:=h.imp (DB a b c) (EW a b)
theorem pM(a:E<256)(F:gW E R β)(b:∃B,Sub B E/\sz B=R/\β B)(h:R<=2):Told E R β:=by
 have:R=0\/R=1\/R=2:=()
 rcases this with rfl|rfl|rfl
 .exact .inl (DA a b)
 .exact .inl (Fu a)
 .exact(Ft a F b).imp id .inl
theorem Ae(a:E<256)(F:gW E R β)(b:R<=sz E)(c:∃B,Sub B E/\sz B=R/\β B)(h:sz E<=R+2):Told E R β:=
 sd a b c (pM a (qN a b F) (tj a c) ())
theorem r9{E R a b:Nat}(d:E<256)(F:gW E R β)(i:a≠b)(f:E.testBit a=true)(g:E.testBit b=true)(k:3<=R)(o:R+3<=sz E)(j:∀c,E.testBit c=true->Told (E^^^2^c) R β)
  (e:R+4<=sz E\/R+3<=sz E/\∀S,Sub S (au E (bR [a,b]))->sz S=R->β S):Told E R β:=by
 have up:∀ {c},E.testBit c=true->Bad (E^^^2^c) R β->Told E R β:=λ{c} e h=> .inr (IU d (bq e) (by
  have:=cz E d c (aW (n:=8) d e) e;lia) h)
 have p:=jX d f g i;rcases j a f with l|h
 .rcases j b g with m|h
  .exact step d F i f g k l m (qO ((aR _ _).lt (n:=8) d) (uZ F (aR _ _)) () ()) e
  .exact up g h
 .exact up f h
theorem vI{E R:Nat}(d:E<256)(F:gW E R β)(e:3<=R)(i:R+4<=sz E)(j:∀c,E.testBit c=true->Told (E^^^2^c) R β):Told E R β:=by obtain⟨a,b,g,f,h⟩:=sx d ();exact r9 d F g f h e () j (.inl i)
theorem zd{T:Nat->Nat->Nat->Prop}(a:∀ {u v w},T u v w->T v u w)(d:∀ {u v w},T u v w->T u w v){x y b c:Nat}(j:T x y b)(k:T x y c)(l:T x b c)(m:T y b c):
  ∀u,(u=x\/u=y\/u=b\/u=c)->∀v,(v=x\/v=y\/v=b\/v=c)->∀w,(w=x\/w=y\/w=b\/w=c)->u≠v->u≠w->v≠w->T u v w:=λu e v f w g h i vw=>by
 rcases e with rfl|rfl|rfl|rfl<;>rcases f with rfl|rfl|rfl|rfl<;>first|exact absurd rfl h|(rcases g with rfl|rfl|rfl|rfl<;>first|exact absurd rfl i|exact absurd rfl vw|assumption|(apply a;assumption)|(apply d;assumption)|(apply a;apply d;assumption)|(apply d;apply a;assumption)|(apply a;apply d;apply a;assumption))
theorem Dq{E:Nat}(r:E<256)(F:gW E 3 β)(zE:sz E=6):∃a b,a≠b/\E.testBit a=true/\E.testBit b=true/\∀S,Sub S (au E (bR [a,b]))->sz S=3->β S:=by
 by_cases all:∀S,Sub S E->sz S=3->β S
 .obtain⟨a,b,M,aE,bE⟩:=sx r ();exact#[a,b,M,aE,bE,λS Q zS=>all S (Q.trans (aR _ _)) zS]
 obtain⟨L,hL,zL,nL⟩:∃S,Sub S E/\sz S=3/\¬β S:=Kr λz=>all λS G o=>Kr λh3=>z #[S,G,o,h3];have sp:=bG r hL;obtain⟨p,x,y,px,py,xy,O⟩:=i9 (hL.lt (n:=8) r) zL;obtain⟨u,v,w,A,B,vw,eM⟩:=i9 ((aR E L).lt (n:=8) r) ();have m:∀ {s t},s=p\/s=x\/s=y->t=u\/t=v\/t=w->s≠t:=λ{s t} G o e=>by have o:=(eM t).mpr o;rw[aG,<-e,(O s).mpr G]at o;simp at o
 have f:∀ {t},(t=p\/t=x\/t=y)\/t=u\/t=v\/t=w->E.testBit t=true:=λ{t} h=>h.elim (λh=>hL t ((O t).mpr h)) λh=>aR _ _ t ((eM t).mpr h);have s0:Sub 0 E:=λk hk=>by rw[KI]at hk;cases hk
 have a5:∀ {a b c d},[a,b,c,d].Nodup->E.testBit a=true->E.testBit b=true->E.testBit c=true->E.testBit d=true->¬β (ov 0 [a,b,c])->β (ov 0 [a,b,d]):=λ{a b c d} G o h3 h4 h5 n=>va r F s0 (by rw[cH]) G (λt l=>#[by
  simp only[J7,Ki,K0]at l;rcases l with rfl|rfl|rfl|rfl
  .exact o
  .exact h3
  .exact h4
  .exact h5,KI t]) n
 have b6:¬β (ov 0 [x,y,p]):=λz=>nL (by
  rwa [show L=ov 0 [x,y,p]from dq λt=>by rw[bO,O,KI];simp only[J7,Ki,K0,Ol,false_or];exact#[λh=>h.elim (λq=> .inr (.inr q)) λh=>h.elim .inl λq=> .inr (.inl q),λh=>h.elim (λq=> .inr (.inl q)) λh=>h.elim (λq=> .inr (.inr q)) .inl]])
 have pE:E.testBit p=true:=f (.inl (.inl rfl));have xE:E.testBit x=true:=f (.inl (.inr (.inl rfl)));have yE:E.testBit y=true:=f (.inl (.inr (.inr rfl)));have ay:∀ {a b c},(∀t,t=u\/t=v\/t=w↔t=a\/t=b\/t=c)->a≠b->a≠c->b≠c->(∀S,Sub S (au E (bR [p,a]))->sz S=3->β S)\/¬β (ov 0 [x,b,c])\/¬β (ov 0 [y,b,c]):=λ{a b c} h M ac bc=>by
  have U:=(h b).mpr (.inr (.inl rfl));have hc:=(h c).mpr (.inr (.inr rfl));by_cases q1:β (ov 0 [x,b,c])
  .by_cases q2:β (ov 0 [y,b,c])
   .left
    intro S Q zS;have q3:∀ {t},t=u\/t=v\/t=w->β (ov 0 [x,y,t]):=λ{t} l=>a5 (c:=p) (by simp[xy,px.symm,py.symm,m (.inl rfl) l,m (.inr (.inl rfl)) l,m (.inr (.inr rfl)) l]) xE yE pE (f (.inr l)) b6;obtain⟨i,j,k,ij,ik,jk,e⟩:=i9 (Q.lt (n:=8) ((aR _ _).lt (n:=8) r)) zS;have ar:∀t,S.testBit t=true->t=x\/t=y\/t=b\/t=c:=λt l=>by
     obtain⟨tE,tp,ta⟩:=cc.mp (Q t l);cases q:L.testBit t with
     |true=>
      rcases(O t).mp q with z|z|z
      .exact absurd z tp
      .exact .inl z
      .exact .inr (.inl z)
     |false=>
      rcases(h t).mp ((eM t).mp (by rw[aG,tE,q];rfl))with z|z|z
      .exact absurd z ta
      .exact .inr (.inr (.inl z))
      .exact .inr (.inr (.inr z))
    have:=zd (T:=λu v w=>β (ov 0 [u,v,w])) (λ{u v w} h=>by rw[mn];exact h) (λ{u v w} h=>by rw[mm];exact h) (q3 U) (q3 hc) q1 q2 i (ar i ((e i).mpr (.inl rfl))) j (ar j ((e j).mpr (.inr (.inl rfl)))) k (ar k ((e k).mpr (.inr (.inr rfl)))) ij ik jk
    rwa [show S=ov 0 [i,j,k]from dq λt=>by rw[bO,e,KI];simp only[J7,Ki,K0,Ol,false_or]]
   .exact .inr (.inr q2)
  .exact .inr (.inl q1)
 have H:u=u\/u=v\/u=w:= .inl rfl;have J:v=u\/v=v\/v=w:= .inr (.inl rfl);have K:w=u\/w=v\/w=w:= .inr (.inr rfl);have ku:=ay (a:=u) (b:=v) (c:=w) (λt=>Iff.rfl) A B vw;have kv:=ay (a:=v) (b:=u) (c:=w) (λt=>or_left_comm) (Mo A) vw B;have kw:=ay (a:=w) (b:=u) (c:=v) (λt=>#[λh=>h.elim (λq=> .inr (.inl q)) λh=>h.elim (λq=> .inr (.inr q)) .inl,λh=>h.elim (λq=> .inr (.inr q)) λh=>h.elim .inl λq=> .inr (.inl q)]) (Mo B) (Mo vw) A;rcases ku with h|ku
 .exact#[p,u,m (.inl rfl) H,pE,f (.inr H),h]
 rcases kv with h|kv
 .exact#[p,v,m (.inl rfl) J,pE,f (.inr J),h]
 rcases kw with h|kw
 .exact#[p,w,m (.inl rfl) K,pE,f (.inr K),h]
 exfalso;have two:∀ {z a b c},z=x\/z=y->a≠b->a≠c->b≠c->(a=u\/a=v\/a=w)->(b=u\/b=v\/b=w)->(c=u\/c=v\/c=w)->¬β (ov 0 [z,a,b])->¬β (ov 0 [z,a,c])->False:=λ{z a b c} g M ac bc ha U hc n1 n2=>
  n2 (a5 (c:=b) (by simp[M,ac,bc,m (.inr g) ha,m (.inr g) U,m (.inr g) hc]) (f (.inl (.inr g))) (f (.inr ha)) (f (.inr U)) (f (.inr hc)) n1)
 have N:∀ {z},z=x\/z=y->¬β (ov 0 [z,v,w])->¬β (ov 0 [z,u,w])->False:=λ{z} g a b=>two g (Mo vw) (Mo B) (Mo A) K J H (by rw[mm];exact a) (by rw[mm];exact b);have c2:∀ {z},z=x\/z=y->¬β (ov 0 [z,v,w])->¬β (ov 0 [z,u,v])->False:=λ{z} g a b=>two g vw (Mo A) (Mo B) J K H a (by rw[mm];exact b);have c3:∀ {z},z=x\/z=y->¬β (ov 0 [z,u,w])->¬β (ov 0 [z,u,v])->False:=λ{z} g a b=>two g B A (Mo vw) H K J a b;rcases ku with a|a<;>rcases kv with b|b<;>rcases kw with c|c
 .exact N (.inl rfl) a b
 .exact N (.inl rfl) a b
 .exact c2 (.inl rfl) a c
 .exact c3 (.inr rfl) b c
 .exact c3 (.inl rfl) b c
 .exact c2 (.inr rfl) a c
 .exact N (.inr rfl) a b
 .exact N (.inr rfl) a b
theorem Ex:∀ (m:Nat) {E R:Nat},sz E=m->m<=8->E<256->gW E R β->(∃B,Sub B E/\sz B=R/\β B)->Told E R β:=by
 have three:∀ (m:Nat) {E:Nat} {β:Nat->Prop},sz E=m->m<=8->E<256->gW E 3 β->(∃B,Sub B E/\sz B=3/\β B)->Told E 3 β:=λm=>by
  induction m with
  |zero=>
   intro E β p _ d F f;obtain⟨B,l,r,_⟩:=f;have:=fL (a:=B) (b:=E) λk _ h=>l k h;lia
  |succ m H=>
   intro E β p o d F f;have A:3<=sz E:=by obtain⟨B,l,r,_⟩:=f;have:=fL (a:=B) (b:=E) λk _ h=>l k h;lia
   by_cases few:sz E<=5
   .exact Ae d F A f few
   have t:∀c,E.testBit c=true->Told (E^^^2^c) 3 β:=λc g=>by have z:=cz E d c (aW (n:=8) d g) g;have i:=(bq g).lt (n:=8) d;have j:=uZ F (bq g);exact H () () i j (qO i j () ())
   by_cases K:sz E=6
   .obtain⟨a,b,v,u,x,w⟩:=Dq d F K;exact r9 d F v u x () () t (.inr #[(),w])
   .exact vI d F () () t
 intro m E R p o d F f;have G:R<=sz E:=by obtain⟨B,l,r,_⟩:=f;have:=fL (a:=B) (b:=E) λk _ h=>l k h;lia
 by_cases s:R<=2
 .exact pM d F f s
 by_cases c:sz E<=R+2
 .exact Ae d F G f c
 by_cases J:R=3
 .subst J;exact three m p o d F f
 have q:∀ {E R},E<256->sz E<=8->gW E R β->R+3=sz E->(∃B,Sub B E/\sz B=R/\β B)->Told E R β:=λ{E R} d o F e f=>sd d () f (by
  have:=three (sz E) (β:=iJ E β) rfl o d (by have:=qN d () F;rwa [show sz E-R=3 by lia]at this) (by have:=tj d f;rwa [show sz E-R=3 by lia]at this)
  rwa [show sz E-R=3 by lia])
 by_cases y:R+3=sz E
 .exact q d () F y f
 .refine vI d F () () λc g=> ?_;have z:=cz E d c (aW (n:=8) d g) g;have i:=(bq g).lt (n:=8) d;have j:=uZ F (bq g);exact q i () j () (qO i j () ())
end Bh
namespace Bh
theorem Mat.some_base(M:Mat n r):∃B,Sub B (2^n-1)/\sz B=r (2^n-1)/\r B=r (2^n-1):=by obtain⟨g,_,c,d,a⟩:=M.extend (s:=0) (t:=2^n-1) (λk b=>by rw[KI]at b;cases b) (aQ n) (by rw[M.zero,cH]);exact#[g,c,d.symm.trans a,a]
theorem D0(M:Mat n r)(N:Mat n q)(i:r (2^n-1)=R)(g:q (2^n-1)=R)(h:∀S,S<2^n->sz S=R->(r S=R↔q S=R))(f:s<2^n):r s=q s:=by
 rw[<-M.mW (ms:=((List.range (2^n)).filter λb=>decide (r b=sz b/\r b=r (2^n-1))).map λb:Nat=>(b:Int)) (λz=> ?_) f]
 .refine N.mW (λz=> ?_) f;rw[Ka];constructor
  .rintro⟨b,a,rfl⟩;have a:=Kx.mp a;have c:=J9.mp a.1;have d:=Ko a.2;have:=(h b c ()).mp ();exact#[b,c,rfl,(),()]
  .rintro⟨b,c,rfl,d,e⟩;have:=(h b c ()).mpr ();exact#[b,Kx.mpr #[J9.mpr c,J3 #[(),()]],rfl]
 .rw[Ka];constructor
  .rintro⟨b,a,rfl⟩;have a:=Kx.mp a;have d:=Ko a.2;exact#[b,J9.mp a.1,rfl,d.1,d.2]
  .rintro⟨b,c,rfl,d,e⟩;exact#[b,Kx.mpr #[J9.mpr c,J3 #[d,e]],rfl]
theorem Ag(M:Mat n r)(c:r (2^n-1)=R)(h:jt (2^n-1) R λS=>r S=R):Tern n r:=by obtain⟨L,top,same⟩:=h;have N:=iX aD L M.n8;obtain⟨B,a,f,g⟩:=M.some_base;have i:=(same B a ()).mpr ();have:=N.mono a (aQ n);have:=top (2^n-1);exact#[L,λs d=>D0 M N c () (λS b e=>(same S (cC b) e).symm) d]
theorem F0(M:Mat n r)(g:r (2^n-1)=R)(h:Tern n r):jt (2^n-1) R λS=>r S=R:=by
 obtain⟨L,a⟩:=h;obtain⟨B,e,k,l⟩:=M.some_base;have b:=e.lt (aQ n);obtain⟨κ,_,i⟩:=pT (R:=R) L M.n8 b () (by rw[<-a B b];lia) λs d=>by rw[<-a s d,<-g];exact M.mono (cC d) (aQ n)
 refine jf (κ:=κ) (M.bW (aQ n)) λS f j=> ?_;have c:=f.lt (aQ n);rw[<-i S c j,a S c]
theorem Bm(M:Mat n r)(h:Tern n r):Tern n (gc n r):=by
 have a:=M.bW (aQ n);have g:sz (2^n-1)=n:=by have:=lH (n:=n) (s:=0) M.n8 (Nat.two_pow_pos n);rw[cH,kr]at this;lia
 have le:=M.kQ (2^n-1) (aQ n);have c:gc n r (2^n-1)=sz (2^n-1) -r (2^n-1):=by
  unfold gc;have:au (2^n-1) (2^n-1)=0:=Kj λt=>by rw[aG,KI];simp
  rw[this,M.zero];rfl
 refine Ag M.dual c (qe (sk a (F0 M rfl h) M.some_base) λS b i=> ?_);have d:=bG a b;have e:=M.mono (aR (2^n-1) S) (aQ n);have f:=M.cX (b.lt (aQ n));show r (au (2^n-1) S)=r (2^n-1)↔gc n r S=_;lia
theorem Dz(g:cy m)(L:List Row)(u:Nat->Nat)(cs:List Nat):rho m (L.map λx t=>x (u t)) cs=rho m L (cs.map u):=by
 have h:=gp g L (cs.map u);have a:∀k,Van m k L (cs.map u)->Van m k (L.map λx t=>x (u t)) cs:=λk v=>ic (f:=u) (λj b=>Ka.mpr #[j,b,rfl]) (λy n=>by obtain⟨x,e,rfl⟩:=Ka.mp n;exact#[x,e,λj _=>rfl]) v
 refine fj g #[a _ h.1,λv=>h.2 ?_];have d:∀j,∃c,j∈cs.map u->c∈cs/\u c=j:=λj=>by
  by_cases q:j∈cs.map u
  .obtain⟨c,i,l⟩:=Ka.mp q;exact#[c,λ_=>#[i,l]]
  .exact#[0,λz=>absurd z q]
 exact ic (f:=λj=>Classical.choose (d j)) (λj b=>(Nt (d j) b).1) (λx e=>#[_,Ka.mpr #[x,e,rfl],λj b=>by rw[(Nt (d j) b).2]]) v
theorem Dy(a:cy m)(h:∀x∈L,m∣x c)(cs:List Nat):rho m L (c::cs)=rho m L cs:=by have k:=gp a L cs;exact fj a #[jD h k.1,λv=>k.2 (lC (λj b=>Ke _ b) v)]
theorem C6(k:p<n)(l:n<8)(h:Tern n r):Tern (n+1) λs=>r (eJ p s):=by
 obtain⟨L,d⟩:=h;refine#[L.map λx t=>x (if t<=p then t else t-1),λs c=> ?_];have bl:eJ p s<2^n:=MC _ λi g=>by rw[jq,cJ,J4 (),K1 (Kb c (Kw ∅ ())),J6 (),Ld];rfl
 show r (eJ p s)=_;rw[d _ bl];unfold de;rw[Dz aD];refine je aD λj=> ?_;rw[Ka,aT];constructor
 .rintro⟨b,a⟩;rw[jq,cJ,KH,Kn,Kf]at a;rcases a with a|⟨a,rfl⟩
  .by_cases q:j<p
   .rw[J5 q]at a;exact#[j,aT.mpr #[b,a],by rw[J5 ()]]
   .rw[J4 q]at a;exact#[j+1,aT.mpr #[by have:=aW c a;lia,a],by rw[J4 (),Ow]]
  .exact#[p,aT.mpr #[b,a],by rw[J5 (Kk _)]]
 .rintro⟨t,f,rfl⟩;obtain⟨b,a⟩:=aT.mp f;rw[jq,cJ,KH,Kn,Kf];by_cases q:t<=p
  .rw[J5 q];refine#[b,?_];by_cases e:t=p
   .subst e;exact .inr #[a,rfl]
   .rw[J5 ()];exact .inl a
  .rw[J4 q];refine#[(), .inl ?_];rw[J4 (),Nat.sub_add_cancel ()];exact a
def iA(p:Nat)(x:Row):Row:=λt=>if t=p then 0 else x (if t<p then t else t-1)
theorem o8{n p s:Nat}(L:List Row)(o:n<8)(m:s<2^(n+1))(i:s.testBit p=false):de 3 (L.map (iA p)) s=de 3 L (bC p s):=by
 have e:=Dz aD L (λt=>if t<p then t else t-1) (az s);have l:rho 3 (L.map (iA p)) (az s)=rho 3 (L.map λx t=>x (if t<p then t else t-1)) (az s):=by
  have ne:∀j∈az s,j≠p:=λj a e=>by have:=(aT.mp a).2;rw[e,i]at this;cases this
  have k:=gp aD (L.map λx t=>x (if t<p then t else t-1)) (az s);refine fj aD #[ic (f:=id) (λj a=>a) (λy g=> ?_) k.1,λv=>k.2 (ic (f:=id) (λj a=>a) (λy g=> ?_) v)]
  .obtain⟨x,d,rfl⟩:=Ka.mp g;exact#[_,Ka.mpr #[x,d,rfl],λj a=>by unfold iA;rw[J4 (ne j a)];rfl]
  .obtain⟨x,d,rfl⟩:=Ka.mp g;exact#[_,Ka.mpr #[x,d,rfl],λj a=>by unfold iA;show _=if j=p then 0 else _;rw[J4 (ne j a)];rfl]
 unfold de;rw[l,e];refine je aD λj=> ?_;rw[Ka,aT];constructor
 .rintro⟨t,b,rfl⟩;obtain⟨c,b⟩:=aT.mp b;have r:t≠p:=λe=>by rw[e,i]at b;cases b
  rw[cJ];by_cases q:t<p
  .rw[J5 q,J5 q];exact#[c,b]
  .rw[J4 q,J4 (),Nat.sub_add_cancel ()];exact#[(),b]
 .rintro⟨c,h⟩;rw[cJ]at h;by_cases q:j<p
  .rw[J5 q]at h;exact#[j,aT.mpr #[c,h],by rw[J5 q]]
  .rw[J4 q]at h;exact#[j+1,aT.mpr #[by have:=aW m h;lia,h],by rw[J4 (),Ow]]
theorem sV{s p:Nat}(b:p<8)(a:s.testBit p=true)(L:List Row):de 3 L s=rho 3 L (p::az (s^^^2^p)):=by have:=lP aD (R:=L) (s:=s^^^2^p) b;rw[eC a]at this;exact this
theorem Bl(i:p<=n)(d:n<8)(h:Tern n r):Tern (n+1) λs=>r (bC p s):=by
 obtain⟨L,f⟩:=h;refine#[L.map (iA p),λs b=> ?_];show r (bC p s)=_;rw[f _ (ja i b)];cases a:s.testBit p with
 |false=>exact(o8 L d b a).symm
 |true=>
  have z:=Dy aD (L:=L.map (iA p)) (c:=p) (λy j=>by obtain⟨x,_,rfl⟩:=Ka.mp j;unfold iA;rw[J5 rfl];exact KY _) (az (s^^^2^p))
  have g:(s^^^2^p).testBit p=false:=by rw[br a];simp
  have o:=o8 (s:=s^^^2^p) L d ((bq a).lt b) g;rw[sV () a,z];have e:bC p (s^^^2^p)=bC p s:=by have:=gm p (s^^^2^p);rw[eC a]at this;exact this.symm
  rw[e]at o;exact o.symm
def jx(p:Nat):Row:=λt=>if t=p then 1 else 0
theorem Ff(M:Mat n r)(hp:p<=n)(O:n<8)(h:Tern n r):Tern (n+1) λs=>r (bC p s)+if s.testBit p=true then 1 else 0:=by
 obtain⟨L,U⟩:=h;have i:=aD;refine#[jx p::L.map (iA p),λs d=> ?_];show r (bC p s)+_=_;rw[U _ (ja hp d)];have N:=iX i (jx p::L.map (iA p)) (n:=n+1) ();have w:=iX i (L.map (iA p)) (n:=n+1) ();have off:∀s,s<2^(n+1)->s.testBit p=false->de 3 (jx p::L.map (iA p)) s=de 3 (L.map (iA p)) s:=λs d l=>by
  have K:∀x,Sub x s->(de 3 (jx p::L.map (iA p)) x=sz x↔de 3 (L.map (iA p)) x=sz x):=λx m=>by
   have Q:(az x).Nodup:=La.filter _;have G:=iV i (az x) (jx p::L.map (iA p)) Q;have H:=iV i (az x) (L.map (iA p)) Q;rw[a7]at G H;unfold de;rw[G,H];refine#[λq g z=>q g λy a=> ?_,λq g z=>q g λy a=>z y (Ke _ a)];rcases J7.mp a with rfl|a
   .refine nK λc hc=> ?_;have:c≠p:=λe=>by have:=m c (aT.mp hc).2;rw[e,l]at this;cases this
    show(3:Int)∣g c*jx p c;unfold jx;rw[J4 this,Ms];exact KY _
   .exact z y a
  obtain⟨g,_,g1,g2,g3⟩:=N.extend (s:=0) (t:=s) (λk u=>by rw[KI]at u;cases u) d (by rw[N.zero,cH]);obtain⟨k,_,k1,k2,k3⟩:=w.extend (s:=0) (t:=s) (λk u=>by rw[KI]at u;cases u) d (by rw[w.zero,cH]);have a1:=(K g g1).mp g2;have a2:=(K k k1).mpr k2;have a3:=w.mono g1 d;have a4:=N.mono k1 d;lia
 cases l:s.testBit p with
 |false=>
  rw[J4 ∅,off s d l,o8 L O d l];rfl
 |true=>
  have J:(s^^^2^p).testBit p=false:=by rw[br l];simp
  have hl:=(bq l).lt d;have o:=o8 (s:=s^^^2^p) L O hl J;have e:bC p (s^^^2^p)=bC p s:=by have:=gm p (s^^^2^p);rw[eC l]at this;exact this.symm
  rw[e]at o;rw[J5 rfl,<-o];have pv:=RkV.pivot i (R:=jx p::L.map (iA p)) (c:=p) (p:=jx p) (A:=[]) (B:=L.map (iA p)) rfl (by unfold jx;rw[J5 rfl];exact i.one) (cs:=az (s^^^2^p)) (r:=de 3 (L.map (iA p)) (s^^^2^p)) (by
   have k:=gp i (L.map (iA p)) (az (s^^^2^p));have same:∀x∈L.map (iA p),∀j∈az (s^^^2^p),cN 1 (jx p) p x j=x j:=λx m j b=>by
    obtain⟨y,_,rfl⟩:=Ka.mp m;have:j≠p:=λe=>by have:=(aT.mp b).2;rw[e,J]at this;cases this
    unfold cN jx iA;simp[this]
   refine#[ic (f:=id) (λj b=>b) (λy a=> ?_) k.1,λv=>k.2 (ic (f:=id) (λj b=>b) (λy a=> ?_) v)]
   .obtain⟨x,m,rfl⟩:=Ka.mp a;exact#[x,m,λj b=>same x m j b]
   .exact#[_,Ka.mpr #[y,a,rfl],λj b=>(same y a j b).symm])
  rw[sV () l];exact(fj i pv).symm
end Bh
namespace Bh
theorem F6{l:List Nat}(c:l.Nodup)(h:t∈l)(u:∀s∈l,s=t):l.length=1:=by
 match l,c,h,u with
 | [a],_,_,_=>rfl
 |a::b::l,c,_,u=>
  exfalso;have d:=u a (by simp);have e:=u b (by simp);exact(Lg.mp c).1 (by simp[d,e])
theorem ov3:W||| (2^u|||2^v|||2^c)=ov W [u,v,c]:=dq λt=>by rw[bO,Kl,KH,aV,aV,KH,KH,Kt,Kf,Kf,Kf];simp only[J7,Ki,K0,O6,Ng (a:=t)]
def ow(n R:Nat)(r:Nat->Nat):Prop:=∃s w,s<2^n/\Sub w (au (2^n-1) s)/\((sz s=5/\sz w+2=R/\fc 5 (df r s w) 5 2=true)\/(sz s=5/\sz w+3=R/\fc 5 (df r s w) 5 3=true)\/(sz s=7/\sz w+3=R/\bT 7 (df r s w)=true)\/sz s=7/\sz w+4=R/\bT 7 (gc 7 (df r s w))=true)
theorem pR{E W K:Nat}(c:Sub W E)(b:∀t,K.testBit t=true->W.testBit t=false):Sub W (au E K):=λt a=>by
 rw[aG,c t a];cases q:K.testBit t with
 |false=>rfl
 |true=>rw[b t q]at a;cases a
section
variable{n R:Nat}{r:Nat->Nat}(M:Mat n r)(hf:r (2^n-1)=R)
include M hf
theorem sN(O:d<=m)(h:eO (2^n-1) R (λS=>r S=R) m d):∃k w,k<2^n/\Sub w (au (2^n-1) k)/\sz k=m/\sz w+d=R/\fc m (df r k w) m d=true:=by
 obtain⟨W,K,p,y,l,i,zW,q⟩:=h;have a:=y.lt (aQ n);have g:=p.lt (aQ n);have j:=M.bW a;have apart:∀ {s},Sub s K->sz (W|||s)=sz W+sz s:=λ{s} h=>lI λt o x=>by rw[l t (h t x)]at o;cases o
 obtain⟨X,b,G⟩:=pQ (m:=d) (m-d) j ();have u:=q X b G;have B:W|||X<2^n:=K4 g (b.lt a);have N:r W=sz W:=M.qJ (λt f=>by rw[Kl,f];rfl) B (by rw[apart b];lia);have top:∀ {s},s<2^n->r s<=R:=λ{s} h=>hf▸M.mono (cC h) (aQ n);refine#[K,W,a,pR p l,i,zW,?_];unfold fc;have e:df r K W (2^m-1)=d:=by
  unfold df;have e:=kX j;rw[i]at e;rw[e];have H:=top (K4 a g);have J:r (W|||X)<=r (K|||W):=M.mono (λt f=>by rw[Kl,KH]at f⊢;exact f.elim .inr λz=> .inl (b t z)) (K4 a g)
  have L:r (W|||X)=R:=u;lia
 rw[e];simp only[decide_true,Lo,K2,Kf];intro s c;have c:=Kx.mp c;have A:=J9.mp c.1;have v:=Ko c.2;have:r (W|||aN s K)=R:=q (aN s K) (cE s K) (by rw[nu (by rw[i];exact A)];exact v);unfold df;rw[Na];lia
theorem pX(F:gW (2^n-1) R λS=>r S=R)(h:GF (2^n-1) R λS=>r S=R):∃k w,k<2^n/\w<2^n/\(∀t,k.testBit t=true->w.testBit t=false)/\sz k=7/\sz w+3=R/\bT 7 (df r k w)=true:=by
 obtain⟨W,K,hW,hK,dj,zK,zW,hs⟩:=h;have E8:=M.bW (aQ n);have H:=hK.lt (aQ n);have L:=hW.lt (aQ n);have J:=M.bW H;have top:∀ {s},s<2^n->r s<=R:=λ{s} h=>hf▸M.mono (cC h) (aQ n);have pt:∀ {t},K.testBit t=true->(2^n-1).testBit t=true/\W.testBit t=false:=λ{t} h=>#[hK t h,dj t h];obtain⟨u,v,c,d,N,B,G,kc,A,bb⟩:∃u v c d,[u,v,c,d].Nodup/\K.testBit u=true/\K.testBit v=true/\K.testBit c=true/\K.testBit d=true/\r (ov W [u,v,d])=R:=by
  obtain⟨u,v,uv,B,G⟩:=sx J ();obtain⟨c,kc,cu,cv,nb⟩:=hs u v B G uv;have z:=bG (S:=bR [u,v,c]) J λt g=>by
   have:=(bx _ _).mp g;simp only[J7,Ki,K0]at this;rcases this with rfl|rfl|rfl
   .exact B
   .exact G
   .exact kc
  rw[iG (by simp[uv,cu.symm,cv.symm]) λt g=>by
   simp only[J7,Ki,K0]at g;rcases g with rfl|rfl|rfl
   .exact aW (n:=8) J B
   .exact aW (n:=8) J G
   .exact aW (n:=8) J kc]at z
  have l3:[u,v,c].length=3:=rfl;obtain⟨d,A⟩:=sA (X:=au K (bR [u,v,c])) ();rw[aG,Kn,Lr,<-Mc,bx]at A;simp only[J7,Ki,K0,OL]at A;have N:[u,v,c,d].Nodup:=by simp[uv,cu.symm,cv.symm,Mo A.2.1,Mo A.2.2.1,Mo A.2.2.2]
  refine#[u,v,c,d,N,B,G,kc,A.1,?_];rw[ov3]at nb;refine va E8 F hW zW N (λt g=> ?_) nb;simp only[J7,Ki,K0]at g;rcases g with rfl|rfl|rfl|rfl
  .exact pt B
  .exact pt G
  .exact pt kc
  .exact pt A.1
 have sb:Sub (ov W [u,v,d]) (K|||W):=λt g=>by
  rw[Kl,KH];rcases bO.mp g with q|q
  .exact .inr q
  .simp only[J7,Ki,K0]at q;rcases q with rfl|rfl|rfl
   .exact .inl B
   .exact .inl G
   .exact .inl A
 have lB:=sb.lt (K4 H L);have fW:r W=sz W:=M.qJ (λt g=>bO.mpr (.inl g)) lB (by
  rw[oC E8 hW (by simp only[Lg,J7,Ki,K0,OL]at N⊢;exact#[#[N.1.1,N.1.2.2],N.2.1.2,not_false,List.nodup_nil]) λt g=> ?_,bb]
  .exact zW.symm
  .simp only[J7,Ki,K0]at g;rcases g with rfl|rfl|rfl
   .exact pt B
   .exact pt G
   .exact pt A)
 have apart:∀s,sz (aN s K|||W)=sz (aN s K)+sz W:=λs=>lI λt o f=>by rw[dj t (cE s K t o)]at f;cases f
 refine#[K,W,H,L,dj,zK,zW,?_];unfold bT;have e7:df r K W (2^7-1)=3:=by unfold df;have e:=kX J;rw[zK]at e;rw[e];have a1:=top (K4 H L);have a2:=M.mono sb (K4 H L);lia
 rw[e7];simp only[decide_true,Lo,K2,Kf];intro p O;have O:=Kx.mp O;have Q:p<2^7:=J9.mp O.1;obtain⟨i,j,ij,hi,hj,ep⟩:=lE (n:=7) ∅ Q (Ko O.2);have ar:∀i,i<7->∃u:Nat,(bits K)[i]?=some (u:Int)/\K.testBit u=true:=λi hi=>by
  have hl:i<(bits K).length:=by rw[show(bits K).length=7 from zK];exact hi
  have h:=Ky hl;obtain⟨t,_,f,h3⟩:=dg.mp (LD hl);rw[h3]at h;exact#[t,h,f]
 obtain⟨x,hx,kx⟩:=ar i (aW Q hi);obtain⟨y,hy,ky⟩:=ar j (aW Q hj);have xy:x≠y:=λe=>ij (mX hx (e▸hy));obtain⟨z,kz,zx,zy,nz⟩:=hs x y kx ky xy;obtain⟨l,U⟩:=AZ J kz;have l7:l<7:=by have:=(Kh.mp U).1;rw[show(bits K).length=7 from zK]at this;exact this
 have li:l≠i:=λe=>zx (by have:=hx;rw[<-e,U]at this;have:=Lf this;lia);have lj:l≠j:=λe=>zy (by have:=hy;rw[<-e,U]at this;have:=Lf this;lia);have ln:∀t,t<2^7->sz t=3->(df r K W t<sz t↔¬r (aN t K|||W)=R):=λt g zt=>by unfold df;have:=top (K4 ((cE t K).lt H) L);lia
 have et:aN (p|||2^l) K|||W=ov W [x,y,z]:=dq λt=>by
  rw[Kl,KH,bF,bO,or_comm];refine Nb #[?_,λh=> ?_]
  .rintro⟨m,o,f⟩;rw[ep,aV,aV,KH,KH,Kt,Kf,Kf,Kf]at f;have same:∀ {k w},k=m->(bits K)[k]?=some ((w:Nat):Int)->t=w:=λ{k w} e h=>by rw[e,o]at h;have:=Lf h;lia
   rcases f with (f|f)|f
   .simp[same f hx]
   .simp[same f hy]
   .simp[same f U]
  .simp only[J7,Ki,K0]at h;rw[ep];rcases h with rfl|rfl|rfl
   .exact#[i,hx,by rw[aV,aV,Kt];simp]
   .exact#[j,hy,by rw[aV,aV];simp]
   .exact#[l,U,by rw[aV];simp]
 have lt:p|||2^l<2^7:=K4 Q (LR ∅ l7);have zt:sz (p|||2^l)=3:=by rw[gn (N7 Q ∅) () (by rw[ep,aV,Kt,J6 (λe=>li e.symm),J6 (λe=>lj e.symm)];rfl),Ko O.2]
 rw[ov3,<-et]at nz;refine F6 (t:=p|||2^l) ((La.filter _).filter _|>.filter _) ?_ λs bX=> ?_
 .refine Kx.mpr #[Kx.mpr #[Kx.mpr #[J9.mpr lt,J3 zt],J3 ((ln _ lt zt).mpr nz)],J3 ?_];exact Kj λt=>by rw[KQ,Kl];cases p.testBit t<;>rfl
 .have o:=Kx.mp bX;have f:=Kx.mp o.1;have h3:=Kx.mp f.1;have ls:=J9.mp h3.1;have zs:=Ko h3.2;have ns:=(ln s ls zs).mp (Ko f.2);have ps:=Ko o.2;refine Kr λne=> ?_;have zz:∀ {t},t<2^7->sz (aN t K)=sz t:=λ{t} h=>nu (by rw[zK];exact h);have s1:=apart s;have s2:=apart (p|||2^l);have s3:=apart p;rw[zz ls]at s1;rw[zz lt]at s2;rw[zz Q,Ko O.2]at s3;have:=F _ _ (cC (K4 ((cE s K).lt H) L)) (cC (K4 ((cE (p|||2^l) K).lt H) L)) () () ns nz λe=>ne ?_
  .have m:sz (aN p K|||W)<=sz ((aN s K|||W)&&& (aN (p|||2^l) K|||W)):=fL λt _ g=>by
    rw[Kl,KH]at g;rw[KQ,Kl,Kl,Kn,KH,KH];rcases g with q|q
    .obtain⟨m,o,f⟩:=bF.mp q;refine#[.inl (bF.mpr #[m,o,?_]), .inl (bF.mpr #[m,o,by rw[Kl,f];rfl])];rw[<-ps,KQ,Kn]at f;exact f.2
    .exact#[.inr q, .inr q]
   lia
  ·
   have back:∀ {a b:Nat},aN a K|||W=aN b K|||W->a<2^7->∀m,a.testBit m=true->b.testBit m=true:=λ{a b} e la m hm=>by
    obtain⟨t,g,kt⟩:=ar m (aW la hm);have q:(aN a K|||W).testBit t=true:=by rw[Kl,bF.mpr #[m,g,hm]];rfl
    rw[e,Kl,dj t kt,Mp]at q;obtain⟨m',o,f⟩:=bF.mp q;exact mX o g▸f
   exact dq λm=>#[back e ls m,back e.symm lt m]
end
end Bh
namespace Bh
theorem wA(h:∀s,s<2^7->q s=a s):bT 7 q=bT 7 a:=by
 have e:fv 7 q=fv 7 a:=Li λs b=>by have:=J9.mp (Kx.mp b).1;rw[h s this]
 unfold bT;rw[e,h _ ∅]
section
variable{n R:Nat}{r:Nat->Nat}(M:Mat n r)(hf:r (2^n-1)=R)
include M hf
theorem wu(F:gW (2^n-1) R λS=>r S=R)(h:GF (2^n-1) (sz (2^n-1) -R) (iJ (2^n-1) λS=>r S=R)):∃k w,k<2^n/\Sub w (au (2^n-1) k)/\sz k=7/\sz w+4=R/\bT 7 (gc 7 (df r k w))=true:=by
 have f:=M.bW (aQ n);have le:=M.kQ (2^n-1) (aQ n);have eq:∀S,Sub S (2^n-1)->sz S=sz (2^n-1) -R->(gc n r S=sz (2^n-1) -R↔r (au (2^n-1) S)=R):=λS g y=>by have d:=bG f g;have m:=M.mono (aR (2^n-1) S) (aQ n);have i:=M.cX (g.lt (aQ n));lia
 have O:gc n r (2^n-1)=sz (2^n-1) -R:=by
  have i:=M.cX (aQ n);have:au (2^n-1) (2^n-1)=0:=Kj λt=>by rw[aG,KI];simp
  rw[this,M.zero]at i;lia
 have N:=qN f () F;obtain⟨k,o,x,J,a,A,zo,sv⟩:=pX M.dual O (λS T g B y L U nT ne=>N S T g B y L (λz=>U ((eq S g y).mpr z)) (λz=>nT ((eq T B L).mpr z)) ne) (by
  obtain⟨W,K,p,e,a,zK,zW,q⟩:=h;refine#[W,K,p,e,a,zK,zW,λu v j l ne=> ?_];obtain⟨c,b,d,m,i⟩:=q u v j l ne;refine#[c,b,d,m,λz=>i ((eq _ ?_ ?_).mp z)]
  .exact eh p (eh (eh (dF (e u j)) (dF (e v l))) (dF (e c b)))
  .rw[ov3,oC f p (by simp[ne,d.symm,m.symm]) λt G=> ?_]
   .exact zW
   .simp only[J7,Ki,K0]at G;rcases G with rfl|rfl|rfl
    .exact#[e _ j,a _ j]
    .exact#[e _ l,a _ l]
    .exact#[e _ b,a _ b])
 have so:Sub o (au (2^n-1) k):=pR (cC J) a;have H:au (2^n-1) (o|||au (au (2^n-1) k) o)=k:=dq λt=>by rw[aG,Kl,aG,aG];have b:=cC x t;have d:=a t;cases q1:(2^n-1:Nat).testBit t<;>cases q2:k.testBit t<;>cases q3:o.testBit t<;>simp_all
 have Q:au (au (2^n-1) k) o<2^n:=((aR _ _).trans (aR _ _)).lt (aQ n);have s1:=bG f (cC x);have s2:=bG ((aR _ _).lt (n:=8) f) so;refine#[k,au (au (2^n-1) k) o,x,aR _ _,A,(),?_];rw[<-sv];refine wA λs q=> ?_;have:=M.turn J Q (λt b d=>by rw[aG,b]at d;simp at d) (s:=s) (by rw[H,A];exact q);rw[H,A]at this;exact this
theorem zU(F:gW (2^n-1) R λS=>r S=R)(h:Bad (2^n-1) R λS=>r S=R):ow n R r:=by
 rcases h with h|h|h|h
 .obtain⟨k,w,a,b,c,d,e⟩:=sN M hf ∅ h;exact#[k,w,a,b, .inl #[c,d,e]]
 .obtain⟨k,w,a,b,c,d,e⟩:=sN M hf ∅ h;exact#[k,w,a,b, .inr (.inl #[c,d,e])]
 .obtain⟨k,w,a,b,c,d,e,f⟩:=pX M hf F h;exact#[k,w,a,pR (cC b) c, .inr (.inr (.inl #[d,e,f]))]
 .obtain⟨k,w,a,b,c,d,e⟩:=wu M hf F h;exact#[k,w,a,b, .inr (.inr (.inr #[c,d,e]))]
theorem Cv(F:gW (2^n-1) R λS=>r S=R):Tern n r\/ow n R r:=by
 have a:=M.bW (aQ n);have c:sz (2^n-1)<=8:=by have:=lH (n:=n) (s:=0) M.n8 (Nat.two_pow_pos n);rw[cH,kr]at this;have:=M.n8;lia
 obtain⟨B,b,d,e⟩:=M.some_base;rcases Ex (β:=λS=>r S=R) _ rfl c a F #[B,b,(),()]with h|h
 .exact .inl (Ag M hf h)
 .exact .inr (zU M hf F h)
end
theorem CN:∀s:Nat,s<128->∀p:Nat,p<8->bits (bh p s)=(bits s).map λz=>if z<(p:Int)then z else z+1:=by decide+kernel
theorem vR(f:s<128)(d:p<8)(x:Nat):aN x (bh p s)=bh p (aN x s):=dq λt=>by
 rw[bF,CN s f p d,eS];constructor
 .rintro⟨j,a,c⟩;rw[Kv]at a;cases e:(bits s)[j]? with
  |none=>rw[e]at a;cases a
  |some z=>
   rw[e]at a;have a:(if z<(p:Int)then z else z+1)=(t:Int):=Lf a;obtain⟨k,_,_,rfl⟩:=dg.mp (Km e);have b:=bF.mpr #[j,e,c];by_cases q:k<p
   .rw[J5 ()]at a;have:k=t:=()
    subst this;rw[J5 q];exact b
   .rw[J4 ()]at a;have:t=k+1:=()
    subst this;rw[J4 (),J4 ()];exact b
 .intro h;by_cases q:t<p
  .rw[J5 q]at h;obtain⟨j,a,c⟩:=bF.mp h;exact#[j,by rw[Kv,a];show some (if(t:Int)<p then _ else _)=_;rw[J5 ()],c]
  .rw[J4 q]at h;by_cases e:t=p
   .rw[J5 e]at h;cases h
   .rw[J4 e]at h;obtain⟨j,a,c⟩:=bF.mp h;exact#[j,by rw[Kv,a];show some (if((t-1:Nat):Int)<p then _ else _)=_;rw[J4 ()];congr 1;lia,c]
theorem oq(M:Mat n r)(v:n<8)(m:p<=n)(x:Nat)(N:x=0\/x=2^p)(J:R'=R+sz x)(o:∀s,s<2^n->q (bh p s|||x)=r s+sz x)(h:ow n R r):ow (n+1) R' q:=by
 obtain⟨s,w,i,u,h⟩:=h;have z:=kP v i;have g:=u.lt ((aR _ _).lt (aQ n));have B:=jb s z p ();have G:=jb w (kP v g) p ();have A:∀t,x.testBit t=true->t=p:=λt d=>by
  rcases N with e|e
  .rw[e,KI]at d;cases d
  .rw[e,Kt,Kf]at d;exact d.symm
 have O:sz (bh p w|||x)=sz w+sz x:=by rw[lI (λt l K=>by rw[A t K,G.2.2]at l;cases l),G.1]
 have e:df q (bh p s) (bh p w|||x)=df r s w:=funext λy=>by
  unfold df;rw[vR z ()];have H:bh p (aN y s)||| (bh p w|||x)=bh p (aN y s|||w)|||x:=by
   rw[<-Nc];congr 1;exact dq λt=>by
    rw[Kl,eS,eS,eS];by_cases q:t<p
    .rw[J5 q,J5 q,J5 q,Kl]
    .by_cases f:t=p
     .rw[J4 q,J4 q,J4 q,J5 f,J5 f,J5 f];rfl
     .rw[J4 q,J4 q,J4 q,J4 f,J4 f,J4 f,Kl]
  rw[H,o _ (K4 ((cE y s).lt i) g),o _ g];lia
 refine#[bh p s,bh p w|||x,lz i m,λt d=> ?_,?_]
 .rw[aG,KD,Kn,Kf,Lr];rw[Kl,KH]at d;rcases d with d|d
  .refine#[aW (lz g m) d,?_];rw[eS]at d⊢;have k:∀j,w.testBit j=true->s.testBit j=false:=λj L=>by have:=u j L;rw[aG,Kn,Lr]at this;exact this.2
   by_cases q:t<p
   .rw[J5 q]at d⊢;exact k _ d
   .rw[J4 q]at d⊢;by_cases f:t=p
    .rw[J5 f]at d;cases d
    .rw[J4 f]at d⊢;exact k _ d
  .rw[A t d];exact#[(),B.2.2]
 .rw[e,O,B.1,J];rcases h with ⟨a,b,c⟩|⟨a,b,c⟩|⟨a,b,c⟩|⟨a,b,c⟩
  .exact .inl #[a,(),c]
  .exact .inr (.inl #[a,(),c])
  .exact .inr (.inr (.inl #[a,(),c]))
  .exact .inr (.inr (.inr #[a,(),c]))
def Cl3(n:Nat)(r:Nat->Nat):Prop:=Tern n r\/ow n (r (2^n-1)) r
theorem kU(a:p<=n):bC p (2^(n+1) -1)=2^n-1:=Kj λj=>by
 rw[cJ,KD,KD,KD];by_cases h:j<p
 .rw[J5 h,J3 (),J3 ()]
 .rw[J4 h];exact LS.mpr ()
theorem ES(b:n<8)(c:p<=n)(a:s<2^n):eJ p (bh p s)=s:=by unfold eJ;rw[(jb s (kP b a) p ()).2.2,J4 ∅,hZ]
theorem EL(M:Mat n r)(a:p<=n)(b:n<8)(h:Cl3 n r):Cl3 (n+1) λs=>r (bC p s):=by
 rcases h with h|h
 .exact .inl (Bl a b h)
 .exact .inr (oq M b a 0 (.inl rfl) (by show r (bC p _)=_;rw[kU a,cH];rfl) (λs c=>by show r (bC p _)=_;rw[Nat.or_zero,hZ,cH];rfl) h)
theorem Gv(M:Mat n r)(b:p<n)(a:n<8)(h:Cl3 n r):Cl3 (n+1) λs=>r (eJ p s):=by
 rcases h with h|h
 .exact .inl (C6 b a h)
 .refine .inr (oq (p:=p) M a () 0 (.inl rfl) ?_ (λs c=>by show r (eJ p _)=_;rw[Nat.or_zero,ES a () c,cH];rfl) h);show r (eJ p _)=_;unfold eJ;rw[kU (),KD,J3 (),J5 rfl,fQ (by rw[KD];exact J3 b),cH];rfl
theorem IP(M:Mat n r)(a:p<=n)(b:n<8)(h:Cl3 n r):Cl3 (n+1) λs=>r (bC p s)+if s.testBit p=true then 1 else 0:=by
 rcases h with h|h
 .exact .inl (Ff M a b h)
 .have c:sz (2^p)=1:=by have:=gn (s:=0) ∅ (show p<8 by lia) (KI p);rw[NB,cH]at this;exact this
  refine .inr (oq M b a (2^p) (.inr rfl) ?_ (λs d=> ?_) h)
  .show r (bC p _)+_=_;rw[kU a,KD,J3 (),J5 rfl,c]
  .show r (bC p _)+_=_;rw[gm,hZ,c,aV];simp
end Bh
set_option maxHeartbeats 4000000
namespace BhK
def top(i:Nat):PySem.Stmt:=PySem.Challenge.pw_basehouse_k42_tables_over_three.main.body.getD i (.Pass #[0,0,0,0])
abbrev s_holds:=top 1
abbrev s_things:=top 2
abbrev s_size:=top 3
abbrev s_set_of:=top 4
abbrev s_within:=top 5
abbrev s_parts:=top 6
abbrev s_choices:=top 7
abbrev s_spread:=top 8
abbrev s_all_of:=top 9
abbrev s_less:=top 10
abbrev s_exchanged:=top 12
abbrev s_whole_rank:=top 17
abbrev s_ranks:=top 18
abbrev s_frees:=top 19
abbrev s_bases:=top 20
abbrev s_is_even:=top 30
abbrev s_holders:=top 31
abbrev s_is_seven:=top 32
abbrev s_kind_of:=top 33
abbrev s_rests:=top 35
abbrev s_pivot_place:=top 36
abbrev s_cleared:=top 37
abbrev s_all_cleared:=top 38
abbrev s_rank_of:=top 39
abbrev s_columns_with:=top 42
abbrev s_fits:=top 43
abbrev s_column_for:=top 44
abbrev s_single:=top 45
abbrev s_table_for:=top 46
abbrev s_left_barred:=top 47
abbrev s_told_over:=top 48
abbrev s_over_three:=top 49
abbrev s__law_whole:=top 51
abbrev s__law_size:=top 52
abbrev s__law_far:=top 53
abbrev s__law_ranks:=top 54
abbrev s__law_determinant:=top 55
abbrev s__law_minor:=top 56
abbrev s__law_seven:=top 57
abbrev s__law_kind:=top 58
abbrev s__law_table_right:=top 59
abbrev s__law_right:=top 60
abbrev s__law_bases:=top 61
abbrev s__law_free:=top 62
abbrev s__law_rows:=top 63
abbrev s__law_put:=top 64
abbrev s__law_idle:=top 65
abbrev s__law_round:=top 66
abbrev s_law:=top 67
abbrev s_House___init__:PySem.Stmt:=L2.fS (top 14) 0
abbrev s_House_rank:PySem.Stmt:=L2.fS (top 14) 1
abbrev s_House_everything:PySem.Stmt:=L2.fS (top 14) 2
abbrev s_Listed___init__:PySem.Stmt:=L2.fS (top 15) 0
abbrev s_Listed_rank:PySem.Stmt:=L2.fS (top 15) 1
abbrev s_Other___init__:PySem.Stmt:=L2.fS (top 22) 0
abbrev s_Other_rank:PySem.Stmt:=L2.fS (top 22) 1
abbrev s_Minor___init__:PySem.Stmt:=L2.fS (top 23) 0
abbrev s_Minor_rank:PySem.Stmt:=L2.fS (top 23) 1
abbrev s_Known___init__:PySem.Stmt:=L2.fS (top 41) 0
abbrev s_Known_rank:PySem.Stmt:=L2.fS (top 41) 1
open PySem L2 Bh
structure Tb(K:PySem.W.Frag)(mg:Str->Option Value):Prop where
 len_:mg "len"=none
 range_:mg "range"=none
 isinstance_:mg "isinstance"=none
 int_:mg "int"=none
 bool_:mg "bool"=none
 list_:mg "list"=none
 set_:mg "set"=none
 tuple_:mg "tuple"=none
 max_:mg "max"=none
 min_:mg "min"=none
 zip_:mg "zip"=none
 enumerate_:mg "enumerate"=none
 sum_:mg "sum"=none
 sorted_:mg "sorted"=none
 dict_:mg "dict"=none
 all_:mg "all"=none
 str_:mg "str"=none
 reversed_:mg "reversed"=none
 kII:kitOne K (.type "int") (.type "int")=some true
 kIB:kitOne K (.type "int") (.type "bool")=some false
 kTT:kitOne K (.type "tuple") (.type "tuple")=some true
 kLL:kitOne K (.type "list") (.type "list")=some true
 kSS:kitOne K (.type "str") (.type "str")=some true
theorem bH{vs:St}(h:vs.length=1):∃v,vs=[v]:=List.length_eq_one_iff.mp h
theorem oa(a:List Int):(a.map V.int).all mH=true:=by
 induction a with
 |nil=>rfl
 |cons n r b=>rw[KS,Oz,b];rfl
theorem qD(z:Int)(a:List Int):inV (.int z) (a.map V.int)=decide (z∈a):=by
 unfold inV
 induction a with
 |nil=>rfl
 |cons n r c=>
  rw[KS,Nz,c];by_cases h:n=z
  .subst h;simp[eqV]
  .have b:¬z=n:=λe=>h e.symm;simp[eqV,h,b]
theorem bL{a:List Int}{i:Nat}{y:V}(h:(a.map V.int)[i]?=some y):∃z,y= .int z/\a[i]?=some z:=by
 rw[Kv]at h;cases e:a[i]? with
 |none=>rw[e]at h;cases h
 |some z=>rw[e]at h;exact#[z,(Lf h).symm,rfl]
theorem eI{x y:Int}(a:0<=x)(b:0<=y):Builtin.bitAnd x y=((x.toNat&&&y.toNat:Nat):Int):=by unfold Builtin.bitAnd;rw[J3 a,J3 b]
theorem j6{x y:Int}(e:0<=x)(f:0<=y):Builtin.bitOr x y=((x.toNat|||y.toNat:Nat):Int):=by
 have c:¬(0<=Builtin.bitNot x):=by unfold Builtin.bitNot;lia
 have d:¬(0<=Builtin.bitNot y):=by unfold Builtin.bitNot;lia
 have a:Builtin.bitNot (Builtin.bitNot x)=x:=by unfold Builtin.bitNot;lia
 have b:Builtin.bitNot (Builtin.bitNot y)=y:=by unfold Builtin.bitNot;lia
 unfold Builtin.bitOr Builtin.bitAnd;rw[J6 c,J6 d];show Builtin.bitNot (Builtin.bitNot (((Builtin.bitNot (Builtin.bitNot x)).toNat||| (Builtin.bitNot (Builtin.bitNot y)).toNat:Nat):Int))=_;rw[a,b];unfold Builtin.bitNot;lia
theorem Ep{s:Int}(h:0<=s):decide (V.int (s/2^k % 2)=V.int 1)=s.toNat.testBit k:=by
 obtain⟨n,rfl⟩:=LV h;rw[fC];have e:((n:Int) /2^k % 2)=((n/2^k % 2:Nat):Int):=by simp
 rw[e];by_cases a:n/2^k % 2=1
 .rw[a];simp[a]
 .have b:¬((n/2^k % 2:Nat):Int)=1:=()
  have c:¬V.int ((n/2^k % 2:Nat):Int)=V.int 1:=λe=>b (V.int.inj e);rw[J6 c];simp[a]
theorem Bk{s:Int}(c:0<=s)(f:s<256):eY (λi=>s.toNat.testBit i) (λi=> .int (0+(i:Nat))) ((Builtin.Int.intBits s:Nat):Int).toNat=(bits s.toNat).map V.int:=by
 obtain⟨n,rfl⟩:=LV c;have e:Builtin.Int.intBits (n:Int)=if n=0 then 0 else n.log2+1:=by
  unfold Builtin.Int.intBits;by_cases a:n=0
  .subst a;rfl
  .have d:((n:Int)==0)=false:=by simpa using a
   rw[d,J4 a];simp
 have b:=EO n ();unfold eY bits;rw[e,J8,K5];show List.map (λi:Nat=>V.int (0+(i:Int))) (List.filter (λi=>n.testBit i) (List.range (if n=0 then 0 else n.log2+1)))=_;rw[show(λi=>n.testBit i)=n.testBit from rfl,b];refine LB λk _=> ?_;show V.int (0+(k:Int))=V.int (k:Int);rw[Lk]
inductive ye(vs:List V)(H:Hp)(Q:VK):Prop
 |mk (s t:Int) (y_0:vs=[.int s, .int t]) (y_1:0<=s) (y_2:0<=t) (y_3:Q (.bl (s.toNat.testBit t.toNat)) H):ye vs H Q
def um:Sp:=λvs H Q _=>ye vs H Q
inductive tF(vs:List V)(H:Hp)(Q:VK):Prop
 |mk (s:Int) (y_0:vs=[.int s]) (y_1:0<=s) (y_2:s<256) (y_3:∀p H',Same H H'->H p=none->H' p=some (.lst ((bits s.toNat).map V.int))->Q (.ref p) H'):tF vs H Q
def iq:Sp:=λvs H Q _=>tF vs H Q
inductive A6(vs:List V)(H:Hp)(Q:VK):Prop
 |mk (s:Int) (y_0:vs=[.int s]) (y_1:0<=s) (y_2:s<256) (y_3:∀H',Same H H'->Q (.int ((bits s.toNat).length:Nat)) H'):A6 vs H Q
def jH:Sp:=λvs H Q _=>A6 vs H Q
inductive xP(K:PySem.W.Frag)(vs:List V)(H:Hp)(Q:VK):Prop
 |mk (a:Addr) (ns:List Int) (y_0:vs=[.ref a]) (y_1:SqL K H a (ns.map V.int)) (y_2:(∀z∈ns,0<=z/\z<8)) (y_3:Q (.int (ur ns:Nat)) H):xP K vs H Q
def uj(K:PySem.W.Frag):Sp:=λvs H Q _=>xP K vs H Q
inductive tw(vs:List V)(H:Hp)(Q:VK):Prop
 |mk (s t:Int) (y_0:vs=[.int s, .int t]) (y_1:0<=s) (y_2:0<=t) (y_3:Q (.bl (decide (s.toNat&&&t.toNat=s.toNat))) H):tw vs H Q
def vS:Sp:=λvs H Q _=>tw vs H Q
inductive xO(vs:List V)(H:Hp)(Q:VK):Prop
 |mk (i:Int) (y_0:vs=[.int i]) (y_1:Q (.bl true) H):xO vs H Q
def ui:Sp:=λvs H Q _=>xO vs H Q
inductive E9(K:PySem.W.Frag)(vs:List V)(H:Hp)(Q:VK):Prop
 |mk (a:Addr) (ns:List Int) (y_0:vs=[.ref a]) (y_1:SqL K H a (ns.map V.int)) (y_2:ns.length<=63) (y_3:∀H',Q (.bl true) H'):E9 K vs H Q
def Ap(K:PySem.W.Frag):Sp:=λvs H Q _=>E9 K vs H Q
def bI:V->Int
 | .int z=>z
 |_=>0
theorem bK(p:Int->Bool)(f:Int->Int)(a:List Int):fF (λx=>p (bI x)) (λx=> .int (f (bI x))) (a.map V.int)=((a.filter p).map f).map V.int:=by unfold fF;rw[MW,K5,K5];rfl
theorem EI(a:List Int)(b c:Option Int):∃cs:List Int,o3 (a.map V.int) b c=cs.map V.int/\cs.length<=a.length:=by
 refine#[(a.drop (HT.sIx a.length 0 b)).take (HT.sIx a.length a.length c-HT.sIx a.length 0 b),?_,?_]
 .unfold o3;rw[J2,<-List.map_drop,<-List.map_take]
 .rw[KL,ME];exact Kd (Nat.min_le_right _ _) (Nat.sub_le _ _)
theorem ka{n j:Nat}:decide (V.int (Builtin.bitAnd ((n:Int) /2^(0+(j:Int)).toNat) 1)=V.int 1)=n.testBit j:=by
 have b:(0+(j:Int)).toNat=j:=()
 have c:((n:Int) /2^j)=((n/2^j:Nat):Int):=by simp
 rw[b,c,eI (Lv _) ∅,J8];have d:((1:Int).toNat)=1:=rfl;rw[d,Ox,fC];by_cases a:n/2^j % 2=1
 .rw[a];rfl
 .have:¬V.int ((n/2^j % 2:Nat):Int)=V.int 1:=λz=>a (by have:=V.int.inj z;lia);rw[J6 this,J6 a]
theorem ix(p:Nat->Bool)(N:Nat):eY p (λi=>V.int (0+(i:Nat))) N=(((List.range N).filter p).map λs:Nat=>(s:Int)).map V.int:=by unfold eY;rw[K5];refine LB λk _=> ?_;show V.int (0+(k:Int))=V.int (k:Int);rw[Lk]
theorem cQ(n:Nat):(1*2^((n:Nat):Int).toNat:Int)=((2^n:Nat):Int):=by rw[J8,LH];simp
theorem jS{l:List Int}{j:Nat}{z:Int}(h:l[j]?=some z):atI (l.map V.int) (j:Int)=some (.int z):=jr (by rw[Kv,h];rfl)
theorem cY{l:List Int}(h:j<l.length):atI (l.map V.int) (j:Int)=some (.int (l.getD j 0)):=jS (by simp[h])
inductive yi(vs:List V)(H:Hp)(Q:VK):Prop
 |mk (n:Int) (y_0:vs=[.int n]) (y_1:0<=n) (y_2:n<=1000) (y_3:Q (.int (1*2^n.toNat-1)) H):yi vs H Q
def Aw:Sp:=λvs H Q _=>yi vs H Q
inductive yd(K:PySem.W.Frag)(vs:List V)(H:Hp)(Q:VK):Prop
 |mk (p C dx:Addr) (n:V) (y_0:vs=[.ref p,n]) (y_1:H p=some (.ins C dx [])) (y_2:Cls K C) (y_3:b7 K C "many") (y_4:Q .non (upd H p (.ins C dx (di "many" n [])))):yd K vs H Q
def lO(K:PySem.W.Frag):Sp:=λvs H Q _=>yd K vs H Q
inductive yg(K:PySem.W.Frag)(vs:List V)(H:Hp)(Q:VK):Prop
 |mk (a C dx:Addr) (fs:List (Str×V)) (n:Int) (y_0:vs=[.ref a]) (y_1:H a=some (.ins C dx fs)) (y_2:Cls K C) (y_3:b7 K C "many") (y_4:fs.lookup ("many":Str)=some (.int n)) (y_5:0<=n) (y_6:n<=1000) (y_7:Q (.int (1*2^n.toNat-1)) H):yg K vs H Q
def dQ(K:PySem.W.Frag):Sp:=λvs H Q _=>yg K vs H Q
def liF(n:Int)(t:Addr):List (Str×V):=di "listed" (.ref t) (di "many" (.int n) [])
theorem xg:¬(("many":Str)= "listed"):=by decide+kernel
theorem Eb(n:Int)(t:Addr):(liF n t).lookup ("many":Str)=some (.int n):=by unfold liF;rw[aI _ _ xg,aY]
theorem yS(n:Int)(t:Addr):(liF n t).lookup ("listed":Str)=some (.ref t):=aY _ _ _
theorem Ea(n:Int)(t:Addr){m:Str}(a:¬m= "listed")(b:¬m= "many"):(liF n t).lookup m=none:=by unfold liF;rw[aI _ _ a,aI _ _ b];rfl
theorem D9(n:Int)(t:Addr):(liF n t).lookup ("rank":Str)=none:=Ea _ _ (by decide+kernel) (by decide+kernel)
theorem Cf(n:Int)(t:Addr):(liF n t).lookup ("everything":Str)=none:=Ea _ _ (by decide+kernel) (by decide+kernel)
def E2(C:Addr)(H:Hp)(a:Addr)(n:Int)(ms:List Int):Prop:=∃b t,H a=some (.ins C b (liF n t))/\H t=some (.tup (ms.map V.int))/\ms.length<=1000
theorem E2.same(h:E2 C H a n ms)(e:Same H H'):E2 C H' a n ms:=by obtain⟨b,t,c,d,f⟩:=h;exact#[b,t,e.at c,e.at d,f]
inductive xZ(K:PySem.W.Frag)(C:Addr)(vs:List V)(H:Hp)(Q:VK):Prop
 |mk (p dx a:Addr) (n:Int) (ms:List Int) (y_0:vs=[.ref p, .int n, .ref a]) (y_1:H p=some (.ins C dx [])) (y_2:SqL K H a (ms.map V.int)) (y_3:ms.length<=1000) (y_4:∀t H',H t=none->(∀b o,H b=some o->b≠p->H' b=some o)->H' p=some (.ins C dx (liF n t))->H' t=some (.tup (ms.map V.int))->Q .non H'):xZ K C vs H Q
def Ar(K:PySem.W.Frag)(C:Addr):Sp:=λvs H Q _=>xZ K C vs H Q
inductive xT(C:Addr)(vs:List V)(H:Hp)(Q:VK):Prop
 |mk (a:Addr) (n s:Int) (ms:List Int) (y_0:vs=[.ref a, .int s]) (y_1:E2 C H a n ms) (y_2:ms≠[]) (y_3:(∀m∈ms,0<=m/\m<256)) (y_4:0<=s) (y_5:s<256) (y_6:∀H',Same H H'->Q (.int (cw ms s.toNat:Nat)) H'):xT C vs H Q
def Am(C:Addr):Sp:=λvs H Q _=>xT C vs H Q
def bY(l:List Nat):List Int:=l.map λs:Nat=>(s:Int)
theorem dA(h:z∈bY l):∃s:Nat,s∈l/\z=s:=by obtain⟨s,a,rfl⟩:=Ka.mp h;exact#[s,a,rfl]
theorem CY{vs:St}(h:vs.length=2):∃v w,vs=[v,w]:=by
 match vs,h with
 | [v,w],_=>exact#[v,w,rfl]
inductive xV(K:PySem.W.Frag)(vs:List V)(H:Hp)(Q:VK):Prop
 |mk (a:Addr) (xs:List V) (L:List (List Int)) (c n:Nat) (y_0:vs=[.ref a, .int (c:Int)]) (y_1:H a=some (.lst xs)) (y_2:aU H xs L) (y_3:(∀r∈L,r.length=n)) (y_4:c<n) (y_5:(∀ (i:Nat) (r:List Int) (H':Hp),Same H H'->L[i]?=some r->¬r.getD c 0=0->Q (.int (i:Int)) H')) (y_6:((∀r∈L,r.getD c 0=0)->∀H',Same H H'->Q .non H')):xV K vs H Q
def Ao(K:PySem.W.Frag):Sp:=λvs H Q _=>xV K vs H Q
def k9(d:Int)(pr r:List Int)(c:Nat):List Int:=(List.range r.length).map λj=>(r.getD j 0*pr.getD c 0-pr.getD j 0*r.getD c 0).fdiv d
def i6(n B:Nat)(r:List Int):Prop:=r.length=n/\∀z∈r,z.natAbs<2^B
theorem i6.at{r:List Int}(h:i6 n B r)(j:Nat):(r.getD j 0).natAbs<2^B:=by
 by_cases a:j<r.length
 .have e:r.getD j 0=r[j]:=by simp[a]
  rw[e];exact h.2 _ (LD a)
 .have e:r.getD j 0=0:=by simp[a]
  rw[e];exact Mf ∅
theorem Fl{x y:Int}(a:x.natAbs<2^k)(b:y.natAbs<2^k):(x-y).natAbs<2^(k+1):=by rw[NI];lia
theorem Ew(a b:Int):(a.fdiv b).natAbs<=a.natAbs:=Int.natAbs_fdiv_le_natAbs a b
theorem Gw(b:i6 n B pr)(a:i6 n B r):i6 n (B+B+1) (k9 d pr r c):=by refine#[by unfold k9;rw[J2,Kq];exact a.1,λz e=> ?_];obtain⟨j,_,rfl⟩:=Ka.mp e;exact Ks (Ew _ _) (Fl (vx (a.at j) (b.at c)) (vx (b.at j) (a.at c)))
inductive oS(K:PySem.W.Frag)(vs:List V)(H:Hp)(Q:VK):Prop
 |mk (a b:Addr) (r pr:List Int) (c n B:Nat) (d:Int) (y_0:vs=[.ref a, .ref b, .int (c:Int), .int d]) (y_1:SqL K H a (r.map V.int)) (y_2:SqL K H b (pr.map V.int)) (y_3:i6 n B r) (y_4:i6 n B pr) (y_5:c<n) (y_6:n<=1000) (y_7:B<=2^24) (y_8:CFd 0 d) (y_9:∀q H',Same H H'->H q=none->H' q=some (.lst ((k9 d pr r c).map V.int))->Q (.ref q) H'):oS K vs H Q
def pV(K:PySem.W.Frag):Sp:=λvs H Q _=>oS K vs H Q
inductive tZ(K:PySem.W.Frag)(vs:List V)(H:Hp)(Q:VK):Prop
 |mk (a:Addr) (xs:List V) (L:List (List Int)) (i c n B:Nat) (d:Int) (pr:List Int) (y_0:vs=[.ref a, .int (i:Int), .int (c:Int), .int d]) (y_1:H a=some (.lst xs)) (y_2:aU H xs L) (y_3:(∀r∈L,i6 n B r)) (y_4:L.length<=1000) (y_5:L[i]?=some pr) (y_6:c<n) (y_7:n<=1000) (y_8:B<=2^24) (y_9:(2<=L.length->CFd 0 d)) (y_10:∀q H' ys,Same H H'->H q=none->H' q=some (.lst ys)->aU H' ys ((L.take i++L.drop (i+1)).map λr=>k9 d pr r c)->Q (.ref q) H'):tZ K vs H Q
def wq(K:PySem.W.Frag):Sp:=λvs H Q _=>tZ K vs H Q
def bg(l:List Int):Row:=λj=>l.getD j 0
theorem Dv{pr r:List Int}(g:pr.length=n)(h:r.length=n)(f:c<n):bg (k9 d pr r c)=cN d (bg pr) c (bg r):=by
 funext j;show(k9 d pr r c).getD j 0=(r.getD j 0*pr.getD c 0-pr.getD j 0*r.getD c 0).fdiv d;unfold k9;by_cases a:j<r.length
 .simp[a]
 .have b:r.getD j 0=0:=by simp[a]
  have e:pr.getD j 0=0:=by
   have:¬j<pr.length:=()
   simp[this]
  rw[b,e,MA,MA,LJ,Int.zero_fdiv];simp[a]
def gT:Nat->Nat
 |0=>200
 |i+1=>gT i+gT i+1
theorem CP:∀i,i<9->gT i<=2^24:=∅
theorem vt:∀i,i<6->gT i<9000:=∅
theorem Ir{d:Int}(h:d.natAbs<2^B)(b:B<9000)(a:d≠0):d.natAbs.log2<9000:=by have:d.natAbs.log2<B:=(Nat.log2_lt ()).mpr h;lia
theorem EG{a:Type}{L:List a}{i:Nat}{p:a}(h:L[i]?=some p):L=L.take i++p::L.drop (i+1):=by obtain⟨b,e⟩:=Kh.mp h;rw[<-e,List.getElem_cons_drop,List.take_append_drop]
theorem yy(h:i<n):List.range' i (n-i)=i::List.range' (i+1) (n- (i+1)):=by rw[show n-i=(n- (i+1))+1 by lia,List.range'_succ]
def dB(m:Int)(r:List Int):List Int:=if m=0 then r else r.map λz=>z % m
def DW(m:Int)(r:Row):Row:=λj=>if m=0 then r j else r j % m
theorem Bz(m:Int)(r:List Int):bg (dB m r)=DW m (bg r):=by
 funext j;unfold bg dB DW;by_cases h:m=0
 .rw[J5 h,J5 h]
 .rw[J4 h,J4 h];by_cases a:j<r.length
  .simp[a]
  .simp[a]
theorem w8(m:Int)(r:Row)(j:Nat):m∣DW m r j-r j:=by
 unfold DW;by_cases h:m=0
 .rw[J5 h,LJ];exact KY m
 .rw[J4 h];have:r j % m-r j=m*(-(r j/m)):=by have:=N1 (r j) m;rw[NC];lia
  rw[this];exact Int.dvd_mul_right _ _
theorem BF(m:Int)(r:List Int):(dB m r).length=r.length:=by
 unfold dB;split
 .rfl
 .rw[J2]
theorem wH(d:0<=m)(e:m<128)(b:7<=B)(h:i6 n B r):i6 n B (dB m r):=by
 refine#[by rw[BF];exact h.1,λz a=> ?_];unfold dB at a;split at a
 .exact h.2 z a
 .rename_i c;obtain⟨y,_,rfl⟩:=Ka.mp a;have g1:=Me y c;have g2:=Mb y (show 0<m by lia);exact Kb (show(y % m).natAbs<2^7 by lia) (Kw ∅ b)
theorem AA(b:0<m):∀z∈dB m r,0<=z/\z<m:=λz a=>by unfold dB at a;rw[J4 ()]at a;obtain⟨y,_,rfl⟩:=Ka.mp a;exact#[Me y (),Mb y b]
inductive xS(K:PySem.W.Frag)(vs:List V)(H:Hp)(Q:VK):Prop
 |mk (a:Addr) (r:List Int) (m:Int) (y_0:vs=[.ref a, .int m]) (y_1:SqL K H a (r.map V.int)) (y_2:0<=m) (y_3:r.length<=1000) (y_4:∀q H',Same H H'->H q=none->H' q=some (.lst ((dB m r).map V.int))->Q (.ref q) H'):xS K vs H Q
def Al(K:PySem.W.Frag):Sp:=λvs H Q _=>xS K vs H Q
inductive tO(K:PySem.W.Frag)(vs:List V)(H:Hp)(Q:VK):Prop
 |mk (a:Addr) (xs:List V) (M:List (List Int)) (n:Nat) (m:Int) (y_0:vs=[.ref a, .int m]) (y_1:H a=some (.lst xs)) (y_2:aU H xs M) (y_3:M.length<=8) (y_4:n<=8) (y_5:(∀r∈M,i6 n 200 r)) (y_6:cy m) (y_7:∀ (r:Nat) H',Same H H'->Van m (r+1) (M.map bg) (List.range n)->Mnr m r (M.map bg) (List.range n)->Q (.int (r:Int)) H'):tO K vs H Q
def vZ(K:PySem.W.Frag):Sp:=λvs H Q _=>tO K vs H Q
theorem jo:∀i,7<=gT i
 |0=>∅
 |i+1=>by have:=jo i;show 7<=gT i+gT i+1;lia
theorem Fq{r:List Int}(h:¬r.getD c 0=0):r.getD c 0∈r:=by
 by_cases a:c<r.length
 .have e:r.getD c 0=r[c]:=by simp[a]
  rw[e];exact LD a
 .exact absurd (by simp[a]) h
theorem Io{m x:Int}(b:0<=m)(a:0<m->0<=x/\x<m)(h:¬x=0):¬m∣x:=λd=>by
 by_cases e:m=0
 .rw[e]at d;exact h (Int.zero_dvd.mp d)
 .obtain⟨g1,g2⟩:=a ();have:=Int.le_of_dvd () d;lia
structure GY(H:Hp)(a C:Addr)(n:Nat):Prop where
 ex:∃dx fs,H a=some (.ins C dx fs)/\fs.lookup ("rank":Str)=none/\fs.lookup ("everything":Str)=none/\fs.lookup ("many":Str)=some (.int (n:Int))
theorem s_lt(a:n<=8)(b:s<2^n):s<256:=Kb b (Kw (n:=2) () a)
theorem iB.imp(F:iB P w K mg base k f ps sp)(h:∀vs H Q E,sp' vs H Q E->sp vs H Q E):iB P w K mg base k f ps sp':=by obtain⟨⟨c,a,b⟩,d⟩:=F;exact#[#[c,a.imp h,b],d]
structure HC(K:PySem.W.Frag)(C_House C:Addr):Prop where
 cl:Cls K C
 nM:b7 K C "many"
 ty:TyC K C
 isH:kitOne K (.ref C) (.ref C_House)=some true
theorem dn.mono(M:dn P w K mg base j C m ps sp)(h:j<=k):dn P w K mg base k C m ps sp:=by obtain⟨c,f,a,F⟩:=M;exact#[c,f,a,iB.mono F h]
theorem dn.imp(M:dn P w K mg base k C m ps sp)(h:∀vs H Q E,sp' vs H Q E->sp vs H Q E):dn P w K mg base k C m ps sp':=by obtain⟨c,f,a,F⟩:=M;exact#[c,f,a,iB.imp F h]
def otF(n:Int)(h:Addr)(a fr:Int):List (Str×V):=di "full_rank" (.int fr) (di "full" (.int a) (di "house" (.ref h) (di "many" (.int n) [])))
theorem Ij(n:Int)(h:Addr)(a fr:Int):(otF n h a fr).lookup ("full_rank":Str)=some (.int fr):=aY _ _ _
theorem DM(n:Int)(h:Addr)(a fr:Int):(otF n h a fr).lookup ("full":Str)=some (.int a):=by unfold otF;rw[aI _ _ (by decide+kernel),aY]
theorem BX(n:Int)(h:Addr)(a fr:Int):(otF n h a fr).lookup ("house":Str)=some (.ref h):=by unfold otF;rw[aI _ _ (by decide+kernel),aI _ _ (by decide+kernel),aY]
theorem DL(n:Int)(h:Addr)(a fr:Int):(otF n h a fr).lookup ("many":Str)=some (.int n):=by unfold otF;rw[aI _ _ (by decide+kernel),aI _ _ (by decide+kernel),aI _ _ (by decide+kernel),aY]
theorem DK(n:Int)(h:Addr)(a fr:Int){m:Str}(b:¬m= "full_rank")(c:¬m= "full")(d:¬m= "house")(e:¬m= "many"):(otF n h a fr).lookup m=none:=by unfold otF;rw[aI _ _ b,aI _ _ c,aI _ _ d,aI _ _ e];rfl
abbrev HsP:=Addr->Nat->(Nat->Nat)->Prop
def JF(c:Addr)(H:Hp)(X:HsP)(a:Addr)(n:Nat)(r:Nat->Nat):Prop:=∃ (d h:Addr) (b:Nat->Nat),H a=some (.ins c d (otF n h ((2^n-1:Nat):Int) (b (2^n-1):Nat)))/\X h n b/\∀s,s<2^n->(r s:Int)=(sz s:Int)+(b (au (2^n-1) s):Nat) - (b (2^n-1):Nat)
theorem pW(h:GY (hide H p) a C n):a≠p:=by obtain⟨c,fs,b,_⟩:=h.ex;intro e;subst e;unfold hide at b;rw[J5 rfl]at b;cases b
theorem kA:au (2^n-1) s<2^n:=Ks (iI _ _) (by have:0<2^n:=Mf ();lia)
theorem nH(g:H p=none)(f:H a=none):Same H (hide (upd (upd H a x) p y) p):=λb o e=>by have c:b≠p:=aM e g;have d:b≠a:=aM e f;rw[dR c,aJ c,aJ d];exact e
structure Hs where
 ho:Hp->Addr->Nat->(Nat->Nat)->Prop
 dom:Addr->Prop
structure gI(Z:Hs):Prop where
 same:∀ {H H':Hp} {a:Addr} {n:Nat} {r:Nat->Nat},Same H H'->Z.ho H a n r->Z.ho H' a n r
 shown:∀ {H:Hp} {a:Addr} {n:Nat} {r:Nat->Nat},Z.ho H a n r->∃C,Z.dom C/\GY H a C n
inductive G9(Z:Hs)(C:Addr)(vs:List V)(H:Hp)(Q:VK):Prop
 |mk (a:Addr) (n s:Nat) (r:Nat->Nat) (y_0:vs=[.ref a, .int (s:Int)]) (y_1:Z.ho H a n r) (y_2:(∃dx fs,H a=some (.ins C dx fs))) (y_3:n<=8) (y_4:s<2^n) (y_5:∀H',Same H H'->Q (.int (r s:Nat)) H'):G9 Z C vs H Q
def iN(Z:Hs)(C:Addr):Sp:=λvs H Q _=>G9 Z C vs H Q
def J0(b:Addr)(H:Hp)(a:Addr)(n:Nat)(r:Nat->Nat):Prop:=∃ms:List Int,E2 b H a n ms/\ms≠[]/\(∀m∈ms,0<=m/\m<256)/\∀s,s<2^n->r s=cw ms s
def hsO(Z:Hs)(b:Addr):Hs:=#[λH a n r=>Z.ho H a n r\/JF b H (Z.ho H) a n r,λC=>Z.dom C\/C=b]
theorem IF(z:gI Z)(d:Addr):gI (hsO Z d) where
 same:=λe h=>by
  rcases h with h|⟨c,h',g,a,b,f⟩
  .exact .inl (z.same e h)
  .exact .inr #[c,h',g,e.at a,z.same e b,f]
 shown:=λh=>by
  rcases h with h|⟨c,h',g,a,b,f⟩
  .obtain⟨C,a,b⟩:=z.shown h;exact#[C, .inl a,b]
  .exact#[d, .inr rfl,c,_,a,DK _ _ _ _ (by decide+kernel) (by decide+kernel) (by decide+kernel) (by decide+kernel),DK _ _ _ _ (by decide+kernel) (by decide+kernel) (by decide+kernel) (by decide+kernel),DL _ _ _ _]
theorem AL{H:Hp}{a C b c d:Addr}{fs e:List (Str×V)}(h:H a=some (.ins C c fs))(h':H a=some (.ins b d e)):C=b:=by
 rw[h]at h';injection h' with h'
 injection h' with f
theorem Br(g:cO≠C)(vs:List V)(H:Hp)(Q:VK)(E:XK)(h:iN (hsO Z cO) C vs H Q E):iN Z C vs H Q E:=by
 obtain⟨a,n,s,r,rfl,b,⟨d,e,c⟩,j,i,k⟩:=h;rcases b with b|⟨l,h',m,f,_⟩
 .exact#[a,n,s,r,rfl,b,#[d,e,c],j,i,k]
 .exact absurd (AL c f).symm g
inductive tS(Z:Hs)(cO:Addr)(vs:List V)(H:Hp)(Q:VK):Prop
 |mk (p dx h:Addr) (n:Nat) (r:Nat->Nat) (y_0:vs=[.ref p, .ref h]) (y_1:H p=some (.ins cO dx [])) (y_2:Z.ho (hide H p) h n r) (y_3:n<=8) (y_4:∀H',(∀b o,H b=some o->b≠p->H' b=some o)->H' p=some (.ins cO dx (otF n h ((2^n-1:Nat):Int) (r (2^n-1):Nat)))->Q .non H'):tS Z cO vs H Q
def we(Z:Hs)(a:Addr):Sp:=λvs H Q _=>tS Z a vs H Q
inductive tD(Z:Hs)(vs:List V)(H:Hp)(Q:VK):Prop
 |mk (a:Addr) (n:Nat) (r:Nat->Nat) (y_0:vs=[.ref a]) (y_1:Z.ho H a n r) (y_2:n<=8) (y_3:∀H',Same H H'->Q (.int (r (2^n-1):Nat)) H'):tD Z vs H Q
def gD(Z:Hs):Sp:=λvs H Q _=>tD Z vs H Q
def fZ(n:Nat)(r:Nat->Nat):List Int:=(List.range (2^n)).map λs=>(r s:Int)
theorem lG(n:Nat)(r:Nat->Nat):(fZ n r).length=2^n:=by unfold fZ;rw[J2,Kq]
theorem pO{n s:Nat}(r:Nat->Nat)(a:s<2^n):atI ((fZ n r).map V.int) (s:Int)=some (.int (r s:Nat)):=jr (by unfold fZ;rw[Kv,Kv,LG a];rfl)
theorem kM(h:n<=8):2^n<=256:=Kw (n:=2) () h
theorem eF(x y:Nat):Builtin.bitOr (x:Int) (y:Int)=((x|||y:Nat):Int):=by rw[j6 (Lv _) (Lv _),J8,J8]
theorem iy(x y:Nat):Builtin.bitAnd (x:Int) (y:Int)=((x&&&y:Nat):Int):=by rw[eI (Lv _) (Lv _),J8,J8]
theorem gH:(1*2^((n:Nat):Int).toNat-1:Int)=((2^n-1:Nat):Int):=by
 have h:0<2^n:=Mf ();have e:((2:Int)^n)=((2^n:Nat):Int):=by simp
 rw[J8,LH,e];lia
inductive xX(vs:List V)(H:Hp)(Q:VK):Prop
 |mk (s:Int) (y_0:vs=[.int s]) (y_1:0<=s) (y_2:s<256) (y_3:Q (.int ((bits s.toNat).length:Nat)) H):xX vs H Q
def gY:Sp:=λvs H Q _=>xX vs H Q
structure ZOk(Z:Hs)(H:Hp)(a:Addr)(n:Nat)(ms:List Int):Prop where
 ho:Z.ho H a n (cw ms)
 n8:n<=8
theorem ZOk.same(h:ZOk Z H a n ms)(z:gI Z)(e:Same H H'):ZOk Z H' a n ms:=#[z.same e h.ho,h.n8]
theorem eo(l:List Nat)(p:Int->Bool):(bY l).filter p=bY (l.filter λs:Nat=>p (s:Int)):=by unfold bY;rw[MW];rfl
theorem aX(x y:Nat):decide (V.int (x:Int)=V.int (y:Int))=decide (x=y):=by
 by_cases h:x=y
 .rw[J3 h,h,J3 rfl]
 .rw[J6 h,J6 λz=>h (by have:=V.int.inj z;lia)]
inductive A7(vs:List V)(H:Hp)(Q:VK):Prop
 |mk (s t:Nat) (y_0:vs=[.int (s:Int), .int (t:Int)]) (y_1:Q (.int (au s t:Nat)) H):A7 vs H Q
def nG:Sp:=λvs H Q _=>A7 vs H Q
theorem kf(k:Nat):(1*2^((k:Nat):Int).toNat:Int)=((2^k:Nat):Int):=cQ k
abbrev eT:Str:=#[#v[116,119,111,32,111,102,32,102,111,117,114]]
abbrev bz:Str:=#[#v[116,119,111,32,111,102,32,102,105,118,101]]
abbrev a6:Str:=#[#v[116,104,114,101,101,32,111,102,32,102,105,118,101]]
abbrev d9:Str:=#[#v[115,101,118,101,110]]
abbrev bA:Str:=#[#v[111,116,104,101,114,32,115,101,118,101,110]]
def fJ(n:Nat)(r:Nat->Nat):V:=if fc n r 4 2=true then .str eT else if fc n r 5 2=true then .str bz else if fc n r 5 3=true then .str a6 else if bT n r=true then .str d9 else if bT n (gF n r)=true then .str bA else .non
inductive xW(vs:List V)(H:Hp)(Q:VK):Prop
 |mk (s:Int) (y_0:vs=[.int s]) (y_1:0<=s) (y_2:s<256) (y_3:∀p H',Same H H'->H p=none->H' p=some (.lst ((iO s.toNat).map V.int))->Q (.ref p) H'):xW vs H Q
def o5:Sp:=λvs H Q _=>xW vs H Q
inductive rq(vs:List V)(H:Hp)(Q:VK):Prop
 |mk (s k:Int) (y_0:vs=[.int s, .int k]) (y_1:0<=s) (y_2:s<256) (y_3:∀p H',Same H H'->H p=none->H' p=some (.lst ((d8 s.toNat k).map V.int))->Q (.ref p) H'):rq vs H Q
def iW:Sp:=λvs H Q _=>rq vs H Q
inductive tR(Z:Hs)(vs:List V)(H:Hp)(Q:VK):Prop
 |mk (a:Addr) (n m k:Nat) (r:Nat->Nat) (y_0:vs=[.ref a, .int (m:Int), .int (k:Int)]) (y_1:Z.ho H a n r) (y_2:n<=8) (y_3:∀H',Same H H'->Q (.bl (fc n r m k)) H'):tR Z vs H Q
def wd(Z:Hs):Sp:=λvs H Q _=>tR Z vs H Q
inductive rp(K:PySem.W.Frag)(vs:List V)(H:Hp)(Q:VK):Prop
 |mk (a:Addr) (p:Nat) (L:List Nat) (y_0:vs=[.ref a, .int (p:Int)]) (y_1:SqL K H a ((bY L).map V.int)) (y_2:L.length<=1000) (y_3:∀q H',Same H H'->H q=none->H' q=some (.lst ((bY (L.filter λt=>decide (p&&&t=p))).map V.int))->Q (.ref q) H'):rp K vs H Q
def sj(K:PySem.W.Frag):Sp:=λvs H Q _=>rp K vs H Q
inductive ro(Z:Hs)(vs:List V)(H:Hp)(Q:VK):Prop
 |mk (a:Addr) (n:Nat) (r:Nat->Nat) (y_0:vs=[.ref a]) (y_1:Z.ho H a n r) (y_2:n<=8) (y_3:∀H',Same H H'->Q (.bl (bT n r)) H'):ro Z vs H Q
def si(Z:Hs):Sp:=λvs H Q _=>ro Z vs H Q
inductive tQ(Z:Hs)(vs:List V)(H:Hp)(Q:VK):Prop
 |mk (a:Addr) (n:Nat) (r:Nat->Nat) (y_0:vs=[.ref a]) (y_1:Z.ho H a n r) (y_2:n<=8) (y_3:zZ n r) (y_4:∀H',Same H H'->Q (fJ n r) H'):tQ Z vs H Q
def wc(Z:Hs):Sp:=λvs H Q _=>tQ Z vs H Q
theorem j3{n k:Nat}(a:n<=8):d8 (2^n-1) (k:Int)=bY (dJ n k):=by unfold d8 dJ;rw[nP n ()];show(bY (List.range (2^n))).filter _=_;rw[eo];refine K3 bY (Li λs _=> ?_);rw[J8];exact LS.mpr #[λz=>by show(bits s).length=k;lia,λz=>by have:(bits s).length=k:=z;lia]
theorem bQ(L:List Nat):(bY L).length=L.length:=J2 _
theorem pG(n k:Nat)(a:n<=8):(dJ n k).length<=256:=Kd (Lu _ _) (by rw[Kq];exact k4 a)
theorem nR(g:Int->Bool)(a:List Int):fF (λx=>(λ_=>true) (bI x)) (λx=>V.bl (g (bI x))) (a.map V.int)=(a.map g).map V.bl:=by unfold fF;rw[LM.mpr (λ_ _=>rfl),K5,K5];rfl
theorem xN(g:Int->Bool)(L:List Nat):((bY L).map g).all id=L.all λs:Nat=>g (s:Int):=by unfold bY;rw[K5,List.all_map];rfl
theorem BQ:∀G:Nat,G<256->iO G=((List.range 256).filter λs=>(s&&&G)==s).map (λs:Nat=>(s:Int)):=by decide+kernel
theorem lJ:s&&&G=s↔Sub s G:=by
 constructor
 .intro h k a;rw[<-h,KQ,Kn]at a;exact a.2
 .intro h;refine Kj λk=> ?_;rw[KQ];cases e:s.testBit k with
  |false=>rfl
  |true=>rw[h k e];rfl
theorem fH(c:G<256):z∈d8 G k↔∃S:Nat,z=(S:Int)/\Sub S G/\((sz S:Nat):Int)=k:=by
 unfold d8;rw[Kx,BQ G c,Ka];constructor
 .rintro⟨⟨S,d,rfl⟩,b⟩;have a:=(Kx.mp d).2;exact#[S,rfl,lJ.mp (by simpa using a),Ko b]
 .rintro⟨S,rfl,a,b⟩;exact#[#[S,Kx.mpr #[J9.mpr (a.lt (n:=8) c),by simpa using lJ.mpr a],rfl],J3 b]
def jB(c:Nat->List Int):Nat->Nat->Int:=λt j=>(c t).getD j 0
def dO(c:Nat->List Int)(y:Nat)(col:List Int):Nat->List Int:=λt=>if t=y then col else c t
structure gX(H:Hp)(d:Addr)(ks:List Nat)(q:Nat->Addr)(c:Nat->List Int):Prop where
 dict:H d=some (.dK (kI (ks.map λt:Nat=>((t:Int),V.ref (q t)))))
 cols:∀t∈ks,H (q t)=some (.lst ((c t).map V.int))
theorem gX.same(h:gX H d ks q c)(e:Same H H'):gX H' d ks q c:=#[e.at h.dict,λt a=>e.at (h.cols t a)]
structure vB(p:Int)(R G:Nat)(ks:List Nat)(c:Nat->List Int):Prop where
 keys:∀t,t∈ks↔G.testBit t=true
 nod:ks.Nodup
 len:∀t∈ks,(c t).length=R
 num:∀t∈ks,∀z∈c t,0<=z/\z<p
theorem Eu{a:List Nat}{q:Nat->Addr}{t:Nat}(h:t∈a):((a.map λt:Nat=>((t:Int),V.ref (q t))).find? λp=>decide (p.1=(t:Int))).map (·.2)=some (V.ref (q t)):=by
 induction a with
 |nil=>exact absurd h Ki
 |cons k a b=>
  rw[KS,MU];by_cases e:k=t
  .subst e;simp
  .have:¬((k:Int)=(t:Int)):=λz=>e ();rw[J6 this];exact b (by rcases J7.mp h with z|z;exact absurd z.symm e;exact z)
theorem gX.get(h:gX H d ks q c)(a:t∈ks):z9 H d (.int (t:Int)) (some (.ref (q t))):=by have:=z9.k (k:=Sum.inl (t:Int)) h.dict;rw[Hc,Eu a]at this;exact this
theorem El{G:Nat}(d:∀t,t∈a↔G.testBit t=true):ur (bY a)=G:=Kj λj=>by
 have:=o6 (bY a) 0 j (λz g=>by obtain⟨s,_,rfl⟩:=dA g;lia);rw[KI]at this;have e:((j:Int)∈bY a)↔G.testBit j=true:=by
  rw[<-d j];constructor
  .intro h;obtain⟨s,f,e⟩:=dA h;have:j=s:=()
   exact this▸f
  .exact λh=>Ka.mpr #[j,h,rfl]
 cases b:G.testBit j with
 |true=>exact this.mpr (.inr (e.mpr b))
 |false=>
  cases c:(ur (bY a)).testBit j with
  |false=>rfl
  |true=>
   rcases this.mp c with z|z
   .cases z
   .rw[e.mp z]at b;cases b
theorem By{H:Hp}{q:Nat->Addr}{c:Nat->List Int}{col:List Int}{a:Addr}{y:Nat}{cs:List Nat}(h:∀t∈cs,H (q t)=some (.lst ((c t).map V.int))/\t≠y)(g:H a=some (.lst (col.map V.int))):aU H (cs.map (λt=>V.ref (q t))++[.ref a]) ((cs++[y]).map (dO c y col)):=by
 refine aU.of (by simp) λj i k b d=> ?_;by_cases f:j<cs.length
 .rw[KR (by rw[J2];exact f),Kv,Ky f]at d;rw[Kv,KR f,Ky f]at b;obtain⟨g1,g2⟩:=h _ (LD f);cases b;cases d;refine#[_,rfl,?_];unfold dO;rw[J4 g2];exact g1
 .rw[KN (by rw[J2];lia)]at d;rw[Kv,KN ()]at b;have e:j-cs.length=0:=by
   cases e:j-cs.length with
   |zero=>rfl
   |succ m=>rw[e]at b;simp at b
  rw[J2,e]at d;rw[e]at b;cases b;cases d;refine#[_,rfl,?_];unfold dO;rw[J5 rfl];exact g
def lu(p:Int)(R:Nat)(r:Nat->Nat)(c:Nat->List Int)(G y:Nat):Prop:=∀S,Sub S G->sz S+1=R->(de p (dP (jB c) (List.range R)) (S|||2^y)=R↔r (S|||2^y)=R)
inductive Bd(Z:Hs)(vs:List V)(H:Hp)(Q:VK):Prop
 |mk (h d a:Addr) (n R G y:Nat) (p:Int) (r:Nat->Nat) (ks:List Nat) (q:Nat->Addr) (c:Nat->List Int) (col:List Int) (y_0:vs=[.ref h, .int p, .ref d, .int (y:Int), .ref a]) (y_1:Z.ho H h n r) (y_2:n<=8) (y_3:r (2^n-1)=R) (y_4:R<=8) (y_5:cy p) (y_6:0<p) (y_7:gX H d ks q c) (y_8:vB p R G ks c) (y_9:G<2^n) (y_10:y<n) (y_11:G.testBit y=false) (y_12:H a=some (.lst (col.map V.int))) (y_13:col.length=R) (y_14:(∀z∈col,0<=z/\z<p)) (y_15:∀b H',Same H H'->(b=true↔lu p R r (dO c y col) G y)->Q (.bl b) H'):Bd Z vs H Q
def Dp(Z:Hs):Sp:=λvs H Q _=>Bd Z vs H Q
inductive ng(vs:List V)(H:Hp)(Q:VK):Prop
 |mk (s t y:Nat) (y_0:vs=[.int (s:Int), .int (t:Int), .int (y:Int)]) (y_1:t<8) (y_2:y<8) (y_3:Q (.int (mP s t y:Nat)) H):ng vs H Q
def oA:Sp:=λvs H Q _=>ng vs H Q
inductive tI(vs:List V)(H:Hp)(Q:VK):Prop
 |mk (s h:Int) (y_0:vs=[.int s, .int h]) (y_1:0<=s) (y_2:0<=h) (y_3:h<256) (y_4:∀H',Same H H'->Q (.int (aN s.toNat h.toNat:Nat)) H'):tI vs H Q
def vU:Sp:=λvs H Q _=>tI vs H Q
theorem oE(p:Nat->Int->Bool):∀ (a:List Int) (i:Nat),fG (λi x=>p i (bI x)) (λ_ x=>x) i (a.map V.int)=(picks p i a).map V.int
 | [],_=>rfl
 |z::r,i=>by rw[KS,fG,picks,oE p r (i+1)];show(if p i z=true then _ else _)=_;split<;>rfl
def miF(n:Int)(h:Addr)(b a fr:Int):List (Str×V):=di "drawn_rank" (.int fr) (di "drawn" (.int a) (di "kept" (.int b) (di "house" (.ref h) (di "many" (.int n) []))))
theorem Ip(n:Int)(h:Addr)(b a fr:Int):(miF n h b a fr).lookup ("drawn_rank":Str)=some (.int fr):=aY _ _ _
theorem Cb(n:Int)(h:Addr)(b a fr:Int):(miF n h b a fr).lookup ("drawn":Str)=some (.int a):=by unfold miF;rw[aI _ _ (by decide+kernel),aY]
theorem DZ(n:Int)(h:Addr)(a b fr:Int):(miF n h a b fr).lookup ("kept":Str)=some (.int a):=by unfold miF;rw[aI _ _ (by decide+kernel),aI _ _ (by decide+kernel),aY]
theorem Ca(n:Int)(h:Addr)(b a fr:Int):(miF n h b a fr).lookup ("house":Str)=some (.ref h):=by unfold miF;rw[aI _ _ (by decide+kernel),aI _ _ (by decide+kernel),aI _ _ (by decide+kernel),aY]
theorem DY(n:Int)(h:Addr)(b a fr:Int):(miF n h b a fr).lookup ("many":Str)=some (.int n):=by unfold miF;rw[aI _ _ (by decide+kernel),aI _ _ (by decide+kernel),aI _ _ (by decide+kernel),aI _ _ (by decide+kernel),aY]
theorem DX(n:Int)(h:Addr)(g a fr:Int){m:Str}(b:¬m= "drawn_rank")(c:¬m= "drawn")(d:¬m= "kept")(e:¬m= "house")(f:¬m= "many"):(miF n h g a fr).lookup m=none:=by unfold miF;rw[aI _ _ b,aI _ _ c,aI _ _ d,aI _ _ e,aI _ _ f];rfl
def JH(d:Addr)(H:Hp)(X:HsP)(a:Addr)(n:Nat)(r:Nat->Nat):Prop:=∃ (e h:Addr) (b k w:Nat) (c:Nat->Nat),H a=some (.ins d e (miF n h k w (c w:Nat)))/\X h b c/\n=sz k/\b<=8/\k<2^b/\w<2^b/\∀s,s<2^n->(r s:Int)=(c (aN s k|||w):Nat) - (c w:Nat)
def oZ(Z:Hs)(b:Addr):Hs:=#[λH a n r=>JH b H (Z.ho H) a n r,λC=>C=b]
theorem Gg(z:gI Z)(c:Addr):gI (oZ Z c) where
 same:=λe h=>by obtain⟨a,h',d,k,w,f,b,g,i⟩:=h;exact#[a,h',d,k,w,f,e.at b,z.same e g,i]
 shown:=λh=>by obtain⟨a,h',d,k,w,f,b,_⟩:=h;exact#[c,rfl,a,_,b,DX _ _ _ _ _ (by decide+kernel) (by decide+kernel) (by decide+kernel) (by decide+kernel) (by decide+kernel),DX _ _ _ _ _ (by decide+kernel) (by decide+kernel) (by decide+kernel) (by decide+kernel) (by decide+kernel),DY _ _ _ _ _]
inductive tU(Z:Hs)(cM:Addr)(vs:List V)(H:Hp)(Q:VK):Prop
 |mk (p dx h:Addr) (n o w:Nat) (r:Nat->Nat) (y_0:vs=[.ref p, .ref h, .int (o:Int), .int (w:Int)]) (y_1:H p=some (.ins cM dx [])) (y_2:Z.ho (hide H p) h n r) (y_3:n<=8) (y_4:w<2^n) (y_5:∀H',(∀b o,H b=some o->b≠p->H' b=some o)->H' p=some (.ins cM dx (miF (sz (au (2^n-1) (o|||w)):Nat) h (au (2^n-1) (o|||w):Nat) w (r w:Nat)))->Q .non H'):tU Z cM vs H Q
def wg(Z:Hs)(a:Addr):Sp:=λvs H Q _=>tU Z a vs H Q
def knF(n:Int)(t:Addr):List (Str×V):=di "told" (.ref t) (di "many" (.int n) [])
theorem Ej(n:Int)(t:Addr):(knF n t).lookup ("many":Str)=some (.int n):=by unfold knF;rw[aI _ _ (by decide+kernel),aY]
theorem Eg(n:Int)(t:Addr):(knF n t).lookup ("told":Str)=some (.ref t):=aY _ _ _
theorem Ei(n:Int)(t:Addr){m:Str}(a:¬m= "told")(b:¬m= "many"):(knF n t).lookup m=none:=by unfold knF;rw[aI _ _ a,aI _ _ b];rfl
theorem Eh(n:Int)(t:Addr):(knF n t).lookup ("rank":Str)=none:=Ei _ _ (by decide+kernel) (by decide+kernel)
theorem Cm(n:Int)(t:Addr):(knF n t).lookup ("everything":Str)=none:=Ei _ _ (by decide+kernel) (by decide+kernel)
def E6(C:Addr)(H:Hp)(a:Addr)(n:Nat)(r:Nat->Nat):Prop:=∃b t,H a=some (.ins C b (knF (n:Int) t))/\H t=some (.tup ((fZ n r).map V.int))
theorem E6.same(h:E6 C H a n r)(e:Same H H'):E6 C H' a n r:=by obtain⟨b,t,c,d⟩:=h;exact#[b,t,e.at c,e.at d]
inductive yc(Z:Hs)(C:Addr)(vs:List V)(H:Hp)(Q:VK):Prop
 |mk (p dx h:Addr) (n:Nat) (r:Nat->Nat) (y_0:vs=[.ref p, .ref h]) (y_1:H p=some (.ins C dx [])) (y_2:Z.ho (hide H p) h n r) (y_3:n<=8) (y_4:∀t H',H t=none->(∀b o,H b=some o->b≠p->H' b=some o)->H' t=some (.tup ((fZ n r).map V.int))->H' p=some (.ins C dx (knF (n:Int) t))->Q .non H'):yc Z C vs H Q
def As(Z:Hs)(C:Addr):Sp:=λvs H Q _=>yc Z C vs H Q
inductive xU(C:Addr)(vs:List V)(H:Hp)(Q:VK):Prop
 |mk (a:Addr) (n s:Nat) (r:Nat->Nat) (y_0:vs=[.ref a, .int (s:Int)]) (y_1:E6 C H a n r) (y_2:n<=8) (y_3:s<2^n) (y_4:Q (.int (r s:Nat)) H):xU C vs H Q
def An(C:Addr):Sp:=λvs H Q _=>xU C vs H Q
def hsN(C:Addr):Hs:=#[E6 C,λa=>a=C]
def hsL(b:Addr):Hs:=#[λH a n r=>J0 b H a n r,λC=>C=b]
theorem Eo(b:Addr):gI (hsL b) where
 same:=λe h=>by obtain⟨ms,a,c⟩:=h;exact#[ms,a.same e,c]
 shown:=λh=>by obtain⟨ms,⟨d,t,a,_⟩,c⟩:=h;exact#[b,rfl,d,_,a,D9 _ _,Cf _ _,Eb _ _]
theorem Hn(vs:List V)(H:Hp)(Q:VK)(E:XK)(h:iN (hsL cL) cL vs H Q E):Am cL vs H Q E:=by obtain⟨a,n,s,r,rfl,g,⟨l,m,o⟩,i,b,k⟩:=h;have p:=s_lt i b;obtain⟨ms,c,d,e,f⟩:=g;refine#[a,_,_,ms,rfl,c,d,e,(),(),λH' j=> ?_];have:=k H' j;rw[f s b]at this;rw[J8];exact this
inductive tN(Z:Hs)(vs:List V)(H:Hp)(Q:VK):Prop
 |mk (h:Addr) (n:Nat) (r:Nat->Nat) (y_0:vs=[.ref h]) (y_1:Z.ho H h n r) (y_2:n<=8) (y_3:∀p H',Same H H'->H p=none->H' p=some (.lst ((fZ n r).map V.int))->Q (.ref p) H'):tN Z vs H Q
def vY(Z:Hs):Sp:=λvs H Q _=>tN Z vs H Q
theorem two_pow_pos(n:Nat):0<2^n:=Mf ()
theorem zV{l:List Int}{i:Int}(h:0<=i+l.length)(a:i<0):atI (l.map V.int) i=some (.int (l.getD (i+l.length).toNat 0)):=by
 unfold atI ixN;rw[J2,J4 (),J5 ()];show(l.map V.int)[(i+(l.length:Int)).toNat]?=_;have hl:(i+(l.length:Int)).toNat<l.length:=()
 rw[Kv];simp[hl]
def jN(n:Nat)(r:Nat->Nat):List Int:=(List.range (2^n)).map λs=>((r s:Nat):Int)
def xo(n:Nat)(r:Nat->Nat):V:=if(kinds n r).getD 0 false=true then .str eT else if(kinds n r).getD 1 false=true then .str bz else if(kinds n r).getD 2 false=true then .str a6 else if(kinds n r).getD 3 false=true then .str d9 else if(kinds n r).getD 4 false=true then .str bA else .non
theorem Ga(h:zZ n r):fJ n r=xo n r:=by unfold fJ xo;rw[Ek h];rfl
inductive tK(K:PySem.W.Frag)(vs:List V)(H:Hp)(Q:VK):Prop
 |mk (a:Addr) (told:List Nat) (y_0:vs=[.ref a]) (y_1:SqL K H a ((bY told).map V.int)) (y_2:∀H',Same H H'->Q (.bl (dW told)) H'):tK K vs H Q
def vW(K:PySem.W.Frag):Sp:=λvs H Q _=>tK K vs H Q
inductive xY(K:PySem.W.Frag)(vs:List V)(H:Hp)(Q:VK):Prop
 |mk (a:Addr) (n:Nat) (r:Nat->Nat) (y_0:vs=[.ref a]) (y_1:SqL K H a ((jN n r).map V.int)) (y_2:n<=8) (y_3:∀H',Same H H'->Q (xo n r) H'):xY K vs H Q
def Aq(K:PySem.W.Frag):Sp:=λvs H Q _=>xY K vs H Q
inductive Fb(K:PySem.W.Frag)(vs:List V)(H:Hp)(Q:VK):Prop
 |mk (a:Addr) (cs:List Int) (n r:Nat) (y_0:vs=[.ref a, .int (n:Int), .int (r:Int)]) (y_1:SqL K H a (cs.map V.int)) (y_2:0<cs.length) (y_3:cs.length<=64) (y_4:n<=8) (y_5:r<=n) (y_6:∀p H' ps,Same H H'->H p=none->H' p=some (.lst ((du n r ps).map V.int))->(ps=[]\/(0<r/\r<n/\Far r ps))->Q (.ref p) H'):Fb K vs H Q
def GL(K:PySem.W.Frag):Sp:=λvs H Q _=>Fb K vs H Q
inductive tP(K:PySem.W.Frag)(vs:List V)(H:Hp)(Q:VK):Prop
 |mk (a:Addr) (ms:List Int) (n:Nat) (y_0:vs=[.int (n:Int), .ref a]) (y_1:SqL K H a (ms.map V.int)) (y_2:ms≠[]) (y_3:(∀m∈ms,0<=m/\m<256)) (y_4:ms.length<=256) (y_5:n<=8) (y_6:∀p H',Same H H'->H p=none->H' p=some (.lst (((List.range (2^n)).map λs=>((cw ms s:Nat):Int)).map V.int))->Q (.ref p) H'):tP K vs H Q
def v9(K:PySem.W.Frag):Sp:=λvs H Q _=>tP K vs H Q
theorem Gz{xs:List V}(h:xs[xs.length-1]?=some y):atI xs (-1)=some y:=by
 have hl:0<xs.length:=by
  cases xs with
  |nil=>simp at h
  |cons _ _=>simp
 unfold atI;have e:ixN xs.length (-1)=some (xs.length-1):=by unfold ixN;rw[J4 (),J5 ()];congr 1;lia
 rw[e];exact h
theorem Gf(l:List Nat)(y:Nat):inV (.int (y:Int)) ((bY l).map V.int)=decide (y∈l):=by
 rw[qD];refine LS.mpr #[λh=> ?_,λh=>Ka.mpr #[y,h,rfl]];obtain⟨s,a,e⟩:=dA h;have:y=s:=()
 rw[this];exact a
theorem lint(x y:Int):decide (V.int x=V.int y)=decide (x=y):=LS.mpr #[λz=>V.int.inj z,λz=>by rw[z]]
def aF(m s:Nat):List Nat:=(List.range m).filter s.testBit
theorem dZ(m s:Nat):aF (m+1) s=aF m s++if s.testBit m=true then [m]else []:=by
 unfold aF;rw[LX,Mr];refine K3 _ ?_;by_cases h:s.testBit m=true
 .rw[J5 h];simp[h]
 .rw[J4 h];simp[h]
theorem zC(a:s<2^n):∀m,n<=m->aF m s=aF n s:=by
 intro m h
 induction m with
 |zero=>rw[show n=0 by lia]
 |succ m b=>
  by_cases e:n=m+1
  .rw[e]
  .rw[dZ,b (),J4,LF];rw[K1 (Kb a (Kw ∅ ()))];exact Ku
theorem CF(a:n<=8)(b:s<2^n):(bits s).length=(aF n s).length:=by
 have:(bits s).length=(aF 8 s).length:=by unfold bits aF;rw[J2]
 rw[this,zC b 8 a]
theorem vj(m s:Nat):(aF m s).length<=m:=by have:=Lu s.testBit (List.range m);rw[Kq]at this;exact this
theorem t6(s m k:Nat):(s^^^2^m).testBit k=(s.testBit k^^decide (m=k)):=by rw[Ni,Kt]
theorem qT{m s:Nat}(a:s.testBit m=true):∀k,∃rest,aF (m+1+k) s=aF m s++m::rest/\aF (m+1+k) (s^^^2^m)=aF m s++rest
 |0=>by
  have e:∀j,j<=m->aF j (s^^^2^m)=aF j s:=λj f=>by unfold aF;refine Li λk d=> ?_;have:=J9.mp d;rw[t6,J6 (),Bool.xor_false]
  refine#[[],by show aF (m+1) s=_;rw[dZ,J5 a],?_];show aF (m+1) _=_;rw[dZ,e m (Kk _),J4];rw[t6,a,J3 rfl];exact Ku
 |k+1=>by
  obtain⟨rest,b,c⟩:=qT a k;refine#[rest++if s.testBit (m+1+k)=true then [m+1+k]else [],?_,?_]
  .show aF (m+1+k+1) s=_;rw[dZ,b,Mh];rfl
  .show aF (m+1+k+1) _=_;rw[dZ,c,Mh,t6,J6 (),Bool.xor_false]
def dpD(M:List (List Int))(n s:Nat):Int:=aP ((M.take (aF n s).length).map bg) (aF n s)
def dpG(M:List (List Int))(n s:Nat)(j:Nat):Int:=sgn ((aF n s).length-1-j)*(bg (M.getD ((aF n s).length-1) []) ((aF n s).getD j 0)*aP ((M.take ((aF n s).length-1)).map bg) ((aF n s).eraseIdx j))
theorem II{M:List (List Int)}(f:M.length=n)(d:0<(aF n s).length):dpD M n s=bp (aF n s).length (dpG M n s):=by
 have hl:=vj n s;unfold dpD;generalize c:aF n s=a at*;obtain⟨N,b⟩:∃N,a.length=N+1:=#[a.length-1,()];have e:M.take a.length=M.take (a.length-1)++[M.getD (a.length-1) []]:=by
  rw[b,Ow,Lx];have:N<M.length:=()
  simp[this]
 rw[e,KP,KS,Nq,xC _ a _ (by rw[J2,KL];lia)];refine ba λj _=> ?_;unfold dpG;rw[c]
theorem Gr{M:List (List Int)}{n s m:Nat}(h:m<n)(c:s.testBit m=true):aF (m+1) s=aF m s++[m]/\(aF m s).length<(aF n s).length/\(aF n s).getD (aF m s).length 0=m/\dpG M n s (aF m s).length=sgn ((aF n s).length- ((aF m s).length+1))*bg (M.getD ((aF n s).length-1) []) m*dpD M n (s^^^2^m):=by
 obtain⟨rest,a,b⟩:=qT c (n- (m+1));rw[show m+1+(n- (m+1))=n by lia]at a b;have f:(aF n s).length=(aF m s).length+1+rest.length:=by rw[a,Kz,KA];lia
 have g:(aF n s).getD (aF m s).length 0=m:=by have:=dY (A:=aF m s) (B:=m::rest) (d:=0) 0;rw[Nat.add_zero]at this;rw[a,this];rfl
 have e:(aF n s).eraseIdx (aF m s).length=aF n (s^^^2^m):=by have:=gR (A:=aF m s) (B:=m::rest) 0;rw[Nat.add_zero]at this;rw[a,this,b];rfl
 refine#[by rw[dZ,J5 c],(),g,?_];unfold dpG dpD;have l2:(aF n (s^^^2^m)).length=(aF n s).length-1:=by rw[b,f,Kz];lia
 rw[g,e,l2,show(aF n s).length-1- (aF m s).length=(aF n s).length- ((aF m s).length+1) by lia,KJ]
theorem vL:∀ {n:Nat},(∀i,i<n->(f i).natAbs<=C)->(bp n f).natAbs<=n*C
 |0,_=>by simp[bp]
 |n+1,h=>by have a:=vL (n:=n) λi c=>h i ();have b:=h n ();rw[bp,Nat.succ_mul];lia
theorem uq(i:Nat):(sgn i).natAbs=1:=by unfold sgn;split<;>rfl
theorem AS:∀ (b:List Nat) (R:List Row),R.length<=8->(∀r∈R,∀j,(r j).natAbs<=2^B)->(aP R b).natAbs<=2^((B+3)*b.length)
 | [],R,_,_=>by simp[aP]
 |c::cs,R,hl,h=>by
  have a:∀i,i<R.length->(sgn i*(R.getD i rw0 c*aP (R.eraseIdx i) cs)).natAbs<=2^B*2^((B+3)*cs.length):=λi a=>by
   have d:R.getD i rw0=R[i]:=by simp[a]
   have f:=h R[i] (LD a) c;have g:=AS cs (R.eraseIdx i) (by rw[Le a];lia) λr k=>h r (List.mem_of_mem_eraseIdx k);rw[Oi,uq,Nat.one_mul,Oi,d];exact Nat.mul_le_mul f g
  have:=vL a;refine Kd (show(aP R (c::cs)).natAbs<=_ from this) ?_;have e:2^((B+3)*(c::cs).length)=8*(2^B*2^((B+3)*cs.length)):=by rw[KA,Nat.mul_succ,Nat.pow_add,Nat.pow_add,Nat.mul_comm,show(2:Nat)^3=8 from rfl];simp only[O7,Nat.mul_left_comm,Nat.mul_comm]
  rw[e];exact Nat.mul_le_mul_right _ hl
theorem IK{M:List (List Int)}(c:M.length=n)(d:n<=8)(a:∀r∈M,i6 n 200 r)(s:Nat):(dpD M n s).natAbs<2^1700:=by
 unfold dpD;have h:=AS (B:=200) (aF n s) ((M.take (aF n s).length).map bg) (by rw[J2,KL];lia) λr b j=>by obtain⟨l,hl,rfl⟩:=Ka.mp b;exact OF ((a l (MN hl)).at j)
 have:=vj n s;exact Ks h (LR ∅ ())
inductive Ba(K:PySem.W.Frag)(vs:List V)(H:Hp)(Q:VK):Prop
 |mk (a:Addr) (xs:List V) (M:List (List Int)) (n:Nat) (y_0:vs=[.ref a]) (y_1:SqL K H a xs) (y_2:aU H xs M) (y_3:M.length=n) (y_4:n<=8) (y_5:(∀r∈M,i6 n 200 r)) (y_6:∀H',Same H H'->Q (.int (aP (M.map bg) (List.range n))) H'):Ba K vs H Q
def yt(K:PySem.W.Frag):Sp:=λvs H Q _=>Ba K vs H Q
theorem IJ{M:List (List Int)}(b:M.length=n):dpD M n (2^n-1)=aP (M.map bg) (List.range n):=by
 have e:aF n (2^n-1)=List.range n:=by unfold aF;refine LM.mpr λk a=> ?_;rw[KD];exact J3 (J9.mp a)
 unfold dpD;rw[e,Kq,MH ()]
theorem wt{n j:Nat}:decide (V.int (Builtin.bitAnd ((n:Int) /2^((j:Nat):Int).toNat) 1)=V.int 1)=n.testBit j:=by have:=ka (n:=n) (j:=j);rw[Lk]at this;exact this
theorem CT{s j:Nat}(b:s<256)(a:j<8):Builtin.bitXor (s:Int) (1*2^((j:Nat):Int).toNat)=((s^^^2^j:Nat):Int):=by obtain⟨x1,x2⟩:=oF s b j a;unfold Builtin.bitXor;rw[cQ,j6 (Lv _) (Lv _),eI (Lv _) (Lv _),J8,J8];lia
theorem EK(c:s<2^n)(e:0<s):0<(aF n s).length:=by
 refine Ov λz=> ?_;have d:aF n s=[]:=NL.mp z;have:s=0:=Kj λk=>by
  rw[KI];cases a:s.testBit k with
  |false=>rfl
  |true=>
   have b:k<n:=by refine MQ λb=> ?_;rw[K1 (Kb c (Kw ∅ b))]at a;cases a
   have:k∈aF n s:=Kx.mpr #[J9.mpr b,a];rw[d]at this;cases this
 lia
theorem wI{r:List Int}(h:aU H xs M)(d:M≠[]):xs≠r.map V.int:=λe=>by
 cases M with
 |nil=>exact d rfl
 |cons t f=>
  obtain⟨a,b,_⟩:=h.2 0 t rfl;rw[e,Kv]at b;cases c:r[0]? with
  |none=>rw[c]at b;cases b
  |some z=>rw[c]at b;cases b
theorem wB{H:Hp}{xs:List V}{M:List (List Int)}{q:Addr}(h:aU H xs M)(d:H q=some (.lst xs)){i:Nat}{a:Addr}{r:List Int}(c:M[i]?=some r)(b:H a=some (.lst (r.map V.int))):a≠q:=λe=>by subst e;rw[d]at b;exact wI h (λz=>by rw[z]at c;simp at c) (HO.lst.inj (Lf b))
theorem aU.push{r:List Int}(h:aU H xs M)(m:H q=some (.lst xs))(j:H p=some (.lst (r.map V.int)))(l:p≠q):aU (upd H q (.lst (xs++[.ref p]))) (xs++[.ref p]) (M++[r]):=by
 refine#[by rw[Kz,Kz,h.1];rfl,λi t b=> ?_];by_cases f:i<M.length
 .rw[KR f]at b;obtain⟨a,g,d⟩:=h.2 i t b;exact#[a,by rw[KR (by rw[h.1];exact f)];exact g,by rw[aJ (wB h m b d)];exact d]
 .rw[KN ()]at b;have c:i-M.length=0:=by
   cases e:i-M.length with
   |zero=>rfl
   |succ k=>rw[e]at b;simp at b
  rw[c]at b;cases b;exact#[p,by rw[KN (by rw[h.1];lia),h.1,c];rfl,by rw[aJ l];exact j]
theorem aU.put{xs:List V}{M:List (List Int)}{r:List Int}(h:aU H xs M)(l:H q=some (.lst xs))(g:H p=some (.lst (r.map V.int)))(k:p≠q)(d:j<M.length):aU (upd H q (.lst (xs.set j (.ref p)))) (xs.set j (.ref p)) (M.set j r):=by
 refine#[by rw[List.length_set,List.length_set,h.1],λi t b=> ?_];by_cases e:j=i
 .subst e;rw[Nk d]at b;cases b;exact#[p,Nk (by rw[h.1];exact d),by rw[aJ k];exact g]
 .rw[Nw e]at b;obtain⟨a,f,c⟩:=h.2 i t b;exact#[a,by rw[Nw e];exact f,by rw[aJ (wB h l b c)];exact c]
theorem i6.mono(h:i6 n B r)(a:B<=C):i6 n C r:=#[h.1,λz b=>Kb (h.2 z b) (Kw ∅ a)]
section
variable(P:Program)(w:World){K:PySem.W.Frag}{mg:Str->Option Value}(base:Heap)
theorem sc_holds:aK ["s","thing"] ["s","thing"] (aw s_holds):=sc_of
theorem DS(D:bw K mg "holds" s_holds ["s","thing"]):Cal P w K mg base 1 "holds" ["s","thing"] um:=by refine D.cal sc_holds (λvs H Q E h=>by obtain⟨s,t,rfl,_⟩:=h;rfl) λf cdv A outer d H vs Q E c h=> ?_;obtain⟨s,t,rfl,a,b,k⟩:=h;refine#[_,(ao (aH (wpe a8 (ax cj (ax gM (pv 0) (pv 1)) af) af))),?_];refine#[_,rfl,_,rfl,_,_,rfl,rfl,b,_,_,rfl,rfl,(by show(0:Int)<2;decide),rfl,?_];show Q (.bl (decide (V.int (s/2^t.toNat % 2)=V.int 1))) H;rw[Ep a];exact k
theorem sc_things:aK ["s"] ["s"] (aw s_things):=sc_of
theorem BZ(T:Tb K mg)(D:bw K mg "things" s_things ["s"])(d:Cal P w K mg base 1 "holds" ["s","thing"] um):Cal P w K mg base 2 "things" ["s"] iq:=by
 refine D.cal sc_things (λvs H Q E h=>by obtain⟨s,rfl,_⟩:=h;rfl) λf cdv A outer u H vs Q E p h=> ?_;obtain⟨s,rfl,b,g,k⟩:=h;refine#[_,(ao (aH (wlc ["thing"] ["s"] [0] (wrng T.range_ (FT (K:=K) ⋯ PySem.F.plainAttrs_int PySem.F.slot_int_bit_length PySem.F.type_int_bit_length F3 (pv 0))) (wnC 0) (cZ (dD (wcal d p (ae (pv 1) (ae (pv 0) aq))))) (pv 0)))),?_];have a:Builtin.Int.intBits s<=8:=by
  obtain⟨n,rfl⟩:=LV b;unfold Builtin.Int.intBits;split
  .lia
  .rename_i m;have o:n≠0:=by intro e;subst e;exact m rfl
   have:n.log2<8:=(Nat.log2_lt o).mpr ();show(n:Int).natAbs.log2+1<=8;rw[Int.natAbs_natCast];lia
 refine#[_,rfl,rfl,_,rfl,rfl,_,rfl,(),(),?_];refine dN (λi=>s.toNat.testBit i) (λi=> .int (0+(i:Nat))) (by rw[J8];exact Kd a ∅) (λi vs H' R S t r c l=> ?_) λD H' j c hl=> ?_
 .obtain⟨v,rfl⟩:=bH r;refine#[_,rfl,_,rfl,s,_,rfl,b,(),_,rfl,?_];have e:(0+(i:Int)).toNat=i:=()
  have q:=l [some (.int (0+(i:Nat)))] H' rfl (Same.refl _);rw[e];cases a:s.toNat.testBit i with
  |true=>
   rw[a,J5 rfl]at q;exact nX #[_,rfl,q]
  |false=>
   rw[a,J4 Ku]at q;exact eZ q
 .rw[Bk b g]at hl;exact k D H' c j hl
theorem sc_size:aK ["s"] ["s"] (aw s_size):=sc_of
theorem FX(T:Tb K mg)(D:bw K mg "size" s_size ["s"])(a:Cal P w K mg base 2 "things" ["s"] iq):Cal P w K mg base 3 "size" ["s"] jH:=by refine D.cal sc_size (λvs H Q E h=>by obtain⟨s,rfl,_⟩:=h;rfl) λf cdv A outer i H vs Q E d h=> ?_;obtain⟨s,rfl,b,c,k⟩:=h;refine#[_,(ao (aH (wlen K T.len_ (wcal a d (ae (pv 0) aq))))),?_];refine#[_,rfl,s,rfl,b,c,λp H' e g hl=>#[p,_,rfl, .inl (SqL.of hl),?_]];have q:=k H' e;rw[<-J2 (f:=V.int)]at q;exact q
theorem sc_set_of:aK ["some","s","thing"] ["some"] (aw s_set_of):=sc_of
theorem B3(D:bw K mg "set_of" s_set_of ["some"]):Cal P w K mg base 1 "set_of" ["some"] (uj K):=by
 refine D.cal sc_set_of (λvs H Q E h=>by obtain⟨a,b,rfl,_⟩:=h;rfl) λf cdv A outer u H vs Q E p h=> ?_;obtain⟨a,b,rfl,g,n,k⟩:=h;refine#[_,(ah (wset 1 sc_set_of.nd af)
   (ah (wfor (wil K (pv 0)) (wname 2 sc_set_of.nd)
     (ao (wset 1 sc_set_of.nd (ax kN (pv 1) (ax cW af (pv 2))))))
   (ao (aH (pv 1))))),?_]
 refine#[_,rfl,a,rfl,#[_,g],cD (K:=K) (a:=a) (xs:=b.map V.int) (λi d c=>c=H/\∃v,d=[some (.ref a),some (.int (((b.take i).foldl (λ(s:Nat) (t:Int)=>s|||2^t.toNat) 0:Nat):Int)),v])
  #[rfl,none,rfl] (λi d c _ q=>by rw[q.1];exact g) ?_ ?_]
 .rintro i y d c m ⟨rfl,v,rfl⟩;obtain⟨z,rfl,j⟩:=bL m;obtain⟨o,r⟩:=n z (Km j);refine#[_,rfl,_,rfl,_,_,rfl,rfl,#[o,(),∅],_,_,rfl,rfl,?_];refine#[rfl,some (.int z),?_];have e:Builtin.bitOr ((((b.take i).foldl (λ(s:Nat) (t:Int)=>s|||2^t.toNat) 0:Nat):Int)) (1*2^z.toNat)=((((b.take (i+1)).foldl (λ(s:Nat) (t:Int)=>s|||2^t.toNat) 0:Nat):Int)):=by
   rw[j6 () (by rw[LH];exact kT _),Lx,j];have l:((2:Int)^z.toNat)=((2^z.toNat:Nat):Int):=by simp
   rw[LH,l,J8,J8];simp only[Option.toList_some,NQ,MV,List.foldl_nil]
  rw[<-e];rfl
 .rintro d c ⟨rfl,v,rfl⟩;refine#[_,rfl,?_];rw[J2,Ly];exact k
theorem sc_within:aK ["s","t"] ["s","t"] (aw s_within):=sc_of
theorem BY(D:bw K mg "within" s_within ["s","t"]):Cal P w K mg base 1 "within" ["s","t"] vS:=by
 refine D.cal sc_within (λvs H Q E h=>by obtain⟨s,t,rfl,_⟩:=h;rfl) λf cdv A outer d H vs Q E c h=> ?_;obtain⟨s,t,rfl,a,b,k⟩:=h;refine#[_,(ao (aH (wpe a8 (ax eQ (pv 0) (pv 1)) (pv 0)))),?_];refine#[_,rfl,_,rfl,_,_,rfl,rfl,_,rfl,rfl,?_];show Q (.bl (decide (V.int (Builtin.bitAnd s t)=V.int s))) H;have e:decide (V.int (Builtin.bitAnd s t)=V.int s)=decide (s.toNat&&&t.toNat=s.toNat):=by
  rw[eI a b];by_cases h:s.toNat&&&t.toNat=s.toNat
  .rw[J3 h,J3];rw[h];congr 1;lia
  .rw[J6 h,J6];intro q;have:=V.int.inj q;lia
 rw[e];exact k
theorem sc_parts:aK ["s","found","thing"] ["s"] (aw s_parts):=sc_of
theorem DR(T:Tb K mg)(D:bw K mg "parts" s_parts ["s"])(N:Cal P w K mg base 2 "things" ["s"] iq):Cal P w K mg base 3 "parts" ["s"] o5:=by
 refine D.cal sc_parts (λvs H Q E h=>by obtain⟨s,rfl,_⟩:=h;rfl) λf cdv A outer bE H vs Q E hr h=> ?_;obtain⟨s,rfl,h0,h1,k⟩:=h;refine#[_,(ah (wset 1 sc_parts.nd (cS (ae af aq)))
   (ah (wfor (wil K (wcal N hr (ae (pv 0) aq))) (wname 2 sc_parts.nd)
     (ao (wset 1 sc_parts.nd (ax nU (pv 1) (wlc ["part"] ["thing"] [2] (wil K (pv 1)) (wnC 0) cP (ax kN (pv 0) (ax cW af (pv 1))))))))
   (ao (aH (pv 1))))),?_]
 refine#[by show 1<=sizeLine;decide,λq0 L=> ?_];refine#[_,rfl,s,rfl,h0,h1,λp H1 M bB B=>#[p,rfl,#[_,SqL.of B],?_]];generalize hn:s.toNat=n at*;refine cD (K:=K) (a:=p) (xs:=(bits n).map V.int) (λi g b=>∃ (q:Addr) (v:Option V),Same H b/\b p=some (.lst ((bits n).map V.int))/\H q=none/\b q=some (.lst ((((bits n).take i).foldl iD [0]).map V.int))/\g=[some (.int s),some (.ref q),v])
  #[q0,none,(Same.new L).trans M,B,L,M.at av,rfl] (λi g b _ ⟨_,_,_,hp,_⟩=>SqL.of hp) ?_ ?_
 .rintro i y g b hi ⟨q,v,r,G,J,c,rfl⟩;obtain⟨z,rfl,o⟩:=bL hi;have zr:=jn (Km o);have bk:i<(bits n).length:=(Kh.mp o).1;have bj:=a9 n;have ak:(((bits n).take i).foldl iD [0]).length<=128:=by rw[nZ,KL];have h2:2^min i (bits n).length<=2^7:=Kw () ();simp;lia
  have ar:∀x∈((bits n).take i).foldl iD [0],0<=x:=xv _ _ (by simp);have U:((bits n).take (i+1)).foldl iD [0]=iD (((bits n).take i).foldl iD [0]) z:=by rw[Lx,o,NQ];rfl
  rw[U];generalize ((bits n).take i).foldl iD [0]=j at*;refine#[_,rfl,_,rfl,q,rfl,#[_,SqL.of c],?_];refine b9 (λx=>(λ_=>true) (bI x)) (λx=> .int ((λt:Int=>((t.toNat|||2^z.toNat:Nat):Int)) (bI x))) (SqL.of c) (by rw[J2];exact Kd ak ∅) (λi x vs H' R S hx hv d hk=> ?_) λD H' hD d hl=> ?_
  .obtain⟨v,rfl⟩:=bH hv;obtain⟨t,rfl,ht⟩:=bL hx;have t0:=ar t (Km ht);have q:=hk [some (.int t)] H' rfl (Same.refl _);rw[J5 rfl]at q;simp only[bD,iM,J5];refine#[_,rfl,_,rfl,_,_,rfl,rfl,#[zr.1,(),∅],_,_,rfl,rfl,?_];have e:Builtin.bitOr t (1*2^z.toNat)=((t.toNat|||2^z.toNat:Nat):Int):=by
    have O:((2:Int)^z.toNat)=((2^z.toNat:Nat):Int):=by simp
    rw[j6 t0 (by rw[LH];exact kT _),LH,O,J8]
   show R (.int (Builtin.bitOr t (1*2^z.toNat))) _ H';rw[e];exact q
  replace hl:=hl.trans (K3 (λl=>some (HO.lst l)) (bK (λ_=>true) (λt:Int=>((t.toNat|||2^z.toNat:Nat):Int)) j));rw[LM.mpr (λ_ _=>rfl)]at hl;refine#[q,D,_,_,rfl,rfl,d.at c,hl,?_,λq3 m=> ?_]
  .rw[J2,J2,J2];exact Kd (show j.length+j.length<=256 by lia) ∅
  have u:Same H H':=r.trans d;refine#[q3,some (.int z),u.upd (u.free m),?_,u.free m,?_,rfl]
  .have:=d.at G;rw[aJ (aM this m)];exact this
  .rw[av];unfold Bh.iD;rw[KP]
 .rintro g b ⟨q,v,r,G,J,c,rfl⟩;rw[J2,Ly]at c;exact#[_,rfl,k q b r J c]
theorem sc_spread:aK ["s","kept"] ["s","kept"] (aw s_spread):=sc_of
theorem B1(T:Tb K mg)(D:bw K mg "spread" s_spread ["s","kept"])(e:Cal P w K mg base 1 "set_of" ["some"] (uj K))(g:Cal P w K mg base 2 "things" ["s"] iq)(j:Cal P w K mg base 1 "holds" ["s","thing"] um):
  Cal P w K mg base 3 "spread" ["s","kept"] vU:=by
 refine D.cal sc_spread (λvs H Q E h=>by obtain⟨s,t,rfl,_⟩:=h;rfl) λf cdv A outer ai H vs Q E a h=> ?_;obtain⟨s,t,rfl,u,y,B,k⟩:=h;refine#[_,(ao (aH (wcal e a (ae (wlc ["number","thing"] ["s"] [0] (ql (K:=K) ⋯ ⋯ T.enumerate_ (ae (wcal g a (ae (pv 1) aq)) aq)) (mh (K:=K) (n:=2) ⋯ ⋯ (eV (wnC 0) (eV (wnC 1) mf))) (cZ (dD (wcal j a (ae (pv 2) (ae (pv 0) aq))))) (pv 1)) aq)))),?_];refine#[_,rfl,t,rfl,y,B,λp J v M c=>#[p,rfl,#[_,c],?_]];refine Ee (λi _=>s.toNat.testBit i) (λ_ x=>x) (SqL.of c) (by rw[J2];exact Kd (a9 _) ∅) (λi x G vs H' R S r o d m l=> ?_) λD H' L d hl=> ?_
 .obtain⟨O,U,rfl⟩:=CY o;obtain⟨z,rfl,N⟩:=bL r;have q:=l [some (.int (i:Nat)),some (.int z)] H' rfl (Same.refl _);refine#[G,_,rfl,SqT.of m,rfl,_,_,rfl,_,_,rfl,rfl,_,rfl,_,rfl,s,_,rfl,u,(),_,rfl,?_];rw[J8];cases b:s.toNat.testBit i with
  |true=>
   rw[b,J5 rfl]at q;exact nX #[_,rfl,q]
  |false=>
   rw[b,J4 Ku]at q;exact eZ q
 .rw[oE (λi _=>s.toNat.testBit i)]at hl;exact#[D,_,rfl,SqL.of hl,iF,k H' (v.trans d)]
theorem sc_less:aK ["s","t"] ["s","t"] (aw s_less):=sc_of
theorem FY(D:bw K mg "less" s_less ["s","t"]):Cal P w K mg base 1 "less" ["s","t"] nG:=by
 refine D.cal sc_less (λvs H Q E h=>by obtain⟨s,t,rfl,_⟩:=h;rfl) λf cdv A outer d H vs Q E c h=> ?_;obtain⟨s,t,rfl,k⟩:=h;refine#[_,(ao (aH (ax yI (pv 0) (ax eQ (pv 0) (pv 1))))),?_];refine#[_,rfl,_,rfl,_,rfl,_,_,rfl,rfl,_,_,rfl,rfl,?_];show Q (.int (Builtin.bitXor (s:Int) (Builtin.bitAnd (s:Int) (t:Int)))) H;have e:Builtin.bitXor (s:Int) (Builtin.bitAnd (s:Int) (t:Int))=((au s t:Nat):Int):=by
  unfold Builtin.bitXor;rw[iy,eF,iy];have h:=F5 s t;have l:=iI s t;have a:s||| (s&&&t)=s:=Kj λj=>by rw[Kl,KQ];cases s.testBit j<;>simp
  have b:s&&& (s&&&t)=s&&&t:=Kj λj=>by rw[KQ,KQ];cases s.testBit j<;>simp
  have l2:s&&&t<=s:=O0;rw[a,b]at h⊢;lia
 rw[e];exact k
theorem sc_exchanged:aK ["s","thing","y"] ["s","thing","y"] (aw s_exchanged):=sc_of
theorem uL(D:bw K mg "exchanged" s_exchanged ["s","thing","y"])(a:Cal P w K mg base 1 "less" ["s","t"] nG):Cal P w K mg base 2 "exchanged" ["s","thing","y"] oA:=by
 refine D.cal sc_exchanged (λvs H Q E h=>by obtain⟨s,t,y,rfl,_⟩:=h;rfl) λf cdv A outer e H vs Q E b h=> ?_;obtain⟨s,t,y,rfl,c,d,k⟩:=h;refine#[_,(ao (aH (ax kN (wcal a b (ae (pv 0) (ae (ax cW af (pv 1)) aq))) (ax cW af (pv 2))))),?_];refine#[_,rfl,_,rfl,_,_,rfl,rfl,#[(),(),∅],s,2^t,?_,?_]
 ·(try dsimp only);rw[kf];rfl
 refine#[_,rfl,_,_,rfl,rfl,#[(),(),∅],_,_,rfl,rfl,?_];show Q (.int (Builtin.bitOr ((au s (2^t):Nat):Int) (1*2^((y:Nat):Int).toNat))) H;rw[kf,eF];exact k
theorem sc_all_of:aK ["n"] ["n"] (aw s_all_of):=sc_of
theorem B4(D:bw K mg "all_of" s_all_of ["n"]):Cal P w K mg base 1 "all_of" ["n"] Aw:=by refine D.cal sc_all_of (λvs H Q E h=>by obtain⟨n,rfl,_⟩:=h;rfl) λf cdv A outer d H vs Q E c h=> ?_;obtain⟨n,rfl,a,b,k⟩:=h;refine#[_,(ao (aH (ax fq (ax cW af (pv 0)) af))),?_];exact#[_,rfl,_,_,rfl,rfl,#[a,(),∅],_,_,rfl,rfl,k]
theorem sc_House___init__:aK ["self","n"] ["self","n"] (aw s_House___init__):=sc_of
theorem my(D:iL K "__init__" "House.__init__" s_House___init__ ["self","n"] f):iB P w K mg base 1 f ["self","n"] (lO K):=by refine D.fn sc_House___init__ (λvs H Q E h=>by obtain⟨p,C,a,n,rfl,_⟩:=h;rfl) λcdv A outer g H vs Q E e h=> ?_;obtain⟨p,C,a,n,rfl,c,b,d,k⟩:=h;refine#[_,(ao (wsf K (pv 0) (pv 1))),?_];exact#[_,rfl,_,rfl,p,C,a,_,rfl,c,b,d,(by show 0<1000;decide),k]
theorem sc_House_everything:aK ["self"] ["self"] (aw s_House_everything):=sc_of
theorem kH(D:iL K "everything" "House.everything" s_House_everything ["self"] f)(c:Cal P w K mg base 1 "all_of" ["n"] Aw):iB P w K mg base 2 f ["self"] (dQ K):=by refine D.fn sc_House_everything (λvs H Q E h=>by obtain⟨a,C,b,fs,n,rfl,_⟩:=h;rfl) λcdv A outer o H vs Q E g h=> ?_;obtain⟨a,C,b,fs,n,rfl,e,d,m,i,j,l,k⟩:=h;refine#[_,(ao (aH (wcal c g (ae (wfld K (pv 0)) aq)))),?_];exact#[_,rfl,a,C,b,fs,_,rfl,e,d,m,i,n,rfl,j,l,k]
theorem sc_Listed___init__:aK ["self","n","some"] ["self","n","some"] (aw s_Listed___init__):=sc_of
theorem k5(T:Tb K mg)(D:iL K "__init__" "Listed.__init__" s_Listed___init__ ["self","n","some"] f)(s:mg "House"=some (.ref C_House))(m:Cls K C)(G:b7 K C "many")(J:b7 K C "listed")
  (r:Fc P w K mg base 1 C_House "__init__" ["self","n"] (lO K)):iB P w K mg base 2 f ["self","n","some"] (Ar K C):=by
 refine D.fn sc_Listed___init__ (λvs H Q E h=>by obtain⟨p,c,a,n,ms,rfl,_⟩:=h;rfl) λcdv A outer L H vs Q E B h=> ?_;obtain⟨p,c,a,n,ms,rfl,i,u,hl,k⟩:=h;refine#[_,(ah (cR (pe r B ∅ (eg (v:= .ref C_House) ⋯ s rfl) (ae (pv 0) (ae (pv 1) aq))))
   (ao (wsf K (pv 0) (iY (j5 (K:=K) ⋯) ⋯ T.tuple_ NP (ae (pv 2) aq))))),?_]
 refine#[rfl,_,rfl,_,rfl,p,C,c,_,rfl,i,m,G,?_];have y:upd H p (.ins C c (di "many" (.int n) [])) p=some (.ins C c (di "many" (.int n) [])):=av;have j:∀b o,H b=some o->b≠p->upd H p (.ins C c (di "many" (.int n) [])) b=some o:=λb o e d=>by rw[aJ d];exact e
 have x:SqL K (upd H p (.ins C c (di "many" (.int n) []))) a (ms.map V.int):=by
  rcases u with (h|⟨o,h⟩)|h
  .exact .inl (.inl (j _ _ h (oI h i (by intro z;cases z))))
  .exact .inl (.inr #[o,j _ _ h (oI h i (by intro z;cases z))])
  .exact .inr h
 refine#[_,rfl,a,_,rfl, .inl #[x,λt g=> ?_]];have l:t≠p:=λe=>by rw[e,av]at g;cases g
 have q:H t=none:=by rw[aJ l]at g;exact g
 refine#[_,rfl,p,C,c,_,rfl,(by rw[aJ l.symm];exact y),m,J,?_,?_]
 .exact Ks (aZ _ _ _) (by show 0+1<1000;decide)
 refine k t _ q (λb o e d=> ?_) av ?_
 .rw[aJ d,aJ (aM e q)];exact j b o e d
 .rw[aJ l,av]
theorem sc_Listed_rank:aK ["self","s"] ["self","s"] (aw s_Listed_rank):=sc_of
theorem qu(T:Tb K mg)(D:iL K "rank" "Listed.rank" s_Listed_rank ["self","s"] f)(p:Cls K C)(n2:b7 K C "listed")(o:Cal P w K mg base 3 "size" ["s"] jH):iB P w K mg base 4 f ["self","s"] (Am C):=by
 refine D.fn sc_Listed_rank (λvs H Q E h=>by obtain⟨a,n,s,ms,rfl,_⟩:=h;rfl) λcdv A outer aE H vs Q E O h=> ?_;obtain⟨a,n,s,ms,rfl,⟨u,t,B,d,hl⟩,N,M,s0,s1,k⟩:=h;refine#[_,(ao (aH (dX (zN (K:=K) ⋯ ⋯) ⋯ T.max_ PyProof.Rows.boot_max (ae (wlc ["one"] ["s"] [1] (wit K (wfld K (pv 0))) (wnC 0) cP (wcal o O (ae (ax eQ (pv 1) (pv 0)) aq))) aq)))),?_];refine#[_,rfl,a,C,u,_,_,rfl,B,p,n2,yS _ _,t,rfl,#[_,SqT.of d],?_];have s2:s.toNat<256:=()
 refine F9 (λx=>(λ_=>true) (bI x)) (λx=> .int ((λm:Int=>((sz (s.toNat&&&m.toNat):Nat):Int)) (bI x))) d (by rw[J2];exact Kd hl ∅) (λi x vs H' R S hx U g G=> ?_) λD H' hD g hl=> ?_
 .obtain⟨v,rfl⟩:=bH U;obtain⟨m,rfl,c⟩:=bL hx;obtain⟨m0,m1⟩:=M m (Km c);simp only[bD,iM,J5];have b:Builtin.bitAnd s m=((s.toNat&&&m.toNat:Nat):Int):=eI s0 m0;have la:s.toNat&&&m.toNat<256:=EX s2;refine#[_,rfl,_,rfl,_,_,rfl,rfl,Builtin.bitAnd s m,rfl,(by rw[b];lia),(by rw[b];lia),λj ay=> ?_];rw[b,J8];have q:=G [some (.int m)] j rfl ay;rw[J5 rfl]at q;exact q
 replace hl:=hl.trans (K3 (λl=>some (HO.lst l)) (bK (λ_=>true) (λm:Int=>((sz (s.toNat&&&m.toNat):Nat):Int)) ms));rw[LM.mpr (λ_ _=>rfl)]at hl;refine#[D,_,rfl,SqL.of hl,?_,λz hz L=> ?_]
 .intro e;rw[List.map_eq_nil_iff]at e;exact N e
 have y:z=((cw ms s.toNat:Nat):Int):=by obtain⟨m,c,rfl⟩:=Ka.mp hz;rw[oB (ms:=ms) (s:=s.toNat) (r:=sz (s.toNat&&&m.toNat)) #[m,c,rfl] λm' J=> ?_];have:=L _ (Ka.mpr #[m',J,rfl]);lia
 rw[y];exact k H' g
theorem sc_pivot_place:aK ["rows","column","place","row"] ["rows","column"] (aw s_pivot_place):=sc_of
theorem qr(T:Tb K mg)(D:bw K mg "pivot_place" s_pivot_place ["rows","column"]):Cal P w K mg base 1 "pivot_place" ["rows","column"] (Ao K):=by
 refine D.cal sc_pivot_place (λvs H Q E h=>by obtain⟨a,xs,L,c,n,rfl,_⟩:=h;rfl) λf cdv A outer ai H vs Q E hr h=> ?_;obtain⟨a,xs,L,c,n,rfl,v,x,O,M,k1,k2⟩:=h;refine#[_,(ah (wfor (ql (K:=K) ⋯ ⋯ T.enumerate_ (ae (pv 0) aq)) (mh (K:=K) (n:=2) ⋯ ⋯ (eV (wname 2 sc_pivot_place.nd) (eV (wname 3 sc_pivot_place.nd) mf)))
     (ao (bo (wpt gE (dh K (pv 3) (pv 1)) af)
       (ao (aH (pv 2)))
       aO)))
   (ao (aH iw))),?_]
 refine#[_,rfl,a,rfl,#[_,v],?_];refine xu (K:=K) (a:=a) (xs:=xs) (λi m H'=>Same H H'/\(∀ (j:Nat) (r:List Int),j<i->L[j]?=some r->r.getD c 0=0)/\∃s u,m=[some (.ref a),some (.int (c:Int)),s,u]) #[Same.refl _,λj _ d=>absurd d (Nj _),none,none,rfl] (λi m H' _ z=>SqL.of (z.1.at v)) ?_ ?_
 .rintro i y t m H' N U ⟨k,p,s,u,rfl⟩;obtain⟨b,r,g,rfl,G⟩:=(x.same k).at N;have q:Same H' (upd H' t (.tup [.int (i:Int), .ref b])):=Same.new U;have J:=q.at G;have B:atI (r.map V.int) (c:Int)=some (.int (r.getD c 0)):=cY (by rw[O r (Km g)];exact M);refine#[t,_,rfl,SqT.of av,rfl,_,_,rfl,_,_,rfl,rfl,?_];refine#[_,rfl,_,rfl,b,_,_,_,rfl,rfl,SqL.of J,B,rfl,_,rfl,?_];by_cases l:r.getD c 0=0
  .rw[l];refine eZ #[k.trans q,λj r' d o=> ?_,_,_,rfl];by_cases e:j=i
   .subst e;rw[g]at o;cases o;exact l
   .exact p j r' () o
  .rw[J6 λe=>l (V.int.inj e)];exact nX #[_,rfl,k1 i r _ (k.trans q) g l]
 .rintro m H' ⟨k,p,s,u,rfl⟩;refine k2 (λr g=> ?_) H' k;obtain⟨j,d⟩:=LQ g;exact p j r (by rw[x.1];exact(Kh.mp d).1) d
theorem sc_cleared:aK ["row","pivot","column","divisor","ahead","behind"] ["row","pivot","column","divisor"] (aw s_cleared):=sc_of
theorem wY(T:Tb K mg)(D:bw K mg "cleared" s_cleared ["row","pivot","column","divisor"]):Cal P w K mg base 1 "cleared" ["row","pivot","column","divisor"] (pV K):=by
 refine D.cal sc_cleared (λvs H Q E h=>by obtain⟨a,b,r,pr,c,n,B,d,rfl,_⟩:=h;rfl) λf cdv A outer aS H vs Q E hr h=> ?_;obtain⟨a,b,r,pr,c,n,B,d,rfl,o,p,e,g,z,hn,hB,U,k⟩:=h;refine#[_,(ah (wset 4 sc_cleared.nd (dh K (pv 1) (pv 2)))
   (ah (wset 5 sc_cleared.nd (dh K (pv 0) (pv 2)))
   (ao (aH (wlc ["number","above"] ["divisor","ahead","behind"] [3,4,5] (FH (K:=K) ⋯ ⋯ T.zip_ (ae (pv 0) (ae (pv 1) aq))) (mh (K:=K) (n:=2) ⋯ ⋯ (eV (wnC 0) (eV (wnC 1) mf))) cP (ax DN (ax fq (ax pf (pv 0) (pv 3)) (ax pf (pv 1) (pv 4))) (pv 2))))))),?_]
 have L:atI (r.map V.int) (c:Int)=some (.int (r.getD c 0)):=cY (by rw[e.1];exact z);have J:atI (pr.map V.int) (c:Int)=some (.int (pr.getD c 0)):=cY (by rw[g.1];exact z);refine#[_,rfl,_,rfl,b,_,_,_,rfl,rfl,p,J,?_];refine#[_,rfl,_,rfl,a,_,_,_,rfl,rfl,o,L,?_];refine#[_,rfl,_,rfl,a,b,rfl,#[_,o],#[_,p],?_];have s:B+B<=2^26:=()
 refine F8 (n:=n) (λj=> .int ((r.getD j 0*pr.getD c 0-pr.getD j 0*r.getD c 0).fdiv d)) o p (by rw[J2];exact e.1) (by rw[J2];exact g.1) (Kd hn ∅) (λi x y vs H' t R S hx hy hv G ht hk=> ?_) λD H' O G ab=> ?_
 .obtain⟨v1,v2,rfl⟩:=CY hv;obtain⟨l,rfl,M⟩:=bL hx;obtain⟨m,rfl,N⟩:=bL hy;have u:r.getD i 0=l:=by rw[Kc,M];rfl
  have v:pr.getD i 0=m:=by rw[Kc,N];rfl
  have q:=hk [some (.int l),some (.int m)] (upd H' t (.tup [.int l, .int m])) rfl (Same.refl _);rw[u,v]at q;have m1:iz l (pr.getD c 0):=by rw[<-u];exact iz.of (e.at i) (g.at c) s
  have m2:iz m (r.getD c 0):=by rw[<-v];exact iz.of (g.at i) (e.at c) s
  refine#[t,_,rfl,SqT.of av,rfl,_,_,rfl,_,_,rfl,rfl,?_];simp only[iM,J5];exact#[_,rfl,_,rfl,_,_,rfl,rfl,m1,_,rfl,_,rfl,_,_,rfl,rfl,m2,_,_,rfl,rfl,_,rfl,_,_,rfl,rfl,U,q]
 .refine k D H' G O (ab.trans ?_);unfold k9;rw[e.1,K5];rfl
theorem sc_all_cleared:aK ["rows","place","column","divisor","pivot","others"] ["rows","place","column","divisor"] (aw s_all_cleared):=sc_of
theorem oX(T:Tb K mg)(D:bw K mg "all_cleared" s_all_cleared ["rows","place","column","divisor"])(aa:Cal P w K mg base 1 "cleared" ["row","pivot","column","divisor"] (pV K)):Cal P w K mg base 2 "all_cleared" ["rows","place","column","divisor"] (wq K):=by
 refine D.cal sc_all_cleared (λvs H Q E h=>by obtain⟨a,xs,L,i,c,n,B,d,pr,rfl,_⟩:=h;rfl) λf cdv A outer c1 H vs Q E hr h=> ?_;obtain⟨a,xs,L,i,c,n,B,d,pr,rfl,ha,hx,ar,hL,hi,hc,hn,hB,hd,k⟩:=h;refine#[_,(ah (wset 4 sc_all_cleared.nd (dh K (pv 0) (pv 1)))
   (ah (wset 5 sc_all_cleared.nd (ax nU (jR (jI (K:=K) ⋯) (pv 0) ma (lZ (pv 1))) (jR (jI (K:=K) ⋯) (pv 0) (lZ (ax dz (pv 1) af)) ma)))
   (ao (aH (wlc ["row"] ["pivot","column","divisor"] [4,2,3] (wil K (pv 5)) (wnC 0) cP (wcal aa hr (ae (pv 0) (ae (pv 1) (ae (pv 2) (ae (pv 3) aq)))))))))),?_]
 obtain⟨b,bt,bB⟩:=hx.2 i pr hi;refine#[_,rfl,_,rfl,a,_,_,_,rfl,rfl,SqL.of ha,jr bt,?_];refine#[_,rfl,_,rfl,_,rfl,a,_,rfl,SqL.of ha,λp1 b4=> ?_];rw[Gu];have aS:Same H (upd H p1 (.lst (xs.take i))):=Same.new b4;have p:upd H p1 (.lst (xs.take i)) p1=some (.lst (xs.take i)):=av;generalize upd H p1 (.lst (xs.take i))=s at*;refine#[_,rfl,_,rfl,_,_,rfl,rfl,_,rfl,a,_,rfl,SqL.of (aS.at ha),λp2 b5=> ?_];rw[show(i:Int)+1=((i+1:Nat):Int)from rfl,CD];have a0:Same s (upd s p2 (.lst (xs.drop (i+1)))):=Same.new b5;have J:upd s p2 (.lst (xs.drop (i+1))) p2=some (.lst (xs.drop (i+1))):=av;generalize upd s p2 (.lst (xs.drop (i+1)))=t at*;have cL:=hx.1;refine#[p1,p2,_,_,rfl,rfl,a0.at p,J,?_,λq hq=> ?_]
 .rw[KL,ME];exact Kd (EH i xs.length) (Kd (show xs.length<=1000 by lia) ∅)
 have ct:Same t (upd t q (.lst (xs.take i++xs.drop (i+1)))):=Same.new hq;have h3:upd t q (.lst (xs.take i++xs.drop (i+1))) q=some (.lst (xs.take i++xs.drop (i+1))):=av;generalize upd t q (.lst (xs.take i++xs.drop (i+1)))=H3 at*;have U:Same H H3:=(aS.trans a0).trans ct;have bE:=U.at bB;have aB:aU H3 (xs.take i++xs.drop (i+1)) (L.take i++L.drop (i+1)):=(hx.same U).cut i;have cp:(xs.take i++xs.drop (i+1)).length<=1000:=by rw[Kz,KL,ME];exact Kd (EH i xs.length) ()
 have a5:∀r∈L.take i++L.drop (i+1),i6 n B r:=λr g=>by
  rcases KC.mp g with h|h
  .exact ar r (MN h)
  .exact ar r (Od h)
 have two:∀ (j:Nat) (r:List Int),(L.take i++L.drop (i+1))[j]?=some r->2<=L.length:=λj r hj=>by have p:=(Kh.mp hj).1;have J:=(Kh.mp hi).1;rw[Kz,KL,ME]at p;lia
 generalize xs.take i++xs.drop (i+1)=zs at*;generalize L.take i++L.drop (i+1)=N at*;refine#[_,rfl,q,rfl,#[_,SqL.of h3],?_];refine qx (λx y G=>∃ (m z:Addr) (r:List Int),x= .ref m/\y= .ref z/\H3 m=some (.lst (r.map V.int))/\G z=some (.lst ((k9 d pr r c).map V.int))) (λx y G G' e h=>by obtain⟨m,z,r,e1,e2,g1,g2⟩:=h;exact#[m,z,r,e1,e2,g1,e.at g2]) (SqL.of h3) (Kd cp ∅) (λj x vs D H' R S ck hv O M hk=> ?_) λD H' ys M O bj b1 hR=> ?_
 .obtain⟨v,rfl⟩:=bH hv;obtain⟨m,r,g,rfl,aE⟩:=aB.at ck;obtain⟨l,hl⟩:=M;simp only[bD,iM,J5];refine#[_,rfl,_,rfl,_,rfl,_,rfl,m,b,r,pr,c,n,B,d,rfl,SqL.of (O.at aE),SqL.of (O.at bE),a5 r (Km g),ar pr (Km hi),hc,hn,hB,hd (two j r g),λu H4 cu hu b0=> ?_];refine hk _ [some (.ref m)] H4 #[m,u,r,rfl,rfl,aE,?_] rfl cu;rw[dR (aM hl hu).symm];exact b0
 .refine k D H' ys (U.trans O) ?_ bj ?_
  .cases e:H D with
   |none=>rfl
   |some o=>rw[U.at e]at M;cases M
  .refine aU.of (by rw[b1,J2];exact aB.1) λj r' y g hy=> ?_;rw[Kv]at g;cases hN:N[j]? with
   |none=>rw[hN]at g;cases g
   |some r=>
    rw[hN]at g;cases g;obtain⟨m,p,J⟩:=aB.2 j r hN;obtain⟨b2,c2,r2,e1,e2,g1,g2⟩:=hR j _ y p hy;cases e1;rw[uU J g1];exact#[c2,e2,eu.at g2]
theorem sc_rests:aK ["row","prime"] ["row","prime"] (aw s_rests):=sc_of
theorem DP(T:Tb K mg)(D:bw K mg "rests" s_rests ["row","prime"]):Cal P w K mg base 1 "rests" ["row","prime"] (Al K):=by
 refine D.cal sc_rests (λvs H Q E h=>by obtain⟨a,r,m,rfl,_⟩:=h;rfl) λf cdv A outer t H vs Q E p h=> ?_;obtain⟨a,r,m,rfl,c,o,hl,k⟩:=h;refine#[_,(ah (bo (wpt a8 (pv 1) af)
     (ao (aH (iY (rX (K:=K) ⋯) ⋯ T.list_ MR (ae (pv 0) aq))))
     aO)
   (ao (aH (wlc ["number"] ["prime"] [1] (wil K (pv 0)) (wnC 0) cP (ax cj (pv 0) (pv 1)))))),?_]
 refine#[_,rfl,rfl,_,rfl,cG (λz=> ?_) λz=> ?_]
 .have e:m=0:=V.int.inj (Ko z);refine#[_,rfl,a,_,rfl, .inl c,λq b=> ?_];refine k q _ (Same.new b) b ?_;rw[av];unfold dB;rw[J5 e]
 .have e:¬m=0:=λe=>z (J3 (by rw[e]));refine#[_,rfl,a,rfl,#[_,c],?_];refine b9 (λ_=>true) (λx=> .int (bI x % m)) c (by rw[J2];exact Kd hl ∅) (λi x vs H' R S n l d g=> ?_) λq H' b d j=> ?_
  .obtain⟨v,rfl⟩:=bH l;obtain⟨y,rfl,s⟩:=bL n;have q:=g [some (.int y)] H' rfl (Same.refl _);rw[J5 rfl]at q;simp only[bD,iM,J5];exact#[_,rfl,_,rfl,_,_,rfl,rfl,(by show(0:Int)<m;lia),q]
  .refine k q H' d b (j.trans ?_);have:=bK (λ_=>true) (λz=>z % m) r;rw[this,LM.mpr (λ_ _=>rfl)];unfold dB;rw[J4 e]
theorem sc_rank_of:aK ["rows","prime","left","rank","divisor","column","place","ahead"] ["rows","prime"] (aw s_rank_of):=sc_of
theorem yJ(T:Tb K mg)(D:bw K mg "rank_of" s_rank_of ["rows","prime"])(ag:Cal P w K mg base 1 "rests" ["row","prime"] (Al K))(aa:Cal P w K mg base 1 "pivot_place" ["rows","column"] (Ao K))(ab:Cal P w K mg base 2 "all_cleared" ["rows","place","column","divisor"] (wq K)):Cal P w K mg base 3 "rank_of" ["rows","prime"] (vZ K):=by
 refine D.cal sc_rank_of (λvs H Q E h=>by obtain⟨a,xs,M,n,m,rfl,_⟩:=h;rfl) λf cdv A outer fi H vs Q E hr h=> ?_;obtain⟨a,xs,M,n,m,rfl,ha,hx,hM,n8,cO,B,k⟩:=h;refine#[_,(ah (bo (wpt a8 (wlen K T.len_ (pv 0)) af)
     (ao (aH af))
     aO)
   (ah (wls 2 sc_rank_of.nd ["row"] ["prime"] [1] (wil K (pv 0)) (wnC 0) cP (wcal ag hr (ae (pv 0) (ae (pv 1) aq))))
   (ah (wset 3 sc_rank_of.nd af)
   (ah (wset 4 sc_rank_of.nd af)
   (ah (wfor (wrng T.range_ (wlen K T.len_ (dh K (pv 0) af))) (wname 5 sc_rank_of.nd)
     (ah (wset 6 sc_rank_of.nd (wcal aa hr (ae (pv 2) (ae (pv 5) aq))))
     (ao (bo (wpt uH (pv 6) iw)
       (ah (wset 7 sc_rank_of.nd (dh K (dh K (pv 2) (pv 6)) (pv 5)))
       (ah (wls 2 sc_rank_of.nd ["row"] ["prime"] [1] (wil K (wcal ab hr (ae (pv 2) (ae (pv 6) (ae (pv 5) (ae (pv 4) aq)))))) (wnC 0) cP (wcal ag hr (ae (pv 0) (ae (pv 1) aq))))
       (ah (wset 3 sc_rank_of.nd (ax dz (pv 3) af))
       (ao (bo (wpt a8 (pv 1) af)
         (ao (wset 4 sc_rank_of.nd (pv 7)))
         aO)))))
       aO))))
   (ao (aH (pv 3)))))))),?_]
 have d2:=hx.1;refine#[_,rfl,a,_,rfl, .inl (SqL.of ha),rfl,_,rfl,cG (λz=> ?_) λz=> ?_]
 .have e:M=[]:=by have U:((xs.length:Nat):Int)=0:=V.int.inj (Ko z);exact NL.mp ()
  subst e;refine k 0 H (Same.refl _) ?_ (ue B.one _ _);intro S T hS hT ls lt
  match S,ls with
  |s::_,_=>exact absurd (hS s Kp) (λh=>nomatch h)
 have m0:0<M.length:=by refine Ov λe=>z (J3 ?_);rw[d2,e];rfl
 refine#[_,rfl,a,rfl,#[_,SqL.of ha],?_];refine qx (λx y G=>∃ (p O:Addr) (r:List Int),x= .ref p/\y= .ref O/\H p=some (.lst (r.map V.int))/\G O=some (.lst ((dB m r).map V.int))) (λx y G G' e h=>by obtain⟨p,O,r,U,e2,g1,g2⟩:=h;exact#[p,O,r,U,e2,g1,e.at g2]) (SqL.of ha) (Kd (show xs.length<=100 by lia) ∅) (λj x vs D H' R S c3 hv sm hD hk=> ?_) λq H1 ys hq c7 eH eE hR=> ?_
 .obtain⟨v,rfl⟩:=bH hv;obtain⟨p,r,o,rfl,aS⟩:=hx.at c3;obtain⟨l,hl⟩:=hD;simp only[bD,iM,J5];refine#[_,rfl,_,rfl,p,r,m,rfl,SqL.of (sm.at aS),B.nn,by rw[(cO r (Km o)).1];lia,λu H4 bj hu aA=> ?_];refine hk _ [some (.ref p)] _ #[p,u,r,rfl,rfl,aS,?_] rfl bj;rw[dR (aM hl hu).symm];exact aA
 have eR:aU H1 ys (M.map (dB m)):=by
  refine aU.of (by rw[eE,J2];exact d2) λj r' y o hy=> ?_;rw[Kv]at o;cases hN:M[j]? with
  |none=>rw[hN]at o;cases o
  |some r=>
   rw[hN]at o;cases o;obtain⟨p,h1,h2⟩:=hx.2 j r hN;obtain⟨b2,c2,r2,U,e2,g1,g2⟩:=hR j _ y h1 hy;cases U;rw[uU h2 g1];exact#[c2,e2,eu.at g2]
 clear hR;obtain⟨b0,ew,ez⟩:=hx.2 0 _ (Ky m0);have l0:=(cO _ (LD m0)).1;refine#[_,rfl,a,_,_,_,rfl,rfl,SqL.of (c7.at ha),jr (j:=0) ew,b0,_,rfl, .inl (SqL.of (c7.at ez)),_,rfl,by rw[J2];lia,by rw[J2];lia,?_];rw[J2,l0,J8];have mapped:∀ (L:List (List Int)) (c:Nat) (g:Nat),(Van m g ((L.map (dB m)).map bg) (List.range' c (n-c))->Van m g (L.map bg) (List.range' c (n-c)))/\(Mnr m g ((L.map (dB m)).map bg) (List.range' c (n-c))->Mnr m g (L.map bg) (List.range' c (n-c))):=λL c g=>by
  have e:(L.map (dB m)).map bg=(L.map bg).map (DW m):=by rw[K5,K5];exact LB λr _=>Bz m r
  rw[e];exact#[Fe λr _ j _=>w8 m r j,Fj λr _ j _=>w8 m r j]
 refine cx (n:=n) (λc σ H'=>Same H H'/\∃ (q:Addr) (ys:List V) (L:List (List Int)) (rk:Nat) (d:Int) (v5 v6 v7:Option V),H' q=some (.lst ys)/\aU H' ys L/\L.length+rk=M.length/\(∀r∈L,i6 n (gT rk) r)/\(0<m->∀r∈L,∀z∈r,0<=z/\z<m)/\d≠0/\d.natAbs<2^gT (rk-1)/\¬m∣d/\(m≠0->d=1)/\oT d (L.map bg) (List.range' c (n-c))/\
  (∀g,Van m g (L.map bg) (List.range' c (n-c))->Van m (rk+g) (M.map bg) (List.range n))/\(∀g,Mnr m g (L.map bg) (List.range' c (n-c))->Mnr m (rk+g) (M.map bg) (List.range n))/\
  σ=[some (.ref a),some (.int m),some (.ref q),some (.int (rk:Int)),some (.int d),v5,v6,v7]) #[c7,q,ys,M.map (dB m),0,1,none,none,none,eH,eR,by rw[J2];rfl,λr o=> ?_,λhp r o=> ?_,∅,∅,B.one,λ_=>rfl,i3 _ _,λg v=> ?_,λg v=> ?_,rfl] ?_ ?_
 .obtain⟨r0,a5,rfl⟩:=Ka.mp o;exact wH B.nn B.lt ∅ (cO r0 a5)
 .obtain⟨r0,a5,rfl⟩:=Ka.mp o;exact AA hp
 .have:=(mapped M 0 g).1 v;rw[show List.range' 0 (n-0)=List.range n by rw[List.range_eq_range'];rfl]at this;rw[Nr];exact this
 .have:=(mapped M 0 g).2 v;rw[show List.range' 0 (n-0)=List.range n by rw[List.range_eq_range'];rfl]at this;rw[Nr];exact this
 .rintro c σ H' hc ⟨b5,q',b6,L,rk,d,v5,v6,v7,bM,b3,hL,J,cB,hd,cA,cL,cv,good,ay,hSub,rfl⟩;rw[Lk];rw[yy hc]at good ay hSub;refine#[_,rfl,_,rfl,q',b6,L,c,n,rfl,bM,b3,λr o=>(J r o).1,hc,λi pr H2 ak hi bE=> ?_,λet H2 ak=> ?_]
  .have aB:=Km hi;have dV:=ak.at bM;have d3:=b3.same ak;have il:=(Kh.mp hi).1;have eB:=EG hi;have cu:L.map bg=(L.take i).map bg++bg pr::(L.drop (i+1)).map bg:=by
    conv=>lhs;rw[eB]
    rw[KP,KS]
   have cM:¬m∣pr.getD c 0:=Io B.nn (λhp=>cB hp pr aB _ (Fq bE)) bE;have G2:=Cu good hd (show bg pr∈L.map bg from Ka.mpr #[pr,aB,rfl]) bE (L:=(L.take i).map bg++(L.drop (i+1)).map bg) λr o=>by
    rw[cu];rcases KC.mp o with h|h
    .exact KC.mpr (.inl h)
    .exact KC.mpr (.inr (Ke _ h))
   have eN:((L.take i).map bg++(L.drop (i+1)).map bg).map (cN d (bg pr) c)=((L.take i++L.drop (i+1)).map λr=>k9 d pr r c).map bg:=by
    rw[<-KP,K5,K5];refine LB λr o=> ?_;have rm:r∈L:=by
     rcases KC.mp o with h|h
     .exact MN h
     .exact Od h
    exact(Dv (J pr aB).1 (J r rm).1 hc).symm
   have VS:∀g,Van m g (((L.take i++L.drop (i+1)).map λr=>k9 d pr r c).map bg) (List.range' (c+1) (n- (c+1)))->Van m (rk+1+g) (M.map bg) (List.range n):=λg v=>by
    rw[<-eN]at v;have:=ay _ (pI B.mul good hd cu cM v)
    rwa [show rk+(g+1)=rk+1+g by lia]at this
   have US:∀g,Mnr m g (((L.take i++L.drop (i+1)).map λr=>k9 d pr r c).map bg) (List.range' (c+1) (n- (c+1)))->Mnr m (rk+1+g) (M.map bg) (List.range n):=λg v=>by
    rw[<-eN]at v;have:=hSub _ (pP B.mul B.one good hd cL cu cM v)
    rwa [show rk+(g+1)=rk+1+g by lia]at this
   rw[eN]at G2;have bN:∀r∈(L.take i++L.drop (i+1)).map λr=>k9 d pr r c,i6 n (gT (rk+1)) r:=λx eP=>by
    obtain⟨r,o,rfl⟩:=Ka.mp eP;have rm:r∈L:=by
     rcases KC.mp o with h|h
     .exact MN h
     .exact Od h
    exact Gw (J pr aB) (J r rm)
   have lN:((L.take i++L.drop (i+1)).map λr=>k9 d pr r c).length+(rk+1)=M.length:=by rw[J2,Kz,KL,ME];lia
   obtain⟨b,ey,eA⟩:=d3.2 i pr hi;have ar:atI (pr.map V.int) (c:Int)=some (.int (pr.getD c 0)):=cY (by rw[(J pr aB).1];exact hc);have ep:2<=L.length->CFd 0 d:=λh2=>#[hd,Ir cA (vt _ ()) hd];have e3:rk<9:=()
   refine#[_,rfl,rfl,_,rfl,nX ?_];refine#[_,rfl,_,rfl,q',_,_,_,rfl,rfl,SqL.of dV,jr ey,_,rfl,b,_,_,_,rfl,rfl,SqL.of eA,ar,?_];generalize hN:(L.take i++L.drop (i+1)).map (λr=>k9 d pr r c)=N at*;refine#[_,rfl,_,rfl,_,rfl,_,rfl,q',b6,L,i,c,n,gT rk,d,pr,rfl,dV,d3,J,(),hi,hc,(),CP rk e3,ep,λu H4 zs bj hu aA b4=> ?_];rw[hN]at b4;have zl:=b4.1;refine#[u,rfl,#[_,SqL.of aA],?_];refine qx (λx y G=>∃ (p O:Addr) (r:List Int),x= .ref p/\y= .ref O/\H4 p=some (.lst (r.map V.int))/\G O=some (.lst ((dB m r).map V.int))) (λx y G G' e h=>by obtain⟨p,O,r,U,e2,g1,g2⟩:=h;exact#[p,O,r,U,e2,g1,e.at g2]) (SqL.of aA) (Kd (show zs.length<=100 by lia) ∅) (λj x vs D H' R S c3 hv sm hD hk=> ?_) λq5 H5 ws fa e4 d0 eG hR=> ?_
   .obtain⟨v,rfl⟩:=bH hv;obtain⟨p,r,o,rfl,aS⟩:=b4.at c3;obtain⟨l,hl⟩:=hD;simp only[bD,iM,J5];refine#[_,rfl,_,rfl,p,r,m,rfl,SqL.of (sm.at aS),B.nn,by rw[(bN r (Km o)).1];lia,λu H4 bj hu aA=> ?_];refine hk _ [some (.ref p)] _ #[p,u,r,rfl,rfl,aS,?_] rfl bj;rw[dR (aM hl hu).symm];exact aA
   have d1:aU H5 ws (N.map (dB m)):=by
    refine aU.of (by rw[eG,J2];exact zl) λj r' y o hy=> ?_;rw[Kv]at o;cases cp:N[j]? with
    |none=>rw[cp]at o;cases o
    |some r=>
     rw[cp]at o;cases o;obtain⟨p,h1,h2⟩:=b4.2 j r cp;obtain⟨b2,c2,r2,U,e2,g1,g2⟩:=hR j _ y h1 hy;cases U;rw[uU h2 g1];exact#[c2,e2,eu.at g2]
   clear hR;have d6:Same H H5:=((b5.trans ak).trans bj).trans e4;have fB:∀r∈N.map (dB m),i6 n (gT (rk+1)) r:=λr o=>by obtain⟨r0,a5,rfl⟩:=Ka.mp o;exact wH B.nn B.lt (jo _) (bN r0 a5)
   have fI:0<m->∀r∈N.map (dB m),∀z∈r,0<=z/\z<m:=λhp r o=>by obtain⟨r0,a5,rfl⟩:=Ka.mp o;exact AA hp
   have fV:=λg v=>VS g ((mapped N (c+1) g).1 v);have fU:=λg v=>US g ((mapped N (c+1) g).2 v);refine#[_,rfl,_,_,rfl,rfl,?_];rw[show(rk:Int)+1=((rk+1:Nat):Int) by lia];refine#[_,rfl,rfl,_,rfl,cG (λz=> ?_) λz=> ?_]
   .have e:m=0:=V.int.inj (Ko z);have eM:N.map (dB m)=N:=by
     have:dB m=id:=by funext r;unfold dB;rw[J5 e];rfl
     rw[this,MS]
    refine#[_,rfl,d6,q5,ws,N.map (dB m),rk+1,pr.getD c 0,_,_,_,d0,d1,by rw[J2];exact lN,fB,fI,bE,(J pr aB).at c,cM,λh=>absurd e h,?_,fV,fU,rfl];rw[eM];exact G2
   .have e:m≠0:=λe=>z (J3 (by rw[e]));have ed:=cv e;subst ed;exact#[d6,q5,ws,N.map (dB m),rk+1,1,_,_,_,d0,d1,by rw[J2];exact lN,fB,fI,∅,Kb (show(1:Int).natAbs<2^7 by decide) (Kw ∅ (jo _)),B.one,λ_=>rfl,i3 _ _,fV,fU,rfl]
  .refine#[_,rfl,rfl,_,rfl,eZ ?_];have zr:∀r∈L.map bg,m∣r c:=λr o=>by obtain⟨l,hl,rfl⟩:=Ka.mp o;have:bg l c=0:=et l hl;rw[this];exact KY m
   refine#[b5.trans ak,q',b6,L,rk,d,_,_,_,ak.at bM,b3.same ak,hL,J,cB,hd,cA,cL,cv,?_,λg v=>ay g (jD zr v),λg v=>hSub g (vN v),rfl];exact λS T g hS hT=>good S T g hS λt ht=>Ke _ (hT t ht)
 .rintro σ H' ⟨b5,q',b6,L,rk,d,v5,v6,v7,bM,b3,hL,J,cB,hd,cA,cL,cv,good,ay,hSub,rfl⟩;rw[OR]at ay hSub;exact#[_,rfl,k rk H' b5 (ay 1 (t7 m _)) (hSub 0 (ue B.one _ _))]
def kO(p:Int)(b:Bool):List Int:=if b=true then(List.range' 1 (p.toNat-1)).map λi:Nat=>(i:Int)else [0]
def iC(p:Int)(found:List (List Int))(b:Bool):List (List Int):=found.flatMap λcol=>(kO p b).map λz=>col++[z]
def dS(p:Int)(bs:List Bool):List (List Int):=bs.foldl (iC p) [[]]
theorem mz(h:p<=3)(b:Bool):(kO p b).length<=2:=by
 unfold kO;split
 .rw[J2,List.length_range'];lia
 .decide
theorem jU{b β:Type}{f:b->List β}{k:Nat}(h:∀a,(f a).length<=k):∀l:List b,(l.flatMap f).length<=l.length*k
 | []=>by simp
 |a::l=>by rw[NS,Kz,KA,Nat.succ_mul];have:=h a;have:=jU h l;lia
theorem CG(h:p<=3)(bs:List Bool):(dS p bs).length<=2^bs.length:=by
 have c:∀ (bs:List Bool) (found:List (List Int)),(bs.foldl (iC p) found).length<=found.length*2^bs.length:=λbs=>by
  induction bs with
  |nil=>intro found;simp
  |cons b bs f=>
   intro found;rw[MV,KA,NI];have g:=f (iC p found b);have d:(iC p found b).length<=found.length*2:=jU (λa=>by rw[J2];exact mz h b) found;have e:=Nat.mul_le_mul_right (2^bs.length) d;rw[O7,Nat.mul_comm 2]at e;lia
 have:=c bs [[]];unfold dS;simpa using this
theorem qU(p:Int){bs:List Bool}(h:bs[i]?=some b):dS p (bs.take (i+1))=iC p (dS p (bs.take i)) b:=by unfold dS;rw[Lx,h,NQ];rfl
theorem Cc:x∈iC p found b↔∃col∈found,∃z∈kO p b,x=col++[z]:=by
 unfold iC;rw[List.mem_flatMap];constructor
 .rintro⟨col,a,h⟩;obtain⟨z,c,rfl⟩:=Ka.mp h;exact#[col,a,z,c,rfl]
 .rintro⟨col,a,z,c,rfl⟩;exact#[col,a,Ka.mpr #[z,c,rfl]]
theorem xf(d:0<p):z∈kO p b↔0<=z/\z<p/\(b=true↔¬z=0):=by
 unfold kO;cases b with
 |true=>
  rw[J5 rfl,Ka];constructor
  .rintro⟨i,c,rfl⟩;obtain⟨j,g,rfl⟩:=List.mem_range'.mp c;exact#[(),(),λ_=>(),λ_=>rfl]
  .rintro⟨e,f,a⟩;have a:=a.mp rfl;exact#[z.toNat,List.mem_range'.mpr #[z.toNat-1,(),()],()]
 |false=>
  rw[J4 Ku,KZ];constructor
  .rintro rfl;exact#[(),d,λz=>(nomatch z),λz=>absurd rfl z]
  .rintro⟨_,_,a⟩;exact Kr λz=>(nomatch a.mpr z)
theorem ko(m:0<p)(bs:List Bool)(x:List Int):x∈dS p bs↔x.length=bs.length/\∀ (i:Nat) (b:Bool),bs[i]?=some b->0<=x.getD i 0/\x.getD i 0<p/\(b=true↔¬x.getD i 0=0):=by
 have q:∀ (k:Nat) (x:List Int),k<=bs.length->(x∈dS p (bs.take k)↔x.length=k/\∀ (i:Nat) (b:Bool),i<k->bs[i]?=some b->0<=x.getD i 0/\x.getD i 0<p/\(b=true↔¬x.getD i 0=0)):=λk=>by
  induction k with
  |zero=>
   intro x _;rw[List.take_zero];show x∈[[]]↔_;rw[KZ];exact#[λe=>#[by rw[e];rfl,λi b h=>absurd h (Nj _)],λh=>Nn h.1]
  |succ k n=>
   intro x g;have a:bs[k]?=some bs[k]:=Ky ();rw[qU p a,Cc];constructor
   .rintro⟨col,r,z,j,rfl⟩;obtain⟨f,d⟩:=(n col ()).mp r;have j:=(xf m).mp j;refine#[by rw[Kz,f];rfl,λi b l c=> ?_];by_cases e:i=k
    .subst e;rw[a]at c;cases c;have:(col++[z]).getD i 0=z:=by rw[Kc,KN (),f,OR];rfl
     rw[this];exact j
    .have:(col++[z]).getD i 0=col.getD i 0:=by rw[Kc,KR (),<-Kc]
     rw[this];exact d i b () c
   .rintro⟨f,d⟩;have s:x=x.take k++[x.getD k 0]:=by
     have g:k<x.length:=()
     have:x.getD k 0=x[k]:=by simp[g]
     rw[this];have o:x.take (k+1)=x:=MH ()
     conv=>lhs;rw[<-o,Lx,Ky g]
     rfl
    refine#[x.take k,(n _ ()).mpr #[by rw[KL];lia,λi b l c=> ?_],_,(xf m).mpr (d k _ () a),s];have:(x.take k).getD i 0=x.getD i 0:=by rw[Kc,MD l,<-Kc]
    rw[this];exact d i b () c
 have:=q bs.length x (Kk _);rw[Ly]at this;rw[this];refine Oc λ_=>#[λh i b a=>h i b (Kh.mp a).1 a,λh i b _ a=>h i b a]
inductive yh(K:PySem.W.Frag)(vs:List V)(H:Hp)(Q:VK):Prop
 |mk (a:Addr) (bs:List Bool) (p:Int) (y_0:vs=[.ref a, .int p]) (y_1:SqL K H a (bs.map V.bl)) (y_2:bs.length<=8) (y_3:0<p) (y_4:p<=3) (y_5:∀l xs H',Same H H'->H l=none->H' l=some (.lst xs)->aU H' xs (dS p bs)->Q (.ref l) H'):yh K vs H Q
def Av(K:PySem.W.Frag):Sp:=λvs H Q _=>yh K vs H Q
theorem jM(h:aU H xs M)(g:aU H ys N):aU H (xs++ys) (M++N):=by
 refine#[by rw[Kz,Kz,h.1,g.1],λi r b=> ?_];by_cases e:i<M.length
 .rw[KR e]at b;obtain⟨a,c,d⟩:=h.2 i r b;exact#[a,by rw[KR (by rw[h.1];exact e)];exact c,d]
 .rw[KN ()]at b;obtain⟨a,c,d⟩:=g.2 _ r b;exact#[a,by rw[KN (by rw[h.1];lia),h.1];exact c,d]
theorem sc_columns_with:aK ["filled","prime","found","is_filled","numbers","longer","column"] ["filled","prime"] (aw s_columns_with):=sc_of
theorem oW(T:Tb K mg)(D:bw K mg "columns_with" s_columns_with ["filled","prime"]):Cal P w K mg base 1 "columns_with" ["filled","prime"] (Av K):=by
 refine D.cal sc_columns_with (λvs H Q E h=>by obtain⟨n,bs,p,rfl,_⟩:=h;rfl) λf cdv A outer dE H vs Q E hr h=> ?_;obtain⟨a,bs,p,rfl,hf,b8,p0,p3,k⟩:=h;refine#[_,(ah (wset 2 sc_columns_with.nd (cS (ae (cS aq) aq)))
   (ah (wfor (wil K (pv 0)) (wname 3 sc_columns_with.nd)
     (ah (wset 4 sc_columns_with.nd (wQ (DD (pv 3) (by intro _;rfl)) (iY (xG ⋯) ⋯ T.list_ MR (ae (FL ⋯ T.range_ (ae af (ae (pv 1) aq))) aq)) (cS (ae af aq))))
     (ah (wset 5 sc_columns_with.nd (cS aq))
     (ah (wfor (wil K (pv 2)) (wname 6 sc_columns_with.nd)
       (ao (cR (fo (K:=K) ⋯ Lh PySem.F.slot_list_extend PySem.F.type_list_extend B9 (pv 5) (ae (wlc ["number"] ["column"] [6] (wil K (pv 4)) (wnC 0) cP (ax nU (pv 1) (cS (ae (pv 0) aq)))) aq)))))
     (ao (wset 2 sc_columns_with.nd (pv 5)))))))
   (ao (aH (pv 2))))),?_]
 refine#[∅,λq0 bS=>#[Kd (Kk 1) ∅,λaA ar=> ?_]];have b3:Same H (upd (upd H q0 (.lst [])) aA (.lst [.ref q0])):=(Same.new bS).trans (Same.new ar);have c6:H aA=none:=(Same.new bS).free ar;have dk:q0≠aA:=λz=>by rw[<-z,av]at ar;cases ar
 refine#[_,rfl,a,rfl,#[_,b3.seq hf],?_];have cl:∀j,(dS p (bs.take j)).length<=256:=λj=>Kd (CG p3 _) (show 2^(bs.take j).length<=2^8 from Kw ∅ (by rw[KL];lia));refine cD (K:=K) (a:=a) (xs:=bs.map V.bl) (λi t B=>∃ (l:Addr) (xs:List V) (v3 v4 v5 s:Option V),Same H B/\H l=none/\B l=some (.lst xs)/\aU B xs (dS p (bs.take i))/\t=[some (.ref a),some (.int p),some (.ref l),v3,v4,v5,s])
  #[aA,[.ref q0],none,none,none,none,b3,c6,av,aU.of rfl (λj r y L M=>by
   cases j with
   |zero=>
    cases L;cases M;exact#[q0,rfl,by rw[aJ dk,av];rfl]
   |succ j=>simp at M),rfl] (λi t B _ h=>by obtain⟨_,_,_,_,_,_,N,_⟩:=h;exact N.seq hf) ?_ ?_
 .rintro i x t B hi ⟨l,xs,v3,v4,v5,s,N,hl,bb,hR,rfl⟩;rw[Kv]at hi;obtain⟨b,hb,rfl⟩:=NU.mp hi;dsimp only[bD];refine eU (λb5 H'=>∃q:Addr,Same B H'/\H' q=some (.lst ((kO p b).map V.int))/\b5=[some (.ref a),some (.int p),some (.ref l),some (.bl b),some (.ref q),v5,s]) ?_ ?_
  .rintro b5 H3 ⟨q,aB,hn,rfl⟩;refine#[∅,λd a4=> ?_];have b4:Same H3 (upd H3 d (.lst [])):=Same.new a4;have b1:=aB.at bb;have bB:=hR.same aB;refine#[_,rfl,l,rfl,#[_,SqL.of (b4.at b1)],?_];refine cD (K:=K) (a:=l) (xs:=xs) (λj t G=>∃ (g:List V) (s:Option V),Same H3 G/\G d=some (.lst g)/\aU (hide G d) g (iC p ((dS p (bs.take i)).take j) b)/\t=[some (.ref a),some (.int p),some (.ref l),some (.bl b),some (.ref q),some (.ref d),s])
    #[[],s,b4,av,#[rfl,λi r hr=>by simp[iC]at hr],rfl] (λj t G _ h=>by obtain⟨_,_,J,_⟩:=h;exact SqL.of (J.at b1)) ?_ ?_
   .rintro j x t G hj ⟨g,s,J,hL,hY,rfl⟩;obtain⟨ca,col,a3,rfl,cM⟩:=bB.at hj;have cO:=J.at cM;dsimp only[bD];refine#[_,rfl, .inl #[rfl,_,SqL.of hL],?_];have bN:=J.at hn;refine#[_,rfl,q,rfl,#[_,SqL.of bN],?_];have jl:j<(dS p (bs.take i)).length:=(Kh.mp a3).1;have ck:col.length<=8:=by have:=((ko p0 _ col).mp (Km a3)).1;rw[this,KL];lia
    refine Ed (λm y Hh=>∃ (c:Addr) (z:Int),y= .ref c/\G c=none/\(kO p b)[m]?=some z/\Hh c=some (.lst ((col++[z]).map V.int))) (λ_ y Hh H' e ⟨c,z,L,h0,h3,M⟩=>#[c,z,L,h0,h3,e.at M]) (SqL.of bN) (by rw[J2];exact Kd (mz p3 b) ∅) (λm x vs D H6 R S hx hv O hD hk=> ?_) λD6 H6 U bt O c3 b2 dc=> ?_
    .obtain⟨v,rfl⟩:=bH hv;obtain⟨z,rfl,hz⟩:=bL hx;simp only[bD,iM,J5];obtain⟨dl,cA⟩:=hD;refine#[_,rfl,_,rfl,Kd (Kk 1) ∅,λu hu=> ?_];have cL:=(Same.new (o:= .lst [.int z]) hu).at (O.at cO);refine#[ca,u,_,_,rfl,rfl,cL,av,by rw[J2];exact Kd (Nat.add_le_add_right ck 1) ∅,λc hc=> ?_];have bt:=(Same.new (o:= .lst [.int z]) hu).at cA;refine hk (.ref c) [some (.int z)] _ #[c,z,rfl,(O.trans (Same.new hu)).free hc,hz,?_] rfl ((Same.new hu).trans (Same.new hc));rw[dR (λz=>by rw[z,bt]at hc;cases hc),av,KP];rfl
    .have cB:aU (hide H6 d) U ((kO p b).map λz=>col++[z]):=by
      refine aU.of (by rw[b2,J2,J2]) λm r y L M=> ?_;obtain⟨c,z,rfl,h0,h3,h4⟩:=dc m y M;rw[Kv,h3]at L;cases L;have nc:c≠d:=λz=>by rw[z,hL]at h0;cases h0
      exact#[c,rfl,by rw[dR nc];exact eu.at h4]
     have el:g.length+U.length<=sizeLine:=by have e1:=hY.1;have e2:(iC p ((dS p (bs.take i)).take j) b).length<=((dS p (bs.take i)).take j).length*2:=jU (λa=>by rw[J2];exact mz p3 b) _;have e3:=mz p3 b;have e4:=cl i;rw[KL]at e2;rw[J2]at b2;exact Kd (show g.length+U.length<=1000 by lia) ∅
     refine#[d,D6,g,U,rfl,rfl,O.at hL,c3,el,?_];refine#[g++U,_,(J.trans O).upd a4,av,?_,rfl];rw[i0,Lx,a3];have e5:iC p ((dS p (bs.take i)).take j++[col]) b=iC p ((dS p (bs.take i)).take j) b++(kO p b).map λz=>col++[z]:=by unfold iC;rw[List.flatMap_append,NS,List.flatMap_nil,LF]
     show aU (hide H6 d) (g++U) (iC p ((dS p (bs.take i)).take j++[col]) b);rw[e5];exact jM (hY.same (ia O)) cB
   .rintro t G ⟨g,s,J,hL,hY,rfl⟩;have c4:H d=none:=N.free (aB.free a4);rw[bB.1,Ly]at hY;refine#[_,rfl,d,g,_,_,_,_,(N.trans aB).trans J,c4,hL,?_,rfl];rw[qU p hb];exact hY.same eu
  .intro b0;refine#[_,rfl,b,rfl,?_];cases b with
   |true=>
    refine nX ?_;refine#[_,rfl,1,p,rfl,λr c7=>#[r,p.toNat-1,rfl,by rw[av,show((p.toNat-1+1:Nat):Int)=p by lia],(),λq a5=> ?_]];exact b0 _ _ #[q,(Same.new c7).trans (Same.new a5),av,rfl]
   |false=>
    refine eZ ?_;exact#[Kd (Kk 1) ∅,λq a5=>b0 _ _ #[q,Same.new a5,av,rfl]]
 .rintro t B ⟨l,xs,v3,v4,v5,s,N,hl,bb,hR,rfl⟩;rw[J2,Ly]at hR;exact#[_,rfl,k l xs B N hl bb hR]
def fT(r:Nat->Nat)(R B y:Nat):List Bool:=(bits B).map λz=>decide (r (mP B z.toNat y)=R)
inductive tW(Z:Hs)(vs:List V)(H:Hp)(Q:VK):Prop
 |mk (h d:Addr) (n R G B y:Nat) (p:Int) (r:Nat->Nat) (ks:List Nat) (q:Nat->Addr) (c:Nat->List Int) (y_0:vs=[.ref h, .int p, .ref d, .int (B:Int), .int (y:Int)]) (y_1:Z.ho H h n r) (y_2:n<=8) (y_3:r (2^n-1)=R) (y_4:R<=8) (y_5:cy p) (y_6:0<p) (y_7:p<=3) (y_8:gX H d ks q c) (y_9:vB p R G ks c) (y_10:G<2^n) (y_11:y<n) (y_12:G.testBit y=false) (y_13:B<2^n) (y_14:sz B=R) (y_15:(∀q' col H',Same H H'->H' q'=some (.lst (col.map V.int))->col∈dS p (fT r R B y)->lu p R r (dO c y col) G y->Q (.ref q') H')) (y_16:(∀H',Same H H'->(∀col∈dS p (fT r R B y),¬lu p R r (dO c y col) G y)->Q .non H')):tW Z vs H Q
def wk(Z:Hs):Sp:=λvs H Q _=>tW Z vs H Q
theorem Ez(a:B<2^n)(b:y<n):mP B t y<2^n:=bP (Ks (iI _ _) a) b
theorem sc_column_for:aK ["house","prime","columns","base","thing","whole","filled","column"] ["house","prime","columns","base","thing"] (aw s_column_for):=sc_of
theorem rH{Z:Hs}(T:Tb K mg)(aA:gI Z)(hc:∀C,Z.dom C->HC K C_House C)(D:bw K mg "column_for" s_column_for ["house","prime","columns","base","thing"])(aj:∀C,Z.dom C->dn P w K mg base 4 C "rank" ["self","s"] (iN Z C))
  (ab:Cal P w K mg base 5 "whole_rank" ["house"] (gD Z)) (ai:Cal P w K mg base 2 "things" ["s"] iq) (ag:Cal P w K mg base 2 "exchanged" ["s","thing","y"] oA) (aa:Cal P w K mg base 1 "columns_with" ["filled","prime"] (Av K)) (ak:Cal P w K mg base 6 "fits" ["house","prime","columns","thing","column"] (Dp Z)):
  Cal P w K mg base 7 "column_for" ["house","prime","columns","base","thing"] (wk Z):=by
 refine D.cal sc_column_for (λvs H Q E h=>by obtain⟨h,d,n,R,G,B,y,p,r,ks,q,c,rfl,_⟩:=h;rfl) λf cdv A outer d1 H vs Q E k h=> ?_;obtain⟨h,d,n,R,G,B,y,p,r,ks,q,c,rfl,L,s,rR,R8,pm,p0,p3,hC,hK,hG,yn,cO,hB,zB,k1,k2⟩:=h;refine#[_,(ah (wset 5 sc_column_for.nd (wcal ab k (ae (pv 0) aq)))
   (ah (wls 6 sc_column_for.nd ["old"] ["whole","house","base","thing"] [5,0,3,4] (wil K (wcal ai k (ae (pv 3) aq))) (wnC 0) cP (wpe a8 (fP aj k ∅ (pv 2) (ae (wcal ag k (ae (pv 3) (ae (pv 0) (ae (pv 4) aq)))) aq)) (pv 1)))
   (ah (wfor (wil K (wcal aa k (ae (pv 6) (ae (pv 1) aq)))) (wname 7 sc_column_for.nd)
     (ao (bo (dD (wcal ak k (ae (pv 0) (ae (pv 1) (ae (pv 2) (ae (pv 4) (ae (pv 7) aq)))))))
       (ao (aH (pv 7)))
       aO)))
   (ao (aH iw))))),?_]
 have B8:B<256:=s_lt s hB;refine#[_,rfl,h,n,r,rfl,L,s,λH1 bS=> ?_];rw[rR];refine#[_,rfl,(B:Int),rfl,(),(),λpt H2 bX dV M=>#[pt,rfl,#[_,SqL.of M],?_]];rw[J8]at M;refine b9 (λx=>(λ_=>true) (bI x)) (λx=>V.bl ((λz:Int=>decide (r (mP B z.toNat y)=R)) (bI x))) (SqL.of M) (by rw[J2];exact Kd (a9 _) ∅) (λj x vs H' R' S' hx hv O hk=> ?_) λD3 H3 dw c6 N=> ?_
 .obtain⟨v,rfl⟩:=bH hv;obtain⟨z,rfl,c2⟩:=bL hx;obtain⟨t,t8,tb,rfl⟩:=dg.mp (Km c2);simp only[bD,iM,J5];have a4:=aA.same (bS.trans (bX.trans O)) L;obtain⟨C,dm,cK⟩:=aA.shown a4;obtain⟨dx,fs,hh,fr,fe,fm⟩:=cK.ex;refine#[_,rfl,h,C,dx,fs,rfl,hh,dm,fr,_,rfl,_,rfl,_,rfl,B,t,y,rfl,t8,(),?_];refine#[h,n,mP B t y,r,rfl,a4,#[dx,fs,hh],s,Ez hB yn,λg e=> ?_];have q1:=hk [some (.int (t:Int))] g rfl e;rw[J5 rfl]at q1;refine#[_,rfl,rfl,?_];rw[aX];exact q1
 replace N:=N.trans (K3 (λl=>some (HO.lst l)) (nR (λz:Int=>decide (r (mP B z.toNat y)=R)) (bits B)));refine#[_,rfl,_,rfl,D3,fT r R B y,p,rfl,SqL.of N,by unfold fT;rw[J2];exact a9 _,p0,p3,λl xs H4 c7 hl bt hR=> ?_];refine#[l,rfl,#[_,SqL.of bt],?_];have b0:Same H H4:=bS.trans (bX.trans (c6.trans c7));have fl:(fT r R B y).length=R:=by unfold fT;rw[J2];exact zB
 refine cD (K:=K) (a:=l) (xs:=xs) (λi u g=>∃v7:Option V,Same H4 g/\(∀col∈(dS p (fT r R B y)).take i,¬lu p R r (dO c y col) G y)/\u=[some (.ref h),some (.int p),some (.ref d),some (.int (B:Int)),some (.int (y:Int)),some (.int (R:Int)),some (.ref D3),v7]) #[none,Same.refl _,λS hS=>absurd hS Ki,rfl] (λi u g _ h=>by obtain⟨_,O,_⟩:=h;exact SqL.of (O.at bt)) ?_ ?_
 .rintro i x u g hi ⟨v7,e,o,rfl⟩;obtain⟨a,col,bj,rfl,ha⟩:=hR.at hi;have mc:=Km bj;obtain⟨m1,m2⟩:=(ko p0 _ col).mp mc;dsimp only[bD];have U:=b0.trans e;refine#[_,rfl,_,rfl,_,rfl,_,rfl,_,rfl,h,d,a,n,R,G,y,p,r,ks,q,c,col,rfl,aA.same U L,s,rR,R8,pm,p0,hC.same U,hK,hG,yn,cO,e.at ha,m1.trans fl,λz hz=> ?_,λb H6 ar hb=> ?_]
  .obtain⟨j,hj⟩:=LQ hz;have jl:j<(fT r R B y).length:=by rw[<-m1];exact(Kh.mp hj).1
   have:=m2 j _ (Ky jl);rw[Kc,hj]at this;exact#[this.1,this.2.1]
  .refine#[b,rfl,cG (λJ=> ?_) λJ=> ?_]
   .exact#[_,rfl,k1 a col H6 (U.trans ar) (ar.at (e.at ha)) mc (hb.mp J)]
   .refine#[some (.ref a),e.trans ar,λaE bc=> ?_,rfl];rw[Lx,bj]at bc;rcases KC.mp bc with m|m
    .exact o aE m
    .have m:aE=col:=by simpa using m
     rw[m];exact λz=>J (hb.mpr z)
 .rintro u g ⟨v7,e,o,rfl⟩;rw[hR.1,Ly]at o;exact k2 g (b0.trans e) o
def jy(R p:Nat):List Int:=(List.range R).map λj=>if j=p then 1 else 0
theorem vF(a:j<R):(jy R p).getD j 0=if j=p then 1 else 0:=by unfold jy;rw[Kc,Kv,LG a];rfl
theorem iu(l:List Nat):(List.range l.length).map (λi=>l.getD i 0)=l:=by refine OP (by rw[J2,Kq]) λi b a=> ?_;rw[OQ,Ou];simp[a]
theorem oO(S:Nat):(az S).Nodup:=La.filter _
structure jA(p:Int)(R B G:Nat)(r:Nat->Nat)(c:Nat->List Int):Prop where
 sub:Sub B G
 unit:∀i t:Nat,(az B)[i]?=some t->c t=jy R i
 fill:∀t,G.testBit t=true->B.testBit t=false->c t∈dS p (fT r R B t)
 good:∀S,Sub S G->sz S=R->(de p (dP (jB c) (List.range R)) S=R↔r S=R)
theorem Bf(g:cy p)(r:sz B=R)(unit:∀i t:Nat,(az B)[i]?=some t->c t=jy R i):de p (dP (jB c) (List.range R)) B=R:=by
 have f:(az B).length=R:=(a7 B).trans r;obtain⟨b,s,m,n⟩:=r8 g (jB c) (λi=>(az B).getD i 0) (List.range R) (List.range R) La La (λi h=>h) λi o j q=>by
  have d:i<(az B).length:=by rw[f];exact J9.mp o
  have e:(az B).getD i 0=(az B)[i]:=by simp[d]
  show(c ((az B).getD i 0)).getD j 0=_;rw[e,unit i _ (Ky d),vF (J9.mp q)]
 have e:b=[]:=by
  cases b with
  |nil=>rfl
  |cons a l=>
   have:=(m a).mp Kp;exact absurd this.1 this.2
 have:=n [];have k:(List.range R).map (λi=>(az B).getD i 0)=az B:=by have:=iu (az B);rw[f]at this;exact this
 rw[e,jd g,LF,Kq,Nr,k]at this;exact this
theorem Fs(d:cy p){R S y:Nat}(l:sz S=R)(k:S.testBit y=false):de p (dP (jB (dO c y col)) (List.range R)) S=R↔de p (dP (jB c) (List.range R)) S=R:=by
 have a:∀f:Nat->Nat->Int,(dP f (List.range R)).length=R:=λf=>by unfold dP;rw[J2,Kq]
 have b:(az S).length=R:=(a7 S).trans l;show rho p _ (az S)=R↔rho p _ (az S)=R;rw[dC d (a _) b,dC d (a _) b,gw (az S) (dP (jB (dO c y col)) (List.range R)) (dP (jB c) (List.range R)) (by rw[a,a]) λi j h=> ?_];by_cases g:i<R
 .have e:∀f:Nat->Nat->Int,(dP f (List.range R)).getD i rw0 j=f j i:=λf=>by unfold dP;rw[Kc,Kv,LG g];rfl
  rw[e,e];have ne:¬j=y:=λz=>by have:=(aT.mp h).2;rw[z,k]at this;cases this
  show(dO c y col j).getD i 0=(c j).getD i 0;unfold dO;rw[J4 ne]
 .rw[Kc,Kc,MX (by rw[a];lia),MX (by rw[a];lia)]
theorem jA.start(g:cy p)(B8:B<256)(d:sz B=R)(j:r B=R)(unit:∀i t:Nat,(az B)[i]?=some t->c t=jy R i):jA p R B B r c:=by refine#[Sub.refl _,unit,λt f a=>(by rw[f]at a;cases a),λS b l=> ?_];have e:S=B:=sf (b.lt (n:=8) B8) B8 (λk _ h=>b k h) (l.trans d.symm);rw[e,Bf g d unit,j]
theorem jA.put(u:cy p){R B G y:Nat}(h:jA p R B G r c)(G8:G<256)(k:y<8)(g:G.testBit y=false)(q:col∈dS p (fT r R B y))(s:lu p R r (dO c y col) G y):jA p R B (G|||2^y) r (dO c y col):=by
 have nB:B.testBit y=false:=by
  cases e:B.testBit y with
  |false=>rfl
  |true=>rw[h.sub y e]at g;cases g
 have b:∀t,(G|||2^y).testBit t=true->t≠y->G.testBit t=true:=λt a ne=>by
  rw[aV,KH]at a;rcases a with z|z
  .exact z
  .exact absurd (Ko z).symm ne
 refine#[λt a=>by rw[aV,h.sub t a];rfl,λi t a=> ?_,λt m o=> ?_,λS d l=> ?_]
 .have j:=(aT.mp (Km a)).2;have ne:¬t=y:=λz=>by rw[z,nB]at j;cases j
  show dO c y col t=_;unfold dO;rw[J4 ne];exact h.unit i t a
 .show dO c y col t∈_;unfold dO;by_cases e:t=y
  .rw[J5 e,e];exact q
  .rw[J4 e];exact h.fill t (b t m e) o
 .cases e:S.testBit y with
  |false=>
   have f:Sub S G:=λt a=>b t (d t a) λz=>by rw[z,e]at a;cases a
   exact(Fs u l e).trans (h.good S f l)
  |true=>
   have f:Sub (S^^^2^y) G:=λt a=>by
    rw[br e,Kn]at a;exact b t (d t a.1) λz=>by have:=a.2;rw[z]at this;simp at this
   have l8:S<256:=Sub.lt (n:=8) d (K4 (n:=8) G8 (LR ∅ k));have v:=cz S l8 y k e;have:=s (S^^^2^y) f ();rw[eC e]at this;exact this
def qI(n:Nat)(r:Nat->Nat):List Nat:=(List.range (2^n)).filter λs=>decide (r s=sz s)
def lq(n:Nat)(r:Nat->Nat):List Nat:=(qI n r).filter λs=>decide (sz s=r (2^n-1))
inductive tV(Z:Hs)(vs:List V)(H:Hp)(Q:VK):Prop
 |mk (a:Addr) (n:Nat) (r:Nat->Nat) (y_0:vs=[.ref a]) (y_1:Z.ho H a n r) (y_2:n<=8) (y_3:∀p H',Same H H'->H p=none->H' p=some (.lst ((bY (qI n r)).map V.int))->Q (.ref p) H'):tV Z vs H Q
def wj(Z:Hs):Sp:=λvs H Q _=>tV Z vs H Q
inductive tX(Z:Hs)(vs:List V)(H:Hp)(Q:VK):Prop
 |mk (a:Addr) (n:Nat) (r:Nat->Nat) (y_0:vs=[.ref a]) (y_1:Z.ho H a n r) (y_2:n<=8) (y_3:∀p H',Same H H'->H p=none->H' p=some (.lst ((bY (lq n r)).map V.int))->Q (.ref p) H'):tX Z vs H Q
def wm(Z:Hs):Sp:=λvs H Q _=>tX Z vs H Q
theorem yZ(a:n<=8)(r:Nat->Nat):(qI n r).length<=256:=Kd (Lu _ _) (by rw[Kq];exact k4 a)
theorem sc_frees:aK ["house"] ["house"] (aw s_frees):=sc_of
theorem DT{Z:Hs}(t:gI Z)(b:∀C,Z.dom C->HC K C_House C)(D:bw K mg "frees" s_frees ["house"])(ag:∀C,Z.dom C->dn P w K mg base 4 C "rank" ["self","s"] (iN Z C))(aa:∀C,Z.dom C->dn P w K mg base 2 C "everything" ["self"] (dQ K))
  (ab:Cal P w K mg base 3 "parts" ["s"] o5) (ai:Cal P w K mg base 3 "size" ["s"] jH):Cal P w K mg base 5 "frees" ["house"] (wj Z):=by
 refine D.cal sc_frees (λvs H Q E h=>by obtain⟨a,n,r,rfl,_⟩:=h;rfl) λf cdv A outer b3 H vs Q E c h=> ?_;obtain⟨a,n,r,rfl,J,O,k⟩:=h;refine#[_,(ao (aH (wlc ["s"] ["house"] [0] (wil K (wcal ab c (ae (eX aa c ∅ (pv 0)) aq))) (wnC 0) (cZ (wpt a8 (fP ag c ∅ (pv 1) (ae (pv 0) aq)) (wcal ai c (ae (pv 0) aq)))) (pv 0)))),?_];obtain⟨C,u,bc⟩:=t.shown J;obtain⟨y,fs,M,fr,fe,fm⟩:=bc.ex;obtain⟨cl,nM,_,_⟩:=b C u;have hp:=k4 O;refine#[_,rfl,a,C,y,fs,rfl,M,u,fe,a,C,y,fs,n,rfl,M,cl,nM,fm,(),(),?_];rw[gH];refine#[_,rfl,(),(),λp H1 o b2 j=>#[p,rfl,#[_,SqL.of j],?_]];rw[J8,nP n ()]at j;refine b9 (λx=>(λz:Int=>decide (r z.toNat=sz z.toNat)) (bI x)) (λx=> .int ((λz:Int=>z) (bI x))) (SqL.of j) (by rw[J2,J2,Kq];exact Kd hp ∅) (λi x vs H' R S hx hv m hk=> ?_) λD H' hD m hl=> ?_
 .obtain⟨v,rfl⟩:=bH hv;obtain⟨z,rfl,hz⟩:=bL hx;obtain⟨s,hs,rfl⟩:=Ka.mp (Km hz);have bb:=J9.mp hs;have L:=t.same (o.trans m) J;obtain⟨U,aB,bj⟩:=t.shown L;obtain⟨B,G,N,aS,b0,b1⟩:=bj.ex;refine#[_,rfl,a,U,B,G,rfl,N,aB,aS,_,rfl,a,n,s,r,rfl,L,#[B,G,N],O,bb,λH2 bM=> ?_];refine#[_,rfl,_,rfl,(),(),λg bN=>#[rfl,_,rfl,?_]];have q:=hk [some (.int (s:Int))] g rfl (bM.trans bN);rw[J8,aX];have d:if decide (r s=sz s)=true then R (.int (s:Int)) _ g else S _ g:=q;show if decide (r s=sz s)=true then _ else _;by_cases b:decide (r s=sz s)=true
  .rw[J5 b]at d⊢;exact#[_,rfl,d]
  .rw[J4 b]at d⊢;exact d
 replace hl:=hl.trans (K3 (λl=>some (HO.lst l)) (bK (λz:Int=>decide (r z.toNat=sz z.toNat)) (λz:Int=>z) ((List.range (2^n)).map λk:Nat=>(k:Int))));rw[show(λz:Int=>z)=id from rfl,MS]at hl;refine k D H' (o.trans m) (o.free hD) (hl.trans ?_);have e:=eo (List.range (2^n)) (λz:Int=>decide (r z.toNat=sz z.toNat));exact K3 (λl:List Int=>some (HO.lst (l.map V.int))) e
theorem sc_bases:aK ["house","whole"] ["house"] (aw s_bases):=sc_of
theorem DU(aj:gI Z)(D:bw K mg "bases" s_bases ["house"])(y:Cal P w K mg base 5 "whole_rank" ["house"] (gD Z))(B:Cal P w K mg base 5 "frees" ["house"] (wj Z))(G:Cal P w K mg base 3 "size" ["s"] jH):Cal P w K mg base 6 "bases" ["house"] (wm Z):=by
 refine D.cal sc_bases (λvs H Q E h=>by obtain⟨a,n,r,rfl,_⟩:=h;rfl) λf cdv A outer aC H vs Q E e h=> ?_;obtain⟨a,n,r,rfl,j,b,k⟩:=h;refine#[_,(ah (wset 1 sc_bases.nd (wcal y e (ae (pv 0) aq)))
   (ao (aH (wlc ["s"] ["whole"] [1] (wil K (wcal B e (ae (pv 0) aq))) (wnC 0) (cZ (wpt a8 (wcal G e (ae (pv 0) aq)) (pv 1))) (pv 0))))),?_]
 have hp:=k4 b;refine#[_,rfl,a,n,r,rfl,j,b,λH0 g=> ?_];refine#[_,rfl,a,n,r,rfl,aj.same g j,b,λp H1 u aA o=>#[p,rfl,#[_,SqL.of o],?_]];refine b9 (λx=>(λz:Int=>decide (sz z.toNat=r (2^n-1))) (bI x)) (λx=> .int ((λz:Int=>z) (bI x))) (SqL.of o) (by rw[J2,bQ];exact Kd (yZ b r) ∅) (λi x vs H' R S O N t L=> ?_) λD H' J t hl=> ?_
 .obtain⟨v,rfl⟩:=bH N;obtain⟨z,rfl,U⟩:=bL O;obtain⟨s,M,rfl⟩:=dA (Km U);have aB:=J9.mp (Kx.mp M).1;refine#[_,rfl,_,rfl,(),(),λd ai=>#[_,rfl,rfl,_,rfl,?_]];have q:=L [some (.int (s:Int))] d rfl ai;rw[J8,aX];have c:if decide (sz s=r (2^n-1))=true then R (.int (s:Int)) _ d else S _ d:=q;show if decide (sz s=r (2^n-1))=true then _ else _;by_cases m:decide (sz s=r (2^n-1))=true
  .rw[J5 m]at c⊢;exact#[_,rfl,c]
  .rw[J4 m]at c⊢;exact c
 replace hl:=hl.trans (K3 (λl=>some (HO.lst l)) (bK (λz:Int=>decide (sz z.toNat=r (2^n-1))) (λz:Int=>z) (bY (qI n r))));rw[show(λz:Int=>z)=id from rfl,MS,eo]at hl;exact k D H' (g.trans (u.trans t)) (g.free (u.free J)) hl
theorem k6:B∈lq n r↔B<2^n/\r B=sz B/\sz B=r (2^n-1):=by unfold lq qI;rw[Kx,Kx,J9,Kf,Kf,and_assoc]
theorem oP(M:Mat n r):∃B,B∈lq n r:=by obtain⟨g,_,c,a,d⟩:=M.extend (s:=0) (t:=2^n-1) (λk b=>by rw[KI]at b;cases b) (aQ n) (by rw[M.zero,cH]);exact#[g,k6.mpr #[c.lt (aQ n),a,a.symm.trans d]]
theorem gX.put{f:List Nat}(h:gX H d f q c){col:List Int}(l:t∉f)(y:f.length<=8)(i:H a=some (.lst (col.map V.int))):
  ∃o,CS H d (.int (t:Int)) (.ref a) (upd H d o)/\gX (upd H d o) d (f++[t]) (λs=>if s=t then a else q s) (dO c t col):=by
 have n:FE (f.map λt:Nat=>((t:Int),V.ref (q t))) (t:Int) (.ref a)=(f++[t]).map λs:Nat=>((s:Int),V.ref (if s=t then a else q s)):=by
  unfold FE;rw[J4 (λz=>by
   obtain⟨x,u,e⟩:=ON.mp z;obtain⟨s,g,rfl⟩:=Ka.mp u;have A:(s:Int)=(t:Int):=Ko e;have p:s=t:=()
   exact l (p▸g)),KP]
  have r:f.map (λt:Nat=>((t:Int),V.ref (q t)))=f.map λs:Nat=>((s:Int),V.ref (if s=t then a else q s)):=LB λs g=>by have:¬s=t:=λz=>l (z▸g);rw[J4 this]
  rw[r];show _=_++[((t:Int),V.ref (if t=t then a else q t))];rw[J5 rfl]
 have p1:=CS.k (v:= .ref a) (k:=Sum.inl (t:Int)) h.dict (by unfold kI;rw[J2,J2];exact Ks y ∅);rw[Hx,n]at p1;have m:∀b xs,H b=some (.lst xs)->b≠d:=λb xs e=>oI e h.dict (λz=>by cases z);refine#[_,p1,av,λs g=> ?_];show upd H d _ (if s=t then a else q s)=some (.lst ((dO c t col s).map V.int));unfold dO;by_cases e:s=t
 .rw[J5 e,J5 e,aJ (m a _ i)];exact i
 .have j:s∈f:=by
   rcases KC.mp g with z|z
   .exact z
   .exact absurd (KZ.mp z) e
  rw[J4 e,J4 e,aJ (m _ _ (h.cols s j))];exact h.cols s j
def jz(c:Nat->List Int)(n R:Nat):List (List Int):=(List.range R).map λi=>(List.range n).map λt=>(c t).getD i 0
inductive tJ(vs:List V)(H:Hp)(Q:VK):Prop
 |mk (n p:Nat) (y_0:vs=[.int (n:Int), .int (p:Int)]) (y_1:n<=8) (y_2:∀q H',Same H H'->H q=none->H' q=some (.lst ((jy n p).map V.int))->Q (.ref q) H'):tJ vs H Q
def vV:Sp:=λvs H Q _=>tJ vs H Q
inductive tH(Z:Hs)(vs:List V)(H:Hp)(Q:VK):Prop
 |mk (h:Addr) (n R:Nat) (p:Int) (r:Nat->Nat) (y_0:vs=[.ref h, .int p]) (y_1:Z.ho H h n r) (y_2:Mat n r) (y_3:r (2^n-1)=R) (y_4:cy p) (y_5:0<p) (y_6:p<=3) (y_7:(∀B c l xs H',Same H H'->H l=none->H' l=some (.lst xs)->aU (hide H' l) xs (jz c n R)->(∀x∈xs,∃a,x= .ref a/\H a=none)->B<2^n->sz B=R->r B=R->jA p R B (2^n-1) r c->(∀t,t<n->(c t).length=R/\∀z∈c t,0<=z/\z<p)->Q (.ref l) H')) (y_8:(∀B G y c H',Same H H'->B<2^n->sz B=R->r B=R->G<2^n->y<n->G.testBit y=false->jA p R B G r c->(∀col∈dS p (fT r R B y),¬lu p R r (dO c y col) G y)->Q .non H')):tH Z vs H Q
def vT(Z:Hs):Sp:=λvs H Q _=>tH Z vs H Q
theorem sc_table_for:aK ["house","prime","base","whole","columns","place","thing","column"] ["house","prime"] (aw s_table_for):=sc_of
theorem uK{Z:Hs}(T:Tb K mg)(a5:gI Z)(hc:∀C,Z.dom C->HC K C_House C)(D:bw K mg "table_for" s_table_for ["house","prime"])(aa:∀C,Z.dom C->dn P w K mg base 2 C "everything" ["self"] (dQ K))
  (ab:Cal P w K mg base 5 "whole_rank" ["house"] (gD Z)) (ag:Cal P w K mg base 2 "things" ["s"] iq) (ar:Cal P w K mg base 1 "less" ["s","t"] nG) (ak:Cal P w K mg base 6 "bases" ["house"] (wm Z)) (aj:Cal P w K mg base 1 "single" ["many","place"] vV) (ai:Cal P w K mg base 7 "column_for" ["house","prime","columns","base","thing"] (wk Z)):
  Cal P w K mg base 8 "table_for" ["house","prime"] (vT Z):=by
 refine D.cal sc_table_for (λvs H Q E h=>by obtain⟨h,n,R,p,r,rfl,_⟩:=h;rfl) λf cdv A outer hY H vs Q E J h=> ?_;obtain⟨h,n,R,p,r,rfl,hX,M,rR,pm,p0,p3,k1,k2⟩:=h;refine#[_,(ah (wset 2 sc_table_for.nd (dh K (wcal ak J (ae (pv 0) aq)) af))
   (ah (wset 3 sc_table_for.nd (wcal ab J (ae (pv 0) aq)))
   (ah (wset 4 sc_table_for.nd DH)
   (ah (wfor (ql (K:=K) ⋯ ⋯ T.enumerate_ (ae (wcal ag J (ae (pv 2) aq)) aq)) (mh (K:=K) (n:=2) ⋯ ⋯ (eV (wname 5 sc_table_for.nd) (eV (wname 6 sc_table_for.nd) mf)))
     (ao (AD (Ks (NG ∅ _) J.units) (pv 4) (pv 6) (wcal aj J (ae (pv 3) (ae (pv 5) aq))) ⋯)))
   (ah (wfor (wil K (wcal ag J (ae (wcal ar J (ae (eX aa J ∅ (pv 0)) (ae (pv 2) aq))) aq))) (wname 6 sc_table_for.nd)
     (ah (wset 7 sc_table_for.nd (wcal ai J (ae (pv 0) (ae (pv 1) (ae (pv 4) (ae (pv 2) (ae (pv 6) aq)))))))
     (ah (bo (wpt Ik (pv 7) iw)
       (ao (aH iw))
       aO)
     (ao (AD (Ks (NG ∅ _) J.units) (pv 4) (pv 6) (pv 7) ⋯)))))
   (ao (aH (wlc ["row"] ["columns","house"] [4,0] (wrng T.range_ (pv 3)) (wnC 0) cP (wlc ["thing"] ["row","columns"] [0,1] (wrng T.range_ (wfld K (pv 2))) (wnC 0) cP (dh K (AH (Ks (NG ∅ _) J.units) (pv 2) (pv 0) (by intro _ _;rfl)) (pv 1))))))))))),?_]
 have n8:=M.n8;have hp:=k4 n8;have R8:R<=8:=by have:=M.kQ (2^n-1) (aQ n);have h2:sz (2^n-1)<=8:=a9 _;lia
 refine#[_,rfl,h,n,r,rfl,hX,n8,λpb H1 cM hO fy=> ?_];obtain⟨B,Bs,eB⟩:∃B Bs,lq n r=B::Bs:=by
  obtain⟨g,hg⟩:=oP M;cases e:lq n r with
  |nil=>rw[e]at hg;exact absurd hg Ki
  |cons B Bs=>exact#[B,Bs,rfl]
 obtain⟨hB,gr,hA⟩:=k6.mp (eB▸Kp:B∈lq n r);have zB:sz B=R:=hA.trans rR;have rB:r B=R:=gr.trans zB;have B8:B<256:=s_lt n8 hB;refine#[pb,_,_,_,rfl,rfl,SqL.of fy,by rw[eB];exact jS (j:=0) rfl,?_];refine#[_,rfl,h,n,r,rfl,a5.same cM hX,n8,λH2 bc=> ?_];rw[rR];intro d hd;have gs:Same H (upd H2 d (.dK [])):=cM.trans (bc.trans (Same.new hd));have dE:H d=none:=cM.free (bc.free hd);refine#[_,rfl,(B:Int),rfl,(),(),λpt H3 ec hQ ct=>#[pt,rfl,#[_,ct],?_]];rw[J8]at ct;refine xu (K:=K) (a:=pt) (xs:=(bits B).map V.int) (λi U H4=>∃ (q:Nat->Addr) (c:Nat->List Int) (O v6:Option V),Same H H4/\H4 pt=some (.lst ((bits B).map V.int))/\gX H4 d ((az B).take i) q c/\(∀j t:Nat,j<i->(az B)[j]?=some t->c t=jy R j)/\U=[some (.ref h),some (.int p),some (.int (B:Int)),some (.int (R:Int)),some (.ref d),O,v6,none])
  #[λ_=>0,λ_=>[],none,none,gs.trans ec,ct,#[ec.at av,λt k=>absurd k Ki],λj t l=>absurd l (Nj _),rfl] (λi U H4 _ h=>by obtain⟨_,_,_,_,_,e,_⟩:=h;exact SqL.of e) ?_ ?_
 .rintro i x t0 U H4 N fV ⟨q,c,O,v6,b8,d2,b2,hu,rfl⟩;obtain⟨z,rfl,m⟩:=bL N;obtain⟨t,k,rfl⟩:∃t:Nat,(az B)[i]?=some t/\z=(t:Int):=by unfold bits at m;rw[Kv]at m;obtain⟨t,k,e⟩:=NU.mp m;exact#[t,k,e.symm]
  have cO:Same H4 (upd H4 t0 (.tup [.int (i:Int), .int (t:Int)])):=Same.new fV;refine#[t0,_,rfl,SqT.of av,rfl,_,_,rfl,_,_,rfl,rfl,?_];refine#[_,rfl,_,rfl,R,i,rfl,R8,λqa H5 bj hq bM=> ?_];have dj:=b2.same (cO.trans bj);have nd:=oO B;have il:i<(az B).length:=(Kh.mp k).1;have tn:t∉ (az B).take i:=λhm=>by
   obtain⟨j,l⟩:=LQ hm;have jl:j<i:=by have:=(Kh.mp l).1;rw[KL]at this;lia
   rw[MD jl]at l;have:=(OD () nd).mp (l.trans k.symm);lia
  obtain⟨o,g1,g2⟩:=dj.put tn (by rw[KL,a7];lia) bM;refine#[_,rfl,_,rfl,d,_,rfl,g1,?_];have d3:=bj.at (cO.at d2);refine#[_,_,some (.int (i:Int)),some (.int (t:Int)),(b8.trans (cO.trans bj)).upd dE,?_,by rw[Lx,k];exact g2,λj s l hs=> ?_,rfl]
  .rw[aJ (oI d3 dj.dict λz=>by cases z)];exact d3
  .unfold dO;by_cases e:j=i
   .subst e;rw[k]at hs;cases hs;rw[J5 rfl]
   .have ne:¬s=t:=λz=>by rw[z]at hs;exact e ((OD (by have:=(Kh.mp hs).1;lia) nd).mp (hs.trans k.symm))
    rw[J4 ne];exact hu j s () hs
 .rintro U H4 ⟨q,c,O,v6,b8,d2,b2,hu,rfl⟩;have el:((bits B).map V.int).length=(az B).length:=by rw[J2];unfold bits az;rw[J2]
  rw[el,Ly]at b2;have lB:(az B).length=R:=(a7 B).trans zB;have cA:∀i t:Nat,(az B)[i]?=some t->c t=jy R i:=λi t k=>hu i t (by rw[el];exact(Kh.mp k).1) k;have gu:jA p R B B r c:=jA.start pm B8 zB rB cA;have ul:∀i,(jy R i).length=R:=λi=>by unfold jy;rw[J2,Kq]
  have gj:vB p R B (az B) c:=#[λt=>#[λk=>(aT.mp k).2,λk=>aT.mpr #[by have:=aW hB k;lia,k]],oO B,λt k=>by
   obtain⟨i,N⟩:=LQ k;rw[cA i t N,ul],λt k z m=>by
   obtain⟨i,N⟩:=LQ k;rw[cA i t N]at m;unfold jy at m;obtain⟨j,_,rfl⟩:=Ka.mp m;have:1<p:=by
    by_cases e:p=1
    .exact absurd (by rw[e];exact Int.dvd_refl 1) pm.one
    .lia
   split<;>lia]
  have fb:=a5.same b8 hX;obtain⟨C,dm,fI⟩:=a5.shown fb;obtain⟨dx,fs,hh,fr,fe,fm⟩:=fI.ex;obtain⟨eE,nM,_,_⟩:=hc C dm;refine#[_,rfl,h,C,dx,fs,rfl,hh,dm,fe,h,C,dx,fs,n,rfl,hh,eE,nM,fm,(),(),?_];rw[gH];have ll:au (2^n-1) B<2^n:=kA;refine#[_,rfl,2^n-1,B,rfl,((au (2^n-1) B:Nat):Int),rfl,(),(),λpl H5 bj hP bM=>#[pl,rfl,#[_,SqL.of bM],?_]];rw[J8]at bM;have lb:∀t,(au (2^n-1) B).testBit t=true↔t<n/\B.testBit t=false:=λt=>by rw[aG,KD];cases B.testBit t<;>simp
  refine cD (K:=K) (a:=pl) (xs:=(bits (au (2^n-1) B)).map V.int) (λi U H6=>∃ (G:Nat) (L:List Nat) (q:Nat->Addr) (c:Nat->List Int) (O v6 v7:Option V),Same H H6/\H6 pl=some (.lst ((bits (au (2^n-1) B)).map V.int))/\gX H6 d L q c/\vB p R G L c/\jA p R B G r c/\(∀t:Nat,G.testBit t=true↔B.testBit t=true\/(t:Int)∈(bits (au (2^n-1) B)).take i)/\U=[some (.ref h),some (.int p),some (.int (B:Int)),some (.int (R:Int)),some (.ref d),O,v6,v7])
   #[B,az B,q,c,O,v6,none,b8.trans bj,bM,b2.same bj,gj,gu,λt=>by simp,rfl] (λi U H6 _ h=>by obtain⟨_,_,_,_,_,_,_,_,e,_⟩:=h;exact SqL.of e) ?_ ?_
  .rintro i x U H6 N ⟨G,L,q,c,O,v6,v7,aA,d0,b3,u,cb,gb,rfl⟩;obtain⟨z,rfl,m⟩:=bL N;obtain⟨y,y8,yb,rfl⟩:=dg.mp (Km m);obtain⟨yn,yB⟩:=(lb y).mp yb;have hG:G<2^n:=MC _ λt k=>by
    cases e:G.testBit t with
    |false=>rfl
    |true=>
     rcases(gb t).mp e with g|g
     .have:=aW hB g;lia
     .obtain⟨t',_,tb,e2⟩:=dg.mp (MN g);have:t=t':=()
      have:=((lb t).mp (this▸tb)).1;lia
   have il:i<(bits (au (2^n-1) B)).length:=(Kh.mp m).1;have yG:G.testBit y=false:=by
    cases e:G.testBit y with
    |false=>rfl
    |true=>
     rcases(gb y).mp e with g|g
     .rw[yB]at g;cases g
     .obtain⟨j,l⟩:=LQ g;have jl:j<i:=by have:=(Kh.mp l).1;rw[KL]at this;lia
      rw[MD jl]at l;have:=(OD () (qZ _)).mp (l.trans m.symm);lia
   dsimp only[bD];refine#[_,rfl,_,rfl,_,rfl,_,rfl,_,rfl,h,d,n,R,G,B,y,p,r,L,q,c,rfl,a5.same aA hX,n8,rR,R8,pm,p0,p3,b3,u,hG,yn,yG,hB,zB,λqa col H7 bS hq dv ft=> ?_,λH7 bS fB=> ?_]
   .refine#[_,rfl,rfl,_,rfl,cG (λhn=>(nomatch Ko hn)) λ_=> ?_];have dk:=b3.same bS;have tn:y∉L:=λz=>by rw[(u.keys y).mp z]at yG;cases yG
    have kl:L.length<=8:=by have:=dM (a:=L) (b:=List.range 8) u.nod (λt k=>J9.mpr (by have:=aW hG ((u.keys t).mp k);lia));rw[Kq]at this;exact this
    obtain⟨o,g1,g2⟩:=dk.put tn kl hq;refine#[_,rfl,_,rfl,_,rfl,d,_,rfl,g1,?_];have d1:=bS.at d0;obtain⟨m1,m2⟩:=(ko p0 _ col).mp dv;have fl:(fT r R B y).length=R:=by unfold fT;rw[J2];exact zB
    refine#[G|||2^y,L++[y],_,dO c y col,O,some (.int (y:Int)),some (.ref qa),(aA.trans bS).upd dE,?_,g2,?_,cb.put pm (s_lt n8 hG) y8 yG dv ft,λt=> ?_,rfl]
    .rw[aJ (oI d1 dk.dict λz=>by cases z)];exact d1
    .refine#[λt=> ?_,?_,λt k=> ?_,λt k=> ?_]
     .rw[KC,KZ,aV,KH,Kf,u.keys t];exact Nb Ng
     .rw[NR];exact#[u.nod,by simp,λa ha b hb e=>by rw[KZ]at hb;exact tn (hb▸e▸ha)]
     .unfold dO;by_cases e:t=y
      .rw[J5 e];exact m1.trans fl
      .rw[J4 e];exact u.len t (by rcases KC.mp k with z|z;exact z;exact absurd (KZ.mp z) e)
     .unfold dO;by_cases e:t=y
      .rw[J5 e];intro z m;obtain⟨j,l⟩:=LQ m;have jl:j<(fT r R B y).length:=by rw[<-m1];exact(Kh.mp l).1
       have:=m2 j _ (Ky jl);rw[Kc,l]at this;exact#[this.1,this.2.1]
      .rw[J4 e];exact u.num t (by rcases KC.mp k with z|z;exact z;exact absurd (KZ.mp z) e)
    .rw[aV,KH,Kf,gb t,Lx,m,KC,O6];refine Nb (Nb ?_);show y=t↔(t:Int)∈[(y:Int)];rw[KZ];lia
   .exact#[_,rfl,rfl,_,rfl,cG (λ_=>k2 B G y c H7 (aA.trans bS) hB zB rB hG yn yG cb fB) λhn=>absurd (J3 rfl) hn]
  .rintro U H6 ⟨G,L,q,c,O,v6,v7,aA,d0,b3,u,cb,gb,rfl⟩;have eG:G=2^n-1:=Kj λt=>by
    rw[KD];have:=gb t;rw[J2,Ly]at this;cases e:G.testBit t with
    |true=>
     rcases this.mp e with g|g
     .exact(J3 (aW hB g)).symm
     .obtain⟨t',_,tb,e2⟩:=dg.mp g;have e3:t=t':=()
      exact(J3 ((lb t).mp (e3▸tb)).1).symm
    |false=>
     by_cases tn:t<n
     .exfalso;have:G.testBit t=true:=this.mpr (by
       cases e4:B.testBit t with
       |true=>exact .inl rfl
       |false=>exact .inr ((mD ()).mpr ((lb t).mpr #[tn,e4])))
      rw[e]at this;cases this
     .rw[J6 tn]
   subst eG;have cB:∀t,t<n->t∈L:=λt k=>(u.keys t).mpr (by rw[KD];exact J3 k);have fi:=a5.same aA hX;refine#[_,rfl,_,rfl,(),(),?_];rw[J8];refine Ci (λi y Hh=>∃a,y= .ref a/\H6 a=none/\Hh a=some (.lst (((List.range n).map λt=>(c t).getD i 0).map V.int))) (λi y Ha Hb e ⟨a,h1,h0,h2⟩=>#[a,h1,h0,e.at h2]) (Kd R8 ∅) (λi vs D H' Rk S N hv sm hD hk=> ?_) λD H' ys hD sm hl d5 d6=> ?_
   .obtain⟨v,rfl⟩:=bH hv;simp only[bD,iM,J5];have fa:=a5.same sm fi;obtain⟨C',eL,fU⟩:=a5.shown fa;obtain⟨eM,e7,fu,hM,hL,e6⟩:=fU.ex;obtain⟨eH,gi,_,_⟩:=hc C' eL;refine#[_,rfl,h,C',eM,e7,_,rfl,fu,eH,gi,e6,_,rfl,(),(),?_];rw[J8];obtain⟨dl,e9⟩:=hD;refine dN (λ_=>true) (λt=> .int ((c t).getD i 0)) (Kd n8 ∅) (λt hW ei R2 S2 k f3 bc fx=> ?_) λD2 ek cp bc fz=> ?_
    .obtain⟨v2,rfl⟩:=bH f3;simp only[bD,iM,J5];have q2:=fx [some (.int (0+(t:Nat)))] ei rfl (Same.refl _);rw[J5 rfl]at q2;have tk:=cB t k;have dd:=b3.same (sm.trans bc);have ci:i<(c t).length:=by rw[u.len t tk];exact N
     refine#[_,rfl,_,rfl,d,_,rfl,by have:=dd.get tk;rw[Lk];exact this,?_];refine#[_,rfl,q t,_,_,_,rfl,rfl,SqL.of (dd.cols t tk),by rw[Lk];exact cY ci,q2]
    .refine hk (.ref D2) [some (.int (0+(i:Nat)))] ek #[D2,rfl,sm.free cp,?_] rfl bc;have nD:D2≠D:=λz=>by rw[z,e9]at cp;cases cp
     rw[dR nD,fz];unfold eY;rw[LM.mpr (λ_ _=>rfl),K5];rfl
   .refine k1 B c D ys H' (aA.trans sm) (aA.free hD) hl ?_ (λx hx=> ?_) hB zB rB cb λt k=>#[u.len t (cB t k),u.num t (cB t k)]
    .refine aU.of (by rw[d5];unfold jz;rw[J2,Kq]) λj rr y h1 h2=> ?_;obtain⟨a,rfl,h0,h3⟩:=d6 j y h2;have jl:j<R:=by rw[<-d5];exact(Kh.mp h2).1
     unfold jz at h1;rw[Kv,LG jl]at h1;cases h1;exact#[a,rfl,h3]
    .obtain⟨j,l⟩:=LQ hx;obtain⟨a,rfl,h0,_⟩:=d6 j x l;exact#[a,rfl,aA.free h0]
theorem Dw(M:Mat n r):zZ n r where
 le:=M.kQ
 mono:=λs t _ ht h=>M.mono (lJ.mp h) ht
 unit:=λs a=>by have c:=M.uY (x:=au (2^n-1) s) (b:=2^n-1) (λk hk=>by rw[aG,Kn]at hk;exact hk.1) (aQ n);have d:=lH M.n8 a;have e:=lH M.n8 (aQ n);lia
theorem AK{n k w:Nat}(g:k<2^n)(h:Sub w (au (2^n-1) k)):au (2^n-1) (au (au (2^n-1) k) w|||w)=k:=Kj λt=>by
 have a:=h t;rw[aG]at a;rw[aG,Kl,aG,aG];by_cases c:t<n
 .have e:(2^n-1).testBit t=true:=by rw[KD];exact J3 c
  rw[e]at a⊢;cases f:k.testBit t<;>cases d:w.testBit t<;>rw[f]at a<;>first|rfl|exact absurd (a d) ∅
 .have e:(2^n-1).testBit t=false:=by rw[KD];exact J6 c
  have b:k.testBit t=false:=by
   cases b:k.testBit t with
   |false=>rfl
   |true=>exact absurd (aW g b) c
  rw[e,b];rfl
inductive A8(Z:Hs)(vs:List V)(H:Hp)(Q:VK):Prop
 |mk (h:Addr) (n m d:Nat) (kd:Str) (r:Nat->Nat) (y_0:vs=[.ref h, .str kd, .int (m:Int), .int (d:Int)]) (y_1:Z.ho H h n r) (y_2:Mat n r) (y_3:(∀k w t H',Same H H'->H t=none->H' t=some (.tup [.str "barred", .int (au (au (2^n-1) k) w:Nat), .int (w:Int), .str kd])->k<2^n->Sub w (au (2^n-1) k)->fJ (sz k) (df r k w)= .str kd->Q (.ref t) H')) (y_4:(∀H',Same H H'->(∀k w,k<2^n->sz k=m->Sub w (au (2^n-1) k)->((sz w:Nat):Int)=(r (2^n-1):Nat) - (d:Nat)->¬fJ (sz k) (df r k w)= .str kd)->Q .non H')):A8 Z vs H Q
def Dk(Z:Hs):Sp:=λvs H Q _=>A8 Z vs H Q
theorem sc_left_barred:aK ["house","kind","many","rank","kept","rest","drawn","out"] ["house","kind","many","rank"] (aw s_left_barred):=sc_of
theorem qt{Z:Hs}(T:Tb K mg)(N:gI Z)(hc:∀C,Z.dom C->HC K C_House C)(D:bw K mg "left_barred" s_left_barred ["house","kind","many","rank"])(hj:5<=j)(aa:∀C,Z.dom C->dn P w K mg base 2 C "everything" ["self"] (dQ K))
  (ag:Cal P w K mg base 5 "whole_rank" ["house"] (gD Z)) (ab:Cal P w K mg base 4 "choices" ["s","k"] iW) (ai:Cal P w K mg base 1 "less" ["s","t"] nG) (ak:yk P w K mg base 5 "Minor" cM ["self","house","out","drawn"] (wg Z cM)) (aj:Cal P w K mg base (j+1) "kind_of" ["house"] (wc (oZ Z cM))):
  Cal P w K mg base (j+2) "left_barred" ["house","kind","many","rank"] (Dk Z):=by
 refine D.cal sc_left_barred (λvs H Q E h=>by obtain⟨h,n,m,d,y,r,rfl,_⟩:=h;rfl) λf cdv A outer ed H vs Q E p h=> ?_;obtain⟨h,n,m,d,y,r,rfl,hX,M,k1,k2⟩:=h;refine#[_,(ah (wfor (wil K (wcal ab p (ae (eX aa p () (pv 0)) (ae (pv 2) aq)))) (wname 4 sc_left_barred.nd)
     (ah (wset 5 sc_left_barred.nd (wcal ai p (ae (eX aa p () (pv 0)) (ae (pv 4) aq))))
     (ao (wfor (wil K (wcal ab p (ae (pv 5) (ae (ax fq (wcal ag p (ae (pv 0) aq)) (pv 3)) aq)))) (wname 6 sc_left_barred.nd)
       (ah (wset 7 sc_left_barred.nd (wcal ai p (ae (pv 5) (ae (pv 6) aq))))
       (ao (bo (wpt a8 (wcal aj p (ae (uC ak p () ⋯ (ae (pv 0) (ae (pv 7) (ae (pv 6) aq)))) aq)) (pv 1))
         (ao (aH (jQ (ae fO (ae (pv 7) (ae (pv 6) (ae (pv 1) aq)))))))
         aO)))))))
   (ao (aH iw))),?_]
 have n8:=M.n8;have hp:=k4 n8;have eb:0<2^n:=Mf ();obtain⟨C,dm,dr⟩:=N.shown hX;obtain⟨U,fs,hh,fr,fe,fm⟩:=dr.ex;obtain⟨b6,nM,_,_⟩:=hc C dm;refine#[_,rfl,h,C,U,fs,rfl,hh,dm,fe,h,C,U,fs,n,rfl,hh,b6,nM,fm,(),(),?_];rw[gH];refine#[_,rfl,((2^n-1:Nat):Int),(m:Int),rfl,(),(),λpc H1 c2 d6 bj=>#[pc,rfl,#[_,SqL.of bj],?_]];rw[J8]at bj;refine cD (K:=K) (a:=pc) (xs:=(d8 (2^n-1) (m:Int)).map V.int) (λi v B=>∃v4 v5 q u:Option V,Same H1 B/\(∀k w:Nat,(k:Int)∈(d8 (2^n-1) (m:Int)).take i->Sub w (au (2^n-1) k)->((sz w:Nat):Int)=(r (2^n-1):Nat) - (d:Nat)->¬fJ (sz k) (df r k w)= .str y)/\v=[some (.ref h),some (.str y),some (.int (m:Int)),some (.int (d:Int)),v4,v5,q,u])
  #[none,none,none,none,Same.refl _,λk w J=>absurd J Ki,rfl] (λi v B _ h=>by obtain⟨_,_,_,_,sm,_⟩:=h;exact SqL.of (sm.at bj)) ?_ ?_
 .rintro i x v B hi ⟨v4,v5,q,u,ay,bb,rfl⟩;obtain⟨z,rfl,hz⟩:=bL hi;obtain⟨k,rfl,J,zk⟩:=(fH ()).mp (Km hz);have L:k<2^n:=J.lt (aQ n);have ec:sz k=m:=()
  dsimp only[bD];have bS:=c2.trans ay;have cn:=bS.at hh;refine#[_,rfl,h,C,U,fs,rfl,cn,dm,fe,h,C,U,fs,n,rfl,cn,b6,nM,fm,(),(),?_];rw[gH];have ll:au (2^n-1) k<2^n:=kA;refine#[_,rfl,2^n-1,k,rfl,?_];refine#[_,rfl,_,rfl,h,n,r,rfl,N.same bS hX,n8,λH3 c3=> ?_];refine#[_,rfl,_,_,rfl,rfl,((au (2^n-1) k:Nat):Int),(r (2^n-1):Nat) - (d:Nat),rfl,(),(),λpd H4 c4 d7 bk=>#[pd,rfl,#[_,SqL.of bk],?_]];rw[J8]at bk;have d0:=bS.trans (c3.trans c4);have l8:au (2^n-1) k<256:=()
  refine cD (K:=K) (a:=pd) (xs:=(d8 (au (2^n-1) k) ((r (2^n-1):Nat) - (d:Nat):Int)).map V.int) (λi' v G=>∃q u:Option V,Same H4 G/\(∀w:Nat,(w:Int)∈(d8 (au (2^n-1) k) ((r (2^n-1):Nat) - (d:Nat):Int)).take i'->¬fJ (sz k) (df r k w)= .str y)/\v=[some (.ref h),some (.str y),some (.int (m:Int)),some (.int (d:Int)),some (.int (k:Int)),some (.int (au (2^n-1) k:Nat)),q,u])
   #[q,u,Same.refl _,λw g=>absurd g Ki,rfl] (λi' v G _ h=>by obtain⟨_,_,sm,_⟩:=h;exact SqL.of (sm.at bk)) ?_ ?_
  .rintro i' x v G dp ⟨q,u,aA,bc,rfl⟩;obtain⟨z,rfl,cB⟩:=bL dp;obtain⟨c,rfl,g,O⟩:=(fH l8).mp (Km cB);have wl:c<2^n:=g.lt ll;dsimp only[bD];refine#[_,rfl,_,rfl,au (2^n-1) k,c,rfl,?_];have bX:=d0.trans aA;have ck:=N.same bX hX;refine#[_,rfl,_,rfl,_,rfl,λpo b8 bE cL ea=>#[po,b8,h,n,au (au (2^n-1) k) c,c,r,rfl,av,N.same (nH bE cL) ck,n8,wl,λH6 dV ct=>#[rfl,?_]]];rw[AK L g]at ct;have aB:Same G H6:=λb o e=>dV b o (by rw[aJ (aM e bE),aJ (aM e cL)];exact e) (aM e bE);have hM:JH cM H6 (Z.ho H6) po (sz k) (df r k c):=#[b8,h,n,k,c,r,ct,N.same aB ck,rfl,n8,L,wl,λs _=>M.min_int L wl s];refine#[po,sz k,df r k c,rfl,hM,a9 _,Dw (M.minor L wl),λH7 b0=> ?_];have fl:scal (fJ (sz k) (df r k c)) (.str y)=true:=by
    unfold fJ;split
    .rfl
    split
    .rfl
    split
    .rfl
    split
    .rfl
    split<;>rfl
   refine#[_,rfl,fl,_,rfl,cG (λh1=> ?_) λh1=> ?_]
   .have e1:fJ (sz k) (df r k c)= .str y:=Ko h1;refine#[_,rfl,_,rfl,_,rfl,Kd (Kk 4) ∅,λt ht=> ?_];exact k1 k c t _ ((bX.trans (aB.trans b0)).trans (Same.new ht)) ((bX.trans (aB.trans b0)).free ht) av L g e1
   .have e1:¬fJ (sz k) (df r k c)= .str y:=λz=>h1 (J3 z);refine#[_,_,aA.trans (aB.trans b0),λw cv=> ?_,rfl];rw[Lx,cB]at cv;rcases KC.mp cv with l|l
    .exact bc w l
    .have l:(w:Int)=(c:Int):=by simpa using l
     have e:w=c:=()
     rw[e];exact e1
  .rintro v G ⟨q,u,aA,bc,rfl⟩;refine#[some (.int (k:Int)),some (.int (au (2^n-1) k:Nat)),q,u,ay.trans (c3.trans (c4.trans aA)),λk' w cp g O=> ?_,rfl];rw[Lx,hz]at cp;rcases KC.mp cp with l|l
   .exact bb k' w l g O
   .have l:(k':Int)=(k:Int):=by simpa using l
    have e:k'=k:=()
    subst e;refine bc w ?_;rw[J2,Ly];exact(fH l8).mpr #[w,rfl,g,O]
 .rintro v B ⟨v4,v5,q,u,ay,bb,rfl⟩;refine k2 B (c2.trans ay) λk w J zk g O=>bb k w ?_ g O;rw[J2,Ly];exact(fH ()).mpr #[k,rfl,cC J,()]
def A4(H:Hp)(xs:List V):Prop:=∀x∈xs,∃a,x= .ref a/\H a=none
def pH(H:Hp)(a:Addr)(c:List (Str×Nat×Nat)):Prop:=∃xs,H a=some (.lst xs)/\xs.length=c.length/\∀ (i:Nat) (k:Str×Nat×Nat),c[i]?=some k->∃b,xs[i]?=some (.ref b)/\H b=some (.tup [.str k.1, .int (k.2.1:Int), .int (k.2.2:Int)])
theorem pH.same(h:pH H a ks)(e:Same H H'):pH H' a ks:=by obtain⟨xs,c,d,f⟩:=h;exact#[xs,e.at c,d,λi k g=>by obtain⟨b,g1,g2⟩:=f i k g;exact#[b,g1,e.at g2]]
structure vy(p:Int)(n R:Nat)(r:Nat->Nat)(c:Nat->List Int):Prop where
 ex:∃B,B<2^n/\sz B=R/\r B=R/\jA p R B (2^n-1) r c
 len:∀t,t<n->(c t).length=R
 num:∀t,t<n->∀z∈c t,0<=z/\z<p
def GZ(p:Int)(n R:Nat)(r:Nat->Nat):Prop:=∃B G y c,B<2^n/\sz B=R/\r B=R/\G<2^n/\y<n/\G.testBit y=false/\jA p R B G r c/\∀col∈dS p (fT r R B y),¬lu p R r (dO c y col) G y
def z5(n R:Nat)(r:Nat->Nat)(k:Str×Nat×Nat):Prop:=∀s w,s<2^n->sz s=k.2.1->Sub w (au (2^n-1) s)->((sz w:Nat):Int)=(R:Nat) - (k.2.2:Nat)->¬fJ (sz s) (df r s w)= .str k.1
inductive oR(Z:Hs)(vs:List V)(H:Hp)(Q:VK):Prop
 |mk (h a:Addr) (n R:Nat) (p:Int) (r:Nat->Nat) (ks:List (Str×Nat×Nat)) (y_0:vs=[.ref h, .int p, .ref a]) (y_1:Z.ho H h n r) (y_2:Mat n r) (y_3:r (2^n-1)=R) (y_4:cy p) (y_5:0<p) (y_6:p<=3) (y_7:pH H a ks) (y_8:(∀c l xs t H',Same H H'->H t=none->H' t=some (.tup [.str "table", .ref l])->H l=none->H' l=some (.lst xs)->aU (hide H' l) xs (jz c n R)->A4 H xs->vy p n R r c->Q (.ref t) H')) (y_9:(∀k s w t H',Same H H'->H t=none->H' t=some (.tup [.str "barred", .int (au (au (2^n-1) s) w:Nat), .int (w:Int), .str k])->(∃m d,(k,m,d)∈ks)->s<2^n->Sub w (au (2^n-1) s)->fJ (sz s) (df r s w)= .str k->Q (.ref t) H')) (y_10:(∀H',Same H H'->GZ p n R r->(∀k∈ks,z5 n R r k)->Q .non H')):oR Z vs H Q
def pU(Z:Hs):Sp:=λvs H Q _=>oR Z vs H Q
theorem sc_told_over:aK ["house","prime","kinds","known","rows","kind","found"] ["house","prime","kinds"] (aw s_told_over):=sc_of
theorem uJ(T:Tb K mg)(dv:gI Z)(zK:gI (hsN O))(D:bw K mg "told_over" s_told_over ["house","prime","kinds"])(hj:8<=j)(ag:yk P w K mg base 8 "Known" O ["self","house"] (As Z O))
  (ab:Cal P w K mg base 8 "table_for" ["house","prime"] (vT (hsN O))) (aa:Cal P w K mg base j "left_barred" ["house","kind","many","rank"] (Dk (hsN O))):
  Cal P w K mg base (j+2) "told_over" ["house","prime","kinds"] (pU Z):=by
 refine D.cal sc_told_over (λvs H Q E h=>by obtain⟨h,a,n,R,p,r,ks,rfl,_⟩:=h;rfl) λf cdv A outer d1 H vs Q E hr h=> ?_;obtain⟨h,a,n,R,p,r,ks,rfl,hX,M,rR,pm,p0,p3,cL,k1,k2,k3⟩:=h;refine#[_,(ah (wset 3 sc_told_over.nd (uC ag hr () ⋯ (ae (pv 0) aq)))
   (ah (wset 4 sc_told_over.nd (wcal ab hr (ae (pv 3) (ae (pv 1) aq))))
   (ah (bo (wpt uH (pv 4) iw)
     (ao (aH (jQ (ae fO (ae (pv 4) aq)))))
     aO)
   (ah (wfor (wil K (pv 2)) (wname 5 sc_told_over.nd)
     (ah (wset 6 sc_told_over.nd (wcal aa hr (ae (pv 3) (ae (kS K (pv 5) af) (ae (kS K (pv 5) af) (ae (kS K (pv 5) af) aq))))))
     (ao (bo (wpt uH (pv 6) iw)
       (ao (aH (pv 6)))
       aO))))
   (ao (aH iw)))))),?_]
 have n8:=M.n8;refine#[_,rfl,λpo bB a0 b3 d0=>#[po,bB,h,n,r,rfl,av,dv.same (nH a0 b3) hX,n8,λtt H1 dV c9 c1 cO=>#[rfl,?_]]];have v:Same H H1:=λb o e=>c9 b o (by rw[aJ (aM e a0),aJ (aM e b3)];exact e) (aM e a0);have bM:(hsN O).ho H1 po n r:=#[bB,tt,cO,c1];refine#[_,rfl,_,rfl,po,n,R,p,r,rfl,bM,M,rR,pm,p0,p3,λB c l xs H2 z hl U hR hN hB zB rB st lc=> ?_,λB G y c H2 z hB zB rB hG yn yG st no=> ?_]
 .refine#[_,rfl,rfl,_,rfl,cG (λ_=> ?_) λu=>absurd rfl u];refine#[_,rfl,Kd (Kk 2) ∅,λt g=> ?_];have tl:t≠l:=λe=>by rw[e,U]at g;cases g
  refine k1 c l xs t _ (v.trans (z.trans (Same.new g))) (v.free (z.free g)) av (v.free hl) (by rw[aJ tl.symm];exact U) (hR.same λb o e=> ?_) (λx hx=>by obtain⟨a,h1,q⟩:=hN x hx;exact#[a,h1,v.free q]) #[#[B,hB,zB,rB,st],λt g=>(lc t g).1,λt g=>(lc t g).2];by_cases e2:b=l
  .subst e2;unfold hide at e;rw[J5 rfl]at e;cases e
  .rw[dR e2]at e⊢;rw[aJ (aM e g)];exact e
 .refine#[_,rfl,rfl,_,rfl,cG (λu=>(nomatch u)) λ_=> ?_];have cA:=cL.same (v.trans z);obtain⟨xs,U,xl,cv⟩:=cA;refine#[_,rfl,a,rfl,#[_,SqL.of U],?_];refine cD (K:=K) (a:=a) (xs:=xs) (λi σ N=>∃v5 v6:Option V,Same H2 N/\(∀k∈ks.take i,z5 n R r k)/\σ=[some (.ref h),some (.int p),some (.ref a),some (.ref po),some .non,v5,v6])
   #[none,none,Same.refl _,λk J=>absurd J Ki,rfl] (λi σ N _ h=>by obtain⟨_,_,sm,_⟩:=h;exact SqL.of (sm.at U)) ?_ ?_
  .rintro i x σ N hi ⟨v5,v6,L,aj,rfl⟩;have il:i<ks.length:=by rw[<-xl];exact(Kh.mp hi).1
   have J:=Ky il;obtain⟨b,hb,b0⟩:=cv i _ J;rw[hi]at hb;cases hb;generalize ks[i]=k at J b0;obtain⟨kd,m,d⟩:=k;have aC:=L.at b0;dsimp only[bD];refine#[_,rfl,_,rfl,b,_,_,_,rfl,rfl,SqT.of aC,rfl,_,rfl,b,_,_,_,rfl,rfl,SqT.of aC,rfl,_,rfl,b,_,_,_,rfl,rfl,SqT.of aC,rfl,?_];refine#[po,n,m,d,kd,r,rfl,zK.same (z.trans L) bM,M,λs w t H4 a4 g c2 hs hw cB=> ?_,λH4 a4 cM=> ?_]
   .refine#[_,rfl,rfl,_,rfl,cG (λ_=> ?_) λu=>absurd rfl u];have b5:=v.trans (z.trans L);exact#[_,rfl,k2 kd s w t H4 (b5.trans a4) (b5.free g) c2 #[m,d,Km J] hs hw cB]
   .refine#[_,rfl,rfl,_,rfl,cG (λu=>(nomatch u)) λ_=> ?_];refine#[_,_,L.trans a4,λk' bX=> ?_,rfl];rw[Lx,J]at bX;rcases KC.mp bX with q|q
    .exact aj k' q
    .have q:k'=(kd,m,d):=by simpa using q
     rw[q];exact λs w hs zs hw zw=>cM s w hs zs hw (by rw[rR];exact zw)
  .rintro σ N ⟨v5,v6,L,aj,rfl⟩;rw[xl,Ly]at aj;exact k3 N (v.trans (z.trans L)) #[B,G,y,c,hB,zB,rB,hG,yn,yG,st,no] aj
theorem IG(C:Addr):gI (hsN C) where
 same:=λe h=>h.same e
 shown:=λh=>by obtain⟨a,t,b,c⟩:=h;exact#[C,rfl,a,_,b,Eh _ _,Cm _ _,Ej _ _]
theorem Ho(vs:List V)(H:Hp)(Q:VK)(E:XK)(h:iN (hsN C) C vs H Q E):An C vs H Q E:=by obtain⟨a,n,s,r,e,b,_,d,c,k⟩:=h;exact#[a,n,s,r,e,b,d,c,k H (Same.refl _)]
theorem JB{B t y:Nat}(h:B.testBit t=true):mP B t y=exB B t y:=by
 unfold mP exB;refine K3 (· |||2^y) (Kj λj=> ?_);rw[aG,Ni,Kt];by_cases e:t=j
 .subst e;simp[h]
 .simp[e]
theorem Gi(d:sz B=R)(b:i<R):(fT r R B y)[i]?=some (decide (r (exB B (bAt B i) y)=R)):=by
 have c:(az B).length=R:=(a7 B).trans d;have a:i<(az B).length:=by rw[c];exact b
 have e:bAt B i=(az B)[i]:=by unfold bAt;simp[a]
 unfold fT;rw[show bits B=(az B).map λt:Nat=>(t:Int)from rfl,K5,Kv,Ky a,e];show some (decide (r (mP B ((az B)[i]:Int).toNat y)=R))=_;rw[J8,JB (aT.mp (LD a)).2]
def iT:List (Str×Nat×Nat):=[(bz,5,2),(a6,5,3),(d9,7,3),(bA,7,4)]
theorem xK(M:Mat n r)(h:ow n R r)(j:∀k∈iT,z5 n R r k):False:=by
 obtain⟨s,w,g,i,h⟩:=h;have f:∀ {q:Nat->Nat} {a b:Nat} {x y:Nat},a≠x->fc a q x y=false:=λ{q a b x y} h=>by unfold fc;rw[J6 h];rfl
 rcases h with ⟨c,l,d⟩|⟨c,l,d⟩|⟨c,l,d⟩|⟨c,l,d⟩
 .refine j (bz,5,2) (by simp[iT]) s w g c i (by show((sz w:Nat):Int)=(R:Nat) - ((2:Nat):Int);lia) ?_;rw[c];unfold fJ;rw[f (b:=0) ∅,J4 ∅,J5 d]
 .refine j (a6,5,3) (by simp[iT]) s w g c i (by show((sz w:Nat):Int)=(R:Nat) - ((3:Nat):Int);lia) ?_;have top:df r s w (2^5-1)=3:=by unfold fc at d;rw[Kn,Kn,Kf,Kf]at d;exact d.1.2
  have m:fc 5 (df r s w) 5 2=false:=by unfold fc;rw[top];rfl
  rw[c];unfold fJ;rw[f (b:=0) ∅,J4 ∅,m,J4 ∅,J5 d]
 .refine j (d9,7,3) (by simp[iT]) s w g c i (by show((sz w:Nat):Int)=(R:Nat) - ((3:Nat):Int);lia) ?_;rw[c];unfold fJ;rw[f (b:=0) ∅,J4 ∅,f (b:=0) ∅,J4 ∅,f (b:=0) ∅,J4 ∅,J5 d]
 .refine j (bA,7,4) (by simp[iT]) s w g c i (by show((sz w:Nat):Int)=(R:Nat) - ((4:Nat):Int);lia) ?_;have Mk:=M.minor g (i.lt ((aR _ _).lt (aQ n)));rw[c]at Mk;have t:bT 7 (df r s w)=false:=by
   unfold bT at d⊢;rw[Kn,Kn,Kf,Kf]at d;have p:=Mk.cX (aQ 7);have z:sz (2^7-1)=7:=∅
   have e:au (2^7-1) (2^7-1)=0:=∅
   rw[e,Mk.zero,z]at p;have:¬df r s w (2^7-1)=3:=()
   rw[J6 this];rfl
  rw[c];unfold fJ;rw[f (b:=0) ∅,J4 ∅,f (b:=0) ∅,J4 ∅,f (b:=0) ∅,J4 ∅,t,J4 ∅];have o:bT 7 (gF 7 (df r s w))=true:=d;rw[J5 o]
theorem uS(M:Mat n r)(A:r (2^n-1)=R)(h:GZ 3 n R r)(T:Tern n r):False:=by
 obtain⟨B,G,y,c,z,k,O,g,x,o,st,N⟩:=h;have m:=M.n8;have L:(az B).length=R:=(a7 B).trans k;have q:(fT r R B y).length=R:=by unfold fT;rw[J2];exact k
 have Q:fg (jB c) B R:=λi j a H=>by
  have s:i<(az B).length:=by rw[L];exact a
  have e:bAt B i=(az B)[i]:=by unfold bAt;simp[s]
  show(c (bAt B i)).getD j 0=_;rw[e,st.unit i _ (Ky s),vF H]
 obtain⟨v,u,U,v3⟩:=C4 M T A z k O g st.sub Q (λS d l=>by rw[<-mY (s_lt m (d.lt g)) l];exact st.good S d l) x o;have p:∀i,i<R->((List.range R).map v).getD i 0=v i:=λi a=>by rw[Kc,Kv,LG a];rfl
 refine N ((List.range R).map v) ((ko ∅ _ _).mpr #[by rw[J2,Kq,q],λi b f=> ?_]) λS d l=> ?_
 .have a:i<R:=by rw[<-q];exact(Kh.mp f).1
  rw[Gi k a]at f;have f:=Lf f;rw[p i a,<-f,Kf];exact#[(u i a).1,(u i a).2,(U i a).symm]
 .have J:S.testBit y=false:=by
   cases e:S.testBit y with
   |false=>rfl
   |true=>rw[d y e]at o;cases o
  have z1:=gn (s_lt m (d.lt g)) (show y<8 by lia) J;rw[mY (s_lt m (bP (d.lt g) x)) (),<-v3 S d l];refine i7 λt _ i a=> ?_;show(3:Int)∣(dO c y ((List.range R).map v) t).getD i 0-lV (jB c) y v t i;unfold dO lV;by_cases e:t=y
  .rw[J5 e,J5 e,p i a,LJ];exact KY _
  .rw[J4 e,J4 e];show(3:Int)∣(c t).getD i 0- (c t).getD i 0;rw[LJ];exact KY _
inductive mZ(Z:Hs)(vs:List V)(H:Hp)(Q:VK):Prop
 |mk (h:Addr) (n R:Nat) (r:Nat->Nat) (y_0:vs=[.ref h]) (y_1:Z.ho H h n r) (y_2:Mat n r) (y_3:r (2^n-1)=R) (y_4:Cl3 n r) (y_5:(∀c l xs t H',Same H H'->H t=none->H' t=some (.tup [.str "table", .ref l])->H l=none->H' l=some (.lst xs)->aU (hide H' l) xs (jz c n R)->A4 H xs->vy 3 n R r c->Q (.ref t) H')) (y_6:(∀k s w t H',Same H H'->H t=none->H' t=some (.tup [.str "barred", .int (au (au (2^n-1) s) w:Nat), .int (w:Int), .str k])->(∃m d,(k,m,d)∈iT)->s<2^n->Sub w (au (2^n-1) s)->fJ (sz s) (df r s w)= .str k->Q (.ref t) H')):mZ Z vs H Q
def oz(Z:Hs):Sp:=λvs H Q _=>mZ Z vs H Q
theorem sc_over_three:aK ["house","kinds"] ["house"] (aw s_over_three):=sc_of
theorem rG(cg:gI Z)(D:bw K mg "over_three" s_over_three ["house"])(O:mg "TWO_OF_FIVE"=some (.str bz t2))(N:mg "THREE_OF_FIVE"=some (.str a6 t3))(aj:mg "SEVEN"=some (.str d9 t4))(U:mg "OTHER_SEVEN"=some (.str bA t5))(ai:Cal P w K mg base j "told_over" ["house","prime","kinds"] (pU Z)):Cal P w K mg base (j+1) "over_three" ["house"] (oz Z):=by
 refine D.cal sc_over_three (λvs H Q E h=>by obtain⟨h,n,R,r,rfl,_⟩:=h;rfl) λf cdv A outer cn H vs Q E hr h=> ?_;obtain⟨h,n,R,r,rfl,hX,M,J,cl,k1,k2⟩:=h;refine#[_,(ah (wset 1 sc_over_three.nd (cS (ae (jQ (ae (eg (v:= .str bz) ⋯ O #[_,rfl]) (ae af (ae af aq)))) (ae (jQ (ae (eg (v:= .str a6) ⋯ N #[_,rfl]) (ae af (ae af aq)))) (ae (jQ (ae (eg (v:= .str d9) ⋯ aj #[_,rfl]) (ae af (ae af aq)))) (ae (jQ (ae (eg (v:= .str bA) ⋯ U #[_,rfl]) (ae af (ae af aq)))) aq))))))
   (ao (aH (wcal ai hr (ae (pv 0) (ae af (ae (pv 1) aq))))))),?_]
 refine#[Kd (Kk 3) ∅,λe bj=>#[Kd (Kk 3) ∅,λg bk=>#[Kd (Kk 3) ∅,λm bt=>#[Kd (Kk 3) ∅,λp bB=>#[Kd (Kk 4) ∅,λa ha=> ?_]]]]];have c1:=Same.new (o:= .tup [.str bz, .int 5, .int 2]) bj;have L:=Same.new (o:= .tup [.str a6, .int 5, .int 3]) bk;have z:=Same.new (o:= .tup [.str d9, .int 7, .int 3]) bt;have u:=Same.new (o:= .tup [.str bA, .int 7, .int 4]) bB;have q:=Same.new (o:= .lst [V.ref e,V.ref g,V.ref m,V.ref p]) ha;have d4:=q.at av;have d3:=(u.trans q).at av;have d2:=(z.trans (u.trans q)).at av;have d1:=(L.trans (z.trans (u.trans q))).at av;have d5:=av (H:=upd (upd (upd (upd H e (.tup [.str bz, .int 5, .int 2])) g (.tup [.str a6, .int 5, .int 3])) m (.tup [.str d9, .int 7, .int 3])) p (.tup [.str bA, .int 7, .int 4])) (a:=a) (o:= .lst [V.ref e,V.ref g,V.ref m,V.ref p]);have d:=c1.trans (L.trans (z.trans (u.trans q)));generalize upd (upd (upd (upd (upd H e (.tup [.str bz, .int 5, .int 2])) g (.tup [.str a6, .int 5, .int 3])) m (.tup [.str d9, .int 7, .int 3])) p (.tup [.str bA, .int 7, .int 4])) a (.lst [V.ref e,V.ref g,V.ref m,V.ref p])=H1 at*;refine#[_,rfl,_,rfl,h,a,n,R,3,r,iT,rfl,cg.same d hX,M,J,aD,∅,∅,#[_,d5,rfl,λi k b=> ?_],λc l xs t H' y B G hl b5 hR hN ho=> ?_,λk s w t H' y B G b hs hw bE=> ?_,λH' y nt nk=> ?_]
 .match i,b with
  |0,b=>cases b;exact#[e,rfl,d1]
  |1,b=>cases b;exact#[g,rfl,d2]
  |2,b=>cases b;exact#[m,rfl,d3]
  |3,b=>cases b;exact#[p,rfl,d4]
  |i+4,b=>exact absurd b (by simp[iT])
 .exact k1 c l xs t H' (d.trans y) (d.free B) G (d.free hl) b5 hR (λx hx=>by obtain⟨a,h1,h2⟩:=hN x hx;exact#[a,h1,d.free h2]) ho
 .exact k2 k s w t H' (d.trans y) (d.free B) G b hs hw bE
 .rcases cl with cl|cl
  .exact(uS M J nt cl).elim
  .exact(xK M (J▸cl) nk).elim
theorem sc_fits:aK ["house","prime","columns","thing","column","whole","some","table"] ["house","prime","columns","thing","column"] (aw s_fits):=sc_of
theorem FZ{Z:Hs}(T:Tb K mg)(cL:gI Z)(hc:∀C,Z.dom C->HC K C_House C)(D:bw K mg "fits" s_fits ["house","prime","columns","thing","column"])(ak:∀C,Z.dom C->dn P w K mg base 4 C "rank" ["self","s"] (iN Z C))
  (aa:Cal P w K mg base 5 "whole_rank" ["house"] (gD Z)) (ab:Cal P w K mg base 4 "choices" ["s","k"] iW) (ai:Cal P w K mg base 1 "set_of" ["some"] (uj K)) (aj:Cal P w K mg base 2 "things" ["s"] iq) (ag:Cal P w K mg base 3 "rank_of" ["rows","prime"] (vZ K)):
  Cal P w K mg base 6 "fits" ["house","prime","columns","thing","column"] (Dp Z):=by
 refine D.cal sc_fits (λvs H Q E h=>by obtain⟨h,d,a,n,R,G,y,p,r,g,q,c,col,rfl,_⟩:=h;rfl) λf cdv A outer e0 H vs Q E J h=> ?_;obtain⟨h,d,a,n,R,G,y,p,r,g,q,c,col,rfl,hX,n8,rR,R8,pm,p0,hC,M,hG,yn,b8,ha,cl,cn,k⟩:=h;refine#[_,(ah (wset 5 sc_fits.nd (wcal aa J (ae (pv 0) aq)))
   (ah (wfor (wil K (wcal ab J (ae (wcal ai J (ae (iY (xH ⋯) ⋯ T.list_ MR (ae (pv 2) aq)) aq)) (ae (ax fq (pv 5) af) aq)))) (wname 6 sc_fits.nd)
     (ah (wset 7 sc_fits.nd (ax nU (wlc ["before"] ["columns"] [2] (wil K (wcal aj J (ae (pv 6) aq))) (wnC 0) cP (AH (Ks (NG ∅ _) J.units) (pv 1) (pv 0) (by intro _ _;rfl))) (cS (ae (pv 4) aq))))
     (ao (bo (wpt gE (wpe a8 (wcal ag J (ae (pv 7) (ae (pv 1) aq))) (pv 5)) (wpe a8 (fP ak J ∅ (pv 0) (ae (ax kN (pv 6) (ax cW af (pv 3))) aq)) (pv 5)))
       (ao (aH fE))
       aO))))
   (ao (aH fE)))),?_]
 have hp:=k4 n8;have G8:G<256:=s_lt n8 hG;refine#[_,rfl,h,n,r,rfl,hX,n8,λH1 ay=> ?_];rw[rR];have a5:=hC.same ay;refine#[_,rfl,d,_,rfl,a5.dict,λl hl=> ?_];have ek:(List.map (λt:Nat=>((t:Int),V.ref (q t))) g).map (·.1)=bY g:=by rw[K5];rfl
 rw[ek];have ep:Same H1 (upd H1 l (.lst ((bY g).map V.int))):=Same.new hl;have kb:∀t∈g,t<8:=λt m=>by have:=aW hG ((M.keys t).mp m);lia
 refine#[l,bY g,rfl,SqL.of av,λz N=>by obtain⟨s,hs,rfl⟩:=dA N;have:=kb s hs;lia,?_];rw[El M.keys];refine#[_,rfl,_,_,rfl,rfl,?_];refine#[(G:Int),(R:Int) -1,rfl,(),(),λpc H3 er eN bj=> ?_];rw[J8]at bj;have O:Same H1 H3:=ep.trans er;refine#[pc,rfl,#[_,SqL.of bj],?_];refine cD (K:=K) (a:=pc) (xs:=(d8 G ((R:Int) -1)).map V.int) (λi σ U=>∃v6 v7:Option V,Same H3 U/\(∀S:Nat,(S:Int)∈(d8 G ((R:Int) -1)).take i->(de p (dP (jB (dO c y col)) (List.range R)) (S|||2^y)=R↔r (S|||2^y)=R))/\σ=[some (.ref h),some (.int p),some (.ref d),some (.int (y:Int)),some (.ref a),some (.int (R:Int)),v6,v7]) #[none,none,Same.refl _,λS b=>absurd b Ki,rfl] (λi σ U _ h=>by obtain⟨_,_,sm,_⟩:=h;exact SqL.of (sm.at bj)) ?_ ?_
 .rintro i x σ U hi ⟨v6,v7,aA,bc,rfl⟩;obtain⟨z,rfl,N⟩:=bL hi;obtain⟨S,rfl,b,zS⟩:=(fH G8).mp (Km N);have S8:S<256:=b.lt (n:=8) G8;have zR:sz S+1=R:=()
  dsimp only[bD];have dE:=a5.same (O.trans aA);refine#[_,rfl,(S:Int),rfl,(),(),λpt H5 bE eP bk=>#[pt,rfl,#[_,SqL.of bk],?_]];rw[J8]at bk;refine b9 (λx=>(λ_=>true) (bI x)) (λx=>V.ref (q (bI x).toNat)) (SqL.of bk) (by rw[J2];exact Kd (a9 _) ∅) (λj x vs H' R' S' hx hv sm hk=> ?_) λD6 L eH ct b6=> ?_
  .obtain⟨v,rfl⟩:=bH hv;obtain⟨z,rfl,ei⟩:=bL hx;obtain⟨t,t8,o,rfl⟩:=dg.mp (Km ei);simp only[bD,iM,J5];have tk:t∈g:=(M.keys t).mpr (b t o);have q1:=hk [some (.int (t:Int))] H' rfl (Same.refl _);rw[J5 rfl]at q1;exact#[_,rfl,_,rfl,d,_,rfl,(dE.same (bE.trans sm)).get tk,q1]
  have d2:=(ay.trans (O.trans (aA.trans (bE.trans ct)))).at ha;have e6:fF (λx=>(λ_=>true) (bI x)) (λx=>V.ref (q (bI x).toNat)) ((bits S).map V.int)=(az S).map λt=>V.ref (q t):=by unfold fF bits az;rw[LM.mpr (λ_ _=>rfl),K5,K5];rfl
  rw[e6]at b6;refine#[_,rfl,Kd (Kk 1) ∅,λu hu=> ?_];have l8:(az S).length<=8:=by rw[a7];lia
  have cA:Same L (upd L u (.lst [.ref a])):=Same.new hu;refine#[D6,u,_,_,rfl,rfl,cA.at b6,av,by rw[J2];exact Kd (Nat.add_le_add_right l8 1) ∅,λo ea=> ?_];have cu:Same L (upd (upd L u (.lst [.ref a])) o (.lst ((az S).map (λt=>V.ref (q t))++[.ref a]))):=cA.trans (Same.new ea);have aE:=aA.trans (bE.trans (ct.trans cu));have dV:=a5.same (O.trans aE);have ts:∀t∈az S,t∈g:=λt m=>(M.keys t).mpr (b t (aT.mp m).2);have rows:=By (H:=upd (upd L u (.lst [.ref a])) o (.lst ((az S).map (λt=>V.ref (q t))++[.ref a]))) (q:=q) (c:=c) (col:=col) (a:=a) (y:=y) (cs:=az S) (λt m=>#[dV.cols t (ts t m),λz=>by rw[<-z,b t (aT.mp m).2]at b8;cases b8]) (cu.at d2);generalize d0:upd (upd L u (.lst [.ref a])) o (.lst ((az S).map (λt=>V.ref (q t))++[.ref a]))=H7 at*;have eb:H7 o=some (.lst ((az S).map (λt=>V.ref (q t))++[.ref a])):=by rw[<-d0];exact av
  have cg:(az S++[y]).length=R:=by rw[Kz,a7];exact zR
  refine#[_,rfl,_,rfl,o,_,(az S++[y]).map (dO c y col),R,p,rfl,eb,rows,by rw[J2,cg];exact R8,R8,λrr d5=> ?_,pm,λkk H8 bM hV hM=> ?_]
  .obtain⟨t,m,rfl⟩:=Ka.mp d5;have cb:(dO c y col t).length=R/\∀z∈dO c y col t,0<=z/\z<p:=by
    unfold dO;by_cases e:t=y
    .rw[J5 e];exact#[cl,cn]
    .rw[J4 e];have tk:t∈g:=ts t (by rcases KC.mp m with z|z;exact z;exact absurd (KZ.mp z) e);exact#[M.len t tk,M.num t tk]
   refine#[cb.1,λz N=> ?_];have:=cb.2 z N;have:=pm.lt;exact Kb (show z.natAbs<2^7 by lia) (Kw ∅ ∅)
  have b5:=cL.same (ay.trans (O.trans (aE.trans bM))) hX;obtain⟨C,dm,d7⟩:=cL.shown b5;obtain⟨dx,fs,hh,fr,fe,fm⟩:=d7.ex;have sl:S|||2^y<2^n:=bP (b.lt hG) yn;refine#[_,rfl,rfl,?_];refine#[_,rfl,h,C,dx,fs,rfl,hh,dm,fr,_,rfl,_,rfl,_,_,rfl,rfl,#[(),(),∅],_,_,rfl,rfl,?_];refine#[h,n,S|||2^y,r,?_,b5,⟨dx,fs,hh⟩,n8,sl,λH9 cv=> ?_]
  ·(try dsimp only);rw[kf,eF]
  refine#[_,rfl,rfl,?_];rw[K5]at hV hM;have sq:=vQ pm (jB (dO c y col)) cg hV hM;have e8:rho p (dP (jB (dO c y col)) (List.range R)) (az S++[y])=de p (dP (jB (dO c y col)) (List.range R)) (S|||2^y):=je pm λj=>by rw[qV (),KC,KZ,J7];exact Or.comm
  rw[e8]at sq;rw[aX,aX];refine#[rfl,_,rfl,cG (λh1=> ?_) λh1=> ?_]
  .have ne:¬(de p (dP (jB (dO c y col)) (List.range R)) (S|||2^y)=R↔r (S|||2^y)=R):=λz=>by have:decide (kk=R)=decide (r (S|||2^y)=R):=LS.mpr (sq.trans z);rw[this]at h1;simp at h1
   exact k false H9 (ay.trans (O.trans (aE.trans (bM.trans cv)))) #[λz=>(nomatch z),λz=>absurd (z S b zR) ne]
  .have e9:decide (kk=R)=decide (r (S|||2^y)=R):=by cases h3:decide (kk=R)<;>cases h4:decide (r (S|||2^y)=R)<;>rw[h3,h4]at h1<;>first|rfl|exact absurd rfl h1
   refine#[some (.int (S:Int)),some (.ref o),aE.trans (bM.trans cv),λS2 B=> ?_,rfl];rw[Lx,N]at B;rcases KC.mp B with B|B
   .exact bc S2 B
   .have B:(S2:Int)=(S:Int):=by simpa using B
    have:S2=S:=()
    rw[this];exact sq.symm.trans (LS.mp e9)
 .rintro σ U ⟨v6,v7,aA,bc,rfl⟩;refine k true U (ay.trans (O.trans aA)) #[λ_ S b zS=> ?_,λ_=>rfl];refine bc S ?_;rw[J2,Ly];exact(fH G8).mpr #[S,rfl,b,()]
theorem sc_single:aK ["many","place"] ["many","place"] (aw s_single):=sc_of
theorem B2(T:Tb K mg)(D:bw K mg "single" s_single ["many","place"]):Cal P w K mg base 1 "single" ["many","place"] vV:=by
 refine D.cal sc_single (λvs H Q E h=>by obtain⟨n,p,rfl,_⟩:=h;rfl) λf cdv A outer s H vs Q E o h=> ?_;obtain⟨n,p,rfl,j,k⟩:=h;refine#[_,(ao (aH (wlc ["row"] ["place"] [1] (wrng T.range_ (pv 0)) (wnC 0) cP (wQ (wpt a8 (pv 0) (pv 1)) af af)))),?_];refine#[_,rfl,_,rfl,(),(),?_];rw[J8];refine dN (λ_=>true) (λi=> .int (if i=p then 1 else 0)) (Kd j ∅) (λi vs H' R S m g r b=> ?_) λq a d l c=> ?_
 .obtain⟨v,rfl⟩:=bH g;simp only[bD,iM,J5];refine#[_,rfl,_,rfl,rfl,_,rfl,?_];have:=b [some (.int (0+(i:Nat)))] H' rfl (Same.refl _);rw[J5 rfl]at this;by_cases e:i=p
  .subst e;rw[J5 (J3 (by rw[Lk]))];rw[J5 rfl]at this;exact this
  .rw[J4 (λz=>e (by have:=V.int.inj (Ko z);lia))];rw[J4 e]at this;exact this
 .refine k q a l d (c.trans ?_);unfold eY jy;rw[LM.mpr (λ_ _=>rfl),K5];rfl
theorem sc_Minor___init__:aK ["self","house","out","drawn","kept"] ["self","house","out","drawn"] (aw s_Minor___init__):=sc_of
theorem mw{Z:Hs}(D:iL K "__init__" "Minor.__init__" s_Minor___init__ ["self","house","out","drawn"] f)(M:mg "House"=some (.ref C_House))(g:Cls K a)(n1:b7 K a "many")(n2:b7 K a "house")(n3:b7 K a "kept")(n4:b7 K a "drawn")(n5:b7 K a "drawn_rank")
  (z:gI Z) (hc:∀C,Z.dom C->HC K C_House C) (hj:3<=j) (J:Fc P w K mg base 1 C_House "__init__" ["self","n"] (lO K)) (N:Cal P w K mg base 1 "less" ["s","t"] nG) (O:Cal P w K mg base 3 "size" ["s"] jH) (L:∀C,Z.dom C->dn P w K mg base 2 C "everything" ["self"] (dQ K)) (U:∀C,Z.dom C->dn P w K mg base j C "rank" ["self","s"] (iN Z C)):
  iB P w K mg base (j+1) f ["self","house","out","drawn"] (wg Z a):=by
 refine D.fn sc_Minor___init__ (λvs H Q E h=>by obtain⟨p,c,h,n,o,w,r,rfl,_⟩:=h;rfl) λcdv A outer b3 H vs Q E i h=> ?_;obtain⟨p,c,h,n,o,l,r,rfl,hp,u,B,hw,k⟩:=h;refine#[_,(ah (wset 4 sc_Minor___init__.nd (wcal N i (ae (eX L i () (pv 1)) (ae (ax kN (pv 2) (pv 3)) aq))))
   (ah (cR (pe J i () (eg (v:= .ref C_House) ⋯ M rfl) (ae (pv 0) (ae (wcal O i (ae (pv 4) aq)) aq))))
   (ah (wsf K (pv 0) (pv 1))
   (ah (wsf K (pv 0) (pv 4))
   (ah (wsf K (pv 0) (pv 3))
   (ao (wsf K (pv 0) (fP U i () (pv 1) (ae (pv 3) aq))))))))),?_]
 obtain⟨C,s,y⟩:=z.shown u;have x:h≠p:=pW y;obtain⟨d,fs,aS,aC,aA,aB⟩:=y.ex;have hh:H h=some (.ins C d fs):=(dR (H:=H) x).symm.trans aS;obtain⟨ar,bt,b2,bN⟩:=hc C s;have b1:0<2^n:=Mf ();have p8:=kM B;have ef:(1*2^((n:Nat):Int).toNat-1:Int)=((2^n-1:Nat):Int):=by rw[cQ];lia
 have kl:au (2^n-1) (o|||l)<2^n:=kA;refine#[_,rfl,h,C,d,fs,rfl,hh,s,aA,h,C,d,fs,(n:Int),rfl,hh,ar,bt,aB,(),(),_,rfl,_,rfl,_,_,rfl,rfl,2^n-1,o|||l,?_,?_]
 ·(try dsimp only);rw[ef,eF];rfl
 generalize au (2^n-1) (o|||l)=kp at*;refine#[rfl,_,rfl,_,rfl,(kp:Int),rfl,(),(),λt q=> ?_];refine#[p,a,c,_,rfl,q.at hp,g,n1,?_];rw[J8];have up:∀ {o:HO},upd t p o h=some (.ins C d fs):=λ{o}=>by rw[aJ x];exact q.at hh
 refine#[_,rfl,_,rfl,p,a,c,_,rfl,av,g,n2,Ks (aZ _ _ _) (by show 0+1<1000;decide),?_];rw[lD];refine#[_,rfl,_,rfl,p,a,c,_,rfl,av,g,n3,Ks (aZ _ _ _) (Ks (LY (aZ _ _ _)) (by show 0+1+1<1000;decide)),?_];rw[lD];refine#[_,rfl,_,rfl,p,a,c,_,rfl,av,g,n4,Ks (aZ _ _ _) (Ks (LY (aZ _ _ _)) (Ks (LY (LY (aZ _ _ _))) (by show 0+1+1+1<1000;decide))),?_];rw[lD];have bB:∀ {o:HO},Same (hide H p) (upd t p o):=λ{o} b o' e=>by
  unfold hide at e;split at e
  .cases e
  .rename_i m;rw[aJ m];exact q.at e
 refine#[_,rfl,h,C,d,fs,rfl,up,s,aC,_,rfl,h,n,l,r,rfl,z.same bB u,#[d,fs,up],B,hw,λH5 G=> ?_];refine#[_,rfl,p,a,c,_,rfl,G.at av,g,n5,?_,?_]
 .exact Ks (aZ _ _ _) (Ks (LY (aZ _ _ _)) (Ks (LY (LY (aZ _ _ _))) (Ks (LY (LY (LY (aZ _ _ _)))) (by show 0+1+1+1+1<1000;decide))))
 refine k _ (λb o e m=> ?_) av;rw[aJ m];exact G.at (by rw[aJ m];exact q.at e)
theorem sc_Minor_rank:aK ["self","s"] ["self","s"] (aw s_Minor_rank):=sc_of
theorem rS{Z:Hs}(D:iL K "rank" "Minor.rank" s_Minor_rank ["self","s"] f)(d:Cls K b)(n2:b7 K b "house")(n3:b7 K b "kept")(n4:b7 K b "drawn")(n5:b7 K b "drawn_rank")(z:gI Z)(hj:3<=j)
  (B:Cal P w K mg base 3 "spread" ["s","kept"] vU) (G:∀C,Z.dom C->dn P w K mg base j C "rank" ["self","s"] (iN Z C)):
  iB P w K mg base (j+1) f ["self","s"] (iN (oZ Z b) b):=by
 refine D.fn sc_Minor_rank (λvs H Q E h=>by obtain⟨a,n,s,r,rfl,_⟩:=h;rfl) λcdv A outer bj H vs Q E q h=> ?_;obtain⟨a,n,s,r,rfl,L,⟨aC,a3,a4⟩,n8,t,k⟩:=h;refine#[_,(ao (aH (ax fq (fP G q () (wfld K (pv 0)) (ae (ax kN (wcal B q (ae (pv 1) (ae (wfld K (pv 0)) aq))) (wfld K (pv 0))) aq)) (wfld K (pv 0))))),?_];obtain⟨e,h,u,i,l,r',g,o,en,v,p,U,N⟩:=L;have s2:=s_lt n8 t;have k2:=s_lt v p;obtain⟨C,J,O⟩:=z.shown o;obtain⟨m,fs,hh,fr,fe,fm⟩:=O.ex;have sl:aN s i|||l<2^u:=K4 ((cE s i).lt p) U;refine#[_,rfl,a,b,e,_,_,rfl,g,d,n2,Ca _ _ _ _ _,h,C,m,fs,rfl,hh,J,fr,?_];refine#[_,rfl,_,rfl,a,b,e,_,_,rfl,g,d,n3,DZ _ _ _ _ _,(s:Int),(i:Int),rfl,(),(),(),λH1 c=> ?_];have M:=z.same c o;refine#[_,rfl,a,b,e,_,_,rfl,c.at g,d,n4,Cb _ _ _ _ _,_,_,rfl,rfl,h,u,aN s i|||l,r',?_,M,⟨m,fs,c.at hh⟩,v,sl,λy x=> ?_]
 ·(try dsimp only);rw[J8,J8,eF]
 refine#[_,rfl,a,b,e,_,_,rfl,x.at (c.at g),d,n5,Ip _ _ _ _ _,_,_,rfl,rfl,?_];have:=k y (c.trans x);rw[N s t]at this;exact this
theorem sc_Other___init__:aK ["self","house"] ["self","house"] (aw s_Other___init__):=sc_of
theorem mr{Z:Hs}(D:iL K "__init__" "Other.__init__" s_Other___init__ ["self","house"] f)(M:mg "House"=some (.ref C_House))(g:Cls K a)(n1:b7 K a "many")(n2:b7 K a "house")(y:b7 K a "full")(n4:b7 K a "full_rank")
  (hc:∀C,Z.dom C->HC K C_House C) (G:gI Z) (hj:2<=j) (J:Fc P w K mg base 1 C_House "__init__" ["self","n"] (lO K)) (L:∀C,Z.dom C->dn P w K mg base 2 C "everything" ["self"] (dQ K)) (N:∀C,Z.dom C->dn P w K mg base j C "rank" ["self","s"] (iN Z C)):
  iB P w K mg base (j+1) f ["self","house"] (we Z a):=by
 refine D.fn sc_Other___init__ (λvs H Q E h=>by obtain⟨p,c,h,n,r,rfl,_⟩:=h;rfl) λcdv A outer bt H vs Q E m h=> ?_;obtain⟨p,c,h,n,r,rfl,hp,t,n8,k⟩:=h;refine#[_,(ah (cR (pe J m () (eg (v:= .ref C_House) ⋯ M rfl) (ae (pv 0) (ae (wfld K (pv 1)) aq))))
   (ah (wsf K (pv 0) (pv 1))
   (ah (wsf K (pv 0) (eX L m () (pv 1)))
   (ao (wsf K (pv 0) (fP N m () (pv 1) (ae (wfld K (pv 0)) aq))))))),?_]
 obtain⟨C,l,x⟩:=G.shown t;have u:h≠p:=pW x;obtain⟨d,fs,ar,aj,U,s⟩:=x.ex;have hh:H h=some (.ins C d fs):=(dR (H:=H) u).symm.trans ar;obtain⟨q,z,bk,bb⟩:=hc C l;have bj:0<2^n:=Mf ();refine#[rfl,_,rfl,_,rfl,h,C,d,fs,_,rfl,hh,q,z,s,p,a,c,_,rfl,hp,g,n1,?_];have up:∀ {o:HO},upd H p o h=some (.ins C d fs):=λ{o}=>by rw[aJ u];exact hh
 have aA:upd H p (.ins a c (di "many" (.int (n:Int)) [])) p=some (.ins a c (di "many" (.int (n:Int)) [])):=av;refine#[_,rfl,_,rfl,p,a,c,_,rfl,aA,g,n2,Ks (aZ _ _ _) (by show 0+1<1000;decide),?_];rw[lD];refine#[_,rfl,h,C,d,fs,rfl,up,l,U,h,C,d,fs,(n:Int),rfl,up,q,z,s,(),(),_,rfl,p,a,c,_,rfl,av,g,y,?_,?_]
 .exact Ks (aZ _ _ _) (Ks (LY (aZ _ _ _)) (by show 0+1+1<1000;decide))
 rw[lD];have O:(1*2^((n:Nat):Int).toNat-1:Int)=((2^n-1:Nat):Int):=by rw[cQ];lia
 rw[O];have lk:(di "full" (V.int ((2^n-1:Nat):Int)) (di "house" (V.ref h) (di "many" (V.int (n:Int)) []))).lookup ("full":Str)=some (.int ((2^n-1:Nat):Int)):=aY _ _ _;have a3:∀ {o:HO},Same (hide H p) (upd H p o):=λ{o} b o' e=>by
  unfold hide at e;split at e
  .cases e
  .rename_i i;rw[aJ i];exact e
 refine#[_,rfl,h,C,d,fs,rfl,up,l,aj,_,rfl,p,a,c,_,_,rfl,av,g,y,lk,h,n,2^n-1,r,rfl,G.same a3 t,#[d,fs,up],n8,(),λH5 B=> ?_];refine#[_,rfl,p,a,c,_,rfl,B.at av,g,n4,?_,?_]
 .exact Ks (aZ _ _ _) (Ks (LY (aZ _ _ _)) (Ks (LY (LY (aZ _ _ _))) (by show 0+1+1+1<1000;decide)))
 refine k _ (λb o e i=> ?_) av;rw[aJ i];exact B.at (by rw[aJ i];exact e)
theorem sc_Other_rank:aK ["self","s","outside"] ["self","s"] (aw s_Other_rank):=sc_of
theorem rQ{f C_House b:Addr}{Z:Hs}{j:Nat}(D:iL K "rank" "Other.rank" s_Other_rank ["self","s"] f)(d:Cls K b)(U:b7 K b "house")(n3:b7 K b "full")(n4:b7 K b "full_rank")(p:gI Z)(N:∀C,Z.dom C->b≠C)(hj:3<=j)
  (z:Cal P w K mg base 1 "less" ["s","t"] nG) (B:Cal P w K mg base 3 "size" ["s"] jH) (G:∀C,Z.dom C->dn P w K mg base j C "rank" ["self","s"] (iN Z C)):
  iB P w K mg base (j+1) f ["self","s"] (iN (hsO Z b) b):=by
 refine D.fn sc_Other_rank (λvs H Q E h=>by obtain⟨a,n,s,r,rfl,_⟩:=h;rfl) λcdv A outer a4 H vs Q E m h=> ?_;obtain⟨a,n,s,r,rfl,i,⟨aA,aS,M⟩,v,u,k⟩:=h;refine#[_,(ah (wset 2 sc_Other_rank.nd (wcal z m (ae (wfld K (pv 0)) (ae (pv 1) aq))))
   (ao (aH (ax fq (ax dz (wcal B m (ae (pv 1) aq)) (fP G m () (wfld K (pv 0)) (ae (pv 2) aq))) (wfld K (pv 0)))))),?_]
 rcases i with i|⟨g,h,r',l,J,O⟩
 .obtain⟨C,e,o⟩:=p.shown i;obtain⟨ay,aE,L,_⟩:=o.ex;exact absurd (AL M L) (N C e)
 .have s2:=s_lt v u;refine#[_,rfl,a,b,g,_,_,rfl,l,d,n3,DM _ _ _ _,_,rfl,2^n-1,s,rfl,?_];refine#[_,rfl,(s:Int),rfl,(),(),λH1 c=> ?_];rw[J8];have t:=p.same c J;obtain⟨C,e,o⟩:=p.shown t;obtain⟨q,fs,hh,fr,fe,fm⟩:=o.ex;refine#[_,rfl,a,b,g,_,_,rfl,c.at l,d,U,BX _ _ _ _,h,C,q,fs,rfl,hh,e,fr,_,rfl,h,n,au (2^n-1) s,r',rfl,t,#[q,fs,hh],v,kA,λy x=> ?_];refine#[_,_,rfl,rfl,_,rfl,a,b,g,_,_,rfl,x.at (c.at l),d,n4,Ij _ _ _ _,_,_,rfl,rfl,?_];have:=k y (c.trans x);rw[O s u]at this;exact this
theorem sc_choices:aK ["s","k"] ["s","k"] (aw s_choices):=sc_of
theorem yN(T:Tb K mg)(D:bw K mg "choices" s_choices ["s","k"])(o:Cal P w K mg base 3 "parts" ["s"] o5)(r:Cal P w K mg base 3 "size" ["s"] jH):Cal P w K mg base 4 "choices" ["s","k"] iW:=by
 refine D.cal sc_choices (λvs H Q E h=>by obtain⟨s,k,rfl,_⟩:=h;rfl) λf cdv A outer ak H vs Q E j h=> ?_;obtain⟨s,a,rfl,t,u,k⟩:=h;refine#[_,(ao (aH (wlc ["part"] ["k"] [1] (wil K (wcal o j (ae (pv 0) aq))) (wnC 0) (cZ (wpt a8 (wcal r j (ae (pv 0) aq)) (pv 1))) (pv 0)))),?_];refine#[_,rfl,s,rfl,t,u,λp H1 n aj g=>#[p,rfl,#[_,SqL.of g],?_]];have G:=BR s.toNat;have J:=wU (show s.toNat<256 by lia);refine b9 (λx=>(λz:Int=>decide ((((bits z.toNat).length:Nat):Int)=a)) (bI x)) (λx=> .int ((λz:Int=>z) (bI x))) (SqL.of g) (by rw[J2];exact Kd G ∅) (λi x vs H' R S M L m B=> ?_) λD H' y m hl=> ?_
 .obtain⟨v,rfl⟩:=bH L;obtain⟨z,rfl,N⟩:=bL M;obtain⟨U,z1⟩:=J z (Km N);refine#[_,rfl,z,rfl,U,z1,λc O=>#[_,rfl,rfl,_,rfl,?_]];have q:=B [some (.int z)] c rfl O;have b:if decide ((((bits z.toNat).length:Nat):Int)=a)=true then R (.int z) _ c else S _ c:=q;have e:decide (V.int (((bits z.toNat).length:Nat):Int)=V.int a)=decide ((((bits z.toNat).length:Nat):Int)=a):=LS.mpr #[λz=>V.int.inj z,λz=>by rw[z]];rw[e];show if decide ((((bits z.toNat).length:Nat):Int)=a)=true then _ else _;by_cases d:decide ((((bits z.toNat).length:Nat):Int)=a)=true
  .rw[J5 d]at b⊢;exact#[_,rfl,b]
  .rw[J4 d]at b⊢;exact b
 replace hl:=hl.trans (K3 (λl=>some (HO.lst l)) (bK (λz:Int=>decide ((((bits z.toNat).length:Nat):Int)=a)) (λz:Int=>z) (iO s.toNat)));rw[show(λz:Int=>z)=id from rfl,MS]at hl;exact k D H' (n.trans m) (n.free y) hl
theorem sc_holders:aK ["sets","s"] ["sets","s"] (aw s_holders):=sc_of
theorem yM(T:Tb K mg)(D:bw K mg "holders" s_holders ["sets","s"])(g:Cal P w K mg base 1 "within" ["s","t"] vS):Cal P w K mg base 2 "holders" ["sets","s"] (sj K):=by
 refine D.cal sc_holders (λvs H Q E h=>by obtain⟨a,p,L,rfl,_⟩:=h;rfl) λf cdv A outer B H vs Q E o h=> ?_;obtain⟨a,p,L,rfl,c,m,k⟩:=h;refine#[_,(ao (aH (wlc ["t"] ["s"] [1] (wil K (pv 0)) (wnC 0) (cZ (dD (wcal g o (ae (pv 1) (ae (pv 0) aq))))) (pv 0)))),?_];refine#[_,rfl,a,rfl,#[_,c],?_];refine b9 (λx=>(λz:Int=>decide (p&&&z.toNat=p)) (bI x)) (λx=> .int ((λz:Int=>z) (bI x))) c (by rw[J2,bQ];exact Kd m ∅) (λi x vs H' R S s r e n=> ?_) λD H' j e hl=> ?_
 .obtain⟨v,rfl⟩:=bH r;obtain⟨z,rfl,u⟩:=bL s;obtain⟨t,y,rfl⟩:=dA (Km u);have q:=n [some (.int (t:Int))] H' rfl (Same.refl _);refine#[_,rfl,_,rfl,(p:Int),(t:Int),rfl,(),(),_,rfl,?_];rw[J8,J8];have b:if decide (p&&&t=p)=true then R (.int (t:Int)) _ H' else S _ H':=q;show if decide (p&&&t=p)=true then _ else _;by_cases d:decide (p&&&t=p)=true
  .rw[J5 d]at b⊢;exact#[_,rfl,b]
  .rw[J4 d]at b⊢;exact b
 replace hl:=hl.trans (K3 (λl=>some (HO.lst l)) (bK (λz:Int=>decide (p&&&z.toNat=p)) (λz:Int=>z) (bY L)));rw[show(λz:Int=>z)=id from rfl,MS,eo]at hl;exact k D H' e j hl
theorem sc_whole_rank:aK ["house"] ["house"] (aw s_whole_rank):=sc_of
theorem iP{Z:Hs}(v:gI Z)(s:∀C,Z.dom C->HC K C_House C)(D:bw K mg "whole_rank" s_whole_rank ["house"])(x:2<=j)(l:∀C,Z.dom C->dn P w K mg base 2 C "everything" ["self"] (dQ K))(m:∀C,Z.dom C->dn P w K mg base j C "rank" ["self","s"] (iN Z C)):Cal P w K mg base (j+1) "whole_rank" ["house"] (gD Z):=by refine D.cal sc_whole_rank (λvs H Q E h=>by obtain⟨a,n,r,rfl,_⟩:=h;rfl) λf cdv A outer B H vs Q E g h=> ?_;obtain⟨a,n,r,rfl,e,i,k⟩:=h;refine#[_,(ao (aH (fP m g () (pv 0) (ae (eX l g () (pv 0)) aq)))),?_];obtain⟨C,d,t⟩:=v.shown e;obtain⟨b,fs,c,fr,p,q⟩:=t.ex;obtain⟨o,u,_,_⟩:=s C d;have y:=k4 i;have z:0<2^n:=Mf ();refine#[_,rfl,a,C,b,fs,rfl,c,d,fr,_,rfl,a,C,b,fs,rfl,c,d,p,a,C,b,fs,n,rfl,c,o,u,q,(),(),?_];rw[gH];exact#[a,n,2^n-1,r,rfl,e,#[b,fs,c],i,(),k]
theorem sc_is_even:aK ["house","n","k"] ["house","n","k"] (aw s_is_even):=sc_of
theorem yL{Z:Hs}(T:Tb K mg)(g:gI Z)(hc:∀C,Z.dom C->HC K C_House C)(D:bw K mg "is_even" s_is_even ["house","n","k"])(hj:4<=j)(aa:∀C,Z.dom C->dn P w K mg base 2 C "everything" ["self"] (dQ K))(ai:∀C,Z.dom C->dn P w K mg base j C "rank" ["self","s"] (iN Z C))(ab:Cal P w K mg base (j+1) "whole_rank" ["house"] (gD Z))(ag:Cal P w K mg base 4 "choices" ["s","k"] iW):Cal P w K mg base (j+2) "is_even" ["house","n","k"] (wd Z):=by
 refine D.cal sc_is_even (λvs H Q E h=>by obtain⟨a,n,m,k,r,rfl,_⟩:=h;rfl) λf cdv A outer c2 H vs Q E o h=> ?_;obtain⟨a,n,m,b,r,rfl,t,e,k⟩:=h;refine#[_,(ah (bo (PW.pt (iE (wpt gE (wfld K (pv 0)) (pv 1)) (jh (wpt gE (wcal ab o (ae (pv 0) aq)) (pv 2)))))
     (ao (aH fE))
     aO)
   (ao (aH (dX (qY (K:=K) ⋯ ⋯) ⋯ T.all_ PyProof.Rows.boot_all (ae (wlc ["s"] ["k","house"] [2,0] (wil K (wcal ag o (ae (eX aa o () (pv 0)) (ae (pv 2) aq)))) (wnC 0) cP (wpe a8 (fP ai o () (pv 2) (ae (pv 0) aq)) (pv 1))) aq))))),?_]
 obtain⟨C,dm,b2⟩:=g.shown t;obtain⟨dx,fs,ha,fr,fe,fm⟩:=b2.ex;obtain⟨cl,nM,_,_⟩:=hc C dm;have hp:=k4 e;have cO:0<2^n:=Mf ();refine#[_,rfl,a,C,dx,fs,_,rfl,ha,cl,nM,fm,_,rfl,rfl,_,rfl,cG (λc=>nX ?_) λc=> ?_]
 .rw[aX]at c;have y:¬n=m:=by simpa using c
  have:=k H (Same.refl _);unfold fc at this;rw[J6 y,Lc,Lc]at this;exact this
 rw[aX]at c;have y:n=m:=by simpa using c
 refine#[_,rfl,a,n,r,rfl,t,e,λH1 G=>#[_,rfl,rfl,_,rfl,cG (λd=> ?_) λd=> ?_]]
 .rw[aX]at d;have b0:¬r (2^n-1)=b:=by simpa using d
  have:=k H1 G;unfold fc at this;rw[J6 b0,Ld,Lc]at this;exact this
 rw[aX]at d;have bX:r (2^n-1)=b:=by simpa using d
 have aj:=g.same G t;obtain⟨C1,J,b4⟩:=g.shown aj;obtain⟨M,O,ar,cA,bt,bE⟩:=b4.ex;obtain⟨bb,cg,_,_⟩:=hc C1 J;refine#[_,rfl,a,C1,M,O,rfl,ar,J,bt,a,C1,M,O,n,rfl,ar,bb,cg,bE,(),(),?_];rw[gH];refine#[_,rfl,((2^n-1:Nat):Int),(b:Int),rfl,(),(),λp H2 aA cM u=>#[p,rfl,#[_,SqL.of u],?_]];rw[J8,j3 e]at u;refine b9 (λx=>(λ_=>true) (bI x)) (λx=>V.bl ((λz:Int=>decide (r z.toNat=b)) (bI x))) (SqL.of u) (by rw[J2,bQ];exact Kd (pG n b e) ∅) (λi x vs H' R S hx hv B hk=> ?_) λD H' hD B hl=> ?_
 .obtain⟨v,rfl⟩:=bH hv;obtain⟨z,rfl,hz⟩:=bL hx;obtain⟨s,hs,rfl⟩:=dA (Km hz);obtain⟨s1,s2⟩:=gA.mp hs;have U:=g.same (aA.trans B) aj;obtain⟨C',bj,b3⟩:=g.shown U;obtain⟨L,N,ak,bM,cu,cv⟩:=b3.ex;simp only[bD,iM,J5];refine#[_,rfl,a,C',L,N,rfl,ak,bj,bM,_,rfl,a,n,s,r,rfl,U,#[L,N,ak],e,s1,λH3 cn=>#[_,rfl,rfl,?_]];have q:=hk [some (.int (s:Int))] H3 rfl cn;rw[J5 rfl]at q;rw[aX];exact q
 replace hl:=hl.trans (K3 (λl=>some (HO.lst l)) (nR (λz:Int=>decide (r z.toNat=b)) (bY (dJ n b))));refine#[D,_,rfl,SqL.of hl,?_];rw[xN];have:=k H' (G.trans (aA.trans B));unfold fc at this;rw[J3 y,J3 bX,Lo,Lo]at this;exact this
theorem sc_is_seven:aK ["house","everything","lines"] ["house"] (aw s_is_seven):=sc_of
theorem wX{Z:Hs}(T:Tb K mg)(y:gI Z)(m:∀C,Z.dom C->HC K C_House C)(D:bw K mg "is_seven" s_is_seven ["house"])(hj:4<=j)(ab:∀C,Z.dom C->dn P w K mg base 2 C "everything" ["self"] (dQ K))(aj:∀C,Z.dom C->dn P w K mg base j C "rank" ["self","s"] (iN Z C))(ag:Cal P w K mg base (j+1) "whole_rank" ["house"] (gD Z))(aa:Cal P w K mg base 4 "choices" ["s","k"] iW)(ak:Cal P w K mg base 3 "size" ["s"] jH)
  (ai:Cal P w K mg base 2 "holders" ["sets","s"] (sj K)):Cal P w K mg base (j+2) "is_seven" ["house"] (si Z):=by
 refine D.cal sc_is_seven (λvs H Q E h=>by obtain⟨a,n,r,rfl,_⟩:=h;rfl) λf cdv A outer d3 H vs Q E c h=> ?_;obtain⟨a,n,r,rfl,N,b,k⟩:=h;refine#[_,(ah (bo (PW.pt (iE (wpt gE (wfld K (pv 0)) af) (jh (wpt gE (wcal ag c (ae (pv 0) aq)) af))))
     (ao (aH fE))
     aO)
   (ah (wset 1 sc_is_seven.nd (eX ab c () (pv 0)))
   (ah (wset 2 sc_is_seven.nd (wlc ["s"] ["house"] [0] (wil K (wcal aa c (ae (pv 1) (ae af aq)))) (wnC 0) (cZ (wpt oG (fP aj c () (pv 1) (ae (pv 0) aq)) (wcal ak c (ae (pv 0) aq)))) (pv 0)))
   (ao (aH (dX (qY (K:=K) ⋯ ⋯) ⋯ T.all_ PyProof.Rows.boot_all (ae (wlc ["pair"] ["lines"] [2] (wil K (wcal aa c (ae (pv 1) (ae af aq)))) (wnC 0) cP (wpe a8 (wlen K T.len_ (wcal ai c (ae (pv 1) (ae (pv 0) aq)))) af)) aq))))))),?_]
 obtain⟨C,dm,c1⟩:=y.shown N;obtain⟨dx,fs,ha,fr,fe,fm⟩:=c1.ex;obtain⟨cl,nM,_,_⟩:=m C dm;have hp:=k4 b;have d1:0<2^n:=Mf ();refine#[_,rfl,a,C,dx,fs,_,rfl,ha,cl,nM,fm,rfl,_,rfl,cG (λL=>nX ?_) λL=> ?_]
 .have d:(!decide (V.int (n:Int)=V.int ((7:Nat):Int)))=true:=L;rw[aX]at d;have hn:¬n=7:=by simpa using d
  have:=k H (Same.refl _);unfold bT at this;rw[J6 hn,Lc,Lc]at this;exact this
 have d:¬(!decide (V.int (n:Int)=V.int ((7:Nat):Int)))=true:=L;rw[aX]at d;have hn:n=7:=by simpa using d
 refine#[_,rfl,a,n,r,rfl,N,b,λH1 aE=>#[rfl,_,rfl,cG (λM=> ?_) λM=> ?_]]
 .have g:(!decide (V.int ((r (2^n-1):Nat):Int)=V.int ((3:Nat):Int)))=true:=M;rw[aX]at g;have cO:¬r (2^n-1)=3:=by simpa using g
  have:=k H1 aE;unfold bT at this;rw[J6 cO,Ld,Lc]at this;exact this
 have g:¬(!decide (V.int ((r (2^n-1):Nat):Int)=V.int ((3:Nat):Int)))=true:=M;rw[aX]at g;have cL:r (2^n-1)=3:=by simpa using g
 have bk:=y.same aE N;obtain⟨C1,a3,c3⟩:=y.shown bk;obtain⟨a5,bc,bB,dk,cu,cA⟩:=c3.ex;obtain⟨cb,c6,_,_⟩:=m C1 a3;refine#[_,rfl,a,C1,a5,bc,rfl,bB,a3,cu,a,C1,a5,bc,n,rfl,bB,cb,c6,cA,(),(),?_];rw[gH];refine#[_,rfl,((2^n-1:Nat):Int),((3:Nat):Int),rfl,(),(),λp H2 bN dw U=>#[p,rfl,#[_,SqL.of U],?_]];rw[J8,j3 b]at U;refine b9 (λx=>(λz:Int=>decide (r z.toNat<sz z.toNat)) (bI x)) (λx=> .int ((λz:Int=>z) (bI x))) (SqL.of U) (by rw[J2,bQ];exact Kd (pG n 3 b) ∅) (λi x vs H' R S hx hv u O=> ?_) λpl H3 dV aS o=> ?_
 .obtain⟨v,rfl⟩:=bH hv;obtain⟨z,rfl,hz⟩:=bL hx;obtain⟨s,hs,rfl⟩:=dA (Km hz);obtain⟨s1,s2⟩:=gA.mp hs;have bj:=y.same (bN.trans u) bk;obtain⟨C',ck,c2⟩:=y.shown bj;obtain⟨a4,bb,bt,cB,dd,dj⟩:=c2.ex;refine#[_,rfl,a,C',a4,bb,rfl,bt,ck,cB,_,rfl,a,n,s,r,rfl,bj,#[a4,bb,bt],b,s1,λH3 aS=>#[_,rfl,(s:Int),rfl,(),(),λB J=>#[_,_,rfl,rfl,_,rfl,?_]]];rw[J8];have q:=O [some (.int (s:Int))] B rfl (aS.trans J);have G:if decide (r s<sz s)=true then R (.int (s:Int)) _ B else S _ B:=q;have e:decide (((r s:Nat):Int)<(((bits s).length:Nat):Int))=decide (r s<sz s):=LS.mpr #[λz=>by show r s<(bits s).length;lia,λz=>by have:r s<(bits s).length:=z;lia];rw[e];show if decide (r s<sz s)=true then _ else _;by_cases m:decide (r s<sz s)=true
  .rw[J5 m]at G⊢;exact#[_,rfl,G]
  .rw[J4 m]at G⊢;exact G
 replace o:=o.trans (K3 (λl=>some (HO.lst l)) (bK (λz:Int=>decide (r z.toNat<sz z.toNat)) (λz:Int=>z) (bY (dJ n 3))));rw[show(λz:Int=>z)=id from rfl,MS,eo]at o;have eL:((dJ n 3).filter λs:Nat=>decide (r (s:Int).toNat<sz (s:Int).toNat))=fv n r:=rfl;rw[eL]at o;have lL:(fv n r).length<=1000:=Kd (Lu _ _) (Kd (pG n 3 b) ∅);refine#[_,rfl,((2^n-1:Nat):Int),((2:Nat):Int),rfl,(),(),λp4 B J dE ar=>#[p4,rfl,#[_,SqL.of ar],?_]];rw[J8,j3 b]at ar;refine b9 (λx=>(λ_=>true) (bI x)) (λx=>V.bl ((λz:Int=>decide (((fv n r).filter λt=>decide (z.toNat&&&t=z.toNat)).length=1)) (bI x))) (SqL.of ar) (by rw[J2,bQ];exact Kd (pG n 2 b) ∅) (λi x vs H' R S hx hv u O=> ?_) λD H' hD u hl=> ?_
 .obtain⟨v,rfl⟩:=bH hv;obtain⟨z,rfl,hz⟩:=bL hx;obtain⟨s,hs,rfl⟩:=dA (Km hz);simp only[bD,iM,J5];refine#[_,rfl,_,rfl,pl,s,fv n r,rfl,SqL.of ((J.trans u).at o),lL,λq H5 c8 d0 cM=>#[q,_,rfl, .inl (SqL.of cM),rfl,?_]];have qq:=O [some (.int (s:Int))] H5 rfl c8;rw[J5 rfl]at qq;rw[J2,bQ];have e:=aX ((fv n r).filter λt=>decide (s&&&t=s)).length 1;have e':decide (V.int ((((fv n r).filter λt=>decide (s&&&t=s)).length:Nat):Int)=V.int 1)=decide (((fv n r).filter λt=>decide (s&&&t=s)).length=1):=e;rw[e'];exact qq
 replace hl:=hl.trans (K3 (λl=>some (HO.lst l)) (nR (λz:Int=>decide (((fv n r).filter λt=>decide (z.toNat&&&t=z.toNat)).length=1)) (bY (dJ n 2))));refine#[D,_,rfl,SqL.of hl,?_];rw[xN];have:=k H' (aE.trans (bN.trans (aS.trans (J.trans u))));unfold bT at this;rw[J3 hn,J3 cL,Lo,Lo]at this;exact this
theorem sc_kind_of:aK ["house"] ["house"] (aw s_kind_of):=sc_of
theorem yK{Z:Hs}{m C_House:Addr}{j:Nat}(i:gI Z)(D:bw K mg "kind_of" s_kind_of ["house"])(hj:4<=j){t1 t2 t3 t4 t5:Tok}(ai:mg "TWO_OF_FOUR"=some (.str eT t1))(aj:mg "TWO_OF_FIVE"=some (.str bz t2))(ab:mg "THREE_OF_FIVE"=some (.str a6 t3))(ar:mg "SEVEN"=some (.str d9 t4))(ak:mg "OTHER_SEVEN"=some (.str bA t5))
  (t:Cal P w K mg base (j+2) "is_even" ["house","n","k"] (wd Z)) (ay:yk P w K mg base (j+1) "Other" m ["self","house"] (we Z m)) (U:Cal P w K mg base (j+3) "is_seven" ["house"] (si (hsO Z m))):Cal P w K mg base (j+4) "kind_of" ["house"] (wc Z):=by
 refine D.cal sc_kind_of (λvs H Q E h=>by obtain⟨a,n,r,rfl,_⟩:=h;rfl) λf cdv A outer cg H vs Q E c h=> ?_;obtain⟨a,n,r,rfl,hX,d,rk,k⟩:=h;refine#[_,(ah (bo (dD (wcal t c (ae (pv 0) (ae af (ae af aq)))))
     (ao (aH (eg (v:= .str eT) ⋯ ai #[_,rfl])))
     aO)
   (ah (bo (dD (wcal t c (ae (pv 0) (ae af (ae af aq)))))
     (ao (aH (eg (v:= .str bz) ⋯ aj #[_,rfl])))
     aO)
   (ah (bo (dD (wcal t c (ae (pv 0) (ae af (ae af aq)))))
     (ao (aH (eg (v:= .str a6) ⋯ ab #[_,rfl])))
     aO)
   (ah (bo (dD (wcal U c (ae (pv 0) aq)))
     (ao (aH (eg (v:= .str d9) ⋯ ar #[_,rfl])))
     aO)
   (ah (bo (dD (wcal U c (ae (uC ay c () ⋯ (ae (pv 0) aq)) aq)))
     (ao (aH (eg (v:= .str bA) ⋯ ak #[_,rfl])))
     aO)
   (ao (aH iw))))))),?_]
 unfold fJ at k;refine#[_,rfl,a,n,4,2,r,rfl,hX,d,λH1 g=>#[_,rfl,cG (λu=> ?_) λu=> ?_]]
 .have:=k H1 g;rw[J5 u]at this;exact this
 rw[J4 u]at k;have aC:=i.same g hX;refine#[_,rfl,a,n,5,2,r,rfl,aC,d,λH2 l=>#[_,rfl,cG (λx=> ?_) λx=> ?_]]
 .have:=k H2 (g.trans l);rw[J5 x]at this;exact this
 rw[J4 x]at k;have aE:=i.same l aC;refine#[_,rfl,a,n,5,3,r,rfl,aE,d,λH3 p=>#[_,rfl,cG (λy=> ?_) λy=> ?_]]
 .have:=k H3 (g.trans (l.trans p));rw[J5 y]at this;exact this
 rw[J4 y]at k;have aS:=i.same p aE;refine#[_,rfl,a,n,r,rfl, .inl aS,d,λN L=>#[_,rfl,cG (λz=> ?_) λz=> ?_]]
 .have:=k N (g.trans (l.trans (p.trans L)));rw[J5 z]at this;exact this
 rw[J4 z]at k;have a0:=i.same L aS;have a5:=g.trans (l.trans (p.trans L));refine#[_,rfl,λJ aA G a3 cb=>#[J,aA,a,n,r,rfl,av,i.same (nH G a3) a0,d,λq b1 bX=>#[rfl,?_]]];have M:Same N q:=λb o e=>b1 b o (by rw[aJ (aM e G),aJ (aM e a3)];exact e) (aM e G);have hO:JF m q (Z.ho q) J n (gF n r):=#[aA,a,r,bX,i.same M a0,λs hs=>by have:=rk.unit s hs;unfold gF;lia]
 refine#[J,n,gF n r,rfl, .inr hO,d,λO a4=>#[_,rfl,cG (λB=> ?_) λB=> ?_]]
 .have:=k O (a5.trans (M.trans a4));rw[J5 B]at this;exact this
 .have:=k O (a5.trans (M.trans a4));rw[J4 B]at this;exact this
theorem sc_Known_rank:aK ["self","s"] ["self","s"] (aw s_Known_rank):=sc_of
theorem rT(D:iL K "rank" "Known.rank" s_Known_rank ["self","s"] f)(b:Cls K C)(i:b7 K C "told"):iB P w K mg base 1 f ["self","s"] (An C):=by refine D.fn sc_Known_rank (λvs H Q E h=>by obtain⟨a,n,s,r,rfl,_⟩:=h;rfl) λcdv A outer m H vs Q E j h=> ?_;obtain⟨a,n,s,r,rfl,⟨c,t,d,g⟩,l,e,k⟩:=h;refine#[_,(ao (aH (kS K (wfld K (pv 0)) (pv 1)))),?_];refine#[_,rfl,a,C,c,_,_,rfl,d,b,i,Eg _ _,?_];exact#[_,rfl,t,_,_,_,rfl,rfl,SqT.of g,jS (by unfold fZ;rw[Kv,LG e];rfl),k]
theorem sc_Known___init__:aK ["self","house"] ["self","house"] (aw s_Known___init__):=sc_of
theorem mx{Z:Hs}(T:Tb K mg)(D:iL K "__init__" "Known.__init__" s_Known___init__ ["self","house"] f)(L:mg "House"=some (.ref C_House))(m:Cls K C)(n1:b7 K C "many")(n2:b7 K C "told")
  (z:gI Z) (hc:∀C,Z.dom C->HC K C_House C) (J:Fc P w K mg base 1 C_House "__init__" ["self","n"] (lO K)) (M:Cal P w K mg base 7 "ranks" ["house"] (vY Z)):
  iB P w K mg base 8 f ["self","house"] (As Z C):=by
 refine D.fn sc_Known___init__ (λvs H Q E h=>by obtain⟨p,c,h,n,r,rfl,_⟩:=h;rfl) λcdv A outer bk H vs Q E y h=> ?_;obtain⟨p,c,h,n,r,rfl,hp,u,n8,k⟩:=h;refine#[_,(ah (cR (pe J y ∅ (eg (v:= .ref C_House) ⋯ L rfl) (ae (pv 0) (ae (wfld K (pv 1)) aq))))
   (ao (wsf K (pv 0) (iY (j5 (K:=K) ⋯) ⋯ T.tuple_ NP (ae (wcal M y (ae (pv 1) aq)) aq))))),?_]
 obtain⟨i,O,B⟩:=z.shown u;have ak:h≠p:=pW B;obtain⟨s,fs,aj,a4,a3,U⟩:=B.ex;have hh:H h=some (.ins i s fs):=(dR (H:=H) ak).symm.trans aj;obtain⟨N,aE,bj,bb⟩:=hc i O;refine#[rfl,_,rfl,_,rfl,h,i,s,fs,_,rfl,hh,N,aE,U,p,C,c,_,rfl,hp,m,n1,?_];have aS:∀ {o:HO},Same (hide H p) (upd H p o):=λ{o} b o' e=>by
  unfold hide at e;split at e
  .cases e
  .rename_i d;rw[aJ d];exact e
 refine#[_,rfl,h,n,r,rfl,z.same aS u,n8,λq H2 j hq ar=> ?_];refine#[q,_,rfl, .inl #[SqL.of ar,λt g=> ?_]];have x:=j.at (av (H:=H) (a:=p) (o:= .ins C c (di "many" (.int (n:Int)) [])));have l:t≠p:=λe=>by rw[e,x]at g;cases g
 have G:H t=none:=by
  cases e:H t with
  |none=>rfl
  |some o=>rw[j.at (by rw[aJ l];exact e)]at g;cases g
 refine#[_,rfl,p,C,c,_,rfl,(by rw[aJ l.symm];exact x),m,n2,?_,?_]
 .exact Ks (aZ _ _ _) (by show 0+1<1000;decide)
 refine k t _ G (λb o e d=> ?_) (by rw[aJ l,av]) av;rw[aJ d,aJ (aM e G)];exact j.at (by rw[aJ d];exact e)
theorem sc_ranks:aK ["house"] ["house"] (aw s_ranks):=sc_of
theorem DQ{Z:Hs}(z:gI Z)(D:bw K mg "ranks" s_ranks ["house"])(U:∀C,Z.dom C->HC K C_House C)(G:∀C,Z.dom C->dn P w K mg base 6 C "rank" ["self","s"] (iN Z C))(y:∀C,Z.dom C->dn P w K mg base 2 C "everything" ["self"] (dQ K))
  (B:Cal P w K mg base 3 "parts" ["s"] o5):Cal P w K mg base 7 "ranks" ["house"] (vY Z):=by
 refine D.cal sc_ranks (λvs H Q E h=>by obtain⟨a,n,r,rfl,_⟩:=h;rfl) λf cdv A outer bb H vs Q E m h=> ?_;obtain⟨a,n,r,rfl,o,t,k⟩:=h;refine#[_,(ao (aH (wlc ["s"] ["house"] [0] (wil K (wcal B m (ae (eX y m ∅ (pv 0)) aq))) (wnC 0) cP (fP G m ∅ (pv 1) (ae (pv 0) aq))))),?_];have p8:=kM t;have a5:0<2^n:=Mf ();obtain⟨C,g,ar⟩:=z.shown o;obtain⟨d,fs,hh,fr,L,M⟩:=ar.ex;obtain⟨J,nM,ty,a4⟩:=U C g;refine#[_,rfl,a,_,d,fs,rfl,hh,g,L,a,_,d,fs,(n:Int),rfl,hh,J,nM,M,(),(),?_];rw[gH];refine#[_,rfl,(),(),λp H1 c a3 j=>#[p,rfl,#[_,SqL.of j],?_]];rw[J8,nP n ()]at j;refine b9 (λx=>(λ_=>true) (bI x)) (λx=> .int ((λz:Int=>((r z.toNat:Nat):Int)) (bI x))) (SqL.of j) (by rw[J2,J2,Kq];exact Kd p8 ∅) (λi x vs H' R S hx hv b hk=> ?_) λD H' O b hl=> ?_
 .obtain⟨v,rfl⟩:=bH hv;obtain⟨z,rfl,hz⟩:=bL hx;obtain⟨s,hs,rfl⟩:=Ka.mp (Km hz);have ak:=J9.mp hs;simp only[bD,iM,J5];have N:=z.same b (z.same c o);refine#[_,rfl,a,_,d,fs,rfl,b.at (c.at hh),g,fr,_,rfl,a,n,s,r,rfl,N,#[d,fs,b.at (c.at hh)],t,ak,λu aS=> ?_];have q:=hk [some (.int (s:Int))] u rfl aS;rw[J5 rfl]at q;exact q
 replace hl:=hl.trans (K3 (λl=>some (HO.lst l)) (bK (λ_=>true) (λz:Int=>((r z.toNat:Nat):Int)) ((List.range (2^n)).map λk:Nat=>(k:Int))));have e:List.map (λz:Int=>((r z.toNat:Nat):Int)) (List.map (λk:Nat=>(k:Int)) (List.range (2^n)))=fZ n r:=by unfold fZ;rw[K5];rfl
 rw[LM.mpr (λ_ _=>rfl),e]at hl;exact k D H' (c.trans b) (c.free O) hl
theorem sc__law_whole:aK ["_law_found"] ["_law_found"] (aw s__law_whole):=sc_of
theorem rJ(T:Tb K mg)(D:bw K mg "_law_whole" s__law_whole ["_law_found"]):Cal P w K mg base 1 "_law_whole" ["_law_found"] ui:=by refine D.cal sc__law_whole (λvs H Q E h=>by obtain⟨i,rfl,_⟩:=h;rfl) λf cdv A outer b H vs Q E a h=> ?_;obtain⟨i,rfl,k⟩:=h;refine#[_,(ao (aH (yD (dX (eD (K:=K) ⋯) ⋯ T.isinstance_ Mt (ae (pv 0) (ae (kh (v:= .ty "int") ⋯ T.int_ PyProof.Rows.boot_int rfl) aq))) (yC (Ic (dX (eD (K:=K) ⋯) ⋯ T.isinstance_ Mt (ae (pv 0) (ae (kh (v:= .ty "bool") ⋯ T.bool_ PyProof.Rows.boot_bool rfl) aq)))))))),?_];refine#[_,rfl,_,_,_,true,rfl, .int _,T.kII,true,rfl,nX ?_];exact#[_,rfl,_,_,_,false,rfl, .int _,T.kIB,false,rfl,k]
theorem sc__law_size:aK ["_law_s","_law_many"] ["_law_s"] (aw s__law_size):=sc_of
theorem uN(D:bw K mg "_law_size" s__law_size ["_law_s"]):Cal P w K mg base 1 "_law_size" ["_law_s"] gY:=by
 refine D.cal sc__law_size (λvs H Q E h=>by obtain⟨s,rfl,_⟩:=h;rfl) λf cdv A outer J H vs Q E z h=> ?_;obtain⟨s,rfl,t,y,k⟩:=h;refine#[_,(ah (wset 1 sc__law_size.nd af)
   (ah (DE PassesOwn.never (wpt mq (pv 0) af)
     (ah (wset 1 sc__law_size.nd (ax dz (pv 1) (ax cj (pv 0) af)))
     (ao (wset 0 sc__law_size.nd (ax hU (pv 0) af)))))
   (ao (aH (pv 1))))),?_]
 refine#[λm g a=>a=H/\∃ (n c:Nat),n<256/\n=m/\c+(bits n).length=(bits s.toNat).length/\g=[some (.int (n:Int)),some (.int (c:Int))],#[s.toNat,rfl,s.toNat,0,(),rfl,(),?_],?_]
 .show [some (V.int s),some (.int 0)]=_;rw[Int.toNat_of_nonneg t];rfl
 .intro m g a v;obtain⟨e,n,c,u,p,d,r⟩:=v;subst e p r;refine#[_,rfl,_,_,rfl,rfl,_,rfl,cG (λb=> ?_) λb=> ?_]
  .have G:0<n:=by have:=Ko b;lia
   have B:=Bt n u;refine#[λi H'=>H'=a/\i=[some (.int ((n/2:Nat):Int)),some (.int ((c+n % 2:Nat):Int))],λi H' q=>#[n/2,(),q.1,n/2,c+n % 2,(),rfl,(),q.2],?_];refine#[_,rfl,_,rfl,_,_,rfl,rfl,(by show(0:Int)<2;decide),_,_,rfl,rfl,?_];refine#[_,rfl,_,_,rfl,rfl,#[∅,∅],rfl,?_];show [some (V.int ((n:Int) /2)),some (V.int ((c:Int)+(n:Int) % 2))]=_;have l:(n:Int) /2=((n/2:Nat):Int):=()
   have o:(c:Int)+(n:Int) % 2=((c+n % 2:Nat):Int):=()
   rw[l,o]
  .have x:n=0:=by have:=of_decide_eq_false (Mg.mpr b);lia
   subst x;have j:(bits 0).length=0:=by decide+kernel
   rw[j,Nat.add_zero]at d;refine#[_,rfl,?_];rw[d];exact k
theorem sc__law_far:aK ["_law_cells","_law_many","_law_rank","_law_some","_law_picked","_law_cell","_law_one","_law_near"] ["_law_cells","_law_many","_law_rank"] (aw s__law_far):=sc_of
theorem w4(T:Tb K mg)(D:bw K mg "_law_far" s__law_far ["_law_cells","_law_many","_law_rank"])(aa:Cal P w K mg base 1 "_law_size" ["_law_s"] gY):Cal P w K mg base 2 "_law_far" ["_law_cells","_law_many","_law_rank"] (GL K):=by
 refine D.cal sc__law_far (λvs H Q E h=>by obtain⟨a,cs,n,r,rfl,_⟩:=h;rfl) λf cdv A outer d5 H vs Q E hr h=> ?_;obtain⟨a,cs,n,r,rfl,ha,cO,dw,hn,c8,k⟩:=h;refine#[_,(ah (wls 3 sc__law_far.nd ["_law_s"] ["_law_rank"] [2] (wrng T.range_ (ax cW af (pv 1))) (wnC 0) (cZ (wpt a8 (wcal aa hr (ae (pv 0) aq)) (pv 1))) (pv 0))
   (ah (wset 4 sc__law_far.nd (cS aq))
   (ah (bo (PW.pt (dy (wpt mq (pv 2) af) (dy (wpt oG (pv 2) (pv 1)) (ee (wpt mq (ax cj (ax cj (ax gO (dh K (pv 0) af) af) af) af) af)))))
     (ao (wfor (wil K (jR (jI (K:=K) ⋯) (pv 0) ma (lZ (ax cj (ax hU (ax cj (ax gO (dh K (pv 0) af) af) af) af) (wlen K T.len_ (pv 0)))))) (wname 5 sc__law_far.nd)
       (ah (wset 6 sc__law_far.nd (dh K (pv 3) (ax cj (ax cj (ax gO (pv 5) af) af) (wlen K T.len_ (pv 3)))))
       (ah (wls 7 sc__law_far.nd ["_law_s"] ["_law_rank","_law_one"] [2,6] (wil K (pv 4)) (wnC 0) (cZ (wpt mq (wcal aa hr (ae (ax eQ (pv 0) (pv 2)) aq)) (ax fq (pv 1) af))) (pv 0))
       (ao (bo (wpt a8 (wlen K T.len_ (pv 7)) af)
         (ao (cR (fo (K:=K) ⋯ Lh Lm Ln cF (pv 4) (ae (pv 6) aq))))
         aO))))))
     aO)
   (ao (aH (wlc ["_law_s"] ["_law_picked"] [4] (wil K (pv 3)) (wnC 0) (cZ (lY (gy (K:=K) ⋯) (pv 0) (pv 1) ⋯)) (pv 0))))))),?_]
 have p8:=k4 hn;have d3:=two_pow_pos n;refine#[_,rfl,_,_,rfl,rfl,#[(),(),∅],_,rfl,?_];rw[cQ];refine#[(),(),?_];rw[J8];refine dN (λi=>decide (sz i=r)) (λi=> .int (0+(i:Nat))) (Kd p8 ∅) (λi vs H' R S hi hv sm hk=> ?_) λp3 H1 dV bE aA=> ?_
 .obtain⟨v,rfl⟩:=bH hv;have q:=hk [some (.int (0+(i:Nat)))] H' rfl (Same.refl _);refine#[_,rfl,_,rfl,(),(),_,rfl,rfl,_,rfl,?_];have e:(0+(i:Int)).toNat=i:=()
  rw[e];have e2:decide (V.int ((((bits i).length:Nat):Int))=V.int (r:Int))=decide (sz i=r):=by
   by_cases h:sz i=r
   .have h':(bits i).length=r:=h;rw[J3 h,h',J3 rfl]
   .rw[J6 h,J6 λz=>h (by have:=V.int.inj z;show(bits i).length=r;lia)]
  rw[e2];show if decide (sz i=r)=true then _ else _;by_cases d:decide (sz i=r)=true
  .rw[J5 d]at q⊢;exact#[_,rfl,q]
  .rw[J4 d]at q⊢;exact q
 rw[ix]at aA;generalize a0:(List.map (λs:Nat=>(s:Int)) (List.filter (λi=>decide (sz i=r)) (List.range (2^n))))=b at aA;have ck:∀z∈b,∃s:Nat,s<2^n/\z=s:=λz g=>by rw[<-a0]at g;obtain⟨s,hs,rfl⟩:=Ka.mp g;exact#[s,J9.mp (Kx.mp hs).1,rfl]
 have dk:b.length<=256:=by rw[<-a0,J2];exact Kd (Lu _ _) (by rw[Kq];exact p8)
 have d4:0<b.length:=by
  obtain⟨s,h1,h2,_⟩:=Ad (ps:=[]) hn c8 (.inl rfl);have:(s:Int)∈b:=by rw[<-a0];exact Ka.mpr #[s,Kx.mpr #[J9.mpr h1,J3 h2],rfl]
  exact Nl this
 refine#[Ls _,λq hq=> ?_];have cn:Same H1 (upd H1 q (.lst [])):=Same.new hq;have aE:upd H1 q (.lst []) q=some (.lst (([]:List Int).map V.int)):=av;have b2:=cn.at aA;have bM:Same H (upd H1 q (.lst [])):=bE.trans cn;have c5:H q=none:=bE.free hq;generalize upd H1 q (.lst [])=H2 at*;(try dsimp only);refine sG (λct H'=>∃ (ps:List Int) (B G J:Option V),Same H H'/\H' p3=some (.lst (b.map V.int))/\H' q=some (.lst (ps.map V.int))/\(ps=[]\/(0<r/\r<n/\Far r ps))/\
  ct=[some (.ref a),some (.int (n:Int)),some (.int (r:Int)),some (.ref p3),some (.ref q),B,G,J]) ?_ ?_
 .rintro ct H' ⟨ps,B,G,J,cp,p,L,U,rfl⟩;refine#[_,rfl,p3,rfl,#[_,SqL.of p],?_];refine b9 (λx=>(λz:Int=> !decide (z∈ps)) (bI x)) (λx=> .int ((λz:Int=>z) (bI x))) (SqL.of p) (by rw[J2];exact Kd dk ∅) (λi x vs m R S hx hv sm hk=> ?_) λD m hD sm hl=> ?_
  .obtain⟨v,rfl⟩:=bH hv;obtain⟨z,rfl,g⟩:=bL hx;have qq:=hk [some (.int z)] m rfl (Same.refl _);refine#[_,rfl,_,rfl,q,_,rfl, .inl (SqL.of (sm.at L)),rfl,oa _,_,rfl,?_];have t:if(!decide (z∈ps))=true then R (.int z) _ m else S _ m:=qq;show if(!inV (.int z) (ps.map V.int))=true then _ else _;rw[qD];by_cases d:(!decide (z∈ps))=true
   .rw[J5 d]at t⊢;exact#[_,rfl,t]
   .rw[J4 d]at t⊢;exact t
  replace hl:=hl.trans (K3 (λl=>some (HO.lst l)) (bK (λz:Int=> !decide (z∈ps)) (λz:Int=>z) b));rw[show(λz:Int=>z)=id from rfl,MS]at hl;refine k D m ps (cp.trans sm) (cp.free hD) (hl.trans ?_) U;have e:b.filter (λz:Int=> !decide (z∈ps))=du n r ps:=by rw[<-a0];unfold du;rw[MW,MF];refine K3 (List.map λs:Nat=>(s:Int)) (Li λs _=> ?_);unfold lF;show((!decide ((s:Int)∈ps))&&decide (sz s=r))=_;rw[NA];by_cases h:(s:Int)∈ps<;>simp[h]
  rw[e]
 .intro aS;have stop:∀H',H'=H2->(∃ (ps:List Int) (B G J:Option V),Same H H'/\H' p3=some (.lst (b.map V.int))/\H' q=some (.lst (ps.map V.int))/\(ps=[]\/(0<r/\r<n/\Far r ps))/\
   [some (V.ref a),some (.int (n:Int)),some (.int (r:Int)),some (.ref p3),some (.ref q),none,none,none]=[some (V.ref a),some (.int (n:Int)),some (.int (r:Int)),some (.ref p3),some (.ref q),B,G,J]):=λH' e=>by
   subst e;exact#[[],none,none,none,bM,b2,aE, .inl rfl,rfl]
  have bX:atI (cs.map V.int) 0=some (.int (cs.getD 0 0)):=cY (j:=0) cO;have ay:=bM.seq ha;refine#[_,rfl,_,_,rfl,rfl,_,rfl,cG (λd=> ?_) λd=>eZ (aS _ _ (stop _ rfl))];have r0:0<r:=by have:=Ko d;lia
  refine#[_,rfl,_,rfl,_,_,rfl,rfl,_,rfl,cG (λd=> ?_) λd=>eZ (aS _ _ (stop _ rfl))];have r1:r<n:=by have:=Ko d;lia
  refine#[_,rfl,a,_,_,_,rfl,rfl,ay,bX,_,_,rfl,rfl, .inr #[∅,∅],_,_,rfl,rfl,(by show(0:Int)<65521;decide),_,_,rfl,rfl,(by show(0:Int)<3;decide),_,_,rfl,rfl,_,rfl,cG (λd=> ?_) λd=>aS _ _ (stop _ rfl)];refine#[_,rfl,_,rfl,a,_,_,_,rfl,rfl,ay,bX,_,_,rfl,rfl, .inr #[∅,∅],_,_,rfl,rfl,(by show(0:Int)<65521;decide),_,_,rfl,rfl,#[∅,∅],_,rfl,a,_,rfl, .inl ay,_,_,rfl,rfl,?_,_,rfl,a,_,rfl,ay,λM b5=> ?_]
  .show(0:Int)<(((cs.map V.int).length:Nat):Int);rw[J2];lia
  obtain⟨O,ed,dx⟩:=EI cs none (some (cs.getD 0 0*16807 % 65521/3 % (((cs.map V.int).length:Nat):Int)));rw[ed];have b6:upd H2 M (.lst (O.map V.int)) M=some (.lst (O.map V.int)):=av;have bN:Same H2 (upd H2 M (.lst (O.map V.int))):=Same.new b5;generalize upd H2 M (.lst (O.map V.int))=H3 at*;have c6:q≠p3:=λe=>by have h1:=bE.free hq;rw[e]at h1;have:=hq;rw[e,aA]at this;cases this
  have c7:q≠M:=λe=>by rw[e,b5]at aE;cases aE
  refine#[M,rfl,#[_,SqL.of b6],?_];refine cD (K:=K) (a:=M) (xs:=O.map V.int) (λi σ H'=>∃ (ps:List Int) (B G J:Option V),Same H H'/\H' p3=some (.lst (b.map V.int))/\H' M=some (.lst (O.map V.int))/\H' q=some (.lst (ps.map V.int))/\ps.length<=i/\(∀z∈ps,z∈b)/\Far r ps/\
   σ=[some (.ref a),some (.int (n:Int)),some (.int (r:Int)),some (.ref p3),some (.ref q),B,G,J])
   #[[],none,none,none,bM.trans bN,bN.at b2,b6,bN.at aE,Kk _,(λz g=>by cases g),Gk _,rfl] (λi σ H' _ ⟨_,_,_,_,_,_,h,_⟩=>SqL.of h) ?_ ?_
  .rintro i y σ H' hi ⟨ps,B,G,J,a5,p,bk,L,c3,a3,U,rfl⟩;obtain⟨c,rfl,c1⟩:=bL hi;have dE:i<O.length:=(Kh.mp c1).1;have cg:(0:Int)<(((b.map V.int).length:Nat):Int):=by rw[J2];lia
   have j0:0<=c*48271 % 2147483647 % (((b.map V.int).length:Nat):Int):=Me _ ();have j1:c*48271 % 2147483647 % (((b.map V.int).length:Nat):Int)<(((b.map V.int).length:Nat):Int):=Mb _ cg;obtain⟨j,hj⟩:=LV j0;have ai:j<b.length:=by rw[hj,J2]at j1;lia
   have cu:atI (b.map V.int) (c*48271 % 2147483647 % (((b.map V.int).length:Nat):Int))=some (.int (b[j]'ai)):=by rw[hj];exact jS (by simp[ai])
   refine#[_,rfl,_,rfl,_,_,rfl,rfl, .inr #[∅,∅],_,_,rfl,rfl,(by show(0:Int)<2147483647;decide),_,rfl,p3,_,rfl, .inl (SqL.of p),_,_,rfl,rfl,cg,p3,_,_,_,rfl,rfl,SqL.of p,cu,?_];have b4:b[j]'ai∈b:=LD ai;generalize b[j]'ai=one at*;obtain⟨o,ho,rfl⟩:=ck one b4;have d2:o<256:=Kb ho p8;refine#[_,rfl,q,rfl,#[_,SqL.of L],?_];refine b9 (λx=>(λz:Int=>decide ((sz (z.toNat&&& (o:Int).toNat):Int)>(r:Int) -2)) (bI x)) (λx=> .int ((λz:Int=>z) (bI x))) (SqL.of L) (by rw[J2];exact Kd (show ps.length<=64 by lia) ∅) (λi x vs m R S hx hv sm hk=> ?_) λpn H4 d0 N aB=> ?_
   .obtain⟨v,rfl⟩:=bH hv;obtain⟨z,rfl,g⟩:=bL hx;obtain⟨u,hu,rfl⟩:=ck z (a3 z (Km g));have qq:=hk [some (.int (u:Int))] m rfl (Same.refl _);have ea:Builtin.bitAnd (u:Int) (o:Int)=((u&&&o:Nat):Int):=by rw[eI (Lv _) (Lv _),J8,J8]
    have la:u&&&o<256:=EX (Kb hu p8);refine#[_,rfl,_,rfl,_,_,rfl,rfl,Builtin.bitAnd (u:Int) (o:Int),rfl,(by rw[ea];lia),(by rw[ea];lia),_,rfl,_,_,rfl,rfl,_,_,rfl,rfl,_,rfl,?_];rw[ea,J8];have t:if decide ((sz (u&&&o):Int)>(r:Int) -2)=true then R (.int (u:Int)) _ m else S _ m:=qq;show if decide ((sz (u&&&o):Int)>(r:Int) -2)=true then _ else _;by_cases d:decide ((sz (u&&&o):Int)>(r:Int) -2)=true
    .rw[J5 d]at t⊢;exact#[_,rfl,t]
    .rw[J4 d]at t⊢;exact t
   replace aB:=aB.trans (K3 (λl=>some (HO.lst l)) (bK (λz:Int=>decide ((sz (z.toNat&&& (o:Int).toNat):Int)>(r:Int) -2)) (λz:Int=>z) ps));rw[show(λz:Int=>z)=id from rfl,MS]at aB;refine#[_,rfl,pn,_,rfl, .inl (SqL.of aB),rfl,_,rfl,cG (λd=> ?_) λd=> ?_]
   .have h0:(ps.filter λz:Int=>decide ((sz (z.toNat&&& (o:Int).toNat):Int)>(r:Int) -2))=[]:=by have h:=V.int.inj (Ko d);rw[J2]at h;exact Nn ()
    have b8:=N.at L;refine#[_,rfl, .inl #[rfl,_,SqL.of b8],_,rfl,q,_,_,rfl,rfl,b8,(by rw[J2];exact Ks (show ps.length<=64 by lia) ∅),?_];refine#[ps++[(o:Int)],_,_,_,(a5.trans N).upd c5,?_,?_,?_,?_,?_,?_,rfl]
    .rw[aJ c6.symm];exact N.at p
    .rw[aJ c7.symm];exact N.at bk
    .rw[av,KP];rfl
    .rw[Kz];show ps.length+1<=i+1;lia
    .intro z g;rcases KC.mp g with g|g
     .exact a3 z g
     .have:z=(o:Int):=by simpa using g
      rw[this];exact b4
    .refine Ey U λz g c2=> ?_;have:z∈ps.filter λz:Int=>decide ((sz (z.toNat&&& (o:Int).toNat):Int)>(r:Int) -2):=Kx.mpr #[g,J3 c2];rw[h0]at this;cases this
   .exact#[ps,_,_,_,a5.trans N,N.at p,N.at bk,N.at L,(),a3,U,rfl]
  .rintro σ H' ⟨ps,B,G,J,a5,p,bk,L,c3,a3,U,rfl⟩;exact aS _ _ #[ps,B,G,J,a5,p,L, .inr #[r0,r1,U],rfl]
theorem sc__law_ranks:aK ["_law_many","_law_told","_law_levels","_law_s","_law_rank","_law_k"] ["_law_many","_law_told"] (aw s__law_ranks):=sc_of
theorem rN(T:Tb K mg)(D:bw K mg "_law_ranks" s__law_ranks ["_law_many","_law_told"])(aa:Cal P w K mg base 1 "_law_size" ["_law_s"] gY):Cal P w K mg base 2 "_law_ranks" ["_law_many","_law_told"] (v9 K):=by
 refine D.cal sc__law_ranks (λvs H Q E h=>by obtain⟨a,ms,n,rfl,_⟩:=h;rfl) λf cdv A outer cu H vs Q E hr h=> ?_;obtain⟨a,ms,n,rfl,ha,bX,bS,bN,hn,k⟩:=h;refine#[_,(ah (wset 2 sc__law_ranks.nd (cS aq))
   (ah (wfor (wrng T.range_ (ax cW af (pv 0))) (wname 3 sc__law_ranks.nd)
     (ah (wset 4 sc__law_ranks.nd af)
     (ah (bo (wpt mq (wlen K T.len_ (wlc ["_law_one"] ["_law_s"] [3] (wil K (pv 1)) (wnC 0) (cZ (wpt a8 (ax eQ (pv 0) (pv 1)) (pv 1))) (pv 0))) af)
       (ao (wset 4 sc__law_ranks.nd (wcal aa hr (ae (pv 3) aq))))
       (ao (wfor (wrng T.range_ (pv 0)) (wname 5 sc__law_ranks.nd)
         (ao (bo (wpt a8 (ax eQ (ax gM (pv 3) (pv 5)) af) af)
           (ao (wset 4 sc__law_ranks.nd (dX (CL ⋯) ⋯ T.max_ PyProof.Rows.boot_max (ae (pv 4) (ae (dh K (pv 2) (ax yI (pv 3) (ax cW af (pv 5)))) aq)))))
           aO)))))
     (ao (cR (fo (K:=K) ⋯ Lh Lm Ln cF (pv 2) (ae (pv 4) aq)))))))
   (ao (aH (pv 2))))),?_]
 have p8:=k4 hn;have cp:=two_pow_pos n;refine#[Ls _,λq hq=> ?_];refine#[_,rfl,_,_,rfl,rfl,#[(),(),∅],_,rfl,?_];rw[cQ];refine#[(),(),?_];rw[J8];refine cx (n:=2^n) (λi d g=>∃ (v3 v4 c:Option V),Same H g/\g q=some (.lst (((List.range i).map λs=>((cw ms s:Nat):Int)).map V.int))/\d=[some (.int (n:Int)),some (.ref a),some (.ref q),v3,v4,c])
  #[none,none,none,Same.new hq,av,rfl] ?_ ?_
 .rintro i d g hi ⟨v3,v4,c,y,u,rfl⟩;generalize U:((List.range i).map λs=>((cw ms s:Nat):Int))=r at u;have b5:r.length=i:=by rw[<-U,J2,Kq]
  have bt:∀t,t<i->r.getD t 0=((cw ms t:Nat):Int):=λt ht=>by rw[<-U,Kc,Kv,LG ht];rfl
  have ai:i<256:=()
  refine Dr (λa0 H'=>∃c:Option V,Same g H'/\a0=[some (.int (n:Int)),some (.ref a),some (.ref q),some (.int (0+(i:Nat))),some (.int ((cw ms i:Nat):Int)),c]) ?_ ?_
  .rintro a0 H' ⟨c,aS,rfl⟩;have J:=aS.at u;refine#[_,rfl, .inl #[rfl,_,SqL.of J],_,rfl,q,_,_,rfl,rfl,J,(by rw[J2,b5];exact N7 ai ∅),?_];refine#[_,_,_,(y.trans aS).upd hq,?_,rfl];rw[av,LX,KP,U,KP];rfl
  .intro aC;have e0:(0+(i:Int)).toNat=i:=()
   refine#[_,rfl,a,rfl,#[_,y.seq ha],?_];refine b9 (λx=>(λm:Int=>decide (m.toNat&&&i=i)) (bI x)) (λx=> .int ((λz:Int=>z) (bI x))) (y.seq ha) (by rw[J2];exact Kd bN ∅) (λj x vs H' R S hx hv sm hk=> ?_) λpn H3 ck aj G=> ?_
   .obtain⟨v,rfl⟩:=bH hv;obtain⟨m,rfl,p⟩:=bL hx;obtain⟨m0,m1⟩:=bS m (Km p);have qq:=hk [some (.int m)] H' rfl (Same.refl _);have ea:Builtin.bitAnd m (0+(i:Int))=((m.toNat&&&i:Nat):Int):=by rw[eI m0 (),e0]
    refine#[_,rfl,_,rfl,_,_,rfl,rfl,_,rfl,rfl,_,rfl,?_];show if decide (V.int (Builtin.bitAnd m (0+(i:Int)))=V.int (0+(i:Int)))=true then _ else _;rw[ea];have N:decide (V.int ((m.toNat&&&i:Nat):Int)=V.int (0+(i:Int)))=decide (m.toNat&&&i=i):=by rw[Lk];exact aX _ _
    rw[N];have L:if decide (m.toNat&&&i=i)=true then R (.int m) _ H' else S _ H':=qq;show if decide (m.toNat&&&i=i)=true then _ else _;by_cases o:decide (m.toNat&&&i=i)=true
    .rw[J5 o]at L⊢;exact#[_,rfl,L]
    .rw[J4 o]at L⊢;exact L
   replace G:=G.trans (K3 (λl=>some (HO.lst l)) (bK (λm:Int=>decide (m.toNat&&&i=i)) (λz:Int=>z) ms));rw[show(λz:Int=>z)=id from rfl,MS]at G;refine#[pn,_,rfl, .inl (SqL.of G),_,_,rfl,rfl,_,rfl,cG (λo=> ?_) λo=> ?_]
   .have bB:∃m∈ms,m.toNat&&&i=i:=by
     have h:=Ko o;rw[J2]at h;have:0<(ms.filter λm:Int=>decide (m.toNat&&&i=i)).length:=()
     obtain⟨m,p⟩:=List.exists_mem_of_length_pos this;exact#[m,(Kx.mp p).1,Ko (Kx.mp p).2]
    refine#[_,rfl,_,rfl,(),(),?_];refine aC _ _ #[c,aj,?_];rw[e0,<-Ju bB];rfl
   .have b0:∀m∈ms,¬(m.toNat&&&i=i):=λm p e=>by have h:=of_decide_eq_false (Mg.mpr o);rw[J2]at h;have:m∈ms.filter λm:Int=>decide (m.toNat&&&i=i):=Kx.mpr #[p,J3 e];have:=Nl this;lia
    refine#[_,rfl,_,rfl,(),(),?_];rw[J8];have J:=aj.at u;refine cx (n:=n) (λj d M=>M=H3/\∃v,d=[some (.int (n:Int)),some (.ref a),some (.ref q),some (.int (0+(i:Nat))),some (.int (fR r i j)),v]) #[rfl,_,rfl] ?_ ?_
    .intro j d M hj hw;obtain⟨O,v,b⟩:=hw;subst b;subst O;refine#[_,rfl,_,rfl,_,_,rfl,rfl,(by show(0:Int)<=0+(j:Int);lia),_,_,rfl,rfl,rfl,_,rfl,?_];have eb:decide (V.int (Builtin.bitAnd ((0+(i:Int)) /2^(0+(j:Int)).toNat) 1)=V.int 1)=i.testBit j:=by rw[Lk];exact ka
     rw[eb];have b:=oJ r i j;refine cG (λB=> ?_) λB=> ?_
     .rw[J5 B]at b;have j8:j<8:=()
      have dl:=jj i ai j j8 B;obtain⟨x1,x2⟩:=oF i ai j j8;have e1:(0+(j:Int)).toNat=j:=()
      have N:(1*2^(0+(j:Int)).toNat:Int)=((2^j:Nat):Int):=by rw[e1,LH];simp
      have ex:Builtin.bitXor (0+(i:Int)) (1*2^(0+(j:Int)).toNat)=((i^^^2^j:Nat):Int):=by unfold Builtin.bitXor;rw[N,Lk,j6 (Lv _) (Lv _),eI (Lv _) (Lv _),J8,J8];lia
      have a5:atI (r.map V.int) (Builtin.bitXor (0+(i:Int)) (1*2^(0+(j:Int)).toNat))=some (.int (r.getD (i^^^2^j) 0)):=by rw[ex];exact cY ()
      refine#[_,rfl,_,rfl,_,rfl,_,rfl,_,_,rfl,rfl,#[(),(),∅],_,_,rfl,rfl,q,_,_,_,rfl,rfl,SqL.of J,a5,_,_,rfl,rfl,some (.int (0+(j:Nat))),?_];rw[b];rfl
     .rw[J4 B]at b;refine#[rfl,some (.int (0+(j:Nat))),?_];rw[b];rfl
    .intro d M hw;obtain⟨O,v,b⟩:=hw;subst b;subst O;refine aC _ _ #[v,aj,?_];rw[F4 hn hi bX b0 bt]
 .rintro d g ⟨v3,v4,c,y,u,rfl⟩;exact#[_,rfl,k q g y hq u]
theorem sc__law_seven:aK ["_law_told","_law_lines","_law_j","_law_k"] ["_law_told"] (aw s__law_seven):=sc_of
theorem rK(T:Tb K mg)(D:bw K mg "_law_seven" s__law_seven ["_law_told"])(aa:Cal P w K mg base 1 "_law_size" ["_law_s"] gY):Cal P w K mg base 2 "_law_seven" ["_law_told"] (vW K):=by
 refine D.cal sc__law_seven (λvs H Q E h=>by obtain⟨a,c,rfl,_⟩:=h;rfl) λf cdv A outer cO H vs Q E hr h=> ?_;obtain⟨a,c,rfl,ha,k⟩:=h;refine#[_,(ah (wls 1 sc__law_seven.nd ["_law_s"] ["_law_told"] [0] (wrng T.range_ af) (wnC 0) (cZ (PW.pt (dy (wpt a8 (wcal aa hr (ae (pv 0) aq)) af) (ee (lY (gy (K:=K) ⋯) (pv 0) (pv 1) ⋯))))) (pv 0))
   (ah (bo (PW.pt (iE (wpt gE (wlen K T.len_ (pv 0)) af) (jh (wpt gE (wlen K T.len_ (pv 1)) af))))
     (ao (aH fE))
     aO)
   (ah (wfor (wrng T.range_ af) (wname 2 sc__law_seven.nd)
     (ao (wfor (wrng T.range_ (pv 2)) (wname 3 sc__law_seven.nd)
       (ao (bo (wpt gE (wlen K T.len_ (wlc ["_law_s"] ["_law_j","_law_k"] [2,3] (wil K (pv 1)) (wnC 0) (cZ (wpt a8 (ax eQ (ax eQ (ax gM (pv 0) (pv 1)) (ax gM (pv 0) (pv 2))) af) af)) (pv 0))) af)
         (ao (aH fE))
         aO)))))
   (ao (aH fE))))),?_]
 refine#[128,rfl,∅,∅,?_];refine dN (n:=128) (λs=>decide (sz s=3)&& !decide (s∈c)) (λi=> .int (0+(i:Nat))) ∅ (λi vs H' R S G hv sm g=> ?_) λp1 y cL J aB=> ?_
 .obtain⟨v,rfl⟩:=bH hv;have q:=g [some (.int (0+(i:Nat)))] H' rfl (Same.refl _);have e:(0+(i:Int)).toNat=i:=()
  have cK:i<128:=G;refine#[_,rfl,_,rfl,(),(),rfl,_,rfl,?_];rw[e,lint];have e3:decide ((((bits i).length:Nat):Int)=3)=decide (sz i=3):=LS.mpr #[λz=>by show(bits i).length=3;lia,λz=>by have:(bits i).length=3:=z;lia];rw[e3];by_cases M:sz i=3
  .rw[J3 M,Lo]at q;rw[J3 M,J5 rfl];refine#[_,rfl,_,rfl,a,_,rfl, .inl (sm.seq ha),rfl,oa _,_,rfl,?_];rw[Lk]at q⊢;rw[Gf];show if(!decide (i∈c))=true then _ else _;by_cases B:(!decide (i∈c))=true
   .rw[J5 B]at q⊢;exact#[_,rfl,q]
   .rw[J4 B]at q⊢;exact q
  .rw[J6 M,Lc,J4 ∅]at q;rw[J6 M,J4 ∅];exact q
 rw[ix]at aB;have ai:y p1=some (.lst ((bY (gP c)).map V.int)):=aB;have b6:=J.seq ha;have lL:(gP c).length<=128:=Kd (Lu _ _) (by rw[Kq];exact Kk _);have mL:∀t∈gP c,t<128:=λt ht=>J9.mp (Kx.mp ht).1;refine#[_,rfl,a,_,rfl, .inl b6,rfl,_,rfl,cG (λo=>nX ?_) λo=> ?_]
 .rw[J2,bQ,lint]at o;have:=k y J;unfold dW at this;rw[J6 (by intro z;rw[z]at o;exact absurd o ∅),Lc]at this;exact this
 rw[J2,bQ,lint]at o;have b3:c.length=28:=by
  have b1:decide ((c.length:Int)=28)=true:=by simpa using o
  have:=Ko b1;lia
 refine#[_,rfl,p1,_,rfl, .inl (SqL.of ai),rfl,_,rfl,cG (λr=> ?_) λr=> ?_]
 .rw[J2,bQ,lint]at r;have:=k y J;unfold dW at this;rw[J6 (p:=(gP c).length=7) (by intro z;rw[z]at r;exact absurd r ∅),Lc,Ld]at this;exact this
 rw[J2,bQ,lint]at r;have h7:(gP c).length=7:=by
  have b2:decide (((gP c).length:Int)=7)=true:=by simpa using r
  have:=Ko b2;lia
 have ek:dW c=(List.range 7).all λj=>(List.range j).all λk=>decide (((gP c).filter λt=>t.testBit j&&t.testBit k).length=1):=by unfold dW;rw[J3 b3,J3 h7,Lo,Lo]
 rw[ek]at k;generalize hL:gP c=L at*;refine#[7,rfl,∅,∅,cx (n:=7) (λj m H'=>Same y H'/\(∀i,i<j->((List.range i).all λk=>decide ((L.filter λt=>t.testBit i&&t.testBit k).length=1))=true)/\∃v2 d,m=[some (.ref a),some (.ref p1),v2,d]) #[Same.refl _,(λi G=>()),none,none,rfl] ?_ ?_]
 .rintro j m H2 hj ⟨ak,ab,v2,d,rfl⟩;refine#[_,rfl,_,rfl,(),(),?_];have ej:(0+(j:Int)).toNat=j:=()
  rw[ej];refine cx (n:=j) (λk m H'=>Same y H'/\(∀i,i<k->decide ((L.filter λt=>t.testBit j&&t.testBit i).length=1)=true)/\∃d,m=[some (.ref a),some (.ref p1),some (.int (0+(j:Int))),d]) #[ak,(λi G=>()),d,rfl] ?_ ?_
  .rintro b m H3 ck ⟨u,g,d,rfl⟩;refine#[_,rfl,p1,rfl,#[_,SqL.of (u.at ai)],?_];refine b9 (λx=>(λz:Int=>z.toNat.testBit j&&z.toNat.testBit b) (bI x)) (λx=> .int ((λz:Int=>z) (bI x))) (SqL.of (u.at ai)) (by rw[J2,bQ];exact Kd lL ∅) (λi x vs H' R S hx hv sm g=> ?_) λD H4 hD aS O=> ?_
   .obtain⟨v,rfl⟩:=bH hv;obtain⟨z,rfl,hz⟩:=bL hx;obtain⟨t,ht,rfl⟩:=dA (Km hz);have q:=g [some (.int (t:Int))] H' rfl (Same.refl _);refine#[_,rfl,_,rfl,_,_,rfl,rfl,(),_,rfl,_,rfl,_,_,rfl,rfl,(),_,_,rfl,rfl,_,_,rfl,rfl,rfl,_,rfl,?_];have e1:(0+(j:Int)).toNat=j:=()
    have e2:(0+(b:Int)).toNat=b:=()
    have eb:decide (V.int (Builtin.bitAnd (Builtin.bitAnd ((t:Int) /2^(0+(j:Int)).toNat) ((t:Int) /2^(0+(b:Int)).toNat)) 1)=V.int 1)=(t.testBit j&&t.testBit b):=by
     rw[e1,e2];have a1:((t:Int) /2^j)=((t/2^j:Nat):Int):=by simp
     have a2:((t:Int) /2^b)=((t/2^b:Nat):Int):=by simp
     rw[a1,a2,iy];have a3:Builtin.bitAnd (((t/2^j&&&t/2^b:Nat)):Int) 1=(((t/2^j&&&t/2^b)&&&1:Nat):Int):=iy _ 1;rw[a3,lint,fC,fC,Ox];have a4:(t/2^j&&&t/2^b) % 2=1↔(t/2^j) % 2=1/\(t/2^b) % 2=1:=by have:=KQ (t/2^j) (t/2^b) 0;rw[OS,OS,OS,Mq,Kn,Kf,Kf,Kf]at this;exact this
     rw[Mq,Kn,Kf,Kf,Kf,<-a4];lia
    rw[eb];have U:if(t.testBit j&&t.testBit b)=true then R (.int (t:Int)) _ H' else S _ H':=q;show if(t.testBit j&&t.testBit b)=true then _ else _;by_cases B:(t.testBit j&&t.testBit b)=true
    .rw[J5 B]at U⊢;exact#[_,rfl,U]
    .rw[J4 B]at U⊢;exact U
   replace O:=O.trans (K3 (λl=>some (HO.lst l)) (bK (λz:Int=>z.toNat.testBit j&&z.toNat.testBit b) (λz:Int=>z) (bY L)));rw[show(λz:Int=>z)=id from rfl,MS,eo]at O;refine#[D,_,rfl, .inl (SqL.of O),rfl,_,rfl,?_];rw[J2,bQ,lint];have ef:(L.filter λs:Nat=>(s:Int).toNat.testBit j&&(s:Int).toNat.testBit b)=L.filter λt=>t.testBit j&&t.testBit b:=rfl;rw[ef];refine cG (λN=> ?_) λN=> ?_
   .have cn:decide ((L.filter λt=>t.testBit j&&t.testBit b).length=1)=false:=J6 λz=>by rw[z]at N;exact absurd N ∅
    have e:((List.range 7).all λj=>(List.range j).all λk=>decide ((L.filter λt=>t.testBit j&&t.testBit k).length=1))=false:=Mg.mpr λz=>by have:=K2.mp (K2.mp z j (J9.mpr hj)) b (J9.mpr ck);rw[cn]at this;cases this
    rw[e]at k;exact k H4 (J.trans (u.trans aS))
   .refine#[u.trans aS,λi G=> ?_,_,rfl];by_cases cb:i<b
    .exact g i cb
    .have:i=b:=()
     subst this;have b4:decide (((L.filter λt=>t.testBit j&&t.testBit i).length:Int)=1)=true:=by simpa using N
     have:=Ko b4;exact J3 ()
  .rintro m H3 ⟨u,g,d,rfl⟩;refine#[u,λi G=> ?_,_,_,rfl];by_cases b8:i<j
   .exact ab i b8
   .have:i=j:=()
    subst this;exact K2.mpr λk cg=>g k (J9.mp cg)
 .rintro m H2 ⟨ak,ab,v2,d,rfl⟩;have e:((List.range 7).all λj=>(List.range j).all λk=>decide ((L.filter λt=>t.testBit j&&t.testBit k).length=1))=true:=K2.mpr λj hj=>ab j (J9.mp hj);rw[e]at k;exact k H2 (J.trans ak)
theorem sc__law_kind:aK ["_law_levels","_law_told"] ["_law_levels"] (aw s__law_kind):=sc_of
theorem uP(T:Tb K mg)(D:bw K mg "_law_kind" s__law_kind ["_law_levels"])(ab:Cal P w K mg base 1 "_law_size" ["_law_s"] gY)(aa:Cal P w K mg base 2 "_law_seven" ["_law_told"] (vW K)):Cal P w K mg base 3 "_law_kind" ["_law_levels"] (Aq K):=by
 refine D.cal sc__law_kind (λvs H Q E h=>by obtain⟨a,n,r,rfl,_⟩:=h;rfl) λf cdv A outer cn H vs Q E hr h=> ?_;obtain⟨a,n,r,rfl,B,M,k⟩:=h;refine#[_,(ah (wls 1 sc__law_kind.nd ["_law_s"] ["_law_levels"] [0] (wrng T.range_ (wlen K T.len_ (pv 0))) (wnC 0) (cZ (PW.pt (dy (wpt a8 (dh K (pv 1) (pv 0)) (wcal ab hr (ae (pv 0) aq))) (ee (wpt a8 (dh K (pv 1) (pv 0)) (dh K (pv 1) (jP ie af))))))) (pv 0))
   (ah (bo (PW.pt (dy (wpt a8 (wlen K T.len_ (pv 0)) af) (dy (wpt a8 (dh K (pv 0) (jP ie af)) af) (ee (wpt a8 (wlen K T.len_ (pv 1)) af)))))
     (ao (aH fO))
     aO)
   (ah (bo (PW.pt (dy (wpt a8 (wlen K T.len_ (pv 0)) af) (dy (wpt a8 (dh K (pv 0) (jP ie af)) af) (ee (wpt a8 (wlen K T.len_ (pv 1)) af)))))
     (ao (aH fO))
     aO)
   (ah (bo (PW.pt (dy (wpt a8 (wlen K T.len_ (pv 0)) af) (dy (wpt a8 (dh K (pv 0) (jP ie af)) af) (ee (wpt a8 (wlen K T.len_ (pv 1)) af)))))
     (ao (aH fO))
     aO)
   (ah (bo (PW.pt (dy (wpt a8 (wlen K T.len_ (pv 0)) af) (dy (wpt a8 (dh K (pv 0) (jP ie af)) af) (ee (dD (wcal aa hr (ae (pv 1) aq)))))))
     (ao (aH fO))
     aO)
   (ah (bo (PW.pt (dy (wpt a8 (wlen K T.len_ (pv 0)) af) (dy (wpt a8 (dh K (pv 0) (jP ie af)) af) (ee (dD (wcal aa hr (ae (wlc ["_law_s"] [] [] (wil K (pv 1)) (wnC 0) cP (ax fq af (pv 0))) aq)))))))
     (ao (aH fO))
     aO)
   (ao (aH iw)))))))),?_]
 have p8:=k4 M;have ck:=two_pow_pos n;have G:((jN n r).map V.int).length=2^n:=by unfold jN;rw[J2,J2,Kq]
 have bB:∀s:Nat,s<2^n->atI ((jN n r).map V.int) (s:Int)=some (.int ((r s:Nat):Int)):=λs hs=>jS (by unfold jN;rw[Kv,LG hs];rfl);have J:atI ((jN n r).map V.int) (-1)=some (.int ((r (2^n-1):Nat):Int)):=Gz (by
  rw[G,Kv];unfold jN;rw[Kv,LG ()];rfl)
 refine#[_,rfl,a,_,rfl, .inl B,_,rfl,?_];rw[G];refine#[(),(),?_];rw[J8];refine dN (n:=2^n) (λs=>decide (r s=sz s)&&decide (r s=r (2^n-1))) (λi=> .int (0+(i:Nat))) (Kd p8 ∅) (λi vs H' R S hi hv sm hk=> ?_) λp1 u cb p a5=> ?_
 .obtain⟨v,rfl⟩:=bH hv;have q:=hk [some (.int (0+(i:Nat)))] H' rfl (Same.refl _);have e:(0+(i:Int)).toNat=i:=()
  have a3:atI ((jN n r).map V.int) (0+(i:Int))=some (.int ((r i:Nat):Int)):=by rw[Lk];exact bB i hi
  have ay:=sm.seq B;refine#[_,rfl,_,rfl,a,_,_,_,rfl,rfl,ay,a3,_,rfl,_,rfl,(),(),rfl,_,rfl,?_];rw[e,aX];show if decide (r i=sz i)=true then _ else _;by_cases h3:r i=sz i
  .rw[J3 h3,Lo]at q;rw[J3 h3,J5 rfl];refine#[_,rfl,_,rfl,a,_,_,_,rfl,rfl,ay,a3,_,rfl,_,rfl,a,_,_,_,rfl,rfl,ay,J,rfl,_,rfl,?_];rw[aX];show if decide (r i=r (2^n-1))=true then _ else _;by_cases hc:decide (r i=r (2^n-1))=true
   .rw[J5 hc]at q⊢;exact#[_,rfl,q]
   .rw[J4 hc]at q⊢;exact q
  .rw[J6 h3,Lc,J4 ∅]at q;rw[J6 h3,J4 ∅];exact q
 rw[ix]at a5;have L:u p1=some (.lst ((bY (cq n r)).map V.int)):=a5;have mT:∀t∈cq n r,t<2^n:=λt ht=>J9.mp (Kx.mp ht).1;have lT:(cq n r).length<=256:=Kd (Lu _ _) (by rw[Kq];exact p8);unfold xo at k;have U:(kinds n r).getD 0 false=(decide (n=4)&&(decide (r (2^n-1)=2)&&decide ((cq n r).length=6))):=rfl;(try dsimp only);refine sG (λo H'=>Same u H'/\(kinds n r).getD 0 false=false/\o=[some (.ref a),some (.ref p1)]) ?_ ?_
 rotate_left
 .intro j;have m:=p.seq B;refine#[_,rfl,a,_,rfl, .inl m,rfl,_,rfl,?_];rw[G];have g1:decide (V.int ((2^n:Nat):Int)=V.int 16)=decide (n=4):=(aX (2^n) 16).trans ((qg M).1);rw[g1];by_cases c:n=4
  rotate_left
  .rw[J6 c,J4 ∅];exact eZ (j _ _ #[(Same.refl _),by rw[U,J6 c];rfl,rfl])
  rw[J3 c,J5 rfl];refine#[_,rfl,_,rfl,a,_,_,_,rfl,rfl,m,J,rfl,_,rfl,?_];have g2:decide (V.int ((r (2^n-1):Nat):Int)=V.int 2)=decide (r (2^n-1)=2):=aX _ 2;rw[g2];by_cases d:r (2^n-1)=2
  rotate_left
  .rw[J6 d,J4 ∅];exact eZ (j _ _ #[(Same.refl _),by rw[U,J6 d,Lc,Ld],rfl])
  rw[J3 d,J5 rfl];refine#[_,rfl,p1,_,rfl, .inl (SqL.of (L)),rfl,_,rfl,?_];rw[J2,bQ];have g3:decide (V.int (((cq n r).length:Nat):Int)=V.int 6)=decide ((cq n r).length=6):=aX _ 6;rw[g3];by_cases g:(cq n r).length=6
  rotate_left
  .rw[J6 g,J4 ∅];exact j _ _ #[(Same.refl _),by rw[U,J6 g,Ld,Ld],rfl]
  rw[J3 g,J5 rfl];have:=k u p;rw[J5 (by rw[U,J3 c,J3 d,J3 g];rfl)]at this;exact this
 rintro o y ⟨b,bE,rfl⟩;rw[J4 (by rw[bE];decide)]at k;have ag:(kinds n r).getD 1 false=(decide (n=5)&&(decide (r (2^n-1)=2)&&decide ((cq n r).length=10))):=rfl;(try dsimp only);refine eU (λo H'=>Same u H'/\(kinds n r).getD 1 false=false/\o=[some (.ref a),some (.ref p1)]) ?_ ?_
 rotate_left
 .intro j;have m:=(p.trans b).seq B;refine#[_,rfl,a,_,rfl, .inl m,rfl,_,rfl,?_];rw[G];have g1:decide (V.int ((2^n:Nat):Int)=V.int 32)=decide (n=5):=(aX (2^n) 32).trans ((qg M).2.1);rw[g1];by_cases c:n=5
  rotate_left
  .rw[J6 c,J4 ∅];exact eZ (j _ _ #[b,by rw[ag,J6 c];rfl,rfl])
  rw[J3 c,J5 rfl];refine#[_,rfl,_,rfl,a,_,_,_,rfl,rfl,m,J,rfl,_,rfl,?_];have g2:decide (V.int ((r (2^n-1):Nat):Int)=V.int 2)=decide (r (2^n-1)=2):=aX _ 2;rw[g2];by_cases d:r (2^n-1)=2
  rotate_left
  .rw[J6 d,J4 ∅];exact eZ (j _ _ #[b,by rw[ag,J6 d,Lc,Ld],rfl])
  rw[J3 d,J5 rfl];refine#[_,rfl,p1,_,rfl, .inl (SqL.of (b.at L)),rfl,_,rfl,?_];rw[J2,bQ];have g3:decide (V.int (((cq n r).length:Nat):Int)=V.int 10)=decide ((cq n r).length=10):=aX _ 10;rw[g3];by_cases g:(cq n r).length=10
  rotate_left
  .rw[J6 g,J4 ∅];exact j _ _ #[b,by rw[ag,J6 g,Ld,Ld],rfl]
  rw[J3 g,J5 rfl];have:=k y (p.trans b);rw[J5 (by rw[ag,J3 c,J3 d,J3 g];rfl)]at this;exact this
 clear b;rintro o y ⟨b,bM,rfl⟩;rw[J4 (by rw[bM];decide)]at k;have ai:(kinds n r).getD 2 false=(decide (n=5)&&(decide (r (2^n-1)=3)&&decide ((cq n r).length=10))):=rfl;(try dsimp only);refine eU (λo H'=>Same u H'/\(kinds n r).getD 2 false=false/\o=[some (.ref a),some (.ref p1)]) ?_ ?_
 rotate_left
 .intro j;have m:=(p.trans b).seq B;refine#[_,rfl,a,_,rfl, .inl m,rfl,_,rfl,?_];rw[G];have g1:decide (V.int ((2^n:Nat):Int)=V.int 32)=decide (n=5):=(aX (2^n) 32).trans ((qg M).2.1);rw[g1];by_cases c:n=5
  rotate_left
  .rw[J6 c,J4 ∅];exact eZ (j _ _ #[b,by rw[ai,J6 c];rfl,rfl])
  rw[J3 c,J5 rfl];refine#[_,rfl,_,rfl,a,_,_,_,rfl,rfl,m,J,rfl,_,rfl,?_];have g2:decide (V.int ((r (2^n-1):Nat):Int)=V.int 3)=decide (r (2^n-1)=3):=aX _ 3;rw[g2];by_cases d:r (2^n-1)=3
  rotate_left
  .rw[J6 d,J4 ∅];exact eZ (j _ _ #[b,by rw[ai,J6 d,Lc,Ld],rfl])
  rw[J3 d,J5 rfl];refine#[_,rfl,p1,_,rfl, .inl (SqL.of (b.at L)),rfl,_,rfl,?_];rw[J2,bQ];have g3:decide (V.int (((cq n r).length:Nat):Int)=V.int 10)=decide ((cq n r).length=10):=aX _ 10;rw[g3];by_cases g:(cq n r).length=10
  rotate_left
  .rw[J6 g,J4 ∅];exact j _ _ #[b,by rw[ai,J6 g,Ld,Ld],rfl]
  rw[J3 g,J5 rfl];have:=k y (p.trans b);rw[J5 (by rw[ai,J3 c,J3 d,J3 g];rfl)]at this;exact this
 clear b;rintro o y ⟨b,bN,rfl⟩;rw[J4 (by rw[bN];decide)]at k;have aj:(kinds n r).getD 3 false=(decide (n=7)&&(decide (r (2^n-1)=3)&&dW (cq n r))):=rfl;(try dsimp only);refine eU (λo H'=>Same u H'/\(kinds n r).getD 3 false=false/\o=[some (.ref a),some (.ref p1)]) ?_ ?_
 rotate_left
 .intro j;have m:=(p.trans b).seq B;refine#[_,rfl,a,_,rfl, .inl m,rfl,_,rfl,?_];rw[G];have g1:decide (V.int ((2^n:Nat):Int)=V.int 128)=decide (n=7):=(aX (2^n) 128).trans ((qg M).2.2);rw[g1];by_cases c:n=7
  rotate_left
  .rw[J6 c,J4 ∅];exact eZ (j _ _ #[b,by rw[aj,J6 c];rfl,rfl])
  rw[J3 c,J5 rfl];refine#[_,rfl,_,rfl,a,_,_,_,rfl,rfl,m,J,rfl,_,rfl,?_];have g2:decide (V.int ((r (2^n-1):Nat):Int)=V.int 3)=decide (r (2^n-1)=3):=aX _ 3;rw[g2];by_cases d:r (2^n-1)=3
  rotate_left
  .rw[J6 d,J4 ∅];exact eZ (j _ _ #[b,by rw[aj,J6 d,Lc,Ld],rfl])
  rw[J3 d,J5 rfl];refine#[_,rfl,p1,cq n r,rfl,SqL.of (b.at L),λHY O=>#[_,rfl,?_]];by_cases g:dW (cq n r)=true
  rotate_left
  .rw[J4 g];exact j _ _ #[b.trans O,by rw[aj,Mg.mpr g,Ld,Ld],rfl]
  rw[J5 g];have:=k HY (p.trans (b.trans O));rw[J5 (by rw[aj,J3 c,J3 d,g];rfl)]at this;exact this
 clear b;rintro o y ⟨b,bS,rfl⟩;rw[J4 (by rw[bS];decide)]at k;have ak:(kinds n r).getD 4 false=(decide (n=7)&&(decide (r (2^n-1)=4)&&dW ((cq n r).map (127- ·)))):=rfl;(try dsimp only);refine eU (λo H'=>Same u H'/\(kinds n r).getD 4 false=false/\o=[some (.ref a),some (.ref p1)]) ?_ ?_
 rotate_left
 .intro j;have m:=(p.trans b).seq B;refine#[_,rfl,a,_,rfl, .inl m,rfl,_,rfl,?_];rw[G];have g1:decide (V.int ((2^n:Nat):Int)=V.int 128)=decide (n=7):=(aX (2^n) 128).trans ((qg M).2.2);rw[g1];by_cases c:n=7
  rotate_left
  .rw[J6 c,J4 ∅];exact eZ (j _ _ #[b,by rw[ak,J6 c];rfl,rfl])
  rw[J3 c,J5 rfl];refine#[_,rfl,_,rfl,a,_,_,_,rfl,rfl,m,J,rfl,_,rfl,?_];have g2:decide (V.int ((r (2^n-1):Nat):Int)=V.int 4)=decide (r (2^n-1)=4):=aX _ 4;rw[g2];by_cases d:r (2^n-1)=4
  rotate_left
  .rw[J6 d,J4 ∅];exact eZ (j _ _ #[b,by rw[ak,J6 d,Lc,Ld],rfl])
  rw[J3 d,J5 rfl];refine#[_,rfl,p1,rfl,#[_,SqL.of (b.at L)],?_];refine b9 (λx=>(λ_=>true) (bI x)) (λx=> .int ((λz:Int=>127-z) (bI x))) (SqL.of (b.at L)) (by rw[J2,bQ];exact Kd lT ∅) (λi x vs H' R S hx hv sm hk=> ?_) λD HY hD O N=> ?_
  .obtain⟨v,rfl⟩:=bH hv;obtain⟨z,rfl,hz⟩:=bL hx;have q:=hk [some (.int z)] H' rfl (Same.refl _);rw[J5 rfl]at q;simp only[bD,iM,J5];exact#[_,rfl,_,_,rfl,rfl,q]
  replace N:=N.trans (K3 (λl=>some (HO.lst l)) (bK (λ_=>true) (λz:Int=>127-z) (bY (cq n r))));rw[LM.mpr (λ_ _=>rfl)]at N;have em:(bY (cq n r)).map (λz:Int=>127-z)=bY ((cq n r).map (127- ·)):=by unfold bY;rw[K5,K5];refine LB λt ht=> ?_;have:=mT t ht;rw[c]at this;show(127:Int) - (t:Int)=((127-t:Nat):Int);have h7:2^7=128:=rfl;lia
  rw[em]at N;refine#[D,(cq n r).map (127- ·),rfl,SqL.of N,λHZ bj=>#[_,rfl,?_]];by_cases g:dW ((cq n r).map (127- ·))=true
  rotate_left
  .rw[J4 g];exact j _ _ #[b.trans (O.trans bj),by rw[ak,Mg.mpr g,Ld,Ld],rfl]
  rw[J5 g];have:=k HZ (p.trans (b.trans (O.trans bj)));rw[J5 (by rw[ak,J3 c,J3 d,g];rfl)]at this;exact this
 clear b;rintro o y ⟨b,bX,rfl⟩;rw[J4 (by rw[bX];decide)]at k;exact k y (p.trans b)
theorem sc__law_determinant:aK ["_law_rows_here","_law_told","_law_s","_law_row","_law_total","_law_turn","_law_k"] ["_law_rows_here"] (aw s__law_determinant):=sc_of
theorem kG(T:Tb K mg)(D:bw K mg "_law_determinant" s__law_determinant ["_law_rows_here"])(aa:Cal P w K mg base 1 "_law_size" ["_law_s"] gY):Cal P w K mg base 2 "_law_determinant" ["_law_rows_here"] (yt K):=by
 refine D.cal sc__law_determinant (λvs H Q E h=>by obtain⟨a,xs,M,n,rfl,_⟩:=h;rfl) λf cdv A outer cA H vs Q E hr h=> ?_;obtain⟨a,xs,M,n,rfl,u,hx,l,y,ag,k⟩:=h;refine#[_,(ah (wset 1 sc__law_determinant.nd (cS (ae af aq)))
   (ah (wfor (BO ⋯ T.range_ (ae af (ae (ax cW af (wlen K T.len_ (pv 0))) aq))) (wname 2 sc__law_determinant.nd)
     (ah (wset 3 sc__law_determinant.nd (dh K (pv 0) (ax fq (wcal aa hr (ae (pv 2) aq)) af)))
     (ah (wset 4 sc__law_determinant.nd af)
     (ah (wset 5 sc__law_determinant.nd af)
     (ah (wfor (HR ⋯ T.reversed_ (ae (HV ⋯ T.range_ (ae (wlen K T.len_ (pv 0)) aq)) aq)) (wname 6 sc__law_determinant.nd)
       (ao (bo (wpt a8 (ax eQ (ax gM (pv 2) (pv 6)) af) af)
         (ah (wset 4 sc__law_determinant.nd (ax dz (pv 4) (ax pf (ax pf (pv 5) (dh K (pv 3) (pv 6))) (dh K (pv 1) (ax yI (pv 2) (ax cW af (pv 6)))))))
         (ao (wset 5 sc__law_determinant.nd (jP ie (pv 5)))))
         aO)))
     (ao (cR (fo (K:=K) ⋯ Lh Lm Ln cF (pv 1) (ae (pv 4) aq)))))))))
   (ao (aH (dh K (pv 1) (jP ie af)))))),?_]
 have ak:=hx.1;have p8:=k4 y;have cv:=two_pow_pos n;refine#[(show(1:Nat)<=sizeLine by decide),λq v=> ?_];have b3:upd H q (.lst [V.int 1]) q=some (.lst [V.int 1]):=av;refine#[_,rfl,a,_,rfl, .inl ((Same.new v).seq u),?_];rw[ak,l];refine#[_,_,rfl,rfl,#[(),(),∅],_,_,rfl,?_];rw[cQ];refine#[#[(),(),(),()],?_];rw[show(((2^n:Nat):Int) -1).toNat=2^n-1 by lia];refine cx (n:=2^n-1) (λi d H'=>∃J L N O c:Option V,Same H H'/\H' q=some (.lst (((List.range (i+1)).map (dpD M n)).map V.int))/\d=[some (.ref a),some (.ref q),J,L,N,O,c]) #[none,none,none,none,none,Same.new v,?_,rfl] ?_ ?_
 .rw[b3];have:dpD M n 0=1:=by
   have e:aF n 0=[]:=by unfold aF;simp
   unfold dpD;rw[e];rfl
  show _=some (HO.lst [V.int (dpD M n 0)]);rw[this]
 .rintro i d j hi ⟨J,L,N,O,c,g,r,rfl⟩;have es:(1:Int)+(i:Int)=((i+1:Nat):Int):=()
  rw[es];have hs:i+1<2^n:=()
  generalize ct:i+1=s at*;have B:s<256:=()
  have cb:=CF y hs;have cp:=EK hs (show 0<s by lia);have cl:=vj n s;have hN:(aF n s).length-1<M.length:=()
  have U:M[(aF n s).length-1]?=some (M.getD ((aF n s).length-1) []):=by simp[hN]
  obtain⟨b,bX,b0⟩:=(hx.same g).2 _ _ U;have z:=ag (M.getD ((aF n s).length-1) []) (Km U);have aE:atI xs (((bits ((s:Int)).toNat).length:Nat) -1:Int)=some (.ref b):=by rw[J8,cb,show(((aF n s).length:Nat):Int) -1=(((aF n s).length-1:Nat):Int) by lia];exact jr bX
  refine#[_,rfl,_,rfl,_,rfl,(),(),_,_,rfl,rfl,a,_,_,_,rfl,rfl,g.seq u,aE,?_];refine#[_,rfl,a,_,rfl, .inl (g.seq u),?_];rw[ak,l];refine#[_,rfl,λp hp=>#[p,(n:Int),rfl,av,(),(),?_]];rw[J8];have G:Same j (upd j p (.rng 0 (n:Int))):=Same.new hp;generalize upd j p (.rng 0 (n:Int))=H3 at*;have x:=G.at r;have b1:=G.at b0;have b5:((List.range s).map (dpD M n)).length=s:=by rw[J2,Kq]
  refine zf (n:=n) (λi d t=>t=H3/\∃c:Option V,d=[some (.ref a),some (.ref q),some (.int (s:Int)),some (.ref b),some (.int (bp (aF n s).length (dpG M n s) -bp (aF (n-i) s).length (dpG M n s))),some (.int (sgn ((aF n s).length- (aF (n-i) s).length))),c]) #[rfl,c,?_] ?_ ?_
  .rw[Nat.sub_zero,LJ,OR];rfl
  .rintro i d t cn ⟨rfl,c,rfl⟩;have ek:(n:Int) -1+(i:Int)*(-1)=((n- (i+1):Nat):Int):=()
   rw[ek];have hm:n- (i+1)<n:=()
   have em:n-i=n- (i+1)+1:=()
   rw[em];generalize n- (i+1)=m at*;refine#[_,rfl,_,rfl,_,_,rfl,rfl,(by show(0:Int)<=(m:Int);lia),_,_,rfl,rfl,rfl,_,rfl,?_];rw[wt];refine cG (λo=> ?_) λo=> ?_
   .obtain⟨d1,d2,d3,d4⟩:=Gr (M:=M) hm o;have dl:=jj s B m () o;have aB:atI ((M.getD ((aF n s).length-1) []).map V.int) (m:Int)=some (.int ((M.getD ((aF n s).length-1) []).getD m 0)):=cY (by rw[z.1];exact hm);have aS:atI (((List.range s).map (dpD M n)).map V.int) (Builtin.bitXor (s:Int) (1*2^((m:Nat):Int).toNat))=some (.int (dpD M n (s^^^2^m))):=by rw[CT B ()];exact jS (by rw[Kv,LG dl];rfl)
    rw[d1,Kz,List.length_singleton]at*;have m1:iz (sgn ((aF n s).length- ((aF m s).length+1))) ((M.getD ((aF n s).length-1) []).getD m 0):=iz.of (k:=1) (by rw[uq];decide) (z.at m) ∅;have m2:iz (sgn ((aF n s).length- ((aF m s).length+1))*(M.getD ((aF n s).length-1) []).getD m 0) (dpD M n (s^^^2^m)):=iz.of (vx (k:=1) (by rw[uq];decide) (z.at m)) (IK l y ag _) ∅;refine#[_,rfl,_,rfl,_,rfl,_,rfl,b,_,_,_,rfl,rfl,SqL.of b1,aB,_,_,rfl,rfl,m1,_,rfl,_,rfl,_,rfl,_,_,rfl,rfl,#[(),(),∅],_,_,rfl,rfl,q,_,_,_,rfl,rfl,SqL.of x,aS,_,_,rfl,rfl,m2,_,_,rfl,rfl,?_];refine#[_,rfl,_,rfl,rfl,some (.int (m:Int)),?_];have e1:bp (aF n s).length (dpG M n s) -bp ((aF m s).length+1) (dpG M n s)+sgn ((aF n s).length- ((aF m s).length+1))*(M.getD ((aF n s).length-1) []).getD m 0*dpD M n (s^^^2^m)=bp (aF n s).length (dpG M n s) -bp (aF m s).length (dpG M n s):=by have bb:dpG M n s (aF m s).length=sgn ((aF n s).length- ((aF m s).length+1))*(M.getD ((aF n s).length-1) []).getD m 0*dpD M n (s^^^2^m):=d4;rw[<-bb,bp];lia
    have e2: -sgn ((aF n s).length- ((aF m s).length+1))=sgn ((aF n s).length- (aF m s).length):=by rw[<-jJ,show(aF n s).length- ((aF m s).length+1)+1=(aF n s).length- (aF m s).length by lia]
    rw[<-e1,<-e2];rfl
   .refine#[rfl,some (.int (m:Int)),?_];rw[dZ,J4 o,LF];rfl
  .rintro d t ⟨rfl,c,rfl⟩;rw[OR];have e0:(aF 0 s).length=0:=rfl;rw[e0,show bp 0 (dpG M n s)=0 from rfl,Ob,<-II l cp];refine#[_,rfl, .inl #[rfl,_,SqL.of x],_,rfl,q,_,_,rfl,rfl,x,(by rw[J2,b5];exact N7 B ∅),?_];refine#[_,_,_,_,_,(g.trans G).upd v,?_,rfl];rw[av,LX,KP,KP];rfl
 .rintro d j ⟨J,L,N,O,c,g,r,rfl⟩;rw[show 2^n-1+1=2^n by lia]at r;have ll:((List.range (2^n)).map (dpD M n)).length=2^n:=by rw[J2,Kq]
  have aC:atI (((List.range (2^n)).map (dpD M n)).map V.int) (-1)=some (.int (aP (M.map bg) (List.range n))):=by
   rw[zV (by rw[ll];lia) ∅,ll,show((-1:Int)+((2^n:Nat):Int)).toNat=2^n-1 by lia,<-IJ l];have h2:2^n-1<2^n:=()
   simp[h2]
  exact#[_,rfl,_,rfl,q,_,_,_,rfl,rfl,SqL.of r,aC,k j g]
theorem Cd(M:Mat n r)(h:∀s,s<2^n->r' s=r s):Mat n r':=by
 refine#[M.n8,by rw[h 0 (Mf ()),M.zero],λs k a b=> ?_,λs j k a c b d e=> ?_]
 .rw[h s a,h _ (bP a b)];exact M.step s k a b
 .rw[h _ (bP (bP a c) b),h s a];rw[h _ (bP a c),h s a]at d;rw[h _ (bP a b),h s a]at e;exact M.sub s j k a c b d e
theorem vJ(a:n<=8):sz (2^n-1)=n:=by show(bits (2^n-1)).length=n;rw[CO n (),J2,Kq]
theorem sM(g:n<=8)(l:m<=n)(h:rz n m ps)(z:Int):
  z∈du n m ps↔∃b:Nat,b<2^n/\z=(b:Int)/\rkG m ps b=sz b/\rkG m ps b=rkG m ps (2^n-1):=by
 have i:rkG m ps (2^n-1)=m:=by
  unfold rkG;rw[vJ g];rcases h.mid with e|⟨a,c⟩
  .rw[e,J4 (by simp)];lia
  .rw[J4 (h.not (by rw[vJ g];lia))];lia
 rw[nV,i];constructor
 .rintro⟨s,a,c,d,rfl⟩;refine#[s,a,rfl,?_,?_]<;>(unfold rkG;rw[J4 d];lia)
 .rintro⟨b,a,rfl,c,d⟩;refine#[b,a,(),λf=> ?_,rfl];obtain⟨s,_,e,o⟩:=h.size _ f;have:b=s:=()
  subst this;unfold rkG at c d;rw[J5 f]at c d;rcases h.mid with e|⟨j,k⟩
  .rw[e]at f;cases f
  .lia
theorem vH:∃b:List Int,du n m ps=du n m b/\(∀z∈b,z∈ps)/\∀z∈b,∃s:Nat,s<2^n/\z=(s:Int)/\sz s=m:=by
 refine#[ps.filter λz=>decide (0<=z/\z.toNat<2^n/\sz z.toNat=m),?_,λz a=>(Kx.mp a).1,λz a=> ?_]
 .unfold du;refine K3 (List.map λs:Nat=>(s:Int)) (Li λs c=> ?_);have d:=J9.mp c;unfold lF;by_cases e:sz s=m
  .have:((s:Int)∈ps.filter λz=>decide (0<=z/\z.toNat<2^n/\sz z.toNat=m))↔(s:Int)∈ps:=by rw[Kx,Kf,J8];exact#[λh=>h.1,λh=>#[h,(),d,e]]
   exact K3 (λx=>decide (sz s=m)&&x) (LS.mpr (not_congr this.symm))
  .simp[e]
 .have:=Ko (Kx.mp a).2;exact#[z.toNat,this.2.1,(),this.2.2]
theorem Gm{n m:Nat}{ps:List Int}(p:n<=8)(q:m<=n)(h:ps=[]\/(0<m/\m<n/\Far m ps)):
  Mat n (cw (du n m ps))/\∀b,b∈(List.range (2^n)).filter (lF m ps)↔JL n (cw (du n m ps)) b:=by
 obtain⟨r,e,l,hsz⟩:=vH (n:=n) (m:=m) (ps:=ps);have G:rz n m r:=by
  refine#[hsz,?_,?_]
  .rcases h with rfl|⟨_,_,g⟩
   .intro a i;exact absurd (l a i) (by simp)
   .exact λa i b k=>g a (l a i) b (l b k)
  .rcases h with rfl|⟨o,d,_⟩
   .exact .inl (Oe.mpr λa i=>absurd (l a i) (by simp))
   .exact .inr #[o,d]
 have M:=D1 p G;have f:∀s,s<2^n->cw (du n m ps) s=rkG m r s:=λs v=>by rw[e];exact M.mW (sM p q G) v
 refine#[Cd M f,λb=> ?_];have k:=sM p q G (b:Int);rw[<-e]at k;have o:b∈(List.range (2^n)).filter (lF m ps)↔(b:Int)∈du n m ps:=by
  unfold du;constructor
  .intro h;exact Ka.mpr #[b,h,rfl]
  .intro h;obtain⟨c,u,t⟩:=Ka.mp h;have:c=b:=()
   exact this▸u
 rw[o,k];constructor
 .rintro⟨c,d,t,g,j⟩;have:b=c:=()
  subst this;exact#[d,by rw[f b d];exact g,by rw[f b d,f _ (aQ n)];exact j]
 .rintro⟨d,g,j⟩;rw[f b d]at g;rw[f b d,f _ (aQ n)]at j;exact#[b,d,rfl,g,j]
inductive A9(K:PySem.W.Frag)(vs:List V)(H:Hp)(Q:VK):Prop
 |mk (b:Addr) (n o w:Nat) (r:Nat->Nat) (y_0:vs=[.int (n:Int), .ref b, .int (o:Int), .int (w:Int)]) (y_1:SqL K H b ((fZ n r).map V.int)) (y_2:Mat n r) (y_3:o<2^n) (y_4:w<2^n) (y_5:∀p H',Same H H'->H p=none->H' p=some (.lst ((fZ (sz (au (2^n-1) (o|||w))) (df r (au (2^n-1) (o|||w)) w)).map V.int))->Q (.ref p) H'):A9 K vs H Q
def Dl(K:PySem.W.Frag):Sp:=λvs H Q _=>A9 K vs H Q
theorem Cg{n s:Nat}(k:n<=8):((List.range n).filter λj:Nat=>decide (V.int (Builtin.bitAnd ((s:Int) /2^(0+(j:Int)).toNat) 1)=V.int 0)).map (λj:Nat=>(j:Int))=bits (au (2^n-1) s):=by
 have a:(λj:Nat=>decide (V.int (Builtin.bitAnd ((s:Int) /2^(0+(j:Int)).toNat) 1)=V.int 0))=λj=> !s.testBit j:=by
  funext j;have b:(0+(j:Int)).toNat=j:=()
  have c:((s:Int) /2^j)=((s/2^j:Nat):Int):=by simp
  rw[b,c,eI (Lv _) ∅,J8,show((1:Int).toNat)=1 from rfl,Ox,fC];by_cases f:s/2^j % 2=1
  .rw[f];rfl
  .have:s/2^j % 2=0:=()
   rw[this];rfl
 rw[a];unfold bits;refine K3 _ ?_;have d:∀m,n<=m->(List.range m).filter (au (2^n-1) s).testBit=(List.range n).filter λj=> !s.testBit j:=λm=>by
  induction m with
  |zero=>intro h;rw[show n=0 by lia];rfl
  |succ m i=>
   intro h;by_cases e:n=m+1
   .rw[e];refine Li λj g=> ?_;rw[aG,KD,J3 (J9.mp g)];rfl
   .rw[LX,Mr,i ()];have:(au (2^n-1) s).testBit m=false:=by rw[aG,KD,J6 ()];rfl
    simp[this]
 exact(d 8 k).symm
theorem sc__law_minor:aK ["_law_many","_law_levels","_law_out","_law_drawn","_law_left","_law_found","_law_s","_law_wide","_law_j"] ["_law_many","_law_levels","_law_out","_law_drawn"] (aw s__law_minor):=sc_of
theorem rO(T:Tb K mg)(D:bw K mg "_law_minor" s__law_minor ["_law_many","_law_levels","_law_out","_law_drawn"]):Cal P w K mg base 1 "_law_minor" ["_law_many","_law_levels","_law_out","_law_drawn"] (Dl K):=by
 refine D.cal sc__law_minor (λvs H Q E h=>by obtain⟨b,n,o,w,r,rfl,_⟩:=h;rfl) λf cdv A outer cg H vs Q E hr h=> ?_;obtain⟨b,n,o,a,r,rfl,hb,M,ho,hw,k⟩:=h;refine#[_,(ah (wls 4 sc__law_minor.nd ["_law_k"] ["_law_out","_law_drawn"] [2,3] (wrng T.range_ (pv 0)) (wnC 0) (cZ (wpt a8 (ax eQ (ax gM (ax kN (pv 1) (pv 2)) (pv 0)) af) af)) (pv 0))
   (ah (wset 5 sc__law_minor.nd (cS aq))
   (ah (wfor (wrng T.range_ (ax cW af (wlen K T.len_ (pv 4)))) (wname 6 sc__law_minor.nd)
     (ah (wset 7 sc__law_minor.nd (pv 3))
     (ah (wfor (wrng T.range_ (wlen K T.len_ (pv 4))) (wname 8 sc__law_minor.nd)
       (ao (bo (wpt a8 (ax eQ (ax gM (pv 6) (pv 8)) af) af)
         (ao (wset 7 sc__law_minor.nd (ax kN (pv 7) (ax cW af (dh K (pv 4) (pv 8))))))
         aO)))
     (ao (cR (fo (K:=K) ⋯ Lh Lm Ln cF (pv 5) (ae (ax fq (dh K (pv 1) (pv 7)) (dh K (pv 1) (pv 3))) aq)))))))
   (ao (aH (pv 5)))))),?_]
 have n8:=M.n8;have p8:=kM n8;refine#[_,rfl,_,rfl,(),(),?_];rw[J8];refine dN (λj=>decide (V.int (Builtin.bitAnd (((o|||a:Nat):Int) /2^(0+(j:Int)).toNat) 1)=V.int 0)) (λj=> .int (0+(j:Nat))) (Kd n8 ∅) (λj vs H' R S hj hv sm hk=> ?_) λq x hq O ab=> ?_
 .obtain⟨v,rfl⟩:=bH hv;have N:=hk [some (.int (0+(j:Nat)))] H' rfl (Same.refl _);refine#[_,rfl,_,rfl,_,_,rfl,rfl,_,rfl,_,_,rfl,rfl,by show(0:Int)<=0+(j:Int);lia,_,_,rfl,rfl,rfl,_,rfl,?_];(try dsimp only);rw[eF];show if decide (V.int (Builtin.bitAnd (((o|||a:Nat):Int) /2^(0+(j:Int)).toNat) 1)=V.int 0)=true then _ else _;by_cases hc:decide (V.int (Builtin.bitAnd (((o|||a:Nat):Int) /2^(0+(j:Int)).toNat) 1)=V.int 0)=true
  .rw[J5 hc]at N⊢;exact#[_,rfl,N]
  .rw[J4 hc]at N⊢;exact N
 have el:eY (λj=>decide (V.int (Builtin.bitAnd (((o|||a:Nat):Int) /2^(0+(j:Int)).toNat) 1)=V.int 0)) (λj=>V.int (0+(j:Nat))) n=(bits (au (2^n-1) (o|||a))).map V.int:=by rw[<-Cg n8];exact ix _ n
 rw[el]at ab;have kl:au (2^n-1) (o|||a)<2^n:=kA;generalize au (2^n-1) (o|||a)=g at*;refine#[Ls _,λl hl=> ?_];have aj:Same x (upd x l (.lst [])):=Same.new hl;have bt:upd x l (.lst []) l=some (.lst (((List.range 0).map λs=>((df r g a s:Nat):Int)).map V.int)):=av;generalize upd x l (.lst [])=H2 at*;have b1:=(O.trans aj).seq hb;have bB:=aj.at ab;have zl:((bits g).map V.int).length=sz g:=J2 _;have z8:sz g<=8:=a9 g;have pz:=kM z8;have b6:0<2^sz g:=Mf ();refine#[_,rfl,q,_,rfl, .inl (SqL.of bB),?_];rw[zl];refine#[_,_,rfl,rfl,#[(),(),∅],_,rfl,?_];rw[cQ];refine#[(),(),?_];rw[J8];refine cx (n:=2^sz g) (λi u H'=>∃v6 v7 p:Option V,Same x H'/\H' l=some (.lst (((List.range i).map λs=>((df r g a s:Nat):Int)).map V.int))/\u=[some (.int (n:Int)),some (.ref b),some (.int (o:Int)),some (.int (a:Int)),some (.ref q),some (.ref l),v6,v7,p]) #[none,none,none,aj,bt,rfl] ?_ ?_
 .rintro i u U hi ⟨v6,v7,p,y,L,rfl⟩;dsimp only[bD];rw[Lk];have aS:=y.at ab;refine#[_,rfl,_,rfl,q,_,rfl, .inl (SqL.of aS),?_];rw[zl];refine#[_,rfl,(),(),?_];rw[J8];refine cx (n:=sz g) (λj u H'=>H'=U/\∃ (W:Nat) (p:Option V),W<2^n/\(∀t:Nat,W.testBit t=true↔a.testBit t=true\/∃m,m<j/\(bits g)[m]?=some (t:Int)/\i.testBit m=true)/\u=[some (.int (n:Int)),some (.ref b),some (.int (o:Int)),some (.int (a:Int)),some (.ref q),some (.ref l),some (.int (i:Int)),some (.int (W:Int)),p]) #[rfl,a,p,hw,λt=>by simp,rfl] ?_ ?_
  .rintro j u H4 hj ⟨rfl,W,p,G,J,rfl⟩;dsimp only[bD];have aE:j<(bits g).length:=hj;have z:=Ky aE;obtain⟨t,t8,tb,et⟩:=dg.mp (LD aE);rw[et]at z;have tn:=aW kl tb;refine#[_,rfl,_,rfl,_,_,rfl,rfl,(by show(0:Int)<=0+(j:Int);lia),_,_,rfl,rfl,rfl,_,rfl,?_];rw[ka];refine cG (λaa=> ?_) λaa=> ?_
   .refine#[_,rfl,_,rfl,_,rfl,q,_,_,_,rfl,rfl,SqL.of aS,by rw[Lk];exact jS z,_,_,rfl,rfl,#[(),(),∅],_,_,rfl,rfl,rfl,W|||2^t,some (.int (0+(j:Nat))),bP G tn,λs=> ?_,?_]
    .rw[aV,KH,Kf,J s];constructor
     .rintro((h|⟨m,B,c,d⟩)|h)
      .exact .inl h
      .exact .inr #[m,(),c,d]
      .exact .inr #[j,(),by rw[<-h];exact z,aa]
     .rintro(h|⟨m,B,c,d⟩)
      .exact .inl (.inl h)
      .by_cases e:m=j
       .subst e;rw[z]at c;have:=Lf c;exact .inr ()
       .exact .inl (.inr #[m,(),c,d])
    .show [_,_,_,_,_,_,_,some (V.int (Builtin.bitOr (W:Int) (1*2^((t:Nat):Int).toNat))),_]=_;rw[kf,eF]
   .refine#[rfl,W,_,G,λs=> ?_,rfl];rw[J s];refine Nb #[λ⟨m,B,c,d⟩=>#[m,(),c,d],λ⟨m,B,c,d⟩=>#[m,?_,c,d]];by_cases e:m=j
    .subst e;exact absurd d aa
    .lia
  .rintro u H4 ⟨rfl,W,p,G,J,rfl⟩;have eW:W=aN i g|||a:=Kj λt=>by
    rw[Mq,J t,Kl,KH,bF];constructor
    .rintro(h|⟨m,B,c,d⟩)
     .exact .inr h
     .exact .inl #[m,c,d]
    .rintro(⟨m,c,d⟩|h)
     .exact .inr #[m,(Kh.mp c).1,c,d]
     .exact .inl h
   subst eW;have aA:=(O.trans y).seq hb;refine#[_,rfl, .inl #[rfl,_,SqL.of L],_,rfl,_,rfl,b,_,_,_,rfl,rfl,aA,pO r G,_,rfl,_,rfl,b,_,_,_,rfl,rfl,aA,pO r hw,_,_,rfl,rfl,l,_,_,rfl,rfl,L,?_,?_]
   .rw[J2,J2,Kq];exact Kb hi (Kd pz ∅)
   .refine#[_,_,_,y.upd hl,?_,rfl];rw[av,LX,KP,KP,<-M.min_int kl hw i];rfl
 .rintro u U ⟨v6,v7,p,y,L,rfl⟩;exact#[_,rfl,k l U (O.trans y) (O.free hl) L]
theorem ua(a:i<R):(jz c n R)[i]?=some ((List.range n).map λt=>(c t).getD i 0):=by unfold jz;rw[Kv,LG a];rfl
theorem t9(c:Nat->List Int)(n R:Nat):(jz c n R).length=R:=by unfold jz;rw[J2,Kq]
theorem Ck(r:Nat->Nat):atI ((fZ n r).map V.int) (-1)=some (.int (r (2^n-1):Nat)):=by
 have b:=two_pow_pos n;rw[zV (by rw[lG];lia) ∅,lG];have e:((-1:Int)+((2^n:Nat):Int)).toNat=2^n-1:=()
 rw[e];have a:2^n-1<2^n:=()
 unfold fZ;simp[a]
def gq(c:Nat->List Int)(R S:Nat):List (List Int):=(List.range R).map λi=>(az S).map λt=>(c t).getD i 0
theorem DI(h:sz S=R):aP ((gq c R S).map bg) (List.range R)=aP (dP (jB c) (List.range R)) (az S):=by
 have d:(az S).length=R:=(a7 S).trans h;have a:=mV (λj=>(az S).getD j 0) (List.range R) (dP (jB c) (List.range R));have b:=iu (az S);rw[d]at b;rw[b]at a;rw[<-a];refine gw (List.range R) _ _ (by unfold gq dP;simp) λi j f=> ?_;have g:j<(az S).length:=by rw[d];exact J9.mp f
 unfold gq dP;rw[K5,K5,Kc,Kc,Kv,Kv];by_cases e:i<R
 .rw[LG e];show((az S).map λt=>(c t).getD i 0).getD j 0=(c ((az S).getD j 0)).getD i 0;simp[g]
 .rw[MX (by rw[Kq];lia)];rfl
theorem BS{c:Nat->List Int}{n R S:Nat}(d:n<=8)(a:S<2^n){i:Nat}:((List.range n).filter S.testBit).map (λt=>((List.range n).map λt=>(c t).getD i 0).getD t 0)=(az S).map λt=>(c t).getD i 0:=by rw[jg d a];refine LB λt b=> ?_;have e:=aW a (aT.mp b).2;simp[e]
inductive A5(K:PySem.W.Frag)(vs:List V)(H:Hp)(Q:VK):Prop
 |mk (l b:Addr) (xs:List V) (n R:Nat) (r:Nat->Nat) (c:Nat->List Int) (y_0:vs=[.ref l, .int (n:Int), .ref b]) (y_1:H l=some (.lst xs)) (y_2:aU H xs (jz c n R)) (y_3:SqL K H b ((fZ n r).map V.int)) (y_4:Mat n r) (y_5:r (2^n-1)=R) (y_6:vy 3 n R r c) (y_7:∀H',Same H H'->Q (.bl true) H'):A5 K vs H Q
def Dj(K:PySem.W.Frag):Sp:=λvs H Q _=>A5 K vs H Q
theorem sc__law_table_right:aK ["_law_rows_here","_law_many","_law_levels","_law_row","_law_number","_law_s","_law_part"] ["_law_rows_here","_law_many","_law_levels"] (aw s__law_table_right):=sc_of
theorem kF(T:Tb K mg)(D:bw K mg "_law_table_right" s__law_table_right ["_law_rows_here","_law_many","_law_levels"])(ag:Cal P w K mg base 1 "_law_size" ["_law_s"] gY)(ab:Cal P w K mg base 1 "_law_whole" ["_law_found"] ui)(aa:Cal P w K mg base 2 "_law_determinant" ["_law_rows_here"] (yt K)):
  Cal P w K mg base 3 "_law_table_right" ["_law_rows_here","_law_many","_law_levels"] (Dj K):=by
 refine D.cal sc__law_table_right (λvs H Q E h=>by obtain⟨l,b,xs,n,R,r,c,rfl,_⟩:=h;rfl) λf cdv A outer dr H vs Q E o h=> ?_;obtain⟨l,b,xs,n,R,r,c,rfl,hl,hR,hb,M,rR,⟨⟨B,hB,zB,rB,st⟩,b4,b5⟩,k⟩:=h;refine#[_,(ah (bo (PW.pt (iE (kZ (dD (dX (eD (K:=K) ⋯) ⋯ T.isinstance_ Mt (ae (pv 0) (ae (kh (v:= .ty "list") ⋯ T.list_ MR rfl) aq))))) (jh (wpt gE (wlen K T.len_ (pv 0)) (dh K (pv 2) (jP ie af))))))
     (ao (aH fE))
     aO)
   (ah (wfor (wil K (pv 0)) (wname 3 sc__law_table_right.nd)
     (ah (bo (PW.pt (iE (kZ (dD (dX (eD (K:=K) ⋯) ⋯ T.isinstance_ Mt (ae (pv 3) (ae (kh (v:= .ty "list") ⋯ T.list_ MR rfl) aq))))) (jh (wpt gE (wlen K T.len_ (pv 3)) (pv 1)))))
       (ao (aH fE))
       aO)
     (ao (wfor (wil K (pv 3)) (wname 4 sc__law_table_right.nd)
       (ao (bo (PW.pt (iE (kZ (dD (wcal ab o (ae (pv 4) aq)))) (iE (wpt oG (pv 4) af) (jh (wpt mq (pv 4) af)))))
         (ao (aH fE))
         aO))))))
   (ah (wfor (wrng T.range_ (ax cW af (pv 1))) (wname 5 sc__law_table_right.nd)
     (ao (bo (wpt a8 (wcal ag o (ae (pv 5) aq)) (wlen K T.len_ (pv 0)))
       (ah (wset 6 sc__law_table_right.nd (cS aq))
       (ah (wfor (wil K (pv 0)) (wname 3 sc__law_table_right.nd)
         (ao (cR (fo (K:=K) ⋯ Lh Lm Ln cF (pv 6) (ae (wlc ["_law_k"] ["_law_row","_law_s"] [3,5] (wrng T.range_ (pv 1)) (wnC 0) (cZ (wpt a8 (ax eQ (ax gM (pv 2) (pv 0)) af) af)) (dh K (pv 1) (pv 0))) aq)))))
       (ao (bo (wpt gE (wpe gE (ax cj (wcal aa o (ae (pv 6) aq)) af) af) (wpe a8 (dh K (pv 2) (pv 5)) (wlen K T.len_ (pv 0))))
         (ao (aH fE))
         aO))))
       aO)))
   (ao (aH fE))))),?_]
 have n8:=M.n8;have p8:=kM n8;have xl:xs.length=R:=by rw[hR.1,t9]
 have R8:R<=8:=by have:=M.kQ (2^n-1) (aQ n);have h2:sz (2^n-1)<=8:=a9 _;lia
 refine#[_,rfl,_,_,_,true,rfl, .lst hl,T.kLL,true,rfl,eZ ?_];refine#[_,rfl,l,_,rfl, .inl (SqL.of hl),_,rfl,1,rfl,b,_,_,_,rfl,rfl,hb,Ck r,rfl,_,rfl,?_];rw[xl,rR];refine sI rfl ?_;refine#[_,rfl,l,rfl,#[_,SqL.of hl],?_];refine cD (K:=K) (a:=l) (xs:=xs) (λi d J=>J=H/\∃m g,d=[some (.ref l),some (.int (n:Int)),some (.ref b),m,g,none,none]) #[rfl,none,none,rfl] (λi d J _ h=>by rw[h.1];exact SqL.of hl) ?_ ?_
 .rintro i x d J s ⟨rfl,m,g,rfl⟩;obtain⟨a,c5,aA,rfl,O⟩:=hR.at s;have p:i<R:=by rw[<-xl];exact(Kh.mp s).1
  rw[ua p]at aA;cases aA;dsimp only[bD];refine#[_,rfl,_,_,_,true,rfl, .lst O,T.kLL,true,rfl,eZ ?_];refine#[_,rfl,a,_,rfl, .inl (SqL.of O),_,rfl,rfl,_,rfl,?_];rw[J2,J2,Kq];refine sI rfl ?_;refine#[_,rfl,a,rfl,#[_,SqL.of O],?_];refine cD (K:=K) (a:=a) (xs:=((List.range n).map λt=>(c t).getD i 0).map V.int) (λj d e=>e=J/\∃g,d=[some (.ref l),some (.int (n:Int)),some (.ref b),some (.ref a),g,none,none]) #[rfl,g,rfl] (λj d e _ h=>by rw[h.1];exact SqL.of O) ?_ ?_
  .rintro j x d e hj ⟨rfl,g,rfl⟩;obtain⟨z,rfl,U⟩:=bL hj;obtain⟨t,ht,ez⟩:=Ka.mp (Km U);have tn:=J9.mp ht;have ci:i<(c t).length:=by rw[b4 t tn];exact p
   have:=b5 t tn z (by rw[<-ez];simp[ci]);dsimp only[bD];refine#[_,rfl,z,rfl,_,rfl,eZ ?_];refine#[_,rfl,_,_,rfl,rfl,_,rfl,?_];rw[J4 (by simp;lia)];refine#[_,rfl,_,_,rfl,rfl,_,rfl,?_];rw[J4 (by simp;lia)];exact#[rfl,_,rfl]
  .rintro d e ⟨rfl,g,rfl⟩;exact#[rfl,_,_,rfl]
 .rintro d J ⟨rfl,m,g,rfl⟩;have dj:=two_pow_pos n;refine#[_,rfl,_,_,rfl,rfl,#[(),(),∅],_,rfl,?_];rw[cQ];refine#[(),(),?_];rw[J8];refine cx (n:=2^n) (λi d e=>Same J e/\∃m g v5 v6:Option V,d=[some (.ref l),some (.int (n:Int)),some (.ref b),m,g,v5,v6]) #[Same.refl _,m,g,none,none,rfl] ?_ ?_
  .rintro S d e hS ⟨u,m,g,v5,v6,rfl⟩;dsimp only[bD];rw[Lk];have a3:=u.at hl;have cA:=hR.same u;refine#[_,rfl,(S:Int),rfl,(),(),_,rfl,l,_,rfl, .inl (SqL.of a3),rfl,_,rfl,?_];rw[xl,J8,aX];refine cG (λU=> ?_) λU=>#[u,m,g,_,v6,rfl];have zS:sz S=R:=Ko U;refine#[Ls _,λq hq=> ?_];have b6:Same e (upd e q (.lst [])):=Same.new hq;have cO:upd e q (.lst []) q=some (.lst []):=av;have c1:aU (hide (upd e q (.lst [])) q) [] ((gq c R S).take 0):=#[rfl,λi r o=>by simp at o];generalize upd e q (.lst [])=H4 at*;refine#[_,rfl,l,rfl,#[_,SqL.of (b6.at a3)],?_];have pl:(gq c R S).length=R:=by unfold gq;rw[J2,Kq]
   refine cD (K:=K) (a:=l) (xs:=xs) (λi d N=>∃ (G:List V) (m:Option V),Same e N/\N q=some (.lst G)/\aU (hide N q) G ((gq c R S).take i)/\d=[some (.ref l),some (.int (n:Int)),some (.ref b),m,g,some (.int (S:Int)),some (.ref q)]) #[[],m,b6,cO,c1,rfl] (λi d N _ h=>by obtain⟨_,_,sm,_⟩:=h;exact SqL.of (sm.at a3)) ?_ ?_
   .rintro i x d N s ⟨G,m,ai,ay,hY,rfl⟩;obtain⟨a,c5,aA,rfl,O⟩:=(cA.same ai).at s;have p:i<R:=by rw[<-xl];exact(Kh.mp s).1
    rw[ua p]at aA;cases aA;dsimp only[bD];refine#[_,rfl, .inl #[rfl,_,SqL.of ay],_,rfl,_,rfl,(),(),?_];rw[J8];refine dN S.testBit (λt=> .int (((List.range n).map λt=>(c t).getD i 0).getD t 0)) (Kd n8 ∅) (λt vs H' Rk Sk ht hv sm hk=> ?_) λD6 H6 bS y bX=> ?_
    .obtain⟨v,rfl⟩:=bH hv;have q1:=hk [some (.int (0+(t:Nat)))] H' rfl (Same.refl _);refine#[_,rfl,_,rfl,_,_,rfl,rfl,(by show(0:Int)<=0+(t:Int);lia),_,_,rfl,rfl,rfl,_,rfl,?_];rw[ka];by_cases hb:S.testBit t=true
     .rw[J5 hb]at q1⊢;refine#[_,rfl,_,rfl,a,_,_,_,rfl,rfl,SqL.of (sm.at O),by rw[Lk];exact cY (by rw[J2,Kq];exact ht),q1]
     .rw[J4 hb]at q1⊢;exact q1
    .have e6:eY S.testBit (λt=>V.int (((List.range n).map λt=>(c t).getD i 0).getD t 0)) n=((az S).map λt=>(c t).getD i 0).map V.int:=by rw[<-BS (R:=R) n8 hS];unfold eY;rw[K5];rfl
     rw[e6]at bX;have yl:G.length=i:=by rw[hY.1,KL,pl];lia
     have nD:D6≠q:=λz=>by rw[z,ay]at bS;cases bS
     refine#[q,_,_,rfl,rfl,y.at ay,by rw[yl];exact Kb (Kb p R8) ∅,?_];refine#[G++[.ref D6],_,(ai.trans y).upd hq,av,?_,rfl];have gi:(gq c R S)[i]?=some ((az S).map λt=>(c t).getD i 0):=by unfold gq;rw[Kv,LG p];rfl
     rw[i0,Lx,gi];refine jM (hY.same (ia y)) #[rfl,λj r o=> ?_];cases j with
     |zero=>cases o;exact#[D6,rfl,by rw[dR nD];exact bX]
     |succ j=>simp at o
   .rintro d N ⟨G,m,ai,ay,hY,rfl⟩;rw[xl,MH (Nat.le_of_eq pl)]at hY;have cB:=hY.same eu;have gd:=st.good S (cC hS) zS;have lS:(az S).length=R:=(a7 S).trans zS;have sq:=(dC aD (L:=dP (jB c) (List.range R)) (cs:=az S) (R:=R) (by unfold dP;rw[J2,Kq]) lS);rw[<-DI zS]at sq;have b2:¬(3:Int)∣aP ((gq c R S).map bg) (List.range R)↔r S=R:=sq.symm.trans gd;refine#[_,rfl,q,G,gq c R S,R,rfl,SqL.of ay,cB,pl,R8,λrr b1=> ?_,λH6 y=> ?_]
    .unfold gq at b1;obtain⟨i,s,rfl⟩:=Ka.mp b1;have p:=J9.mp s;refine#[by rw[J2,lS],λz U=> ?_];obtain⟨t,ht,rfl⟩:=Ka.mp U;have tn:=aW hS (aT.mp ht).2;have ci:i<(c t).length:=by rw[b4 t tn];exact p
     have:=b5 t tn ((c t).getD i 0) (by simp[ci]);exact Kb (show((c t).getD i 0).natAbs<2^7 by lia) (Kw ∅ ∅)
    generalize aP ((gq c R S).map bg) (List.range R)=dt at*;have cK:=(u.trans (ai.trans y)).seq hb;refine#[_,_,rfl,rfl,∅,rfl,_,rfl,_,rfl,b,_,_,_,rfl,rfl,cK,pO r hS,_,rfl,l,_,rfl, .inl (SqL.of (y.at (ai.at a3))),rfl,rfl,_,rfl,?_];rw[xl,aX];have e1:(!decide (V.int (dt % 3)=V.int 0))=decide (r S=R):=by
     by_cases h1:r S=R
     .have h2:=b2.mpr h1;have h3:¬dt % 3=0:=λz=>h2 (MP z);rw[J3 h1,J6 (λz=>h3 (V.int.inj z))];rfl
     .have h2:dt % 3=0:=by have h3:(3:Int)∣dt:=Kr λz=>h1 (b2.mp z);exact NO h3
      rw[J6 h1,h2];rfl
    rw[e1];refine sI rfl ?_;exact#[u.trans (ai.trans y),_,_,_,_,rfl]
  .rintro d e ⟨u,m,g,v5,v6,rfl⟩;exact k e u
inductive xR(K:PySem.W.Frag)(vs:List V)(H:Hp)(Q:VK):Prop
 |mk (t b:Addr) (n R:Nat) (r:Nat->Nat) (y_0:vs=[.ref t, .int (n:Int), .ref b]) (y_1:SqL K H b ((fZ n r).map V.int)) (y_2:Mat n r) (y_3:r (2^n-1)=R) (y_4:((∃l xs c,H t=some (.tup [.str "table", .ref l])/\H l=some (.lst xs)/\aU H xs (jz c n R)/\vy 3 n R r c)\/(∃kd s w,H t=some (.tup [.str "barred", .int (au (au (2^n-1) s) w:Nat), .int (w:Int), .str kd])/\(∃m d,(kd,m,d)∈iT)/\s<2^n/\Sub w (au (2^n-1) s)/\fJ (sz s) (df r s w)= .str kd))) (y_5:∀H',Same H H'->Q (.bl true) H'):xR K vs H Q
def Ak(K:PySem.W.Frag):Sp:=λvs H Q _=>xR K vs H Q
theorem sc__law_right:aK ["_law_found","_law_many","_law_levels","_law_out","_law_drawn","_law_kind_here"] ["_law_found","_law_many","_law_levels"] (aw s__law_right):=sc_of
theorem rM(T:Tb K mg)(D:bw K mg "_law_right" s__law_right ["_law_found","_law_many","_law_levels"])(x:Cal P w K mg base 1 "_law_whole" ["_law_found"] ui)(ai:Cal P w K mg base 3 "_law_kind" ["_law_levels"] (Aq K))(ag:Cal P w K mg base 1 "_law_minor" ["_law_many","_law_levels","_law_out","_law_drawn"] (Dl K))(ab:Cal P w K mg base 3 "_law_table_right" ["_law_rows_here","_law_many","_law_levels"] (Dj K)):
  Cal P w K mg base 4 "_law_right" ["_law_found","_law_many","_law_levels"] (Ak K):=by
 refine D.cal sc__law_right (λvs H Q E h=>by obtain⟨t,b,n,R,r,rfl,_⟩:=h;rfl) λf cdv A outer b3 H vs Q E g h=> ?_;obtain⟨t,b,n,R,r,rfl,y,M,rR,h1,k⟩:=h;refine#[_,(ah (bo (PW.pt (iE (kZ (dD (dX (eD (K:=K) ⋯) ⋯ T.isinstance_ Mt (ae (pv 0) (ae (kh (v:= .ty "tuple") ⋯ T.tuple_ NP rfl) aq))))) (jh (wpt oG (wlen K T.len_ (pv 0)) af))))
     (ao (aH fE))
     aO)
   (ah (bo (wpt a8 (kS K (pv 0) af) fO)
     (ao (aH (yD (wpe a8 (wlen K T.len_ (pv 0)) af) (yC (wcal ab g (ae (kS K (pv 0) af) (ae (pv 1) (ae (pv 2) aq))))))))
     aO)
   (ah (bo (PW.pt (iE (wpt gE (kS K (pv 0) af) fO) (iE (wpt gE (wlen K T.len_ (pv 0)) af) (iE (kZ (dD (wcal x g (ae (kS K (pv 0) af) aq)))) (jh (kZ (dD (wcal x g (ae (kS K (pv 0) af) aq)))))))))
     (ao (aH fE))
     aO)
   (ah (wset 3 sc__law_right.nd (kS K (pv 0) af))
   (ah (wset 4 sc__law_right.nd (kS K (pv 0) af))
   (ah (bo (PW.pt (iE (wpt oG (pv 3) af) (iE (wpt oG (pv 4) af) (iE (wpt Js (ax kN (pv 3) (pv 4)) (ax cW af (pv 1))) (jh (wpt gE (ax eQ (pv 3) (pv 4)) af))))))
     (ao (aH fE))
     aO)
   (ah (wset 5 sc__law_right.nd (wcal ai g (ae (wcal ag g (ae (pv 1) (ae (pv 2) (ae (pv 3) (ae (pv 4) aq))))) aq)))
   (ah (bo (lY (gy (K:=K) ⋯) (pv 5) (jQ (ae fO (ae fO (ae fO (ae fO aq))))) ⋯)
     (ao (aH fE))
     aO)
   (ao (aH (yD (dX (eD (K:=K) ⋯) ⋯ T.isinstance_ Mt (ae (kS K (pv 0) af) (ae (kh (v:= .ty "str") ⋯ T.str_ PyProof.Rows.boot_str rfl) aq))) (yC (wpe a8 (kS K (pv 0) af) (pv 5)))))))))))))),?_]
 rcases h1 with ⟨l,xs,c,a,hl,hR,ho⟩|⟨i,s,d,a,⟨km,kq,B⟩,J,O,bb⟩
 .refine#[_,rfl,_,_,_,true,rfl, .tup a,T.kTT,true,rfl,eZ ?_];refine#[_,rfl,t,_,rfl, .inr (SqT.of a),_,_,rfl,rfl,_,rfl,eZ ?_];refine#[_,rfl,t,_,_,_,rfl,rfl,SqT.of a,rfl,rfl,_,rfl,nX ?_];refine#[_,rfl,t,_,rfl, .inr (SqT.of a),rfl,?_];refine#[_,rfl,nX ?_];exact#[_,rfl,t,_,_,_,rfl,rfl,SqT.of a,rfl,_,rfl,_,rfl,l,b,xs,n,R,r,c,rfl,hl,hR,y,M,rR,ho,k]
 .have n8:=M.n8;have p8:=kM n8;have U:au (2^n-1) s<2^n:=kA;have q:d<2^n:=O.lt U;have ol:au (au (2^n-1) s) d<2^n:=Ks (iI _ _) U;have dj:au (au (2^n-1) s) d&&&d=0:=Kj λj=>by rw[KQ,aG,KI];cases d.testBit j<;>simp
  have ke:=AK J O;have b1:au (au (2^n-1) s) d|||d<2^n:=K4 ol q;generalize au (au (2^n-1) s) d=o at*;refine#[_,rfl,_,_,_,true,rfl, .tup a,T.kTT,true,rfl,eZ ?_];refine#[_,rfl,t,_,rfl, .inr (SqT.of a),_,_,rfl,rfl,_,rfl,eZ ?_];refine#[_,rfl,t,_,_,_,rfl,rfl,SqT.of a,rfl,rfl,_,rfl,cG (λm=> ?_) λ_=> ?_]
  .exact absurd (Ko m) (by intro z;exact absurd (V.str.inj z) (by decide+kernel))
  refine#[_,rfl,t,_,_,_,rfl,rfl,SqT.of a,rfl,rfl,_,rfl,sI rfl ?_];refine#[_,rfl,t,_,rfl, .inr (SqT.of a),rfl,_,rfl,sI rfl ?_];refine#[_,rfl,t,_,_,_,rfl,rfl,SqT.of a,rfl,_,rfl,_,rfl,eZ ?_];refine#[_,rfl,t,_,_,_,rfl,rfl,SqT.of a,rfl,_,rfl,_,rfl,eZ ?_];refine#[_,rfl,t,_,_,_,rfl,rfl,SqT.of a,rfl,?_];refine#[_,rfl,t,_,_,_,rfl,rfl,SqT.of a,rfl,?_];refine#[_,rfl,_,_,rfl,rfl,_,rfl,?_];rw[J4 (by simp)];refine#[_,rfl,_,_,rfl,rfl,_,rfl,?_];rw[J4 (by simp)];refine#[_,rfl,_,rfl,_,_,rfl,rfl,_,rfl,_,_,rfl,rfl,#[(),(),∅],_,_,rfl,rfl,_,rfl,?_];refine cG (λm=> ?_) λ_=> ?_
  .have:=Ko m;rw[kf,eF]at this;lia
  refine#[_,rfl,_,rfl,_,_,rfl,rfl,rfl,_,rfl,?_];rw[iy,dj];refine sI rfl ?_;refine#[_,rfl,_,rfl,_,rfl,_,rfl,b,n,o,d,r,rfl,y,M,ol,q,λp H1 ak hp G=> ?_];rw[ke]at G;have kd:xo (sz s) (df r s d)= .str i:=(Ga (Dw (M.minor J q))).symm.trans bb;refine#[p,sz s,df r s d,rfl,SqL.of G,a9 _,λH2 ar=> ?_];rw[kd];have bj:=ar.at (ak.at a);refine#[_,rfl,Kd (Kk 4) ∅,λu N=> ?_];have e:inV (V.str i) [V.str "two of five",V.str "three of five",V.str "seven",V.str "other seven"]=true:=by
   have e1:(("two of five":Str))=bz:=by decide+kernel
   have e2:(("three of five":Str))=a6:=by decide+kernel
   have e3:(("seven":Str))=d9:=by decide+kernel
   have e4:(("other seven":Str))=bA:=by decide+kernel
   rw[e1,e2,e3,e4];simp only[iT,J7,Prod.mk.injEq,Ki,K0]at B;rcases B with h|h|h|h<;>rw[h.1]<;>simp[inV,eqV]
  refine#[u,_,rfl, .inr (SqT.of av),rfl,rfl,?_];rw[J5 rfl,e];have L:=(Same.new (o:= .tup [V.str "two of five",V.str "three of five",V.str "seven",V.str "other seven"]) N).at bj;refine#[_,rfl,eZ ?_];refine#[_,rfl,t,_,_,_,rfl,rfl,SqT.of L,rfl,_,_,_,true,rfl, .str _,T.kSS,_,rfl,nX ?_];refine#[_,rfl,t,_,_,_,rfl,rfl,SqT.of L,rfl,_,rfl,rfl,?_];show Q (.bl (decide (V.str i=V.str i))) _;rw[J3 rfl];exact k _ (ak.trans (ar.trans (Same.new N)))
structure bU(n:Nat)(r:Nat->Nat)(ms:List Int):Prop where
 mat:Mat n r
 mem:∀z,z∈ms↔∃b:Nat,b<2^n/\z=(b:Int)/\sz b=r (2^n-1)/\r b=r (2^n-1)
 few:ms.length<=2^n
def gQ(a:Int)(n p:Nat)(r:Nat->Nat)(s:Nat):Nat:=if a=1 then r (bC p s)+(if s.testBit p=true then 1 else 0)else if a=2/\p<n then r (eJ p s)else r (bC p s)
def gL(a:Int)(n p s:Nat):List Int:=(if a=1 then [((bh p s+2^p:Nat):Int)]else [((bh p s:Nat):Int)])++if a=2/\p<n/\s.testBit p=true then [((bh p s-2^p:Nat):Int)]else []
theorem wL(a:Int)(n p s:Nat):(gL a n p s).length<=2:=by unfold gL;rw[Kz];split<;>split<;>simp
theorem nr(a:p<=n):bC p (2^(n+1) -1)=2^n-1:=Kj λj=>by
 rw[cJ,KD,KD,KD];by_cases h:j<p
 .rw[J5 h,J3 (),J3 ()]
 .rw[J4 h];exact LS.mpr ()
theorem ET(a:p<n):eJ p (2^(n+1) -1)=2^n-1:=by unfold eJ;rw[nr (),KD,J3 (),J5 rfl];exact fQ (by rw[KD];exact J3 a)
theorem AN(M:Mat n r)(f:p<=n)(d:n<8)(a:Int):Mat (n+1) (gQ a n p r):=by
 by_cases b:a=1
 .have e:gQ a n p r=λs=>r (bC p s)+if s.testBit p=true then 1 else 0:=funext λs=>by unfold gQ;rw[J5 b]
  rw[e];exact M.inAll f d
 .by_cases c:a=2/\p<n
  .have e:gQ a n p r=λs=>r (eJ p s):=funext λs=>by unfold gQ;rw[J4 b,J5 c]
   rw[e];exact M.beside c.2 d
  .have e:gQ a n p r=λs=>r (bC p s):=funext λs=>by unfold gQ;rw[J4 b,J4 c]
   rw[e];exact M.loop f d
theorem oh{ms:List Int}(h:bU n r ms)(m:p<=n)(q:n<8)(c:Int):bU (n+1) (gQ c n p r) (ms.flatMap λz=>gL c n p z.toNat):=by
 have M:=h.mat;have top:∀s,s<2^n->r s<=r (2^n-1):=λs a=>M.mono (cC a) (aQ n);refine#[AN M m q c,λz=> ?_,?_]
 .have G:∀ (v:Nat) (g:Nat->Nat) (u:Nat->Nat->Prop),v=g (2^(n+1) -1)->(∀t,t<2^(n+1)->((sz t=v/\g t=v)↔∃s,s<2^n/\sz s=r (2^n-1)/\r s=r (2^n-1)/\u s t))->(∀s t,s<2^n->u s t->t<2^(n+1))->
    (∀s,s<2^n->∀z,z∈gL c n p s↔∃t:Nat,u s t/\z=(t:Int))->(z∈ms.flatMap (λz=>gL c n p z.toNat)↔∃b:Nat,b<2^(n+1)/\z=(b:Int)/\sz b=g (2^(n+1) -1)/\g b=g (2^(n+1) -1)):=λv g u eR i j L=>by
   subst eR;rw[List.mem_flatMap];constructor
   .rintro⟨y,hy,N⟩;obtain⟨b,B,rfl,U,b3⟩:=(h.mem y).mp hy;rw[J8]at N;obtain⟨t,Q,t2⟩:=(L b B z).mp N;have A:=j b t B Q;obtain⟨H,J⟩:=(i t A).mpr #[b,B,U,b3,Q];exact#[t,A,t2,H,J]
   .rintro⟨t,A,rfl,H,J⟩;obtain⟨s,O,s2,s3,s4⟩:=(i t A).mp #[H,J];exact#[(s:Int),(h.mem _).mpr #[s,O,rfl,s2,s3],by rw[J8];exact(L s O _).mpr #[t,s4,rfl]]
  by_cases i:c=1
  .have e:gQ c n p r=λs=>r (bC p s)+if s.testBit p=true then 1 else 0:=funext λs=>by unfold gQ;rw[J5 i]
   rw[e];refine G (r (2^n-1)+1) _ (λs t=>t=bh p s+2^p) ?_ (λt o=>M.inAll_bases top m q o) (λs t a e=> ?_) λs a z=> ?_
   .rw[nr m,KD,J3 (),J5 rfl]
   .rw[e,vC s (kP q a) p ()];exact bP (lz a m) ()
   .unfold gL;rw[J5 i,J4 (λz=>by have:=z.1;lia),LF,KZ];exact#[λe=>#[_,rfl,e],λ⟨t,d,l⟩=>by rw[l,d]]
  .by_cases j:c=2/\p<n
   .have e:gQ c n p r=λs=>r (eJ p s):=funext λs=>by unfold gQ;rw[J4 i,J5 j]
    rw[e];refine G (r (2^n-1)) _ (λs t=>t=bh p s\/s.testBit p=true/\t=bh p s-2^p) ?_ (λt o=>M.beside_bases j.2 q o) (λs t a e=> ?_) λs a z=> ?_
    .rw[ET j.2]
    .have:=lz a m;rcases e with e|⟨_,e⟩
     .rw[e];exact this
     .rw[e];exact Ks (Nat.sub_le _ _) this
    .unfold gL;rw[J4 i,KC,KZ];by_cases x:s.testBit p=true
     .rw[J5 #[j.1,j.2,x],KZ];constructor
      .rintro(e|e)
       .exact#[_, .inl rfl,e]
       .exact#[_, .inr #[x,rfl],e]
      .rintro⟨t,d|⟨_,d⟩,l⟩
       .exact .inl (by rw[l,d])
       .exact .inr (by rw[l,d])
     .rw[J4 (λz=>x z.2.2)];constructor
      .rintro(e|e)
       .exact#[_, .inl rfl,e]
       .cases e
      .rintro⟨t,d|⟨e0,_⟩,l⟩
       .exact .inl (by rw[l,d])
       .exact absurd e0 x
   .have e:gQ c n p r=λs=>r (bC p s):=funext λs=>by unfold gQ;rw[J4 i,J4 j]
    rw[e];refine G (r (2^n-1)) _ (λs t=>t=bh p s) ?_ (λt o=>M.loop_bases m q o) (λs t a e=>by rw[e];exact lz a m) λs a z=> ?_
    .rw[nr m]
    .unfold gL;rw[J4 i,J4 (λz=>j #[z.1,z.2.1]),LF,KZ];exact#[λe=>#[_,rfl,e],λ⟨t,d,l⟩=>by rw[l,d]]
 .have:=jU (f:=λz:Int=>gL c n p z.toNat) (k:=2) (λz=>wL _ _ _ _) ms;have:=h.few;rw[NI];lia
inductive E7(K:PySem.W.Frag)(vs:List V)(H:Hp)(Q:VK):Prop
 |mk (a:Addr) (ms:List Int) (n p:Nat) (kd:Int) (r:Nat->Nat) (y_0:vs=[.ref a, .int (n:Int), .int (p:Int), .int kd]) (y_1:SqL K H a (ms.map V.int)) (y_2:bU n r ms) (y_3:n<8) (y_4:p<=n) (y_5:∀q H',Same H H'->H q=none->H' q=some (.lst ((ms.flatMap λz=>gL kd n p z.toNat).map V.int))->Q (.ref q) H'):E7 K vs H Q
def GK(K:PySem.W.Frag):Sp:=λvs H Q _=>E7 K vs H Q
theorem CU{p s:Nat}:((s:Int) /2^((p:Nat):Int).toNat*2^(((p:Nat):Int)+1).toNat+(s:Int) % (1*2^((p:Nat):Int).toNat):Int)=((bh p s:Nat):Int):=by
 have a:(((p:Nat):Int)+1).toNat=p+1:=()
 rw[cQ,a,J8];unfold bh;have b:((s:Int) /2^p)=((s/2^p:Nat):Int):=by simp
 have c:((2:Int)^(p+1))=((2^(p+1):Nat):Int):=by simp
 rw[b,c,O2,Int.natCast_mul,Int.natCast_emod,KG]
theorem sc__law_put:aK ["_law_told","_law_many","_law_at","_law_kind_here","_law_found","_law_s","_law_wide"] ["_law_told","_law_many","_law_at","_law_kind_here"] (aw s__law_put):=sc_of
theorem wZ(D:bw K mg "_law_put" s__law_put ["_law_told","_law_many","_law_at","_law_kind_here"]):Cal P w K mg base 1 "_law_put" ["_law_told","_law_many","_law_at","_law_kind_here"] (GK K):=by
 refine D.cal sc__law_put (λvs H Q E h=>by obtain⟨a,ms,n,p,b,r,rfl,_⟩:=h;rfl) λf cdv A outer b2 H vs Q E hr h=> ?_;obtain⟨a,ms,n,p,b,r,rfl,U,O,n8,hp,k⟩:=h;refine#[_,(ah (wset 4 sc__law_put.nd (cS aq))
   (ah (wfor (wil K (pv 0)) (wname 5 sc__law_put.nd)
     (ah (wset 6 sc__law_put.nd (ax dz (ax cW (ax gM (pv 5) (pv 2)) (ax dz (pv 2) af)) (ax cj (pv 5) (ax cW af (pv 2)))))
     (ah (bo (wpt a8 (pv 3) af)
       (ao (cR (fo (K:=K) ⋯ Lh Lm Ln cF (pv 4) (ae (ax dz (pv 6) (ax cW af (pv 2))) aq))))
       (ao (cR (fo (K:=K) ⋯ Lh Lm Ln cF (pv 4) (ae (pv 6) aq)))))
     (ao (bo (PW.pt (dy (wpt a8 (pv 3) af) (dy (wpt oG (pv 2) (pv 1)) (ee (wpt a8 (ax eQ (ax gM (pv 5) (pv 2)) af) af)))))
       (ao (cR (fo (K:=K) ⋯ Lh Lm Ln cF (pv 4) (ae (ax fq (pv 6) (ax cW af (pv 2))) aq))))
       aO)))))
   (ao (aH (pv 4))))),?_]
 refine#[Ls _,λq j=> ?_];have aj:Same H (upd H q (.lst [])):=Same.new j;have bb:upd H q (.lst []) q=some (.lst (((ms.take 0).flatMap λz=>gL b n p z.toNat).map V.int)):=av;generalize upd H q (.lst [])=H0 at*;have few:∀i,((ms.take i).flatMap λz=>gL b n p z.toNat).length<=512:=λi=>by have e:=jU (f:=λz:Int=>gL b n p z.toNat) (k:=2) (λz=>wL _ _ _ _) (ms.take i);have o:=O.few;have t:=kM (show n<=8 by lia);rw[KL]at e;lia
 refine#[_,rfl,a,rfl,#[_,aj.seq U],?_];refine cD (K:=K) (a:=a) (xs:=ms.map V.int) (λi v d=>∃l m,Same H d/\d q=some (.lst (((ms.take i).flatMap λz=>gL b n p z.toNat).map V.int))/\v=[some (.ref a),some (.int (n:Int)),some (.int (p:Int)),some (.int b),some (.ref q),l,m]) #[none,none,aj,bb,rfl] (λi v d _ h=>by obtain⟨_,_,sm,_⟩:=h;exact sm.seq U) ?_ ?_
 .rintro i x v d hi ⟨l,m,u,c,rfl⟩;obtain⟨z,rfl,hz⟩:=bL hi;obtain⟨s,s1,rfl,s2,s3⟩:=(O.mem z).mp (Km hz);dsimp only[bD];refine#[_,rfl,_,rfl,_,_,rfl,rfl,(by show(0:Int)<=(p:Int);lia),?_];have s8:s<256:=s_lt (show n<=8 by lia) s1;have e0:((s:Int) /2^((p:Nat):Int).toNat)=((s/2^p:Nat):Int):=by rw[J8];simp
  have e1:s/2^p<=s:=Nat.div_le_self _ _;have cp:JJ ((s:Int) /2^((p:Nat):Int).toNat) ((p:Int)+1):=#[(),(),by rw[e0,Int.natAbs_natCast];exact Ks e1 (N7 s8 ∅)];have pp:(0:Int)<1*2^((p:Nat):Int).toNat:=by rw[cQ];exact Int.natCast_pos.mpr (two_pow_pos p)
  refine#[_,rfl,_,_,rfl,rfl,_,_,rfl,rfl,cp,_,rfl,_,rfl,_,_,rfl,rfl,#[(),(),∅],_,_,rfl,rfl,pp,_,_,rfl,rfl,?_];rw[CU];have w1:=jb s (kP n8 s1) p ();have tk:(ms.take (i+1)).flatMap (λz=>gL b n p z.toNat)=((ms.take i).flatMap λz=>gL b n p z.toNat)++gL b n p s:=by rw[Lx,hz,List.flatMap_append];simp
  have M:=few i;generalize hL:(ms.take i).flatMap (λz=>gL b n p z.toNat)=L at*;unfold C9;dsimp only;refine eU (λar H'=>Same H H'/\H' q=some (.lst ((L++if b=1 then [((bh p s+2^p:Nat):Int)]else [((bh p s:Nat):Int)]).map V.int))/\ar=[some (.ref a),some (.int (n:Int)),some (.int (p:Int)),some (.int b),some (.ref q),some (.int (s:Int)),some (.int ((bh p s:Nat):Int))]) ?_ ?_
  .rintro ar J ⟨ai,B,rfl⟩;have l3:(L++if b=1 then [((bh p s+2^p:Nat):Int)]else [((bh p s:Nat):Int)]).length<=513:=by rw[Kz];split<;>simp<;>lia
   have G:∀ {A:Prop},¬(b=2/\p<n/\s.testBit p=true)->(∃l m,Same H J/\J q=some (.lst (((ms.take (i+1)).flatMap λz=>gL b n p z.toNat).map V.int))/\[some (V.ref a),some (.int (n:Int)),some (.int (p:Int)),some (.int b),some (.ref q),some (.int (s:Int)),some (.int ((bh p s:Nat):Int))]=[some (.ref a),some (.int (n:Int)),some (.int (p:Int)),some (.int b),some (.ref q),l,m]):=λ{A} hn=>by refine#[_,_,ai,?_,rfl];rw[B,tk];unfold gL;rw[J4 hn,LF]
   refine#[_,rfl,rfl,_,rfl,cG (λo=> ?_) λo=>G (A:=True) λz=>o (J3 (by rw[z.1]))];refine#[_,rfl,_,rfl,_,_,rfl,rfl,_,rfl,cG (λt=> ?_) λt=>G (A:=True) λz=>t (J3 (by have:=z.2.1;lia))];refine#[_,rfl,_,rfl,_,_,rfl,rfl,(by show(0:Int)<=(p:Int);lia),_,_,rfl,rfl,rfl,_,rfl,?_];rw[wt];refine cG (λg=> ?_) λg=>G (A:=True) λz=>g z.2.2;have c2:b=2:=V.int.inj (Ko o);have c3:p<n:=by have:=Ko t;lia
   have wb:2^p<=bh p s:=by
    have N:s/2^p % 2=1:=by rw[fC]at g;exact Ko g
    have h6:1<=s/2^p:=Nat.one_le_iff_ne_zero.mpr λz=>by rw[z]at N;cases N
    have h7:=Nat.mul_le_mul_left (2^(p+1)) h6;unfold bh;rw[NI]at h7⊢;lia
   refine#[_,rfl, .inl #[rfl,_,SqL.of B],_,rfl,_,rfl,_,_,rfl,rfl,#[(),(),∅],_,_,rfl,rfl,q,_,_,rfl,rfl,B,by rw[J2];exact Ks l3 ∅,?_];refine#[_,_,ai.upd j,?_,rfl];rw[av,tk,cQ];unfold gL;have c1:¬b=1:=()
   rw[J4 c1,J5 (show b=2/\p<n/\s.testBit p=true from#[c2,c3,g]),KP,KP,KP,Int.natCast_sub wb,Mh];rfl
  .intro aa;refine#[_,rfl,rfl,_,rfl,cG (λy=> ?_) λy=> ?_]
   .have e:b=1:=V.int.inj (Ko y);refine#[_,rfl, .inl #[rfl,_,SqL.of c],_,rfl,_,rfl,_,_,rfl,rfl,#[(),(),∅],_,_,rfl,rfl,q,_,_,rfl,rfl,c,by rw[J2];exact Ks M ∅,?_];refine aa _ _ #[u.upd j,?_,rfl];rw[av,J5 e,KP,cQ];rfl
   .have e:¬b=1:=λz=>y (J3 (by rw[z]));refine#[_,rfl, .inl #[rfl,_,SqL.of c],_,rfl,q,_,_,rfl,rfl,c,by rw[J2];exact Ks M ∅,?_];refine aa _ _ #[u.upd j,?_,rfl];rw[av,J4 e,KP];rfl
 .rintro v d ⟨l,m,u,c,rfl⟩;rw[J2,Ly]at c;exact#[_,rfl,k q d u j c]
inductive z6(n:Nat)(r:Nat->Nat):Nat->(Nat->Nat)->Prop where
 |base:z6 n r n r
 |step {m:Nat} {q:Nat->Nat} (kd:Int) (p:Nat):z6 n r m q->m<8->p<=m->z6 n r (m+1) (gQ kd m p q)
inductive Bc(K:PySem.W.Frag)(vs:List V)(H:Hp)(Q:VK):Prop
 |mk (c a:Addr) (cs ms:List Int) (n:Nat) (r:Nat->Nat) (y_0:vs=[.ref c, .int (n:Int), .ref a]) (y_1:SqL K H c (cs.map V.int)) (y_2:0<cs.length) (y_3:H a=some (.lst (ms.map V.int))) (y_4:bU n r ms) (y_5:∀ (t a':Addr) (n':Nat) (r':Nat->Nat) (ms':List Int) H',Same H H'->H' t=some (.tup [.int (n':Int), .ref a'])->H' a'=some (.lst (ms'.map V.int))->bU n' r' ms'->z6 n r n' r'->Q (.ref t) H'):Bc K vs H Q
def Dm(K:PySem.W.Frag):Sp:=λvs H Q _=>Bc K vs H Q
theorem sc__law_idle:aK ["_law_cells","_law_many","_law_told","_law_turn","_law_k"] ["_law_cells","_law_many","_law_told"] (aw s__law_idle):=sc_of
theorem uQ(T:Tb K mg)(D:bw K mg "_law_idle" s__law_idle ["_law_cells","_law_many","_law_told"])(L:Cal P w K mg base 1 "_law_put" ["_law_told","_law_many","_law_at","_law_kind_here"] (GK K)):Cal P w K mg base 2 "_law_idle" ["_law_cells","_law_many","_law_told"] (Dm K):=by
 refine D.cal sc__law_idle (λvs H Q E h=>by obtain⟨c,a,cs,ms,n,r,rfl,_⟩:=h;rfl) λf cdv A outer aC H vs Q E hr h=> ?_;obtain⟨c,a,cs,ms,n,r,rfl,U,c0,O,N,k⟩:=h;refine#[_,(ah (wset 3 sc__law_idle.nd (ax cj (ax gO (dh K (pv 0) af) af) af))
   (ah (wfor (wrng T.range_ (ax cj (pv 3) af)) (wname 4 sc__law_idle.nd)
     (ao (bo (wpt oG (pv 1) af)
       (ah (wset 2 sc__law_idle.nd (wcal L hr (ae (pv 2) (ae (pv 1) (ae (ax cj (ax hU (pv 3) (ax dz af (ax gO af (pv 4)))) (ax dz (pv 1) af)) (ae (ax cj (ax hU (pv 3) (ax dz af (pv 4))) af) aq))))))
       (ao (wset 1 sc__law_idle.nd (ax dz (pv 1) af))))
       aO)))
   (ao (aH (jQ (ae (pv 1) (ae (pv 2) aq))))))),?_]
 have M:atI (cs.map V.int) 0=some (.int (cs.getD 0 0)):=cY (j:=0) c0;refine#[_,rfl,c,_,_,_,rfl,rfl,U,M,_,_,rfl,rfl, .inr #[∅,∅],_,_,rfl,rfl,∅,?_];generalize ht:cs.getD 0 0*69621 % 65519=t;have t0:0<=t:=by rw[<-ht];exact Me _ ∅
 refine#[_,rfl,_,_,rfl,rfl,∅,_,rfl,?_];have m0:0<=t % 3:=Me _ ∅;have m3:t % 3<3:=Mb _ ∅;refine#[(),(),?_];refine cx (n:=(t % 3).toNat) (λi G s=>∃ (d:Addr) (b:Nat) (g:Nat->Nat) (l:List Int) (B:Option V),Same H s/\s d=some (.lst (l.map V.int))/\bU b g l/\z6 n r b g/\G=[some (.ref c),some (.int (b:Int)),some (.ref d),some (.int t),B]) #[a,n,r,ms,none,Same.refl _,O,N, .base,rfl] ?_ ?_
 .rintro i G s hi ⟨d,b,g,l,B,y,o,m,u,rfl⟩;dsimp only[bD];refine#[_,rfl,_,_,rfl,rfl,_,rfl,cG (λJ=> ?_) λJ=>#[d,b,g,l,_,y,o,m,u,rfl]];have z:b<8:=by have:=Ko J;lia
  refine#[_,rfl,_,rfl,?_];refine#[_,rfl,_,rfl,_,_,rfl,rfl, .inl #[∅,∅],_,_,rfl,rfl,_,_,rfl,rfl,#[(),()],?_];have p0:0<=t/(3+8*(0+(i:Int))) % ((b:Int)+1):=Me _ ();have p1:t/(3+8*(0+(i:Int))) % ((b:Int)+1)<(b:Int)+1:=Mb _ ();refine#[_,rfl,_,_,rfl,rfl,_,_,rfl,rfl,(),?_];generalize v:t/(3+8*(0+(i:Int))) % ((b:Int)+1)=p at*;refine#[_,rfl,_,rfl,_,_,rfl,rfl,_,_,rfl,rfl,#[(),()],_,_,rfl,rfl,∅,?_];generalize t/(27+(0+(i:Int))) % 3=x;refine#[d,l,b,p.toNat,x,g,by rw[Int.toNat_of_nonneg p0];rfl,SqL.of o,m,z,(),λq H3 ak hq ab=> ?_];refine#[_,rfl,_,_,rfl,rfl,q,b+1,gQ x b p.toNat g,_,_,y.trans ak,ab,oh m () z x, .step x p.toNat u z (),rfl]
 .rintro G s ⟨d,b,g,l,B,y,o,m,u,rfl⟩;refine#[_,rfl,_,rfl,Kd (Kk 2) ∅,λp v=> ?_];have np:d≠p:=λe=>by rw[<-e,o]at v;cases v
  exact k p d b g l _ (y.trans (Same.new v)) av (by rw[aJ np];exact o) m u
inductive xQ(K:PySem.W.Frag)(vs:List V)(H:Hp)(Q:VK):Prop
 |mk (a:Addr) (cs:List Int) (n:Nat) (y_0:vs=[.ref a, .int (n:Int)]) (y_1:SqL K H a (cs.map V.int)) (y_2:0<cs.length) (y_3:cs.length<=64) (y_4:n<=8) (y_5:∀q H' xs M,Same H H'->H q=none->H' q=some (.lst xs)->aU H' xs M->M.length<=3->(∀r∈M,r.length=n/\∀z∈r,0<=z/\z<3)->Q (.ref q) H'):xQ K vs H Q
def Aj(K:PySem.W.Frag):Sp:=λvs H Q _=>xQ K vs H Q
theorem sc__law_rows:aK ["_law_cells","_law_many","_law_rows_here","_law_j","_law_row","_law_k","_law_at","_law_mixed"] ["_law_cells","_law_many"] (aw s__law_rows):=sc_of
theorem uO(T:Tb K mg)(D:bw K mg "_law_rows" s__law_rows ["_law_cells","_law_many"]):Cal P w K mg base 1 "_law_rows" ["_law_cells","_law_many"] (Aj K):=by
 refine D.cal sc__law_rows (λvs H Q E h=>by obtain⟨a,cs,n,rfl,_⟩:=h;rfl) λf cdv A outer b5 H vs Q E hr h=> ?_;obtain⟨a,cs,n,rfl,ha,a4,bS,n8,k⟩:=h;refine#[_,(ah (wset 2 sc__law_rows.nd (cS aq))
   (ah (wfor (wrng T.range_ (ax cj (ax cj (ax gO (dh K (pv 0) af) af) af) af)) (wname 3 sc__law_rows.nd)
     (ah (wset 4 sc__law_rows.nd (cS aq))
     (ah (wfor (wrng T.range_ (pv 1)) (wname 5 sc__law_rows.nd)
       (ah (wset 6 sc__law_rows.nd (ax dz (ax gO af (pv 3)) (pv 5)))
       (ah (wset 7 sc__law_rows.nd (ax gO (ax dz (dh K (pv 0) (ax cj (pv 6) (wlen K T.len_ (pv 0)))) af) (ax dz af (ax gO (ax gO af (pv 6)) (pv 6)))))
       (ao (cR (fo (K:=K) ⋯ Lh Lm Ln cF (pv 4) (ae (ax cj (ax cj (pv 7) af) af) aq)))))))
     (ao (cR (fo (K:=K) ⋯ Lh Lm Ln cF (pv 2) (ae (pv 4) aq)))))))
   (ao (aH (pv 2))))),?_]
 have aA:(0:Int)<(((cs.map V.int).length:Nat):Int):=by rw[J2];lia
 have a0:∀z:Int,∃y:Int,atI (cs.map V.int) (z % (((cs.map V.int).length:Nat):Int))=some (.int y):=λz=>by
  have j0:0<=z % (((cs.map V.int).length:Nat):Int):=Me _ ();have j1:=Mb z aA;obtain⟨j,ej⟩:=LV j0;have jl:j<cs.length:=by rw[ej,J2]at j1;lia
  exact#[_,by rw[ej];exact cY jl]
 have aE:atI (cs.map V.int) 0=some (.int (cs.getD 0 0)):=cY (j:=0) a4;refine#[Ls _,λq U=> ?_];have aB:Same H (upd H q (.lst [])):=Same.new U;have a5:upd H q (.lst []) q=some (.lst []):=av;generalize upd H q (.lst [])=H0 at*;refine#[_,rfl,a,_,_,_,rfl,rfl,aB.seq ha,aE,_,_,rfl,rfl, .inr #[∅,∅],_,_,rfl,rfl,∅,_,_,rfl,rfl,∅,_,rfl,?_];generalize hg:cs.getD 0 0*16807 % 65521 % 4=g;have g0:0<=g:=by rw[<-hg];exact Me _ ∅
 have g4:g<4:=by rw[<-hg];exact Mb _ ∅
 obtain⟨m,rfl⟩:=LV g0;refine#[(),(),?_];rw[J8];refine cx (n:=m) (λj s H'=>∃ (xs:List V) (M:List (List Int)) (v3 v4 d l o:Option V),Same H H'/\H' q=some (.lst xs)/\aU H' xs M/\M.length=j/\(∀r∈M,r.length=n/\∀z∈r,0<=z/\z<3)/\s=[some (.ref a),some (.int (n:Int)),some (.ref q),v3,v4,d,l,o])
  #[[],[],none,none,none,none,none,aB,a5,#[rfl,λi r h=>by simp at h],rfl,(λr h=>by cases h),rfl] ?_ ?_
 .rintro j s L hj ⟨xs,M,v3,v4,d,l,o,J,x,B,lM,O,rfl⟩;rw[Lk];refine#[Ls _,λp u=> ?_];have pq:p≠q:=λe=>by rw[e,x]at u;cases u
  refine#[_,rfl,_,rfl,(),(),?_];rw[J8];refine cx (n:=n) (λi s H'=>∃ (r:List Int) (d l o:Option V),Same L H'/\H' p=some (.lst (r.map V.int))/\r.length=i/\(∀z∈r,0<=z/\z<3)/\s=[some (.ref a),some (.int (n:Int)),some (.ref q),some (.int (j:Int)),some (.ref p),d,l,o])
   #[[],d,l,o,Same.new u,av,rfl,(λz h=>by cases h),rfl] ?_ ?_
  .rintro i s H2 hi ⟨r,d,l,o,t,v,G,N,rfl⟩;rw[Lk];have ar:=(J.trans t).seq ha;refine#[_,rfl,_,_,rfl,rfl, .inl #[∅,∅],_,rfl,_,_,rfl,rfl,?_];have ea:(8:Int)*(j:Int)+(i:Int)=((8*j+i:Nat):Int):=()
   (try dsimp only);rw[ea];generalize bN:8*j+i=c at*;have bE:c<=31:=()
   obtain⟨cell,aS⟩:=a0 (c:Int);have big:31*(c:Int)*(c:Int)<=31*31*31:=Int.mul_le_mul () () () ();have b3:0<=31*(c:Int)*(c:Int):=Int.mul_nonneg () ();refine#[_,rfl,_,rfl,_,rfl,a,_,rfl, .inl ar,_,_,rfl,rfl,aA,a,_,_,_,rfl,rfl,ar,aS,_,_,rfl,rfl,_,rfl,_,_,rfl,rfl, .inl #[∅,∅],_,rfl,_,_,rfl,rfl, .inr #[(),()],_,_,rfl,rfl,_,_,rfl,rfl, .inr #[(),()],?_];refine#[_,rfl, .inl #[rfl,_,SqL.of v],_,rfl,_,_,rfl,rfl,∅,_,_,rfl,rfl,∅,p,_,_,rfl,rfl,v,?_,?_]
   .rw[J2,G];exact Kb (show i<8 by lia) ∅
   refine#[r++[(cell+1)*(7919+31*(c:Int)*(c:Int)) % 65521 % 3],_,_,_,t.upd u,?_,?_,?_,rfl]
   .rw[av,KP];rfl
   .rw[Kz,G];rfl
   .intro y b;rcases KC.mp b with b|b
    .exact N y b
    .rw[KZ.mp b];exact#[Me _ ∅,Mb _ ∅]
  .rintro s H2 ⟨r,d,l,o,t,v,G,N,rfl⟩;have aa:=t.at x;have bb:=B.same t;refine#[_,rfl, .inl #[rfl,_,SqL.of aa],_,rfl,q,_,_,rfl,rfl,aa,?_,?_]
   .rw[B.1,lM];exact Kb (show j<8 by lia) ∅
   refine#[xs++[.ref p],M++[r],_,_,_,_,_,(J.trans t).upd U,av,aU.push bb aa v pq,?_,?_,rfl]
   .rw[Kz,lM];rfl
   .intro y b;rcases KC.mp b with b|b
    .exact O y b
    .rw[KZ.mp b];exact#[G,N]
 .rintro s L ⟨xs,M,v3,v4,d,l,o,J,x,B,lM,O,rfl⟩;exact#[_,rfl,k q L xs M J U x B () O]
def f9(M:List (List Int))(p:Nat)(cs:List Nat)(m:Nat):List (List Int):=((List.range m).filter p.testBit).map λj=>cs.map λt=>(M.getD j []).getD t 0
theorem wN{M:List (List Int)}{p:Nat}{cs:List Nat}:aP ((f9 M p cs M.length).map bg) (List.range cs.length)=aP (((List.range M.length).filter p.testBit).map λi=>(M.map bg).getD i (bg [])) cs:=by
 have a:=mV (λj=>cs.getD j 0) (List.range cs.length) (((List.range M.length).filter p.testBit).map λi=>(M.map bg).getD i (bg []));rw[iu cs]at a;rw[<-a];refine gw _ _ _ (by unfold f9;simp) λi j b=> ?_;have c:=J9.mp b;unfold f9;rw[K5,K5,Kc,Kc,Kv,Kv];cases h:((List.range M.length).filter p.testBit)[i]? with
 |none=>rfl
 |some x=>
  have d:=J9.mp (Kx.mp (Km h)).1;show(cs.map λt=>(M.getD x []).getD t 0).getD j 0=((M.map bg).getD x (bg [])) (cs.getD j 0);simp[c,d,bg]
theorem mE{a:Type}(l:List a)(d:a):(List.range l.length).map (λi=>l.getD i d)=l:=by refine OP (by rw[J2,Kq]) λi c b=> ?_;rw[OQ,Ou];simp[b]
theorem sJ{M:List (List Int)}(j:M.length<=8):de 3 (M.map bg) S=sz S↔∃p,p<2^M.length/\sz p=sz S/\¬(3:Int)∣aP ((f9 M p (az S) M.length).map bg) (List.range (sz S)):=by
 have k:=a7 S;have b:∀ {p},p<2^M.length->((List.range M.length).filter p.testBit).length=sz p:=λ{p} a=>by rw[jg j a];exact a7 p
 rw[BE aD,<-k];constructor
 .rintro⟨L,c,f,g⟩;obtain⟨p,a,e⟩:=Dh (d:=bg []) c;rw[J2]at a e;refine#[p,a,?_,?_]
  .rw[<-b a,<-f,e,J2]
  .rw[wN,<-e];exact g
 .rintro⟨p,a,m,h⟩;rw[wN]at h;refine#[_,?_,?_,h]
  .have:=(List.filter_sublist (l:=List.range M.length) (p:=p.testBit)).map λi=>(M.map bg).getD i (bg []);have e:=mE (M.map bg) (bg []);rw[J2]at e;rw[e]at this;exact this
  .rw[J2,b a,m]
inductive yf(K:PySem.W.Frag)(vs:List V)(H:Hp)(Q:VK):Prop
 |mk (a s:Addr) (xs:List V) (M:List (List Int)) (n S:Nat) (y_0:vs=[.ref a, .ref s]) (y_1:H a=some (.lst xs)) (y_2:aU H xs M) (y_3:M.length<=3) (y_4:(∀r∈M,r.length=n/\∀z∈r,0<=z/\z<3)) (y_5:n<=8) (y_6:S<2^n) (y_7:SqL K H s ((bY (az S)).map V.int)) (y_8:∀b H',Same H H'->(b=true↔de 3 (M.map bg) S=sz S)->Q (.bl b) H'):yf K vs H Q
def Au(K:PySem.W.Frag):Sp:=λvs H Q _=>yf K vs H Q
theorem sc__law_free:aK ["_law_rows_here","_law_some","_law_picked","_law_part","_law_j"] ["_law_rows_here","_law_some"] (aw s__law_free):=sc_of
theorem uR(T:Tb K mg)(D:bw K mg "_law_free" s__law_free ["_law_rows_here","_law_some"])(ab:Cal P w K mg base 1 "_law_size" ["_law_s"] gY)(aa:Cal P w K mg base 2 "_law_determinant" ["_law_rows_here"] (yt K)):Cal P w K mg base 3 "_law_free" ["_law_rows_here","_law_some"] (Au K):=by
 refine D.cal sc__law_free (λvs H Q E h=>by obtain⟨a,s,xs,M,n,S,rfl,_⟩:=h;rfl) λf cdv A outer dr H vs Q E y h=> ?_;obtain⟨a,s,xs,M,n,S,rfl,ha,hR,m3,hM,n8,hS,hs,k⟩:=h;refine#[_,(ah (wfor (wrng T.range_ (ax cW af (wlen K T.len_ (pv 0)))) (wname 2 sc__law_free.nd)
     (ao (bo (wpt a8 (wcal ab y (ae (pv 2) aq)) (wlen K T.len_ (pv 1)))
       (ah (wset 3 sc__law_free.nd (cS aq))
       (ah (wfor (wrng T.range_ (wlen K T.len_ (pv 0))) (wname 4 sc__law_free.nd)
         (ao (bo (wpt a8 (ax eQ (ax gM (pv 2) (pv 4)) af) af)
           (ao (cR (fo (K:=K) ⋯ Lh Lm Ln cF (pv 3) (ae (wlc ["_law_k"] ["_law_rows_here","_law_j"] [0,4] (wil K (pv 1)) (wnC 0) cP (dh K (dh K (pv 1) (pv 2)) (pv 0))) aq))))
           aO)))
       (ao (bo (wpt gE (ax cj (wcal aa y (ae (pv 3) aq)) af) af)
         (ao (aH fE))
         aO))))
       aO)))
   (ao (aH fE))),?_]
 have xl:=hR.1;have lS:(az S).length=sz S:=a7 S;have ls:(((bY (az S)).map V.int).length:Int)=(sz S:Nat):=by rw[J2,bQ,lS]
 have dk:=two_pow_pos M.length;have p8:2^M.length<=8:=Kd (Kw ∅ m3) ∅;refine#[_,rfl,a,_,rfl, .inl (SqL.of ha),?_];rw[xl];refine#[_,_,rfl,rfl,#[(),(),∅],_,rfl,?_];rw[cQ];refine#[(),(),?_];rw[J8];refine cx (n:=2^M.length) (λi J H'=>∃v2 g c:Option V,Same H H'/\(∀p,p<i->sz p=sz S->(3:Int)∣aP ((f9 M p (az S) M.length).map bg) (List.range (sz S)))/\J=[some (.ref a),some (.ref s),v2,g,c])
  #[none,none,none,Same.refl _,(λp hp=>absurd hp ()),rfl] ?_ ?_
 .rintro p J u hp ⟨v2,g,c,d,all,rfl⟩;dsimp only[bD];rw[Lk];have go:∀H' bb,Same H H'->((∃g c:Option V,bb=[some (.ref a),some (.ref s),some (.int (p:Int)),g,c])/\(sz p=sz S->(3:Int)∣aP ((f9 M p (az S) M.length).map bg) (List.range (sz S))))->∃v2 g c:Option V,Same H H'/\(∀q,q<p+1->sz q=sz S->(3:Int)∣aP ((f9 M q (az S) M.length).map bg) (List.range (sz S)))/\bb=[some (.ref a),some (.ref s),v2,g,c]:=λH' bb sm ⟨⟨g,c,e⟩,h⟩=>#[_,g,c,sm,λq hq zq=>by
   by_cases e:q=p
   .subst e;exact h zq
   .exact all q () zq,e]
  refine#[_,rfl,(p:Int),rfl,(),(),_,rfl,s,_,rfl, .inl (d.seq hs),rfl,_,rfl,?_];rw[ls,J8,aX];refine cG (λB=> ?_) λB=>go _ _ d #[#[g,c,rfl],λz=>absurd (J3 z) B];have zp:sz p=sz S:=Ko B;have pl:((List.range M.length).filter p.testBit).length=sz S:=by rw[jg () hp];exact(a7 p).trans zp
  refine#[Ls _,λq hq=> ?_];have b1:Same u (upd u q (.lst [])):=Same.new hq;have cB:upd u q (.lst []) q=some (.lst []):=av;have ct:aU (hide (upd u q (.lst [])) q) [] (f9 M p (az S) 0):=#[rfl,λi r y=>by simp[f9]at y];generalize upd u q (.lst [])=H2 at*;refine#[_,rfl,a,_,rfl, .inl (SqL.of (b1.at (d.at ha))),_,rfl,?_];rw[xl];refine#[(),(),?_];rw[J8];refine cx (n:=M.length) (λj J H'=>∃ (o:List V) (c:Option V),Same u H'/\H' q=some (.lst o)/\aU (hide H' q) o (f9 M p (az S) j)/\J=[some (.ref a),some (.ref s),some (.int (p:Int)),some (.ref q),c]) #[[],c,b1,cB,ct,rfl] ?_ ?_
  .rintro j J H3 L ⟨o,c,m,N,O,rfl⟩;dsimp only[bD];have b2:∀b,p.testBit j=b->f9 M p (az S) (j+1)=f9 M p (az S) j++if b=true then [(az S).map λt=>(M.getD j []).getD t 0]else []:=λb U=>by unfold f9;rw[LX,Mr,KP,LA,U];cases b<;>rfl
   refine#[_,rfl,_,rfl,_,_,rfl,rfl,(),_,_,rfl,rfl,rfl,_,rfl,?_];rw[ka];refine cG (λU=> ?_) λU=> ?_
   .have xj:j<xs.length:=by rw[xl];exact L
    have mj:=Ky L;obtain⟨b,cu,bE⟩:=hR.2 j _ mj;have eM:M[j]=M.getD j []:=by simp[L]
    have G:=hM M[j] (LD L);rw[eM]at bE G;have cv:=(d.trans m).at bE;refine#[_,rfl, .inl #[rfl,_,SqL.of N],_,rfl,s,rfl,#[_,(d.trans m).seq hs],?_];refine b9 (λx=>(λ_=>true) (bI x)) (λx=> .int ((λz:Int=>(M.getD j []).getD z.toNat 0) (bI x))) ((d.trans m).seq hs) (by rw[J2,bQ,lS];exact Kd (a9 _) ∅) (λi x vs H' R' S' hx hv sm hk=> ?_) λD6 H6 bj a3 ag=> ?_
    .obtain⟨v,rfl⟩:=bH hv;obtain⟨z,rfl,B⟩:=bL hx;obtain⟨t,ht,rfl⟩:=dA (Km B);have tn:=aW hS (aT.mp ht).2;have q1:=hk [some (.int (t:Int))] H' rfl (Same.refl _);rw[J5 rfl]at q1;simp only[bD,iM,J5];have c3:=d.trans (m.trans sm);refine#[_,rfl,_,rfl,a,_,_,_,rfl,rfl,SqL.of (c3.at ha),(by rw[Lk];exact jr cu),_,rfl,b,_,_,_,rfl,rfl,SqL.of (sm.at cv),?_,q1];exact cY (by rw[G.1];exact tn)
    .replace ag:=ag.trans (K3 (λl=>some (HO.lst l)) (bK (λ_=>true) (λz:Int=>(M.getD j []).getD z.toNat 0) (bY (az S))));rw[LM.mpr (λ_ _=>rfl)]at ag;have e6:(bY (az S)).map (λz:Int=>(M.getD j []).getD z.toNat 0)=(az S).map λt=>(M.getD j []).getD t 0:=by unfold bY;rw[K5];refine LB λt _=> ?_;show(M.getD j []).getD ((t:Nat):Int).toNat 0=_;rw[J8]
     rw[e6]at ag;have nD:D6≠q:=λz=>by rw[z,N]at bj;cases bj
     have yl:o.length<=3:=by rw[O.1];unfold f9;rw[J2];exact Kd (Lu _ _) (by rw[Kq];lia)
     refine#[q,_,_,rfl,rfl,a3.at N,Ks yl ∅,?_];refine#[o++[.ref D6],_,(m.trans a3).upd hq,av,?_,rfl];rw[i0,b2 true U,J5 rfl];refine jM (O.same (ia a3)) #[rfl,λi r y=> ?_];cases i with
     |zero=>cases y;exact#[D6,rfl,by rw[dR nD];exact ag]
     |succ i=>simp at y
   .refine#[o,_,m,N,?_,rfl];rw[b2 false (by simpa using U),J4 ∅,LF];exact O
  .rintro J H3 ⟨o,c,m,N,O,rfl⟩;have cp:=O.same eu;refine#[_,rfl,q,o,f9 M p (az S) M.length,sz S,rfl,SqL.of N,cp,?_,a9 _,λrr bN=> ?_,λH4 c2=> ?_]
   .unfold f9;rw[J2,pl]
   .unfold f9 at bN;obtain⟨j,L,rfl⟩:=Ka.mp bN;have jl:=J9.mp (Kx.mp L).1;have G:=hM M[j] (LD jl);have eM:M[j]=M.getD j []:=by simp[jl]
    rw[eM]at G;generalize M.getD j []=l at G;refine#[by rw[J2,lS],λz B=> ?_];obtain⟨t,ht,rfl⟩:=Ka.mp B;have tn:=aW hS (aT.mp ht).2;have tl:t<l.length:=by rw[G.1];exact tn
    have:=G.2 (l.getD t 0) (by simp[tl]);exact Kb (show(l.getD t 0).natAbs<2^7 by lia) (Kw ∅ ∅)
   .generalize bM:aP ((f9 M p (az S) M.length).map bg) (List.range (sz S))=dt;refine#[_,_,rfl,rfl,∅,rfl,_,rfl,?_];have b0:=d.trans (m.trans c2);refine cG (λhc=> ?_) λhc=> ?_
    .refine k true _ b0 #[λ_=>(sJ ()).mpr #[p,hp,zp,λz=> ?_],λ_=>rfl];rw[bM]at z;rw[NO z]at hc;simp at hc
    .refine go _ _ b0 #[#[_,_,rfl],λ_=> ?_];rw[bM];refine MP (Kr λz=>hc ?_);rw[J6 λe=>z (V.int.inj e)];rfl
 .rintro J u ⟨v2,g,c,d,all,rfl⟩;refine k false _ d #[λz=>(by cases z),λz=> ?_];obtain⟨p,h1,h2,h3⟩:=(sJ ()).mp z;exact absurd (all p h1 h2) h3
noncomputable def i4(L:List Row)(n m:Nat):List Nat:=(List.range n).filter λs=>decide (sz s=m)&&decide (de 3 L s=sz s)
theorem xt(e:n<=8)(h:i4 L (2^n) m≠[])(top:de 3 L (2^n-1)<=m):bU n (de 3 L) ((i4 L (2^n) m).map λs:Nat=>(s:Int)):=by
 have M:=iX aD L e;obtain⟨s,d⟩:=List.exists_mem_of_ne_nil _ h;have mem:∀b,b∈i4 L (2^n) m↔b<2^n/\sz b=m/\de 3 L b=sz b:=λb=>by unfold i4;rw[Kx,J9,Kn,Kf,Kf]
 have c:=(mem s).mp d;have f:=M.mono (cC c.1) (aQ n);refine#[M,λz=> ?_,by rw[J2];exact Kd (Lu _ _) (by rw[Kq];exact Kk _)];rw[Ka];constructor
 .rintro⟨b,a,rfl⟩;have a:=(mem b).mp a;exact#[b,a.1,rfl,(),()]
 .rintro⟨b,a,rfl,g,i⟩;exact#[b,(mem b).mpr #[a,(),()],rfl]
inductive tY(K:PySem.W.Frag)(vs:List V)(H:Hp)(Q:VK):Prop
 |mk (a:Addr) (xs:List V) (M:List (List Int)) (n:Nat) (y_0:vs=[.int (n:Int), .ref a]) (y_1:H a=some (.lst xs)) (y_2:aU H xs M) (y_3:M.length<=3) (y_4:(∀r∈M,r.length=n/\∀z∈r,0<=z/\z<3)) (y_5:n<=8) (y_6:∀q ms H',Same H H'->H q=none->H' q=some (.lst (ms.map V.int))->bU n (de 3 (M.map bg)) ms->Q (.ref q) H'):tY K vs H Q
def wo(K:PySem.W.Frag):Sp:=λvs H Q _=>tY K vs H Q
theorem sc__law_bases:aK ["_law_many","_law_rows_here","_law_rank","_law_found","_law_s","_law_some"] ["_law_many","_law_rows_here"] (aw s__law_bases):=sc_of
theorem rP(T:Tb K mg)(D:bw K mg "_law_bases" s__law_bases ["_law_many","_law_rows_here"])(aa:Cal P w K mg base 3 "_law_free" ["_law_rows_here","_law_some"] (Au K)):Cal P w K mg base 4 "_law_bases" ["_law_many","_law_rows_here"] (wo K):=by
 refine D.cal sc__law_bases (λvs H Q E h=>by obtain⟨a,xs,M,n,rfl,_⟩:=h;rfl) λf cdv A outer cO H vs Q E hr h=> ?_;obtain⟨a,xs,M,n,rfl,ha,hR,m3,hM,c,k⟩:=h;refine#[_,(ah (wfor (wil K (cS (ae af (ae af (ae af aq))))) (wname 2 sc__law_bases.nd)
     (ah (wset 3 sc__law_bases.nd (cS aq))
     (ah (wfor (wrng T.range_ (ax cW af (pv 0))) (wname 4 sc__law_bases.nd)
       (ah (wls 5 sc__law_bases.nd ["_law_k"] ["_law_s"] [4] (wrng T.range_ (pv 0)) (wnC 0) (cZ (wpt a8 (ax eQ (ax gM (pv 1) (pv 0)) af) af)) (pv 0))
       (ao (bo (PW.pt (dy (wpt a8 (wlen K T.len_ (pv 5)) (pv 2)) (ee (dD (wcal aa hr (ae (pv 1) (ae (pv 5) aq)))))))
         (ao (cR (fo (K:=K) ⋯ Lh Lm Ln cF (pv 3) (ae (pv 4) aq))))
         aO))))
     (ao (bo (wpt mq (wlen K T.len_ (pv 3)) af)
       (ao (aH (pv 3)))
       aO)))))
   (ao (aH (cS (ae af aq))))),?_]
 have b8:=two_pow_pos n;have p8:=kM c;have top:de 3 (M.map bg) (2^n-1)<=3:=Kd (wD aD _ _) (by rw[J2];exact m3);refine#[Kd (Kk 3) ∅,λG b1=> ?_];have bc:Same H (upd H G (.lst [V.int 3,V.int 2,V.int 1])):=Same.new b1;have hd:upd H G (.lst [V.int 3,V.int 2,V.int 1]) G=some (.lst [V.int 3,V.int 2,V.int 1]):=av;generalize upd H G (.lst [V.int 3,V.int 2,V.int 1])=H0 at*;refine#[G,rfl,#[_,SqL.of hd],?_];refine cD (K:=K) (a:=G) (xs:=[V.int 3,V.int 2,V.int 1]) (λi p H'=>∃v2 v3 l o:Option V,Same H0 H'/\de 3 (M.map bg) (2^n-1)+i<=3/\p=[some (.int (n:Int)),some (.ref a),v2,v3,l,o]) #[none,none,none,none,Same.refl _,top,rfl] (λi p H' _ h=>by obtain⟨_,_,_,_,sm,_⟩:=h;exact SqL.of (sm.at hd)) ?_ ?_
 .rintro i x p u g ⟨v2,v3,l,o,ag,tp,rfl⟩;have hx:∃m:Nat,x= .int (m:Int)/\m+i=3/\1<=m:=by
   match i,g with
   |0,g=>cases g;exact#[3,rfl,rfl,∅]
   |1,g=>cases g;exact#[2,rfl,rfl,∅]
   |2,g=>cases g;exact#[1,rfl,rfl,∅]
   |i+3,g=>simp at g
  obtain⟨m,rfl,mi,m1⟩:=hx;dsimp only[bD];refine#[Ls _,λq y=> ?_];have cg:Same u (upd u q (.lst [])):=Same.new y;have b2:upd u q (.lst []) q=some (.lst (((i4 (M.map bg) 0 m).map λs:Nat=>(s:Int)).map V.int)):=av;generalize upd u q (.lst [])=H2 at*;have J:=bc.trans ag;refine#[_,rfl,_,_,rfl,rfl,#[(),(),∅],_,rfl,?_];rw[cQ];refine#[(),(),?_];rw[J8];refine cx (n:=2^n) (λs p H'=>∃l o:Option V,Same u H'/\H' q=some (.lst (((i4 (M.map bg) s m).map λs:Nat=>(s:Int)).map V.int))/\p=[some (.int (n:Int)),some (.ref a),some (.int (m:Int)),some (.ref q),l,o]) #[l,o,cg,b2,rfl] ?_ ?_
  .rintro s p H3 hs ⟨l,o,r,O,rfl⟩;dsimp only[bD];have aB:i4 (M.map bg) (s+1) m=i4 (M.map bg) s m++if(decide (sz s=m)&&decide (de 3 (M.map bg) s=sz s))=true then [s]else []:=by unfold i4;rw[LX,Mr,LA];rfl
   rw[Lk];refine#[_,rfl,_,rfl,(),(),?_];rw[J8];refine dN s.testBit (λt=> .int (t:Int)) (Kd c ∅) (λt vs H' Rk Sk ht hv sm hk=> ?_) λD4 H4 cK L aj=> ?_
   .obtain⟨v,rfl⟩:=bH hv;have U:=hk [some (.int (0+(t:Nat)))] H' rfl (Same.refl _);refine#[_,rfl,_,rfl,_,_,rfl,rfl,(by show(0:Int)<=0+(t:Int);lia),_,_,rfl,rfl,rfl,_,rfl,?_];rw[ka];by_cases d:s.testBit t=true
    .rw[J5 d]at U⊢;refine#[_,rfl,?_];rw[Lk]at U⊢;exact U
    .rw[J4 d]at U⊢;exact U
   .have e4:eY s.testBit (λt=>V.int (t:Int)) n=(bY (az s)).map V.int:=by unfold eY bY;rw[jg c hs,K5];rfl
    rw[e4]at aj;have bb:=J.trans (r.trans L);refine#[_,rfl,D4,_,rfl, .inl (SqL.of aj),_,rfl,rfl,_,rfl,?_];rw[J2,bQ,a7,aX];refine cG (λhz=> ?_) λhz=> ?_
    .have zs:sz s=m:=Ko hz;refine#[_,rfl,_,rfl,a,D4,xs,M,n,s,rfl,bb.at ha,hR.same bb,m3,hM,c,hs,SqL.of aj,λb H5 aA d=> ?_];have ak:=(L.trans aA).at O;refine#[_,rfl,cG (λj=> ?_) λj=> ?_]
     .have N:(decide (sz s=m)&&decide (de 3 (M.map bg) s=sz s))=true:=by rw[J3 zs,J3 (d.mp j)];rfl
      have fl:(i4 (M.map bg) s m).length<=256:=Kd (Lu _ _) (by rw[Kq];lia);refine#[_,rfl, .inl #[rfl,_,SqL.of ak],_,rfl,q,_,_,rfl,rfl,ak,by rw[J2,J2];exact Ks fl ∅,?_];exact#[_,_,(r.trans (L.trans aA)).upd y,by rw[av,aB,N,KP,KP];rfl,rfl]
     .have N:(decide (sz s=m)&&decide (de 3 (M.map bg) s=sz s))=false:=by rw[J6 λz=>j (d.mpr z),Ld]
      exact#[_,_,r.trans (L.trans aA),by rw[ak,aB,N,J4 ∅,LF],rfl]
    .have N:(decide (sz s=m)&&decide (de 3 (M.map bg) s=sz s))=false:=by rw[Mg.mpr hz,Lc]
     exact#[_,_,r.trans L,by rw[L.at O,aB,N,J4 ∅,LF],rfl]
  .rintro p H3 ⟨l,o,r,O,rfl⟩;refine#[_,rfl,q,_,rfl, .inl (SqL.of O),_,_,rfl,rfl,_,rfl,?_];refine cG (λj=> ?_) λj=> ?_
   .have ne:i4 (M.map bg) (2^n) m≠[]:=λe=>by rw[e]at j;exact absurd (Ko j) ∅
    exact#[_,rfl,k q _ H3 (J.trans r) (J.free y) O (xt c ne ())]
   .refine#[_,_,_,_,ag.trans r,?_,rfl];have ml:=iX aD (M.map bg) c;obtain⟨B,h1,h2,h3⟩:=ml.some_base;have hB:=h1.lt (aQ n);refine Kr λz=>j ?_;have b6:B∈i4 (M.map bg) (2^n) m:=by unfold i4;rw[Kx,J9,Kn,Kf,Kf];exact#[hB,(),()]
    refine J3 ?_;rw[J2,J2];have:=Nl b6;lia
 .rintro p u ⟨v2,v3,l,o,ag,tp,rfl⟩;have J:=bc.trans ag;refine#[Kd (Kk 1) ∅,λq y=> ?_];have ml:=iX aD (M.map bg) c;have r0:de 3 (M.map bg) (2^n-1)=0:=by have:[V.int 3,V.int 2,V.int 1].length=3:=rfl;lia
  refine k q [0] _ (J.trans (Same.new y)) (J.free y) av #[ml,λz=> ?_,by show 1<=2^n;lia];rw[KZ,r0];constructor
  .rintro rfl;exact#[0,b8,rfl,cH,ml.zero]
  .rintro⟨b,d,rfl,h1,h2⟩;have:b=0:=sf (s_lt c d) ∅ (λt _ ht=>by have:=cz b (s_lt c d) t (aW (n:=8) (s_lt c d) ht) ht;lia) (h1.trans cH.symm)
   rw[this];rfl
def qc(st i m:Nat):Nat:=(([0,1,3]:List Nat).take m).foldl (λs j=>s|||2^((i+j)*(1+st) % 7)) 0
def fh(r st i:Nat):Int:=if r=4 then 127- (qc st i 3:Nat)else(qc st i 3:Nat)
theorem BD:∀st:Nat,st<6->(∀a∈(List.range 7).map (fh 3 st),∀b∈(List.range 7).map (fh 3 st),a≠b->(sz (a.toNat&&&b.toNat):Int)<=((3:Nat):Int) -2)/\∀a∈(List.range 7).map (fh 4 st),∀b∈(List.range 7).map (fh 4 st),a≠b->(sz (a.toNat&&&b.toNat):Int)<=((4:Nat):Int) -2:=by decide+kernel
inductive tM(K:PySem.W.Frag)(vs:List V)(H:Hp)(Q:VK):Prop
 |mk (a:Addr) (cs:List Int) (k:Nat) (y_0:vs=[.ref a, .int (k:Int)]) (y_1:SqL K H a (cs.map V.int)) (y_2:0<cs.length) (y_3:∀p H' (st:Nat),st<6->Same H H'->H p=none->H' p=some (.lst ((du 7 k ((List.range 7).map (fh k st))).map V.int))->Q (.ref p) H'):tM K vs H Q
def vX(K:PySem.W.Frag):Sp:=λvs H Q _=>tM K vs H Q
theorem sc__law_round:aK ["_law_cells","_law_rank","_law_step","_law_lines","_law_k","_law_made","_law_j"] ["_law_cells","_law_rank"] (aw s__law_round):=sc_of
theorem rL(T:Tb K mg)(D:bw K mg "_law_round" s__law_round ["_law_cells","_law_rank"])(aa:Cal P w K mg base 1 "_law_size" ["_law_s"] gY):Cal P w K mg base 2 "_law_round" ["_law_cells","_law_rank"] (vX K):=by
 refine D.cal sc__law_round (λvs H Q E h=>by obtain⟨a,cs,r,rfl,_⟩:=h;rfl) λf cdv A outer b1 H vs Q E hr h=> ?_;obtain⟨a,cs,r,rfl,ha,ay,k⟩:=h;refine#[_,(ah (wset 2 sc__law_round.nd (ax dz af (ax cj (ax cj (ax gO (dh K (pv 0) af) af) af) af)))
   (ah (wset 3 sc__law_round.nd (cS aq))
   (ah (wfor (wrng T.range_ af) (wname 4 sc__law_round.nd)
     (ah (wset 5 sc__law_round.nd af)
     (ah (wfor (wil K (cS (ae af (ae af (ae af aq))))) (wname 6 sc__law_round.nd)
       (ao (wset 5 sc__law_round.nd (ax kN (pv 5) (ax cW af (ax cj (ax gO (ax dz (pv 4) (pv 6)) (pv 2)) af))))))
     (ah (bo (wpt a8 (pv 1) af)
       (ao (wset 5 sc__law_round.nd (ax fq af (pv 5))))
       aO)
     (ao (cR (fo (K:=K) ⋯ Lh Lm Ln cF (pv 3) (ae (pv 5) aq))))))))
   (ao (aH (wlc ["_law_s"] ["_law_rank","_law_lines"] [1,3] (wrng T.range_ af) (wnC 0) (cZ (PW.pt (dy (wpt a8 (wcal aa hr (ae (pv 0) aq)) (pv 1)) (ee (lY (gy (K:=K) ⋯) (pv 0) (pv 2) ⋯))))) (pv 0))))))),?_]
 have aj:atI (cs.map V.int) 0=some (.int (cs.getD 0 0)):=cY (j:=0) ay;refine#[_,rfl,a,_,_,_,rfl,rfl,ha,aj,_,_,rfl,rfl, .inr #[∅,∅],_,_,rfl,rfl,(by show(0:Int)<65519;decide),_,_,rfl,rfl,(by show(0:Int)<6;decide),_,_,rfl,rfl,?_];have s0:=Me (cs.getD 0 0*69621 % 65519) (show(6:Int)≠0 by decide);have s1:=Mb (cs.getD 0 0*69621 % 65519) (show(0:Int)<6 by decide);(try dsimp only);generalize cs.getD 0 0*69621 % 65519 % 6=b0 at*;obtain⟨st,rfl⟩:=LV s0;refine#[Ls _,λq L=> ?_];have aS:upd H q (.lst []) q=some (.lst (((List.range 0).map (fh r st)).map V.int)):=av;have bB:Same H (upd H q (.lst [])):=Same.new L;generalize upd H q (.lst [])=H1 at*;refine#[7,rfl,∅,∅,cx (n:=7) (λi d H'=>∃ (x B c:Option V),Same H H'/\H' q=some (.lst (((List.range i).map (fh r st)).map V.int))/\d=[some (.ref a),some (.int (r:Int)),some (.int (1+(st:Int))),some (.ref q),x,B,c])
  #[none,none,none,bB,aS,rfl] ?_ ?_]
 .rintro i d H' s ⟨x,B,c,bt,aE,rfl⟩;refine#[by show 3<=sizeLine;decide,λu hu=>#[u,rfl,#[_,SqL.of av],?_]];have a5:upd H' u (.lst [.int 0, .int 1, .int 3]) u=some (.lst (([0,1,3]:List Int).map V.int)):=av;have O:Same H' (upd H' u (.lst [.int 0, .int 1, .int 3])):=Same.new hu;generalize upd H' u (.lst [.int 0, .int 1, .int 3])=H2 at*;refine cD (K:=K) (a:=u) (xs:=([0,1,3]:List Int).map V.int) (λj d g=>g=H2/\∃c:Option V,d=[some (.ref a),some (.int (r:Int)),some (.int (1+(st:Int))),some (.ref q),some (.int (0+(i:Nat))),some (.int (qc st i j:Nat)),c]) #[rfl,c,rfl] (λj d g _ z=>by rw[z.1];exact SqL.of a5) ?_ ?_
  .rintro j y d g b ⟨rfl,c,rfl⟩;have hz:∃z:Nat,y= .int (z:Int)/\qc st i (j+1)=qc st i j|||2^((i+z)*(1+st) % 7):=by
    match j,b with
    |0,b=>cases b;exact#[0,rfl,rfl]
    |1,b=>cases b;exact#[1,rfl,rfl]
    |2,b=>cases b;exact#[3,rfl,rfl]
    |j+3,b=>simp at b
   obtain⟨z,rfl,ez⟩:=hz;have o:(0+(i:Int)+(z:Int))*(1+(st:Int)) % 7=(((i+z)*(1+st) % 7:Nat):Int):=by rw[Lk,<-O2,show(1+(st:Int))=((1+st:Nat):Int) by lia,<-Int.natCast_mul];lia
   have e7:(i+z)*(1+st) % 7<7:=Nat.mod_lt _ ∅;refine#[_,rfl,_,rfl,_,rfl,_,_,rfl,rfl,_,rfl,_,_,rfl,rfl, .inr #[(),()],_,_,rfl,rfl,(by show(0:Int)<7;decide),_,_,rfl,rfl,#[by rw[o];lia,by rw[o];lia,∅],_,_,rfl,rfl,rfl,some (.int (z:Int)),?_];rw[o,kf,eF,ez];rfl
  .rintro d g ⟨rfl,c,rfl⟩;(try dsimp only);refine eU (λab H'=>H'=g/\ab=[some (.ref a),some (.int (r:Int)),some (.int (1+(st:Int))),some (.ref q),some (.int (0+(i:Nat))),some (.int (fh r st i)),c]) ?_ ?_
   rotate_left
   .intro N;refine#[_,rfl,rfl,_,rfl,cG (λl=> ?_) λl=>N _ _ #[rfl,?_]]
    .have t:r=4:=by have:=V.int.inj (Ko l);lia
     refine#[_,rfl,_,_,rfl,rfl,N _ _ #[rfl,?_]];unfold fh;rw[J5 t];rfl
    .have t:¬r=4:=λe=>l (by rw[e];rfl);unfold fh;rw[J4 t];rfl
   rintro ab G ⟨rfl,rfl⟩;have M:=O.at aE;refine#[_,rfl, .inl #[rfl,_,SqL.of M],_,rfl,q,_,_,rfl,rfl,M,(by rw[J2,J2,Kq];exact Kb s ∅),?_];exact#[_,_,_,(bt.trans O).upd L,by rw[av,LX,KP,KP];rfl,rfl]
 .rintro d g ⟨x,B,c,U,a0,rfl⟩;(try dsimp only);generalize aB:(List.range 7).map (fh r st)=m at*;refine#[128,rfl,∅,∅,?_];refine dN (n:=128) (lF r m) (λi=> .int (0+(i:Nat))) ∅ (λi vs H' R S s hv sm hk=> ?_) λp4 G aC bE J=> ?_
  .obtain⟨v,rfl⟩:=bH hv;have q:=hk [some (.int (0+(i:Nat)))] H' rfl (Same.refl _);have e:(0+(i:Int)).toNat=i:=()
   have bS:i<128:=s;refine#[_,rfl,_,rfl,(),(),_,rfl,rfl,_,rfl,?_];rw[e,aX];unfold lF at q;show if decide (sz i=r)=true then _ else _;by_cases p:sz i=r
   .rw[J3 p,Lo]at q;rw[J3 p,J5 rfl];refine#[_,rfl,_,rfl,_,_,rfl, .inl (SqL.of (sm.at a0)),rfl,oa _,_,rfl,?_];rw[Lk]at q⊢;rw[qD];have o:(!decide ((i:Int)∈m))=decide ((i:Int)∉m):=by by_cases h:(i:Int)∈m<;>simp[h]
    rw[o];show if decide ((i:Int)∉m)=true then _ else _;by_cases l:decide ((i:Int)∉m)=true
    .rw[J5 l]at q⊢;exact#[_,rfl,q]
    .rw[J4 l]at q⊢;exact q
   .rw[J6 p,Lc,J4 ∅]at q;rw[J6 p,J4 ∅];exact q
  rw[ix]at J;exact k p4 G st () (U.trans bE) (U.free aC) (by rw[aB];exact J)
theorem vc{n m:Nat}{ps:List Int}(e:n<=8)(d:m<=n)(h:ps=[]\/(0<m/\m<n/\Far m ps)):bU n (cw (du n m ps)) (du n m ps):=by
 obtain⟨M,a⟩:=Gm e d h;refine#[M,λz=> ?_,by unfold du;rw[J2];exact Kd (Lu _ _) (by rw[Kq];exact Kk _)];unfold du;rw[Ka];constructor
 .rintro⟨b,c,rfl⟩;obtain⟨g1,g2,g3⟩:=(a b).mp c;exact#[b,g1,rfl,g2.symm.trans g3,g3]
 .rintro⟨b,g1,rfl,g2,g3⟩;exact#[b,(a b).mpr #[g1,g3.trans g2.symm,g3],rfl]
theorem bU.ne(h:bU n r ms):ms≠[]:=by
 obtain⟨B,d⟩:=oP h.mat;obtain⟨b,c,a⟩:=k6.mp d;exact λe=>by have:=(h.mem (B:Int)).mpr #[B,b,rfl,a,c.trans a];rw[e]at this;cases this
theorem bU.bd(h:bU n r ms):∀m∈ms,0<=m/\m<256:=λm c=>by obtain⟨b,a,rfl,_⟩:=(h.mem m).mp c;have:=s_lt h.mat.n8 a;lia
theorem bU.rk(h:bU n r ms)(hl:∀z,z∈ls↔z∈ms)(f:s<2^n):cw ls s=r s:=h.mat.mW (λz=>by
 rw[hl,h.mem];constructor
 .rintro⟨b,c,d,e,a⟩;exact#[b,c,d,a.trans e.symm,a]
 .rintro⟨b,c,d,e,a⟩;exact#[b,c,d,e.symm.trans a,a]) f
def Ah:List Nat:=[4,5,6,5,6,7,3,8,2,1,0]
theorem Hi:∀j:Nat,j<11->([4,5,6,5,6,7,3,8,2,1,0]:List Int)[j]?=some ((Ah.getD j 0:Nat):Int):=∅
theorem Hg:∀j:Nat,j<11->Ah.getD j 0<=8:=∅
theorem qM{n m:Nat}{ps:List Int}(k:n<=8)(j:m<=n)(h:ps=[]\/(0<m/\m<n/\Far m ps)):Cl3 n (cw (du n m ps)):=by
 have B:=vc k j h;have M:=B.mat;have o:cw (du n m ps) (2^n-1)=m:=by
  obtain⟨s,a,c,d⟩:=Ad k j h;obtain⟨b,_,e,g1,_⟩:=(B.mem (s:Int)).mp (nV.mpr #[s,a,c,d,rfl]);have:s=b:=()
  subst this;lia
 have l:∀S,Sub S (2^n-1)->sz S=m->¬cw (du n m ps) S=m->(S:Int)∈ps:=λS f i g=>Kr λz=>g (by
  obtain⟨b,_,e,_,g2⟩:=(B.mem (S:Int)).mp (nV.mpr #[S,f.lt (aQ n),i,z,rfl]);have:S=b:=()
  subst this;lia)
 have:=Cv M o λS T f p i r g q ne=>by
  have a:=l S f i g;have c:=l T p r q;rcases h with rfl|⟨_,_,d⟩
  .cases a
  .have:=d _ a _ c (λe=>ne ());rw[J8,J8]at this;lia
 rw[Cl3,o];exact this
theorem vd(M:Mat n r)(f:p<=n)(d:n<8)(a:Int)(h:Cl3 n r):Cl3 (n+1) (gQ a n p r):=by
 by_cases b:a=1
 .have e:gQ a n p r=λs=>r (bC p s)+if s.testBit p=true then 1 else 0:=funext λs=>by unfold gQ;rw[J5 b]
  rw[e];exact IP M f d h
 .by_cases c:a=2/\p<n
  .have e:gQ a n p r=λs=>r (eJ p s):=funext λs=>by unfold gQ;rw[J4 b,J5 c]
   rw[e];exact Gv M c.2 d h
  .have e:gQ a n p r=λs=>r (bC p s):=funext λs=>by unfold gQ;rw[J4 b,J4 c]
   rw[e];exact EL M f d h
theorem z6.cls(e:z6 n r m q)(M:Mat n r)(h:Cl3 n r):Mat m q/\Cl3 m q:=by
 induction e with
 |base=>exact#[M,h]
 |step c p _ m8 b a=>exact#[AN a.1 b m8 c,vd a.1 b m8 c a.2]
theorem bU.dual{ms:List Int}(h:bU n r ms):bU n (gc n r) (ms.map λz=>((2^n:Nat):Int) -1-z):=by
 have M:=h.mat;have u:=two_pow_pos n;have k:=M.bW (aQ n);have j:∀b,b<2^n->au (2^n-1) b=2^n-1-b:=λb m=>Kj λt=>by rw[cm,show 2^n-1-b=2^n- (b+1) by lia,Nat.testBit_two_pow_sub_succ m]
 have le:=M.kQ (2^n-1) (aQ n);have eq:∀S,S<2^n->((sz S=gc n r (2^n-1)/\gc n r S=gc n r (2^n-1))↔sz (au (2^n-1) S)=r (2^n-1)/\r (au (2^n-1) S)=r (2^n-1)):=λS i=>by
  have p:=bG k (cC i);have q:=M.mono (aR (2^n-1) S) (aQ n);have s:=M.cX i;have l:=M.cX (aQ n);have:au (2^n-1) (2^n-1)=0:=Kj λt=>by rw[aG,KI];simp
  rw[this,M.zero]at l;lia
 refine#[M.dual,λz=> ?_,by rw[J2];exact h.few];rw[Ka];constructor
 .rintro⟨y,o,rfl⟩;obtain⟨b,a,rfl,c,d⟩:=(h.mem y).mp o;have e:au (2^n-1) (2^n-1-b)=b:=by rw[j _ ()];lia
  obtain⟨f,g⟩:=(eq (2^n-1-b) ()).mpr (by rw[e];exact#[c,d]);exact#[2^n-1-b,(),(),f,g]
 .rintro⟨b,a,rfl,c,d⟩;obtain⟨f,g⟩:=(eq b a).mp #[c,d];refine#[((au (2^n-1) b:Nat):Int),(h.mem _).mpr #[_,(aR _ _).lt (aQ n),rfl,f,g],?_];rw[j b a];lia
theorem IX:∀s:Nat,s<128->bh 7 s=s:=by decide+kernel
theorem bU.seven{ms:List Int}(h:bU 7 r ms):bU 8 (gQ 0 7 7 r) ms/\bU 8 (gQ 1 7 7 r) (ms.map λz=>z+128):=by
 have w:∀z∈ms,((bh 7 z.toNat:Nat):Int)=z:=λz g=>by obtain⟨b,f,rfl,_⟩:=(h.mem z).mp g;rw[J8,IX b f]
 have d:=oh h (p:=7) ∅ ∅ 0;have e:=oh h (p:=7) ∅ ∅ 1;have f0:ms.flatMap (λz=>gL 0 7 7 z.toNat)=ms:=by
  have:∀l:List Int,(∀z∈l,z∈ms)->l.flatMap (λz=>gL 0 7 7 z.toNat)=l:=λl=>by
   induction l with
   |nil=>intro _;rfl
   |cons z l c=>
    intro hl;rw[NS,c λy a=>hl y (Ke _ a)];have:=w z (hl z Kp);show((bh 7 z.toNat:Nat):Int)::l=_;rw[this]
  exact this ms λ_ h=>h
 have f1:ms.flatMap (λz=>gL 1 7 7 z.toNat)=ms.map λz=>z+128:=by
  have:∀l:List Int,(∀z∈l,z∈ms)->l.flatMap (λz=>gL 1 7 7 z.toNat)=l.map λz=>z+128:=λl=>by
   induction l with
   |nil=>intro _;rfl
   |cons z l c=>
    intro hl;rw[NS,c λy a=>hl y (Ke _ a)];have:=w z (hl z Kp);show((bh 7 z.toNat+2^7:Nat):Int)::_=_;rw[O2,this];rfl
  exact this ms λ_ h=>h
 rw[f0]at d;rw[f1]at e;exact#[d,e]
theorem sc_law:aK ["_law_script","_law_cells","_law_many","_law_told","_law_turn","_law_house","_law_levels","_law_found","_law_row"] ["_law_script"] (aw s_law):=sc_of
theorem Jj:PSp (vi CX0 P w K mg base ["_law_script","_law_cells","_law_many","_law_told","_law_turn","_law_house","_law_levels","_law_found","_law_row"] "law" (aw s_law) f cdv A outer s H E).nox ((bu s_law).getD 1 (.Pass #[0,0,0,0]))
  (yp (tOp (DC K) (Jb (GJ [4,5,6,5,6,7,3,8,2,1,0])) (tOp (rI (λ_ j=>0<j) λi j=> .int (i % j)) (tOp (DC K) (Hk 1) (tC (.int 0))) (tC (.int 11)))) (bD 2)):=by
 have a:ou (zi (zQ (Dx ((bu s_law).getD 1 (.Pass #[0,0,0,0]))))) [4,5,6,5,6,7,3,8,2,1,0]:=mG (by decide+kernel);obtain⟨p1,p2,p3,p4,p5,p6,p7,d,g,b,c,e⟩:∃ (p1 p2 p3 p4 p5 p6 p7 d g:Pos) (b c:Nat),(bu s_law).getD 1 (.Pass ⟨0,0,0,0⟩)= .Assign [.Name "_law_many" p1] (.Subscript (.List (zi (zQ (Dx ((bu s_law).getD 1 (.Pass ⟨0,0,0,0⟩))))) p2) (.BinOp (.Subscript (.Name "_law_cells" p3) (.Constant (.int 0) b p4) p5) .Mod (.Constant (.int 11) c p6) p7) d) g:=#[_,_,_,_,_,_,_,_,_,_,_,rfl];generalize zi (zQ (Dx ((bu s_law).getD 1 (.Pass #[0,0,0,0]))))=h at a e;rw[e];refine#[?_];exact DF (i:=2) sc_law.nd ⋯ (by first|exact N5 rfl|exact Or.inr rfl) (AG (qA (K:=K) ⋯) (cS (BV a)) (ax cj (AG (qA (K:=K) ⋯) (pv 1) af (λ_ _=>rfl)) af) (λ_ _=>rfl))
theorem JX:bu s_law=(bu s_law).getD 0 (.Pass #[0,0,0,0])::(bu s_law).getD 1 (.Pass #[0,0,0,0])::(bu s_law).drop 2:=⋯
theorem JW:∃a,a=(bu s_law).getD 1 (.Pass #[0,0,0,0])/\bu s_law=(bu s_law).getD 0 (.Pass #[0,0,0,0])::a::(bu s_law).drop 2:=#[_,rfl,JX]
theorem Im(F:Fun K "law" "law" s_law f fd)(T:Tb K mg)(aE:yk P w K mg base 2 "Listed" cL ["self","n","some"] (Ar K cL))(ay:Cal P w K mg base 2 "_law_far" ["_law_cells","_law_many","_law_rank"] (GL K))(ag:Cal P w K mg base 2 "_law_ranks" ["_law_many","_law_told"] (v9 K))
  (ak:Cal P w K mg base 1 "_law_rows" ["_law_cells","_law_many"] (Aj K)) (ai:Cal P w K mg base 4 "_law_bases" ["_law_many","_law_rows_here"] (wo K)) (aj:Cal P w K mg base 2 "_law_round" ["_law_cells","_law_rank"] (vX K)) (ar:Cal P w K mg base 2 "_law_idle" ["_law_cells","_law_many","_law_told"] (Dm K)) (aa:Cal P w K mg base 13 "over_three" ["house"] (oz (hsL cL))) (ab:Cal P w K mg base 4 "_law_right" ["_law_found","_law_many","_law_levels"] (Ak K)):jw P w K mg base CX0 14 f fd ["_law_script"] (Ap K):=by
 refine F.ok sc_law (λvs H Q E h=>by obtain⟨a,J,rfl,_⟩:=h;rfl) λcdv A outer lg H vs Q E u h=> ?_;obtain⟨a,J,rfl,ha,hn,k⟩:=h;have fW:=Jj (P:=P) (w:=w) (K:=K) (mg:=mg) (base:=base) (f:=f) (cdv:=cdv) (A:=A) (outer:=outer) (s:=lg) (H:=H) (E:=E);obtain⟨mi,O,hF⟩:=JW;rw[<-O]at fW;rw[hF];refine#[_,(ah (wset 1 sc_law.nd (ax nU (jR (jI (K:=K) ⋯) (pv 0) ma (lZ af)) (cS (ae af aq))))
   (ah (fW.h)
   (ah (wset 3 sc_law.nd (wcal ay u (ae (pv 1) (ae (pv 2) (ae (ax cj (ax hU (dh K (pv 1) af) af) (ax dz (pv 2) af)) aq)))))
   (ah (wset 4 sc_law.nd (ax cj (dh K (pv 1) (ax fq (jP ie af) (ax hU (wlen K T.len_ (pv 1)) af))) af))
   (ah (bo (wpt mq (pv 4) af)
     (ao (wset 3 sc_law.nd (wcal ai u (ae (pv 2) (ae (wcal ak u (ae (pv 1) (ae (pv 2) aq))) aq)))))
     aO)
   (ah (bo (wpt a8 (pv 4) af)
     (ao (wls 3 sc_law.nd ["_law_s"] ["_law_many"] [2] (wil K (pv 3)) (wnC 0) cP (ax fq (ax fq (ax cW af (pv 1)) af) (pv 0))))
     aO)
   (ah (bo (PW.pt (dy (wpt mq (pv 2) af) (ee (wpt a8 (ax cj (ax hU (dh K (pv 1) af) af) af) af))))
     (ah (wset 3 sc_law.nd (wcal aj u (ae (pv 1) (ae (ax dz af (ax cj (ax hU (dh K (pv 1) af) af) af)) aq))))
     (ao (bo (PW.pt (dy (wpt a8 (pv 2) af) (ee (wpt a8 (ax cj (ax hU (dh K (pv 1) af) af) af) af))))
       (ao (wls 3 sc_law.nd ["_law_s"] [] [] (wil K (pv 3)) (wnC 0) cP (ax dz (pv 0) af)))
       aO)))
     aO)
   (ah (HF (wcal ar u (ae (pv 1) (ae (pv 2) (ae (pv 3) aq)))) (mh (K:=K) (n:=2) ⋯ ⋯ (eV (wname 2 sc_law.nd) (eV (wname 3 sc_law.nd) mf))))
   (ah (wset 5 sc_law.nd (uC aE u ∅ ⋯ (ae (pv 2) (ae (ax nU (FN (K:=K) ⋯ (pv 3) (jP ie af)) (jR (jI (K:=K) ⋯) (pv 3) ma (lZ af))) aq))))
   (ah (wset 6 sc_law.nd (wcal ag u (ae (pv 2) (ae (pv 3) aq))))
   (ah (wset 7 sc_law.nd (wcal aa u (ae (pv 5) aq)))
   (ah (bo (kZ (dD (wcal ab u (ae (pv 7) (ae (pv 2) (ae (pv 6) aq))))))
     (ao (aH fE))
     aO)
   (ah (bo (wpt a8 (kS K (pv 7) af) fO)
     (ah (wfor (wil K (kS K (pv 7) af)) (wname 8 sc_law.nd)
       (ao (cR (fo (K:=K) ⋯ Lh Lm Ln cF (pv 8) (ae af aq)))))
     (ao (aH (wcal ab u (ae (wcal aa u (ae (pv 5) aq)) (ae (pv 2) (ae (pv 6) aq)))))))
     aO)
   (ao (aH fE))))))))))))))),?_]
 refine#[_,rfl,_,rfl,a,_,rfl,ha,λp1 lN=> ?_];rw[EF ∅];refine#[by show 1<=sizeLine;decide,λp2 h9=> ?_];have O:upd H p1 (.lst ((J.take (63:Int).toNat).map V.int)) p1=some (.lst ((J.take (63:Int).toNat).map V.int)):=av;refine#[p1,p2,_,_,rfl,rfl,(by rw[aJ (aM O h9)];exact O),av,?_,λp3 lS=> ?_]
 .rw[J2,KL];show min _ _+1<=sizeLine;exact Kd (show min (63:Int).toNat J.length+1<=64 by lia) ∅
 generalize upd (upd H p1 (.lst ((J.take (63:Int).toNat).map V.int))) p2 (.lst [V.int 0])=H1 at*;have ec:(J.take (63:Int).toNat).map V.int++[V.int 0]=(J.take (63:Int).toNat++[0]).map V.int:=by rw[KP];rfl
 rw[ec];have e6:(J.take (63:Int).toNat++[0]).length<=64:=by rw[Kz,KL];show min _ _+1<=64;lia
 have b4:0<(J.take (63:Int).toNat++[0]).length:=by rw[Kz];show 0<_+1;lia
 generalize J.take (63:Int).toNat++[0]=cs at*;have fa:upd H1 p3 (.lst (cs.map V.int)) p3=some (.lst (cs.map V.int)):=av;generalize upd H1 p3 (.lst (cs.map V.int))=r at*;have bk:atI (cs.map V.int) 0=some (.int (cs.getD 0 0)):=cY (j:=0) b4;generalize cs.getD 0 0=c at*;refine#[by rw[J2];decide,λpd iv=> ?_];have kz:Same r (upd r pd (.lst (List.map V.int [4,5,6,5,6,7,3,8,2,1,0]))):=Same.new iv;have fi:upd r pd (.lst (List.map V.int [4,5,6,5,6,7,3,8,2,1,0])) pd=some (.lst (List.map V.int [4,5,6,5,6,7,3,8,2,1,0])):=av;have cM:=kz.at fa;obtain⟨j,hj⟩:=LV (show 0<=c % 11 from Me _ ∅);have e9:j<11:=by have:=Mb c (show(0:Int)<11 by decide);lia
 have eH:atI (List.map V.int [4,5,6,5,6,7,3,8,2,1,0]) (c % 11)=some (.int ((Ah.getD j 0:Nat):Int)):=by rw[hj];exact jS (Hi j e9)
 have bE:=Hg j e9;generalize Ah.getD j 0=n at*;refine#[_,rfl,p3,_,_,_,rfl,rfl,SqL.of cM,bk,_,_,rfl,rfl,(by show(0:Int)<11;decide),pd,_,_,_,rfl,rfl,SqL.of fi,eH,?_];generalize upd r pd (.lst (List.map V.int [4,5,6,5,6,7,3,8,2,1,0]))=H3 at*;refine#[_,rfl,_,rfl,_,rfl,p3,_,_,_,rfl,rfl,SqL.of cM,bk,_,_,rfl,rfl,#[∅,∅],_,rfl,_,_,rfl,rfl,_,_,rfl,rfl,(by show(0:Int)<(n:Int)+1;lia),?_];obtain⟨r0,jl⟩:=LV (show 0<=c/11 % ((n:Int)+1)from Me _ ());have dx:r0<=n:=by have:=Mb (c/11) (show(0:Int)<(n:Int)+1 by lia);lia
 (try dsimp only);rw[jl];refine#[p3,cs,n,r0,rfl,SqL.of cM,b4,e6,bE,dx,λpt H4 ps ks lT fe dp=> ?_];have B0:=vc bE dx dp;have C0:=qM bE dx dp;generalize du n r0 ps=m0 at*;generalize cw m0=rB at*;have cO:=ks.at cM;clear eH fi fa dp;have eM:atI (cs.map V.int) (-1- ((cs.map V.int).length:Nat) /2)=some (.int (cs.getD (-1- (cs.length:Int) /2+cs.length).toNat 0)):=by rw[J2];exact zV () ()
 refine#[_,rfl,1,rfl,_,rfl,p3,_,rfl, .inl (SqL.of cO),_,_,rfl,rfl,#[∅,∅],_,_,rfl,rfl,p3,_,_,_,rfl,rfl,SqL.of cO,eM,_,_,rfl,rfl,∅,?_];generalize cs.getD (-1- (cs.length:Int) /2+cs.length).toNat 0 % 4=turn;unfold C9;dsimp only;refine eU (λa0 H'=>∃ (N:Addr) (L:Nat->Nat) (U:List Int),Same H4 H'/\H' N=some (.lst (U.map V.int))/\bU n L U/\Cl3 n L/\(1<turn->Tern n L)/\a0=[some (.ref a),some (.ref p3),some (.int (n:Int)),some (.ref N),some (.int turn),none,none,none,none]) ?_ λB=> ?_
 rotate_left
 .refine#[_,rfl,_,_,rfl,rfl,_,rfl,cG (λ_=> ?_) λhc=>B _ _ #[pt,rB,m0,Same.refl _,fe,B0,C0,λh=>absurd (J3 h) hc,rfl]];refine#[_,rfl,_,rfl,_,rfl,p3,cs,n,rfl,SqL.of cO,b4,e6,bE,λq1 HA xs MM ed lW c1 hR hM js=> ?_];exact#[q1,xs,MM,n,rfl,c1,hR,hM,js,bE,λq2 ms HB ef jk a3 Bb=>B _ _ #[q2,_,ms,ed.trans ef,a3,Bb, .inl #[_,λs _=>rfl],λ_=>#[_,λs _=>rfl],rfl]]
 rintro a0 HA ⟨aA,rA,mA,ed,cB,BA,CA,tA,rfl⟩;have hX:=ed.at cO;clear fe B0 C0;refine eU (λa0 H'=>∃ (N:Addr) (L:Nat->Nat) (U:List Int),Same HA H'/\H' N=some (.lst (U.map V.int))/\bU n L U/\Cl3 n L/\a0=[some (.ref a),some (.ref p3),some (.int (n:Int)),some (.ref N),some (.int turn),none,none,none,none]) ?_ λB=> ?_
 rotate_left
 .refine#[_,rfl,rfl,_,rfl,cG (λhc=> ?_) λ_=>B _ _ #[aA,rA,mA,Same.refl _,cB,BA,CA,rfl]];have e3:turn=3:=V.int.inj (Ko hc);have fA:=BA.few;have hH:=kM bE;refine#[_,rfl,aA,rfl,#[_,SqL.of cB],?_];refine b9 (λx=>(λ_=>true) (bI x)) (λx=> .int ((λz:Int=>((2^n:Nat):Int) -1-z) (bI x))) (SqL.of cB) (by rw[J2];exact Kd (show mA.length<=256 by lia) ∅) (λi x vs H' R S hx hv sm hk=> ?_) λq H' hq sm hl=> ?_
  .obtain⟨v,rfl⟩:=bH hv;obtain⟨z,rfl,G⟩:=bL hx;simp only[bD,iM,J5];have q':=hk [some (.int z)] _ rfl (Same.refl _);rw[J5 rfl]at q';refine#[_,rfl,_,_,rfl,rfl,#[(),(),∅],_,_,rfl,rfl,_,rfl,_,_,rfl,rfl,?_];rw[cQ];exact q'
  replace hl:=hl.trans (K3 (λl=>some (HO.lst l)) (bK (λ_=>true) (λz:Int=>((2^n:Nat):Int) -1-z) mA));rw[LM.mpr (λ_ _=>rfl)]at hl;exact B _ _ #[q,_,_,sm,hl,BA.dual, .inl (Bm BA.mat (tA ())),rfl]
 rintro a0 HB ⟨aB,fB,mB,ef,dm,BB,CB,rfl⟩;have a3:=ef.at hX;clear cB BA CA tA;refine eU (λa0 H'=>∃ (N:Addr) (L:Nat->Nat) (U:List Int),Same HB H'/\H' N=some (.lst (U.map V.int))/\bU n L U/\Cl3 n L/\a0=[some (.ref a),some (.ref p3),some (.int (n:Int)),some (.ref N),some (.int turn),none,none,none,none]) ?_ λB=> ?_
 rotate_left
 .refine#[_,rfl,_,_,rfl,rfl,_,rfl,cG (λh6=> ?_) λ_=>eZ (B _ _ #[aB,fB,mB,Same.refl _,dm,BB,CB,rfl])];have n6:6<n:=by have:=Ko h6;lia
  refine#[_,rfl,p3,_,_,_,rfl,rfl,SqL.of a3,bk,_,_,rfl,rfl,#[∅,∅],_,_,rfl,rfl,∅,rfl,_,rfl,cG (λ_=> ?_) λ_=>B _ _ #[aB,fB,mB,Same.refl _,dm,BB,CB,rfl]];refine#[_,rfl,_,rfl,p3,_,_,_,rfl,rfl,SqL.of a3,bk,_,_,rfl,rfl,#[∅,∅],_,_,rfl,rfl,∅,_,_,rfl,rfl,?_];obtain⟨p,hV,hI⟩:∃p:Nat,3+c/176 % 2=(p:Int)/\(p=3\/p=4):=by
   rcases Int.emod_two_eq (c/176)with h|h
   .exact#[3,by rw[h];rfl, .inl rfl]
   .exact#[4,by rw[h];rfl, .inr rfl]
  dsimp only;rw[hV];refine#[p3,cs,p,rfl,SqL.of a3,b4,λq HC st j0 aS hq m=> ?_];have F7:bU 7 (cw (du 7 p ((List.range 7).map (fh p st)))) (du 7 p ((List.range 7).map (fh p st)))/\Cl3 7 (cw (du 7 p ((List.range 7).map (fh p st)))):=by
   have rf:=BD st j0;rcases hI with rfl|rfl
   .exact#[vc ∅ ∅ (.inr #[∅,∅,rf.1]),qM ∅ ∅ (.inr #[∅,∅,rf.1])]
   .exact#[vc ∅ ∅ (.inr #[∅,∅,rf.2]),qM ∅ ∅ (.inr #[∅,∅,rf.2])]
  generalize du 7 p ((List.range 7).map (fh p st))=m7 at*;generalize cw m7=r7 at*;obtain⟨B7,C7⟩:=F7;have hY:=aS.at a3;refine#[_,rfl,rfl,_,rfl,cG (λh8=> ?_) λh8=>eZ ?_]
  .have e8:n=8:=by have:=V.int.inj (Ko h8);lia
   subst e8;obtain⟨gb,gd⟩:=B7.seven;refine#[_,rfl,p3,_,_,_,rfl,rfl,SqL.of hY,bk,_,_,rfl,rfl,#[∅,∅],_,_,rfl,rfl,∅,rfl,_,rfl,cG (λ_=> ?_) λ_=>B _ _ #[q,_,m7,aS,m,gb,vd B7.mat ∅ ∅ 0 C7,rfl]];have f7:=B7.few;refine#[_,rfl,q,rfl,#[_,SqL.of m],?_];refine b9 (λx=>(λ_=>true) (bI x)) (λx=> .int ((λz:Int=>z+128) (bI x))) (SqL.of m) (by rw[J2];exact Kd (show m7.length<=256 by lia) ∅) (λi x vs H' R S hx hv sm hk=> ?_) λq2 H' jk sm hl=> ?_
   .obtain⟨v,rfl⟩:=bH hv;obtain⟨z,rfl,G⟩:=bL hx;simp only[bD,iM,J5];have q':=hk [some (.int z)] _ rfl (Same.refl _);rw[J5 rfl]at q';exact#[_,rfl,_,_,rfl,rfl,q']
   replace hl:=hl.trans (K3 (λl=>some (HO.lst l)) (bK (λ_=>true) (λz:Int=>z+128) m7));rw[LM.mpr (λ_ _=>rfl)]at hl;exact B _ _ #[q2,_,_,aS.trans sm,hl,gd,vd B7.mat ∅ ∅ 1 C7,rfl]
  .have e7:n=7:=by have:¬n=8:=λe=>h8 (J3 (by rw[e];rfl));lia
   subst e7;exact B _ _ #[q,r7,m7,aS,m,B7,C7,rfl]
 rintro a0 HC ⟨aC,rC,mC,aS,e0,BC,CC,rfl⟩;have m:=aS.at a3;clear bk eM dm BB CB;refine#[_,rfl,_,rfl,_,rfl,p3,aC,cs,mC,n,rC,rfl,SqL.of m,b4,e0,BC,λti a5 d M m5 H5 ku j8 dk g e5=> ?_];have C5:=(e5.cls BC.mat CC).2;have fu:=g.mat.n8;refine#[ti,_,rfl,SqT.of j8,rfl,_,_,rfl,_,_,rfl,rfl,?_];have hW:=ku.at m;clear e0 BC CC e5;refine#[_,rfl,_,rfl,1,rfl,rfl,a5,_,rfl,SqL.of dk,λp6 ih=> ?_];have fU:Same H5 (upd H5 p6 (.lst (m5.map V.int).reverse)):=Same.new ih;have h6:upd H5 p6 (.lst (m5.map V.int).reverse) p6=some (.lst (m5.reverse.map V.int)):=by rw[av,List.map_reverse]
 generalize upd H5 p6 (.lst (m5.map V.int).reverse)=H6 at*;refine#[_,rfl,_,rfl,a5,_,rfl,SqL.of (fU.at dk),λp7 ij=> ?_];rw[EF ∅];have fV:Same H6 (upd H6 p7 (.lst ((m5.take (1:Int).toNat).map V.int))):=Same.new ij;have h7:upd H6 p7 (.lst ((m5.take (1:Int).toNat).map V.int)) p7=some (.lst ((m5.take (1:Int).toNat).map V.int)):=av;generalize upd H6 p7 (.lst ((m5.take (1:Int).toNat).map V.int))=H7 at*;have f5:=g.few;have hH:=kM fu;refine#[p6,p7,_,_,rfl,rfl,fV.at h6,h7,?_,λp8 ik=> ?_]
 .rw[J2,J2,NF,KL];exact Kd (show m5.length+min (1:Int).toNat m5.length<=257 by lia) ∅
 have kv:Same H7 (upd H7 p8 (.lst (m5.reverse.map V.int++(m5.take (1:Int).toNat).map V.int))):=Same.new ik;have h8:upd H7 p8 (.lst (m5.reverse.map V.int++(m5.take (1:Int).toNat).map V.int)) p8=some (.lst ((m5.reverse++m5.take (1:Int).toNat).map V.int)):=by rw[av,KP]
 generalize upd H7 p8 (.lst (m5.reverse.map V.int++(m5.take (1:Int).toNat).map V.int))=H8 at*;have d5:∀z,z∈m5.reverse++m5.take (1:Int).toNat↔z∈m5:=λz=>by rw[KC,List.mem_reverse];exact#[λh=>by rcases h with h|h;exact h;exact MN h, .inl]
 have fs:(m5.reverse++m5.take (1:Int).toNat).length<=1000:=by rw[Kz,NF,KL];lia
 generalize m5.reverse++m5.take (1:Int).toNat=l5 at*;intro po cv d7 fx mb;have ej:Same H8 (upd (upd H8 cv (.own po)) po (.ins cL cv [])):=λb o e=>by rw[aJ (aM e d7),aJ (aM e fx)];exact e
 refine#[po,cv,p8,d,l5,rfl,av,SqL.of (ej.at h8),fs,λtt H9 bb fz i1 kb=>#[rfl,?_]];have kx:Same H8 H9:=λb o e=>fz b o (ej.at e) (aM e d7);have fI:=fU.trans (fV.trans (kv.trans kx));have hQ:=fI.at dk;have lK:=fI.at hW;have hO:(hsL cL).ho H9 po d M:=#[l5,#[cv,tt,i1,kb,fs],λe=>g.ne (Oe.mpr λz G=>by have:=(d5 z).mpr G;rw[e]at this;cases this),λz G=>g.bd z ((d5 z).mp G),λs hs=>(g.rk d5 hs).symm];clear ej fz d7 fx h8 h7 h6;refine#[_,rfl,_,rfl,a5,m5,d,rfl,SqL.of hQ,g.ne,g.bd,(),fu,λlv HC aS lL m=> ?_];have eL:(List.range (2^d)).map (λs=>((cw m5 s:Nat):Int))=fZ d M:=by unfold fZ;refine LB λs hs=> ?_;rw[g.rk (λ_=>Iff.rfl) (J9.mp hs)]
 rw[eL]at m;have f6:=Eo cL;have eW:=f6.same aS hO;refine#[_,rfl,po,d,_,M,rfl,eW,g.mat,rfl,C5,λc l xs t HD c4 ht bb hl c1 hR hN ho=> ?_,λkd s w t HD c4 ht bb dw hs hw dv=> ?_]
 .refine#[_,rfl,_,rfl,_,rfl,t,lv,d,_,M,rfl,SqL.of (c4.at m),g.mat,rfl, .inl #[l,xs,c,bb,c1,hR.same eu,ho],λHE bj=> ?_];refine#[_,rfl,eZ ?_];refine#[_,rfl,t,_,_,_,rfl,rfl,SqT.of (bj.at bb),rfl,rfl,_,rfl,nX ?_];have fl:=bj.at bb;have fm:=bj.at c1;refine#[_,rfl,t,_,_,_,rfl,rfl,SqT.of fl,rfl,l,rfl,#[_,SqL.of fm],?_];refine cD (K:=K) (a:=l) (xs:=xs) (λi σ r=>∃v8:Option V,Same HC r/\r t=some (.tup [.str "table", .ref l])/\r l=some (.lst xs)/\(∀x∈xs,∃ (b:Addr) (zs:List V),x= .ref b/\b≠l/\HC b=none/\r b=some (.lst zs)/\zs.length<=8+i)/\σ=[some (.ref a),some (.ref p3),some (.int (d:Int)),some (.ref a5),some (.int turn),some (.ref po),some (.ref lv),some (.ref t),v8]) #[none,c4.trans bj,fl,fm,λx hx=> ?_,rfl] (λi σ r _ h=>by obtain⟨_,_,_,h2,_⟩:=h;exact SqL.of h2) ?_ ?_
  .obtain⟨b,e1,e2⟩:=hN x hx;obtain⟨i,hi⟩:=LQ hx;obtain⟨b',rr,O,h2,h3⟩:=hR.at hi;rw[e1]at h2;cases h2;have nl:b≠l:=λe=>by rw[e]at h3;unfold hide at h3;rw[J5 rfl]at h3;cases h3
   rw[dR nl]at h3;have iR:i<(jz c d (M (2^d-1))).length:=(Kh.mp O).1;rw[t9]at iR;rw[ua iR]at O;cases O;exact#[b,_,e1,nl,e2,bj.at h3,by rw[J2,J2,Kq];lia]
  .rintro i x σ r hi ⟨v8,ck,dV,fb,dE,rfl⟩;have il:i<xs.length:=(Kh.mp hi).1;have xl:xs.length<=8:=by rw[hR.1,t9];have:=g.mat.kQ (2^d-1) (aQ d);have h2:sz (2^d-1)<=8:=a9 _;lia
   obtain⟨b,zs,rfl,nb,hb,G,zl⟩:=dE x (Km hi);dsimp only[bD];refine#[_,rfl, .inl #[rfl,_,SqL.of G],b,_,_,rfl,rfl,G,Ks zl (Kb (show 8+i<17 by lia) ∅),?_];refine#[_,ck.upd hb,by rw[aJ (oI dV G λz=>by cases z)];exact dV,by rw[aJ nb.symm];exact fb,λy hy=> ?_,rfl];obtain⟨b2,lb,rfl,kj,hS,d3,ml⟩:=dE y hy;by_cases e:b2=b
   .subst e;rw[G]at d3;cases d3;exact#[b2,_,rfl,nb,hb,av,by rw[Kz];show zs.length+1<=_;lia]
   .exact#[b2,lb,rfl,kj,hS,by rw[aJ e];exact d3,()]
  .rintro σ r ⟨v8,ck,dV,fb,dE,rfl⟩;refine#[_,rfl,po,d,_,M,rfl,f6.same ck eW,g.mat,rfl,C5,λc2 l2 k8 t2 HG ei j2 d0 lB kc hL ly h5=> ?_,λkd s w t2 HG ei j2 d0 dw hs hw dv=> ?_]
   .exact#[_,rfl,_,rfl,t2,lv,d,_,M,rfl,SqL.of (ei.at (ck.at m)),g.mat,rfl, .inl #[l2,k8,c2,d0,kc,hL.same eu,h5],λHH ky=>k _]
   .exact#[_,rfl,_,rfl,t2,lv,d,_,M,rfl,SqL.of (ei.at (ck.at m)),g.mat,rfl, .inr #[kd,s,w,d0,dw,hs,hw,dv],λHH ky=>k _]
 .refine#[_,rfl,_,rfl,_,rfl,t,lv,d,_,M,rfl,SqL.of (c4.at m),g.mat,rfl, .inr #[kd,s,w,bb,dw,hs,hw,dv],λHE bj=> ?_];refine#[_,rfl,eZ ?_];refine#[_,rfl,t,_,_,_,rfl,rfl,SqT.of (bj.at bb),rfl,rfl,_,rfl,cG (λhc=> ?_) λ_=> ?_]
  .exact absurd (V.str.inj (Ko hc)) (by decide+kernel)
  .exact k _
end
inductive HD(K:PySem.W.Frag)(n:Str)(st:Stmt):Prop
 |mk {f:Addr} {oc:Value} {od an:Option Addr} {sl:Array (Option Value)} {kV dc pm cd ct:Value} (a:nsIn K mainGlobals n=some (some (.ref f))) (l:K.lookup f=some ⟨oc,od, .func (fnOf n n (dH st) (bu st) (aw st) .none kV dc pm an cd ct),sl⟩) (c:codeIn K cd n=true) (k:keepIn K (.ref f)=true):HD K n st
theorem HD.at{K:PySem.W.Frag}{n:Str}{st:Stmt}{h:Heap}{mg:Str->Option Value}(X:K.In h)(G:h.Ns mainGlobals mg)(d:HD K n st){ps:List Str}(b:∀ (kV g i:Value) (e:Option Addr) (cdv f:Value) (us:List Value),us.length=ps.length->bindArgs (fnOf n n (dH st) (bu st) (aw st) .none kV g i e cdv f) #[us,[]]=pure (ps.zip us):=by intro _ _ _ _ _ _;first|exact Iz rfl|exact Iy λ_=>rfl|exact Iw λ_ _=>rfl|exact Iv λ_ _ _=>rfl|exact Iu λ_ _ _ _=>rfl|exact Jv λ_ _ _ _ _=>rfl):bw K mg n st ps:=by obtain⟨a,l,c,k⟩:=d;exact IM (st:=st) (ps:=ps) X G a l c k b
inductive HM(K:PySem.W.Frag)(C:Addr)(n q:Str)(st:Stmt)(f:Addr):Prop
 |mk {oc:Value} {od an:Option Addr} {sl:Array (Option Value)} {kV dc pm cd ct:Value} (a:findIn K (.ref C) n=some (some (.ref f))) (i:isFn K (.ref f)=true) (l:K.lookup f=some ⟨oc,od, .func (fnOf n q (dH st) (bu st) (aw st) .none kV dc pm an cd ct),sl⟩) (c:codeIn K cd q=true) (k:keepIn K (.ref f)=true):HM K C n q st f
theorem HM.at{K:PySem.W.Frag}{C:Addr}{n q:Str}{st:Stmt}{f:Addr}(d:HM K C n q st f){ps:List Str}(b:∀ (kV h j:Value) (e:Option Addr) (cdv g:Value) (us:List Value),us.length=ps.length->bindArgs (fnOf n q (dH st) (bu st) (aw st) .none kV h j e cdv g) #[us,[]]=pure (ps.zip us):=by intro _ _ _ _ _ _;first|exact Iz rfl|exact Iy λ_=>rfl|exact Iw λ_ _=>rfl|exact Iv λ_ _ _=>rfl|exact Iu λ_ _ _ _=>rfl|exact Jv λ_ _ _ _ _=>rfl):iL K n q st ps f/\findIn K (.ref C) n=some (some (.ref f))/\isFn K (.ref f)=true/\keepIn K (.ref f)=true:=by obtain⟨a,i,l,c,k⟩:=d;exact#[Iq (st:=st) (ps:=ps) l c k b,a,i,k]
structure HL(K:PySem.W.Frag)(n:Str)(C:Addr):Prop where
 a:nsIn K mainGlobals n=some (some (.ref C))
 pg:plainGet K C Str.empty=true
 hd:hasDictIn K C=true
 po:plainOver K C=true
 sa:findIn K (.ref C) "__setattr__"=some (some (.builtin "object.__setattr__"))
 mi:makesIn K C=true
 kc:keepIn K (.ref C)=true
structure HI(K:PySem.W.Frag)(C:Addr):Prop where
 a:findIn K (.ref C) "__class__"=some (some (.builtin "object.__class__"))
 b:specialIn K (.builtin "object.__class__") "__get__"=some (some (.builtin "getset_descriptor.__get__"))
 c:takesIn K (.builtin "object.__class__")=some true
 d:mroIn K C (.type "object")=some true
theorem all_mk{l:PySem.W.OpenLaw}{K:PySem.W.Frag}{h:Heap}(X:K.In h)(G:h.Ns mainGlobals mg)(s6:mg "law"=some (.ref fa))
  
  
  
  
  
  (y2:HL K "House" d)
  (y0:HL K "Listed" g)
  (y4:HL K "Other" f)
  (y1:HL K "Minor" b)
  (y3:HL K "Known" c)
  (b3:HM K d "__init__" "House.__init__" s_House___init__ aB)
  (a5:HM K d "everything" "House.everything" s_House_everything aa)
  (zy:findIn K (.ref d) "many"=some none)
  (vu:HI K d)
  (zv:kitOne K (.ref d) (.ref d)=some true)
  (bE:HM K g "__init__" "Listed.__init__" s_Listed___init__ bB)
  (c4:HM K g "rank" "Listed.rank" s_Listed_rank c3)
  (ta:findIn K (.ref g) "everything"=some (some (.ref aa)))
  (i1:findIn K (.ref g) "many"=some none)
  (iR:findIn K (.ref g) "listed"=some none)
  (vr:HI K g)
  (v5:kitOne K (.ref g) (.ref d)=some true)
  (d0:HM K f "rank" "Other.rank" s_Other_rank dV)
  (b4:HM K f "__init__" "Other.__init__" s_Other___init__ b2)
  (td:findIn K (.ref f) "everything"=some (some (.ref aa)))
  (kd:findIn K (.ref f) "many"=some none)
  (kc:findIn K (.ref f) "house"=some none)
  (j8:findIn K (.ref f) "full"=some none)
  (kb:findIn K (.ref f) "full_rank"=some none)
  (v3:HI K f)
  (wa:kitOne K (.ref f) (.ref d)=some true)
  (b5:HM K b "__init__" "Minor.__init__" s_Minor___init__ b1)
  (d1:HM K b "rank" "Minor.rank" s_Minor_rank dT)
  (tb:findIn K (.ref b) "everything"=some (some (.ref aa)))
  (j0:findIn K (.ref b) "many"=some none)
  (jl:findIn K (.ref b) "house"=some none)
  (js:findIn K (.ref b) "kept"=some none)
  (i2:findIn K (.ref b) "drawn"=some none)
  (jk:findIn K (.ref b) "drawn_rank"=some none)
  (vs:HI K b)
  (v7:kitOne K (.ref b) (.ref d)=some true)
  (b6:HM K c "__init__" "Known.__init__" s_Known___init__ b0)
  (d2:HM K c "rank" "Known.rank" s_Known_rank dK)
  (tc:findIn K (.ref c) "everything"=some (some (.ref aa)))
  (j1:findIn K (.ref c) "many"=some none)
  (j2:findIn K (.ref c) "told"=some none)
  (vM:HI K c)
  (v8:kitOne K (.ref c) (.ref d)=some true)
  (hp:HD K "holds" s_holds)
  (gk:HD K "things" s_things)
  (hD:HD K "size" s_size)
  (gr:HD K "set_of" s_set_of)
  (gs:HD K "within" s_within)
  (hq:HD K "parts" s_parts)
  (fU:HD K "choices" s_choices)
  (gu:HD K "spread" s_spread)
  (gz:HD K "all_of" s_all_of)
  (hE:HD K "less" s_less)
  (e1:HD K "exchanged" s_exchanged)
  (hr:HD K "ranks" s_ranks)
  (hs:HD K "rests" s_rests)
  (c5:HD K "pivot_place" s_pivot_place)
  (fV:HD K "cleared" s_cleared)
  (c6:HD K "all_cleared" s_all_cleared)
  (fW:HD K "rank_of" s_rank_of)
  (aC:HD K "whole_rank" s_whole_rank)
  (ht:HD K "frees" s_frees)
  (hu:HD K "bases" s_bases)
  (f3:HD K "is_even" s_is_even)
  (f5:HD K "holders" s_holders)
  (fw:HD K "is_seven" s_is_seven)
  (f6:HD K "kind_of" s_kind_of)
  (cO:HD K "columns_with" s_columns_with)
  (hF:HD K "fits" s_fits)
  (d3:HD K "column_for" s_column_for)
  (gN:HD K "single" s_single)
  (e2:HD K "table_for" s_table_for)
  (c7:HD K "left_barred" s_left_barred)
  (e3:HD K "told_over" s_told_over)
  (d4:HD K "over_three" s_over_three)
  (d5:HD K "_law_whole" s__law_whole)
  (e4:HD K "_law_size" s__law_size)
  (fx:HD K "_law_far" s__law_far)
  (d6:HD K "_law_ranks" s__law_ranks)
  (bb:HD K "_law_determinant" s__law_determinant)
  (d7:HD K "_law_minor" s__law_minor)
  (ea:HD K "_law_seven" s__law_seven)
  (e5:HD K "_law_kind" s__law_kind)
  (bc:HD K "_law_table_right" s__law_table_right)
  (eb:HD K "_law_right" s__law_right)
  (fy:HD K "_law_put" s__law_put)
  (e6:HD K "_law_idle" s__law_idle)
  (e7:HD K "_law_rows" s__law_rows)
  (e8:HD K "_law_free" s__law_free)
  (ec:HD K "_law_bases" s__law_bases)
  (ed:HD K "_law_round" s__law_round)
  (kv:nsIn K mainGlobals "law"=some (some (.ref h8)))
  (xa:K.lookup h8=some #[ocn5,odn5, .func (fnOf "law" "law" (dH s_law) (bu s_law) (aw s_law) .none w0 nq yn kx h5 mA),zz])
  (ml:codeIn K h5 "law"=true)
  (w7:keepIn K (.ref h8)=true)
  (hK:nsIn K mainGlobals "len"=some none)
  (hv:nsIn K mainGlobals "range"=some none)
  (ef:nsIn K mainGlobals "isinstance"=some none)
  (hL:nsIn K mainGlobals "int"=some none)
  (hG:nsIn K mainGlobals "bool"=some none)
  (hH:nsIn K mainGlobals "list"=some none)
  (hM:nsIn K mainGlobals "set"=some none)
  (hx:nsIn K mainGlobals "tuple"=some none)
  (hN:nsIn K mainGlobals "max"=some none)
  (hO:nsIn K mainGlobals "min"=some none)
  (hP:nsIn K mainGlobals "zip"=some none)
  (e9:nsIn K mainGlobals "enumerate"=some none)
  (hQ:nsIn K mainGlobals "sum"=some none)
  (gV:nsIn K mainGlobals "sorted"=some none)
  (hI:nsIn K mainGlobals "dict"=some none)
  (hR:nsIn K mainGlobals "all"=some none)
  (hS:nsIn K mainGlobals "str"=some none)
  (fz:nsIn K mainGlobals "reversed"=some none)
  (wh:kitOne K (.type "int") (.type "int")=some true)
  (wb:kitOne K (.type "int") (.type "bool")=some false)
  (wy:kitOne K (.type "tuple") (.type "tuple")=some true)
  (wi:kitOne K (.type "list") (.type "list")=some true)
  (wx:kitOne K (.type "str") (.type "str")=some true)
  (O:specialIn K (.ref d) "__getattribute__"=some (some (.builtin "type.__getattribute__")))
  (hV:PySem.W.readsIn K d (.type "type")=true)
  (N:PySem.W.findCls K (.ref d) (.type "type") "__init__"=some (.val (.ref aB)))
  (xm:f≠b)
  (c8:nsIn K mainGlobals "TWO_OF_FOUR"=some (some (.str eT t1)))
  (c9:nsIn K mainGlobals "TWO_OF_FIVE"=some (some (.str bz t2)))
  (cM:nsIn K mainGlobals "THREE_OF_FIVE"=some (some (.str a6 t3)))
  (hy:nsIn K mainGlobals "SEVEN"=some (some (.str d9 t4)))
  (dc:nsIn K mainGlobals "OTHER_SEVEN"=some (some (.str bA t5))):
  ∃fd:FuncData,(∀ (s:Shared) (v:Value),BindsTo s fd #[[v],[]] [("_law_script",v)])/\∀base:Heap,K.In base->base.Ns mainGlobals mg->jw l.prog w K mg base CX0 14 fa fd ["_law_script"] (Ap K):=by
 have e:=s6.symm.trans (My X G kv);cases e;have T:Tb K mg:=#[Lq X G hK,Lq X G hv,Lq X G ef,Lq X G hL,Lq X G hG,Lq X G hH,Lq X G hM,Lq X G hx,Lq X G hN,Lq X G hO,Lq X G hP,Lq X G e9,Lq X G hQ,Lq X G gV,Lq X G hI,Lq X G hR,Lq X G hS,Lq X G fz,wh,wb,wy,wi,wx];obtain⟨kq,ya,sy,yB,y7,zx,zw⟩:=y2;have Q:=My X G kq;have ze:Cls K d:=#[ya,sy,yB,y7];obtain⟨zq,zr,zt,zu⟩:=vu;obtain⟨km,xy,su,ys,y5,xe,w1⟩:=y0;have rf:=My X G km;have r:Cls K g:=#[xy,su,ys,y5];obtain⟨tx,tT,uh,uM⟩:=vr;obtain⟨ku,yl,sT,yG,y9,xl,w5⟩:=y4;have rm:=My X G ku;have x:Cls K f:=#[yl,sT,yG,y9];obtain⟨tG,ug,uw,vl⟩:=v3;obtain⟨kp,xE,sv,yv,y6,xj,w2⟩:=y1;have rj:=My X G kp;have t:Cls K b:=#[xE,sv,yv,y6];obtain⟨tA,t8,uk,vb⟩:=vs;obtain⟨ks,yb,sE,yE,y8,xk,w3⟩:=y3;have rk:=My X G ks;have u:Cls K c:=#[yb,sE,yE,y8];obtain⟨tE,uf,uv,vk⟩:=vM;obtain⟨b8,ha,hb,hc⟩:=b3.at (ps:=["self","n"]);obtain⟨bj,f7,H,J⟩:=a5.at (ps:=["self"]);obtain⟨bM,bN,bS,gj⟩:=bE.at (ps:=["self","n","some"]);obtain⟨dd,dj,dk,dp⟩:=c4.at (ps:=["self","s"]);obtain⟨cb,cg,ck,hg⟩:=b6.at (ps:=["self","house"]);obtain⟨ei,ej,ek,el⟩:=d2.at (ps:=["self","s"]);obtain⟨cn,cp,ct,hh⟩:=b5.at (ps:=["self","house","out","drawn"]);obtain⟨en,ep,er,es⟩:=d1.at (ps:=["self","s"]);obtain⟨et,ew,ey,ez⟩:=d0.at (ps:=["self","s"]);obtain⟨cu,cv,cA,hi⟩:=b4.at (ps:=["self","house"]);have kj:=qH (st:=s_law) xa ml w7;refine#[fnOf "law" "law" (dH s_law) (bu s_law) (aw s_law) .none w0 nq yn kx h5 mA,λs v=> .of_eq rfl,λbase KB GB=> ?_];have dr:=My X G c8;have a3:=My X G c9;have aS:=My X G cM;have ft:=My X G hy;have a4:=My X G dc;have z0:=Eo g;have i:=IG c;have q:=Gg i b;have zO:=IF q f;have ij:∀C,(hsL g).dom C->HC K d C:=λC a=>by cases a;exact#[r,i1,#[tx,tT,uh,uM],v5]
 have n:∀C,(hsN c).dom C->HC K d C:=λC a=>by cases a;exact#[u,j1,#[tE,uf,uv,vk],v8]
 have U:∀C,(oZ (hsN c) b).dom C->HC K d C:=λC a=>by cases a;exact#[t,j0,#[tA,t8,uk,vb],v7]
 have ik:∀C,(hsO (oZ (hsN c) b) f).dom C->HC K d C:=λC a=>by(rcases a with a|rfl);exact U C a;exact#[x,kd,#[tG,ug,uw,vl],wa]
 have ke:∀C,(oZ (hsN c) b).dom C->f≠C:=λC a=>by cases a;exact xm
 have fu:=DS l.prog w base (hp.at X G);have o:=BZ l.prog w base T (gk.at X G) fu;have m:=FX l.prog w base T (hD.at X G) o;have eA:=B3 l.prog w base (gr.at X G);have hj:=BY l.prog w base (gs.at X G);have c1:=DR l.prog w base T (hq.at X G) o;have B:=yN l.prog w base T (fU.at X G) c1 m;have hk:=B1 l.prog w base T (gu.at X G) eA o fu;have hn:=B4 l.prog w base (gz.at X G);have bk:=FY l.prog w base (hE.at X G);have fb:=uL l.prog w base (e1.at X G) bk;have M:=my l.prog w base (mg:=mg) b8;have L:=kH l.prog w base bj hn;have bX:=k5 l.prog w base T bM Q r i1 iR #[#[_,M,N],O,hV];have dv:=qu l.prog w base T dd r iR m;have xb:∀C,(hsL g).dom C->dn l.prog w K mg base 2 C "everything" ["self"] (dQ K):=λC a=>by cases a;exact#[r,_,#[ta,H,J],L]
 have m0:∀C,(hsL g).dom C->dn l.prog w K mg base 6 C "rank" ["self","s"] (iN (hsL g) C):=λC a=>by cases a;exact dn.imp (dn.mono #[r,_,#[dj,dk,dp],dv] ∅) Hn
 have hz:=DQ l.prog w base z0 (hr.at X G) ij m0 xb c1;have hA:=DP l.prog w base T (hs.at X G);have dw:=qr l.prog w base T (c5.at X G);have gb:=wY l.prog w base T (fV.at X G);have dx:=oX l.prog w base T (c6.at X G) gb;have gd:=yJ l.prog w base T (fW.at X G) hA dw dx;have cB:=mx l.prog w base T cb Q u j1 j2 z0 ij #[#[_,M,N],O,hV] hz;have eB:=rT l.prog w base (mg:=mg) ei u j2;have A:∀C,(hsN c).dom C->dn l.prog w K mg base 2 C "everything" ["self"] (dQ K):=λC a=>by cases a;exact#[u,_,#[tc,H,J],L]
 have p:∀C,(hsN c).dom C->dn l.prog w K mg base 4 C "rank" ["self","s"] (iN (hsN c) C):=λC a=>by cases a;exact dn.imp (dn.mono #[u,_,#[ej,ek,el],eB] ∅) Ho
 have y:=iP l.prog w base i n (aC.at X G) ∅ A p;have hB:=DT l.prog w base i n (ht.at X G) p A c1 m;have hC:=DU l.prog w base i (hu.at X G) y hB m;have cK:=mw l.prog w base cn Q t j0 jl js i2 jk i n ∅ #[#[_,M,N],O,hV] bk m A p;have eE:=rS l.prog w base en t jl js i2 jk i ∅ hk p;have hT:∀C,(oZ (hsN c) b).dom C->dn l.prog w K mg base 2 C "everything" ["self"] (dQ K):=λC a=>by cases a;exact#[t,_,#[tb,H,J],L]
 have z:∀C,(oZ (hsN c) b).dom C->dn l.prog w K mg base 5 C "rank" ["self","s"] (iN (oZ (hsN c) b) C):=λC a=>by cases a;exact#[t,_,#[ep,er,es],eE]
 have eG:=rQ l.prog w base (C_House:=d) et x kc j8 kb q ke ∅ bk m z;have cL:=mr l.prog w base cu Q x kd kc j8 kb U q ∅ #[#[_,M,N],O,hV] hT z;have iv:∀C,(hsO (oZ (hsN c) b) f).dom C->dn l.prog w K mg base 2 C "everything" ["self"] (dQ K):=λC a=>by(rcases a with a|rfl);exact hT C a;exact#[x,_,#[td,H,J],L]
 have mO:∀C,(hsO (oZ (hsN c) b) f).dom C->dn l.prog w K mg base 6 C "rank" ["self","s"] (iN (hsO (oZ (hsN c) b) f) C):=λC a=>by(rcases a with a|rfl);exact dn.imp (dn.mono (z C a) ∅) (Br (ke C a));exact#[x,_,#[ew,ey,ez],eG]
 have wM:=iP l.prog w base q U (aC.at X G) ∅ hT z;have wO:=iP l.prog w base zO ik (aC.at X G) ∅ iv mO;have gf:=yL l.prog w base T q U (f3.at X G) ∅ hT z wM B;have gg:=yM l.prog w base T (f5.at X G) hj;have fA:=wX l.prog w base T zO ik (fw.at X G) ∅ iv mO wO B m gg;have gi:=yK l.prog w base (C_House:=d) (j:=5) q (f6.at X G) ∅ dr a3 aS ft a4 gf #[#[_,#[xl,cv,cA,w5],cL],rm] fA;have c2:=oW l.prog w base T (cO.at X G);have hJ:=FZ l.prog w base T i n (hF.at X G) p y B eA o gd;have eH:=rH l.prog w base T i n (d3.at X G) p y o fb c2 hJ;have ho:=B2 l.prog w base T (gN.at X G);have fe:=uK l.prog w base T i n (e2.at X G) A y o bk hC ho eH;have dE:=qt l.prog w base (j:=8) T i n (c7.at X G) ∅ A y B bk #[#[_,#[xj,cp,ct,w2],cK],rj] gi;have fi:=uJ l.prog w base T z0 i (e3.at X G) ∅ #[#[_,#[xk,cg,ck,w3],cB],rk] fe dE;have eL:=rG l.prog w base z0 (d4.at X G) a3 aS ft a4 fi;have bl:=rJ l.prog w base T (d5.at X G);have k:=uN l.prog w base (e4.at X G);have fB:=w4 l.prog w base T (fx.at X G) k;have eM:=rN l.prog w base T (d6.at X G) k;have aA:=kG l.prog w base T (bb.at X G) k;have eN:=rO l.prog w base T (d7.at X G);have eP:=rK l.prog w base T (ea.at X G) k;have fl:=uP l.prog w base T (e5.at X G) k eP;have bt:=kF l.prog w base T (bc.at X G) k bl aA;have eR:=rM l.prog w base T (eb.at X G) bl fl eN bt;have fI:=wZ l.prog w base (fy.at X G);have fm:=uQ l.prog w base T (e6.at X G) fI;have fp:=uO l.prog w base T (e7.at X G);have fs:=uR l.prog w base T (e8.at X G) k aA;have eW:=rP l.prog w base T (ec.at X G) fs;have e0:=rL l.prog w base T (ed.at X G) k;exact Im l.prog w base kj T #[#[_,#[xe,bN,bS,w1],bX],rf] fB eM fp eW e0 fm eL eR
theorem walk{l:PySem.W.OpenLaw}{q:Program}{loose:List Str}{XP:(Str->Option Value)->Heap->Prop}{YP:World->Heap->Prop}{d:DefRec}{K:Params->PySem.W.Frag}(j:l.most=some 63)(i:d.params.defaults=[])
  (g:∀ (w:World) (h:Heap),YP w h->(K w.params).In h)
  (F:∀ (w:World) (mg:Str->Option Value) (b:Addr) (h:Heap),(K w.params).In h->h.Ns mainGlobals mg->mg d.name=some (.ref b)->
   ∃c:FuncData,(∀ (s:Shared) (u:Value),BindsTo s c #[[u],[]] [("_law_script",u)])/\∀base:Heap,(K w.params).In base->base.Ns mainGlobals mg->jw l.prog w (K w.params) mg base CX0 14 b c ["_law_script"] (Ap (K w.params))):
  PySem.W.WalkO q loose XP YP l.row.toRowW d [] (λf vs=>PySem.call f vs):=
 L2.Ac (n:=63) (k:=14) (x:= "_law_script") (CX:=λ_=>CX0) (sp:=λw=>Ap (K w.params)) j ∅ i #[rfl,∅,∅] g F (λ_ _ a m hl _ e=>#[a,m,rfl,e,hl,λ_=>rfl]) λ_ _ _ _ _ z=>z
end BhK
end
namespace Hd
open PySem PySem.W PySem.Calls PyProof.Rows
theorem _root_.PySem.W.Fast.te7239439084724097079:True:=trivial
open PySem.W.Fast PySem.Challenge BhK
noncomputable section
noncomputable abbrev R(a:Nat):Value:= .ref a
noncomputable abbrev V(x:Str)(t:Nat):Value:= .str x t
noncomputable abbrev I(i:Int):Value:= .int i 0
noncomputable abbrev E(P:Params)(x:Str)(t:Nat)(v:Value):DictEntry:=⟨PyData.keyHash P x, .str x t,v⟩
noncomputable abbrev Y:Obj:=⟨.type "tuple",none, .seq #[] 0, #[]⟩
noncomputable abbrev T(l:List Value):Obj:=⟨.type "tuple",none, .seq ⟨l⟩ 0, #[]⟩
noncomputable abbrev Z:Obj:=⟨.none,none, .fields #[], #[]⟩
noncomputable abbrev W(l:List Value):Obj:=⟨.none,none, .fields ⟨l⟩, #[]⟩
noncomputable abbrev F(n q:Str)(s:Stmt)(g:Nat)(dv kv doc pm:Value)(an:Option Nat)(cd ct:Value)(b:Nat):FuncData:=⟨n,q,L2.dH s, .stmts (L2.bu s),L2.aw s,g,[],dv,kv,doc,pm,an,cd,ct,b⟩
noncomputable abbrev C(n q:Str)(t:Nat)(l k g:Int)(x:Nat)(b:Bool)(u v w:Value)(d:Nat):Obj:=⟨.type "code",none, .fields ⟨[.str n t, .str q (t.add 1), .str "/claim/cut.py" (t.add 2), .int l 0, .int k 0, .int 0 0, .int 0 0, .int g 0, .ref x, .bool b, .int 181 0, .ref (x.add 1), .none,u,v,w, .int d 0, .int l 0, .str "/claim/cut.py" (d.add 1)]⟩, #[]⟩
abbrev ff(n q:Str)(s:Stmt):Obj:=⟨.none,none, .func (F n q s 0 .none .none .none .none none .none .none 0), #[]⟩
abbrev fk(n q:Str)(s:Stmt)(m:Value)(c:Nat):Obj:=⟨.type "function",none, .func (F n q s 3 .none .none .none m none (.ref c) .none 0), #[]⟩
abbrev f1(n:Str)(s:Stmt):Obj:=ff n n s
abbrev f2(n:Str)(s:Stmt)(m:Value)(c:Nat):Obj:=fk n n s m c
abbrev C1(n:Str)(t:Nat)(l k g:Int)(x:Nat)(b:Bool)(u v w:Value)(d:Nat):Obj:=C n n t l k g x b u v w d
abbrev D(l:List DictEntry)(k:Nat):Obj:=⟨.type "dict",none, .dict ⟨l⟩ k, #[]⟩
abbrev fr(a b:Nat)(m:Value):Obj:=⟨.type "frame",none,Data.plain, #[some (R a),some (R 3),some (R b),none,some m,none,some (R 0)]⟩
abbrev bf(n:String)(v:Value):Obj:=⟨.type "builtin_function_or_method",none, .fields ⟨[.builtin n,v]⟩, #[]⟩
abbrev m0:Value:=V "basehouse.houses" 271
abbrev m1:Value:=V "basehouse.sets" 187
abbrev m2:Value:=V "House" 281
abbrev m3:Value:=V "House" 273
abbrev m4:Value:=V "basehouse.turned" 376
abbrev m5:Value:=V "basehouse.tellings" 349
abbrev m6:Value:=V "basehouse.barred" 453
abbrev m7:Value:=V "basehouse.fields" 526
abbrev m8:Value:=V "basehouse.pivots" 490
abbrev m9:Value:=V "law_basehouse_k42_tables_over_three" 626
abbrev o13:=C1 "<module>" 182 1 0 0 11 false .none .none .none 185
abbrev o14:=fr 13 3 (V "__main__" 164)
abbrev g0(P:Params):List DictEntry:=[E P "__name__" 165 m0]
abbrev g1(P:Params):List DictEntry:=[E P "__doc__" 166 .none,E P "__package__" 167 .none,E P "__loader__" 168 (.builtin "__main__.__loader__#opaque"),E P "__spec__" 169 .none,E P "__annotations__" 170 (R 6),E P "__builtins__" 171 (R 4),E P "__file__" 173 (V "/claim/cut.py" 172),E P "__cached__" 174 .none,E P "holds" 196 (R 21),E P "things" 202 (R 26),E P "size" 209 (R 33),E P "set_of" 218 (R 40),E P "within" 226 (R 47),E P "parts" 232 (R 52),E P "choices" 238 (R 57),E P "spread" 244 (R 62),E P "all_of" 251 (R 69),E P "less" 259 (R 76),E P "exchanged" 270 (R 83)]
abbrev o3v1(P:Params):=D ((g0 P).append (g1 P)) 20
abbrev g2:List Value:=[(I 2)]
abbrev g3:List Value:=[(I 0),(R 20),(I 4),(I 0),(R 25),(I 6),(I 0),(R 32),(I 8),(I 0),(R 39),(I 13),(I 0),(R 46),(I 15),(I 0),(R 51),(I 20),(I 0),(R 56),(I 22),(I 0),(R 61),(I 24),(I 0),(R 68),(I 26),(I 0),(R 75),(I 29),(I 0),(R 82)]
abbrev o12v1:=W (g2.append g3)
abbrev o17:=T [(V "s" 192),(V "thing" 193)]
abbrev o19:=f1 "holds" s_holds
abbrev o20:=C1 "holds" 189 2 2 3 15 true (R 17) (R 18) (R 19) 194
abbrev o21:=f2 "holds" s_holds m1 20
abbrev o24:=f1 "things" s_things
abbrev o25:=C1 "things" 197 4 1 3 22 true .none .none (R 24) 200
abbrev o26:=f2 "things" s_things m1 25
abbrev o29:=T [(V "s" 206)]
abbrev o31:=f1 "size" s_size
abbrev o32:=C1 "size" 203 6 1 3 27 true (R 29) (R 30) (R 31) 207
abbrev o33:=f2 "size" s_size m1 32
abbrev o36:=T [(V "some" 213),(V "s" 214),(V "thing" 215)]
abbrev o38:=f1 "set_of" s_set_of
abbrev o39:=C1 "set_of" 210 8 1 3 34 true (R 36) (R 37) (R 38) 216
abbrev o40:=f2 "set_of" s_set_of m1 39
abbrev o43:=T [(V "s" 222),(V "t" 223)]
abbrev o45:=f1 "within" s_within
abbrev o46:=C1 "within" 219 13 2 3 41 true (R 43) (R 44) (R 45) 224
abbrev o47:=f2 "within" s_within m1 46
abbrev o50:=f1 "parts" s_parts
abbrev o51:=C1 "parts" 227 15 1 3 48 true .none .none (R 50) 230
abbrev o52:=f2 "parts" s_parts m1 51
abbrev o55:=f1 "choices" s_choices
abbrev o56:=C1 "choices" 233 20 2 3 53 true .none .none (R 55) 236
abbrev o57:=f2 "choices" s_choices m1 56
abbrev o60:=f1 "spread" s_spread
abbrev o61:=C1 "spread" 239 22 2 3 58 true .none .none (R 60) 242
abbrev o62:=f2 "spread" s_spread m1 61
abbrev o65:=T [(V "n" 248)]
abbrev o67:=f1 "all_of" s_all_of
abbrev o68:=C1 "all_of" 245 24 1 3 63 true (R 65) (R 66) (R 67) 249
abbrev o69:=f2 "all_of" s_all_of m1 68
abbrev o72:=T [(V "s" 255),(V "t" 256)]
abbrev o74:=f1 "less" s_less
abbrev o75:=C1 "less" 252 26 2 3 70 true (R 72) (R 73) (R 74) 257
abbrev o76:=f2 "less" s_less m1 75
abbrev o79:=T [(V "s" 265),(V "thing" 266),(V "y" 267)]
abbrev o81:=f1 "exchanged" s_exchanged
abbrev o82:=C1 "exchanged" 262 29 3 3 77 true (R 79) (R 80) (R 81) 268
abbrev o83:=f2 "exchanged" s_exchanged (V "basehouse.breaks" 260) 82
abbrev g4(P:Params):List DictEntry:=[E P "House" 316 (R 114)]
abbrev o3v2(P:Params):=D ((g0 P).append ((g1 P).append (g4 P))) 21
abbrev g5:List Value:=[(I 32),(I 0),(R 89)]
abbrev o12v2:=W (g2.append (g3.append g5))
abbrev o85:=bf "type.__prepare__" (.type "type")
abbrev o86(P:Params):=D ([E P "__module__" 280 m0,E P "__qualname__" 282 m2,E P "__firstlineno__" 284 (.int 32 283),E P "__init__" 292 (R 97),E P "rank" 300 (R 104),E P "everything" 307 (R 111),E P "__static_attributes__" 309 (R 112)]) 7
abbrev o88:=W [(I 34),(I 4),(R 96),(I 37),(I 4),(R 103),(I 40),(I 4),(R 110)]
abbrev o89:=C1 "House" 275 32 0 0 87 false .none .none .none 278
abbrev o90:=fr 89 86 m0
abbrev o93:=T [(V "self" 288),(V "n" 289)]
abbrev o95:=ff "__init__" "House.__init__" s_House___init__
abbrev o96:=C "__init__" "House.__init__" 285 34 2 3 91 true (R 93) (R 94) (R 95) 290
abbrev o97:=fk "__init__" "House.__init__" s_House___init__ m0 96
abbrev o100:=T [(V "self" 296),(V "s" 297)]
abbrev o102:=ff "rank" "House.rank" s_House_rank
abbrev o103:=C "rank" "House.rank" 293 37 2 3 98 true (R 100) (R 101) (R 102) 298
abbrev o104:=fk "rank" "House.rank" s_House_rank m0 103
abbrev o107:=T [(V "self" 304)]
abbrev o109:=ff "everything" "House.everything" s_House_everything
abbrev o110:=C "everything" "House.everything" 301 40 1 3 105 true (R 107) (R 108) (R 109) 305
abbrev o111:=fk "everything" "House.everything" s_House_everything m0 110
abbrev o112:=T [(V "many" 308)]
abbrev o113(P:Params):=D ([E P "__module__" 280 m0,E P "__firstlineno__" 284 (.int 32 283),E P "__init__" 292 (R 97),E P "rank" 300 (R 104),E P "everything" 307 (R 111),E P "__static_attributes__" 309 (R 112),E P "__dict__" 311 (R 115),E P "__weakref__" 313 (R 116),E P "__doc__" 314 .none]) 4
abbrev o114:Obj:=⟨(.type "type"),none,Data.cls {name:=Str.ofString "House",bases:=[Value.type "object"],mro:=[Value.ref 114,Value.type "object"],ns:=113,qualname:=Str.ofString "House"}, #[none,none,some m3,some m2,some (.builtin "object.__new__"),some (.bool true)]⟩
abbrev o115:Obj:=⟨(.type "getset_descriptor"),none, .fields ⟨[(V "__dict__" 310),(R 114),(.builtin "function.__dict__"),(.builtin "function.__dict__#set")]⟩, #[]⟩
abbrev o116:Obj:=⟨(.type "getset_descriptor"),none, .fields ⟨[(V "__weakref__" 312),(R 114),(.builtin "ExceptionGroup.__weakref__"), .none]⟩, #[]⟩
abbrev o117:Obj:=⟨(.type "super"),none, .fields ⟨[(R 114),(R 114),(R 114)]⟩, #[]⟩
abbrev o118:=bf "object.__init_subclass__" (R 114)
abbrev g6(P:Params):List DictEntry:=[E P "__name__" 165 m4]
abbrev g7(P:Params):List DictEntry:=[E P "Listed" 348 (R 140),E P "whole_rank" 357 (R 149),E P "ranks" 363 (R 154),E P "frees" 369 (R 159),E P "bases" 375 (R 164)]
abbrev o3v3(P:Params):=D ((g6 P).append ((g1 P).append ((g4 P).append (g7 P)))) 26
abbrev g8:List Value:=[(I 42),(I 0),(R 124),(I 51),(I 0),(R 148),(I 53),(I 0),(R 153),(I 55),(I 0),(R 158),(I 57),(I 0),(R 163)]
abbrev o12v3:=W (g2.append (g3.append (g5.append g8)))
abbrev o114v1:Obj:=⟨(.type "type"),none,Data.cls {name:=Str.ofString "House",bases:=[Value.type "object"],mro:=[Value.ref 114,Value.type "object"],ns:=113,qualname:=Str.ofString "House",subclasses:=[Value.ref 140]}, #[none,none,some m3,some m2,some (.builtin "object.__new__"),some (.bool true)]⟩
abbrev o119:=T [(R 114)]
abbrev o120:=bf "type.__prepare__" (.type "type")
abbrev o121(P:Params):=D ([E P "__module__" 324 m0,E P "__qualname__" 326 (V "Listed" 325),E P "__firstlineno__" 328 (.int 42 327),E P "__init__" 337 (R 132),E P "rank" 343 (R 137),E P "__static_attributes__" 345 (R 138)]) 6
abbrev o123:=W [(I 44),(I 4),(R 131),(I 48),(I 4),(R 136)]
abbrev o124:=C1 "Listed" 319 42 0 0 122 false .none .none .none 322
abbrev o125:=fr 124 121 m0
abbrev o128:=T [(V "self" 332),(V "n" 333),(V "some" 334)]
abbrev o130:=ff "__init__" "Listed.__init__" s_Listed___init__
abbrev o131:=C "__init__" "Listed.__init__" 329 44 3 3 126 true (R 128) (R 129) (R 130) 335
abbrev o132:=fk "__init__" "Listed.__init__" s_Listed___init__ m0 131
abbrev o135:=ff "rank" "Listed.rank" s_Listed_rank
abbrev o136:=C "rank" "Listed.rank" 338 48 2 3 133 true .none .none (R 135) 341
abbrev o137:=fk "rank" "Listed.rank" s_Listed_rank m0 136
abbrev o138:=T [(V "listed" 344)]
abbrev o139(P:Params):=D ([E P "__module__" 324 m0,E P "__firstlineno__" 328 (.int 42 327),E P "__init__" 337 (R 132),E P "rank" 343 (R 137),E P "__static_attributes__" 345 (R 138),E P "__doc__" 346 .none]) 2
abbrev o140:Obj:=⟨(.type "type"),none,Data.cls {name:=Str.ofString "Listed",bases:=[Value.ref 114],mro:=[Value.ref 140,Value.ref 114,Value.type "object"],ns:=139,qualname:=Str.ofString "Listed"}, #[some (R 119),none,some (V "Listed" 317),some (V "Listed" 325),some (.builtin "object.__new__"),some (.bool true)]⟩
abbrev o141:Obj:=⟨(.type "super"),none, .fields ⟨[(R 140),(R 140),(R 140)]⟩, #[]⟩
abbrev o142:=bf "object.__init_subclass__" (R 140)
abbrev o145:=T [(V "house" 354)]
abbrev o147:=f1 "whole_rank" s_whole_rank
abbrev o148:=C1 "whole_rank" 351 51 1 3 143 true (R 145) (R 146) (R 147) 355
abbrev o149:=f2 "whole_rank" s_whole_rank m5 148
abbrev o152:=f1 "ranks" s_ranks
abbrev o153:=C1 "ranks" 358 53 1 3 150 true .none .none (R 152) 361
abbrev o154:=f2 "ranks" s_ranks m5 153
abbrev o157:=f1 "frees" s_frees
abbrev o158:=C1 "frees" 364 55 1 3 155 true .none .none (R 157) 367
abbrev o159:=f2 "frees" s_frees m5 158
abbrev o162:=f1 "bases" s_bases
abbrev o163:=C1 "bases" 370 57 1 3 160 true .none .none (R 162) 373
abbrev o164:=f2 "bases" s_bases m5 163
abbrev g9(P:Params):List DictEntry:=[E P "Other" 413 (R 188)]
abbrev o3v4(P:Params):=D ((g6 P).append ((g1 P).append ((g4 P).append ((g7 P).append (g9 P))))) 27
abbrev g10:List Value:=[(I 61),(I 0),(R 170)]
abbrev o12v4:=W (g2.append (g3.append (g5.append (g8.append g10))))
abbrev o114v2:Obj:=⟨(.type "type"),none,Data.cls {name:=Str.ofString "House",bases:=[Value.type "object"],mro:=[Value.ref 114,Value.type "object"],ns:=113,qualname:=Str.ofString "House",subclasses:=[Value.ref 140,Value.ref 188]}, #[none,none,some m3,some m2,some (.builtin "object.__new__"),some (.bool true)]⟩
abbrev o165:=T [(R 114)]
abbrev o166:=bf "type.__prepare__" (.type "type")
abbrev o167(P:Params):=D ([E P "__module__" 385 m4,E P "__qualname__" 387 (V "Other" 386),E P "__firstlineno__" 389 (.int 61 388),E P "__init__" 397 (R 178),E P "rank" 406 (R 185),E P "__static_attributes__" 410 (R 186)]) 6
abbrev o169:=W [(I 63),(I 4),(R 177),(I 69),(I 4),(R 184)]
abbrev o170:=C1 "Other" 380 61 0 0 168 false .none .none .none 383
abbrev o171:=fr 170 167 m4
abbrev o174:=T [(V "self" 393),(V "house" 394)]
abbrev o176:=ff "__init__" "Other.__init__" s_Other___init__
abbrev o177:=C "__init__" "Other.__init__" 390 63 2 3 172 true (R 174) (R 175) (R 176) 395
abbrev o178:=fk "__init__" "Other.__init__" s_Other___init__ m4 177
abbrev o181:=T [(V "self" 401),(V "s" 402),(V "outside" 403)]
abbrev o183:=ff "rank" "Other.rank" s_Other_rank
abbrev o184:=C "rank" "Other.rank" 398 69 2 3 179 true (R 181) (R 182) (R 183) 404
abbrev o185:=fk "rank" "Other.rank" s_Other_rank m4 184
abbrev o186:=T [(V "full" 407),(V "full_rank" 408),(V "house" 409)]
abbrev o187(P:Params):=D ([E P "__module__" 385 m4,E P "__firstlineno__" 389 (.int 61 388),E P "__init__" 397 (R 178),E P "rank" 406 (R 185),E P "__static_attributes__" 410 (R 186),E P "__doc__" 411 .none]) 2
abbrev o188:Obj:=⟨(.type "type"),none,Data.cls {name:=Str.ofString "Other",bases:=[Value.ref 114],mro:=[Value.ref 188,Value.ref 114,Value.type "object"],ns:=187,qualname:=Str.ofString "Other"}, #[some (R 165),none,some (V "Other" 378),some (V "Other" 386),some (.builtin "object.__new__"),some (.bool true)]⟩
abbrev o189:Obj:=⟨(.type "super"),none, .fields ⟨[(R 188),(R 188),(R 188)]⟩, #[]⟩
abbrev o190:=bf "object.__init_subclass__" (R 188)
abbrev g11(P:Params):List DictEntry:=[E P "__name__" 165 m6]
abbrev g12(P:Params):List DictEntry:=[E P "Minor" 452 (R 214),E P "TWO_OF_FOUR" 456 (V "two of four" 455),E P "TWO_OF_FIVE" 458 (V "two of five" 457),E P "THREE_OF_FIVE" 460 (V "three of five" 459),E P "SEVEN" 462 (V "seven" 461),E P "OTHER_SEVEN" 464 (V "other seven" 463),E P "is_even" 470 (R 221),E P "holders" 476 (R 226)]
abbrev o3v5(P:Params):=D ((g11 P).append ((g1 P).append ((g4 P).append ((g7 P).append ((g9 P).append (g12 P)))))) 35
abbrev g13:List Value:=[(I 72),(I 0),(R 196),(I 90),(I 0),(R 220),(I 94),(I 0),(R 225)]
abbrev o12v5:=W (g2.append (g3.append (g5.append (g8.append (g10.append g13)))))
abbrev o114v3:Obj:=⟨(.type "type"),none,Data.cls {name:=Str.ofString "House",bases:=[Value.type "object"],mro:=[Value.ref 114,Value.type "object"],ns:=113,qualname:=Str.ofString "House",subclasses:=[Value.ref 140,Value.ref 188,Value.ref 214]}, #[none,none,some m3,some m2,some (.builtin "object.__new__"),some (.bool true)]⟩
abbrev o191:=T [(R 114)]
abbrev o192:=bf "type.__prepare__" (.type "type")
abbrev o193(P:Params):=D ([E P "__module__" 421 m4,E P "__qualname__" 423 (V "Minor" 422),E P "__firstlineno__" 425 (.int 72 424),E P "__init__" 436 (R 204),E P "rank" 444 (R 211),E P "__static_attributes__" 449 (R 212)]) 6
abbrev o195:=W [(I 74),(I 4),(R 203),(I 82),(I 4),(R 210)]
abbrev o196:=C1 "Minor" 416 72 0 0 194 false .none .none .none 419
abbrev o197:=fr 196 193 m4
abbrev o200:=T [(V "self" 429),(V "house" 430),(V "out" 431),(V "drawn" 432),(V "kept" 433)]
abbrev o202:=ff "__init__" "Minor.__init__" s_Minor___init__
abbrev o203:=C "__init__" "Minor.__init__" 426 74 4 3 198 true (R 200) (R 201) (R 202) 434
abbrev o204:=fk "__init__" "Minor.__init__" s_Minor___init__ m4 203
abbrev o207:=T [(V "self" 440),(V "s" 441)]
abbrev o209:=ff "rank" "Minor.rank" s_Minor_rank
abbrev o210:=C "rank" "Minor.rank" 437 82 2 3 205 true (R 207) (R 208) (R 209) 442
abbrev o211:=fk "rank" "Minor.rank" s_Minor_rank m4 210
abbrev o212:=T [(V "drawn" 445),(V "drawn_rank" 446),(V "house" 447),(V "kept" 448)]
abbrev o213(P:Params):=D ([E P "__module__" 421 m4,E P "__firstlineno__" 425 (.int 72 424),E P "__init__" 436 (R 204),E P "rank" 444 (R 211),E P "__static_attributes__" 449 (R 212),E P "__doc__" 450 .none]) 2
abbrev o214:Obj:=⟨(.type "type"),none,Data.cls {name:=Str.ofString "Minor",bases:=[Value.ref 114],mro:=[Value.ref 214,Value.ref 114,Value.type "object"],ns:=213,qualname:=Str.ofString "Minor"}, #[some (R 191),none,some (V "Minor" 414),some (V "Minor" 422),some (.builtin "object.__new__"),some (.bool true)]⟩
abbrev o215:Obj:=⟨(.type "super"),none, .fields ⟨[(R 214),(R 214),(R 214)]⟩, #[]⟩
abbrev o216:=bf "object.__init_subclass__" (R 214)
abbrev o219:=f1 "is_even" s_is_even
abbrev o220:=C1 "is_even" 465 90 3 3 217 true .none .none (R 219) 468
abbrev o221:=f2 "is_even" s_is_even m6 220
abbrev o224:=f1 "holders" s_holders
abbrev o225:=C1 "holders" 471 94 2 3 222 true .none .none (R 224) 474
abbrev o226:=f2 "holders" s_holders m6 225
abbrev g14(P:Params):List DictEntry:=[E P "__name__" 165 m7]
abbrev g15(P:Params):List DictEntry:=[E P "is_seven" 482 (R 231),E P "kind_of" 489 (R 238),E P "rests" 497 (R 243),E P "pivot_place" 507 (R 250),E P "cleared" 513 (R 255),E P "all_cleared" 519 (R 260),E P "rank_of" 525 (R 265)]
abbrev o3v6(P:Params):=D ((g14 P).append ((g1 P).append ((g4 P).append ((g7 P).append ((g9 P).append ((g12 P).append (g15 P))))))) 42
abbrev g16:List Value:=[(I 96),(I 0),(R 230),(I 102),(I 0),(R 237),(I 115),(I 0),(R 242),(I 119),(I 0),(R 249),(I 124),(I 0),(R 254),(I 128),(I 0),(R 259),(I 132),(I 0),(R 264)]
abbrev o12v6:=W (g2.append (g3.append (g5.append (g8.append (g10.append (g13.append g16))))))
abbrev o229:=f1 "is_seven" s_is_seven
abbrev o230:=C1 "is_seven" 477 96 1 3 227 true .none .none (R 229) 480
abbrev o231:=f2 "is_seven" s_is_seven m6 230
abbrev o234:=T [(V "house" 486)]
abbrev o236:=f1 "kind_of" s_kind_of
abbrev o237:=C1 "kind_of" 483 102 1 3 232 true (R 234) (R 235) (R 236) 487
abbrev o238:=f2 "kind_of" s_kind_of m6 237
abbrev o241:=f1 "rests" s_rests
abbrev o242:=C1 "rests" 492 115 2 3 239 true .none .none (R 241) 495
abbrev o243:=f2 "rests" s_rests m8 242
abbrev o246:=T [(V "rows" 501),(V "column" 502),(V "place" 503),(V "row" 504)]
abbrev o248:=f1 "pivot_place" s_pivot_place
abbrev o249:=C1 "pivot_place" 498 119 2 3 244 true (R 246) (R 247) (R 248) 505
abbrev o250:=f2 "pivot_place" s_pivot_place m8 249
abbrev o253:=f1 "cleared" s_cleared
abbrev o254:=C1 "cleared" 508 124 4 3 251 true .none .none (R 253) 511
abbrev o255:=f2 "cleared" s_cleared m8 254
abbrev o258:=f1 "all_cleared" s_all_cleared
abbrev o259:=C1 "all_cleared" 514 128 4 3 256 true .none .none (R 258) 517
abbrev o260:=f2 "all_cleared" s_all_cleared m8 259
abbrev o263:=f1 "rank_of" s_rank_of
abbrev o264:=C1 "rank_of" 520 132 2 3 261 true .none .none (R 263) 523
abbrev o265:=f2 "rank_of" s_rank_of m8 264
abbrev g17(P:Params):List DictEntry:=[E P "Known" 560 (R 289),E P "columns_with" 566 (R 296),E P "fits" 572 (R 301),E P "column_for" 578 (R 306),E P "single" 584 (R 311)]
abbrev o3v7(P:Params):=D ((g14 P).append ((g1 P).append ((g4 P).append ((g7 P).append ((g9 P).append ((g12 P).append ((g15 P).append (g17 P)))))))) 47
abbrev g18:List Value:=[(I 148),(I 0),(R 271),(I 156),(I 0),(R 295),(I 165),(I 0),(R 300),(I 172),(I 0),(R 305),(I 179),(I 0),(R 310)]
abbrev o12v7:=W (g2.append (g3.append (g5.append (g8.append (g10.append (g13.append (g16.append g18)))))))
abbrev o114v4:Obj:=⟨(.type "type"),none,Data.cls {name:=Str.ofString "House",bases:=[Value.type "object"],mro:=[Value.ref 114,Value.type "object"],ns:=113,qualname:=Str.ofString "House",subclasses:=[Value.ref 140,Value.ref 188,Value.ref 214,Value.ref 289]}, #[none,none,some m3,some m2,some (.builtin "object.__new__"),some (.bool true)]⟩
abbrev o266:=T [(R 114)]
abbrev o267:=bf "type.__prepare__" (.type "type")
abbrev o268(P:Params):=D ([E P "__module__" 535 m7,E P "__qualname__" 537 (V "Known" 536),E P "__firstlineno__" 539 (.int 148 538),E P "__init__" 547 (R 279),E P "rank" 555 (R 286),E P "__static_attributes__" 557 (R 287)]) 6
abbrev o270:=W [(I 150),(I 4),(R 278),(I 154),(I 4),(R 285)]
abbrev o271:=C1 "Known" 530 148 0 0 269 false .none .none .none 533
abbrev o272:=fr 271 268 m7
abbrev o275:=T [(V "self" 543),(V "house" 544)]
abbrev o277:=ff "__init__" "Known.__init__" s_Known___init__
abbrev o278:=C "__init__" "Known.__init__" 540 150 2 3 273 true (R 275) (R 276) (R 277) 545
abbrev o279:=fk "__init__" "Known.__init__" s_Known___init__ m7 278
abbrev o282:=T [(V "self" 551),(V "s" 552)]
abbrev o284:=ff "rank" "Known.rank" s_Known_rank
abbrev o285:=C "rank" "Known.rank" 548 154 2 3 280 true (R 282) (R 283) (R 284) 553
abbrev o286:=fk "rank" "Known.rank" s_Known_rank m7 285
abbrev o287:=T [(V "told" 556)]
abbrev o288(P:Params):=D ([E P "__module__" 535 m7,E P "__firstlineno__" 539 (.int 148 538),E P "__init__" 547 (R 279),E P "rank" 555 (R 286),E P "__static_attributes__" 557 (R 287),E P "__doc__" 558 .none]) 2
abbrev o289:Obj:=⟨(.type "type"),none,Data.cls {name:=Str.ofString "Known",bases:=[Value.ref 114],mro:=[Value.ref 289,Value.ref 114,Value.type "object"],ns:=288,qualname:=Str.ofString "Known"}, #[some (R 266),none,some (V "Known" 528),some (V "Known" 536),some (.builtin "object.__new__"),some (.bool true)]⟩
abbrev o290:Obj:=⟨(.type "super"),none, .fields ⟨[(R 289),(R 289),(R 289)]⟩, #[]⟩
abbrev o291:=bf "object.__init_subclass__" (R 289)
abbrev o294:=f1 "columns_with" s_columns_with
abbrev o295:=C1 "columns_with" 561 156 2 3 292 true .none .none (R 294) 564
abbrev o296:=f2 "columns_with" s_columns_with m7 295
abbrev o299:=f1 "fits" s_fits
abbrev o300:=C1 "fits" 567 165 5 3 297 true .none .none (R 299) 570
abbrev o301:=f2 "fits" s_fits m7 300
abbrev o304:=f1 "column_for" s_column_for
abbrev o305:=C1 "column_for" 573 172 5 3 302 true .none .none (R 304) 576
abbrev o306:=f2 "column_for" s_column_for m7 305
abbrev o309:=f1 "single" s_single
abbrev o310:=C1 "single" 579 179 2 3 307 true .none .none (R 309) 582
abbrev o311:=f2 "single" s_single m7 310
abbrev g19(P:Params):List DictEntry:=[E P "__name__" 165 m9]
abbrev g20(P:Params):List DictEntry:=[E P "table_for" 590 (R 316),E P "left_barred" 604 (R 323),E P "told_over" 617 (R 330),E P "over_three" 625 (R 337),E P "_law_whole" 634 (R 344),E P "_law_size" 642 (R 351),E P "_law_far" 648 (R 356),E P "_law_ranks" 654 (R 361),E P "_law_determinant" 667 (R 368),E P "_law_minor" 673 (R 373),E P "_law_seven" 679 (R 378),E P "_law_kind" 685 (R 383),E P "_law_table_right" 691 (R 388)]
abbrev o3v8(P:Params):=D ((g19 P).append ((g1 P).append ((g4 P).append ((g7 P).append ((g9 P).append ((g12 P).append ((g15 P).append ((g17 P).append (g20 P))))))))) 60
abbrev g21:List Value:=[(I 181),(I 0),(R 315),(I 193),(I 0),(R 322),(I 201),(I 0),(R 329),(I 211),(I 0),(R 336),(I 215),(I 0),(R 343),(I 217),(I 0),(R 350),(I 223),(I 0),(R 355),(I 233),(I 0),(R 360),(I 245),(I 0),(R 367),(I 257),(I 0),(R 372),(I 267),(I 0),(R 377),(I 276),(I 0),(R 382),(I 289),(I 0),(R 387)]
abbrev o12v8:=W (g2.append (g3.append (g5.append (g8.append (g10.append (g13.append (g16.append (g18.append g21))))))))
abbrev o314:=f1 "table_for" s_table_for
abbrev o315:=C1 "table_for" 585 181 2 3 312 true .none .none (R 314) 588
abbrev o316:=f2 "table_for" s_table_for m7 315
abbrev o319:=T [(V "house" 594),(V "kind" 595),(V "many" 596),(V "rank" 597),(V "kept" 598),(V "rest" 599),(V "drawn" 600),(V "out" 601)]
abbrev o321:=f1 "left_barred" s_left_barred
abbrev o322:=C1 "left_barred" 591 193 4 3 317 true (R 319) (R 320) (R 321) 602
abbrev o323:=f2 "left_barred" s_left_barred m7 322
abbrev o326:=T [(V "house" 608),(V "prime" 609),(V "kinds" 610),(V "known" 611),(V "rows" 612),(V "kind" 613),(V "found" 614)]
abbrev o328:=f1 "told_over" s_told_over
abbrev o329:=C1 "told_over" 605 201 3 3 324 true (R 326) (R 327) (R 328) 615
abbrev o330:=f2 "told_over" s_told_over m7 329
abbrev o333:=T [(V "house" 621),(V "kinds" 622)]
abbrev o335:=f1 "over_three" s_over_three
abbrev o336:=C1 "over_three" 618 211 1 3 331 true (R 333) (R 334) (R 335) 623
abbrev o337:=f2 "over_three" s_over_three m7 336
abbrev o340:=T [(V "_law_found" 631)]
abbrev o342:=f1 "_law_whole" s__law_whole
abbrev o343:=C1 "_law_whole" 628 215 1 3 338 true (R 340) (R 341) (R 342) 632
abbrev o344:=f2 "_law_whole" s__law_whole m9 343
abbrev o347:=T [(V "_law_s" 638),(V "_law_many" 639)]
abbrev o349:=f1 "_law_size" s__law_size
abbrev o350:=C1 "_law_size" 635 217 1 3 345 true (R 347) (R 348) (R 349) 640
abbrev o351:=f2 "_law_size" s__law_size m9 350
abbrev o354:=f1 "_law_far" s__law_far
abbrev o355:=C1 "_law_far" 643 223 3 3 352 true .none .none (R 354) 646
abbrev o356:=f2 "_law_far" s__law_far m9 355
abbrev o359:=f1 "_law_ranks" s__law_ranks
abbrev o360:=C1 "_law_ranks" 649 233 2 3 357 true .none .none (R 359) 652
abbrev o361:=f2 "_law_ranks" s__law_ranks m9 360
abbrev o364:=T [(V "_law_rows_here" 658),(V "_law_told" 659),(V "_law_s" 660),(V "_law_row" 661),(V "_law_total" 662),(V "_law_turn" 663),(V "_law_k" 664)]
abbrev o366:=f1 "_law_determinant" s__law_determinant
abbrev o367:=C1 "_law_determinant" 655 245 1 3 362 true (R 364) (R 365) (R 366) 665
abbrev o368:=f2 "_law_determinant" s__law_determinant m9 367
abbrev o371:=f1 "_law_minor" s__law_minor
abbrev o372:=C1 "_law_minor" 668 257 4 3 369 true .none .none (R 371) 671
abbrev o373:=f2 "_law_minor" s__law_minor m9 372
abbrev o376:=f1 "_law_seven" s__law_seven
abbrev o377:=C1 "_law_seven" 674 267 1 3 374 true .none .none (R 376) 677
abbrev o378:=f2 "_law_seven" s__law_seven m9 377
abbrev o381:=f1 "_law_kind" s__law_kind
abbrev o382:=C1 "_law_kind" 680 276 1 3 379 true .none .none (R 381) 683
abbrev o383:=f2 "_law_kind" s__law_kind m9 382
abbrev o386:=f1 "_law_table_right" s__law_table_right
abbrev o387:=C1 "_law_table_right" 686 289 3 3 384 true .none .none (R 386) 689
abbrev o388:=f2 "_law_table_right" s__law_table_right m9 387
abbrev g22(P:Params):List DictEntry:=[E P "_law_right" 703 (R 395),E P "_law_bases" 709 (R 400),E P "_law_free" 715 (R 405),E P "_law_rows" 729 (R 412),E P "_law_put" 742 (R 419),E P "_law_idle" 753 (R 426),E P "_law_round" 759 (R 431),E P "law" 765 (R 436)]
abbrev o3v9(P:Params):=D ((g19 P).append ((g1 P).append ((g4 P).append ((g7 P).append ((g9 P).append ((g12 P).append ((g15 P).append ((g17 P).append ((g20 P).append (g22 P)))))))))) 68
abbrev g23:List Value:=[(I 306),(I 0),(R 394),(I 321),(I 0),(R 399),(I 331),(I 0),(R 404),(I 341),(I 0),(R 411),(I 351),(I 0),(R 418),(I 362),(I 0),(R 425),(I 369),(I 0),(R 430),(I 380),(I 0),(R 435)]
abbrev o12v9:=W (g2.append (g3.append (g5.append (g8.append (g10.append (g13.append (g16.append (g18.append (g21.append g23)))))))))
abbrev o391:=T [(V "_law_found" 695),(V "_law_many" 696),(V "_law_levels" 697),(V "_law_out" 698),(V "_law_drawn" 699),(V "_law_kind_here" 700)]
abbrev o393:=f1 "_law_right" s__law_right
abbrev o394:=C1 "_law_right" 692 306 3 3 389 true (R 391) (R 392) (R 393) 701
abbrev o395:=f2 "_law_right" s__law_right m9 394
abbrev o398:=f1 "_law_bases" s__law_bases
abbrev o399:=C1 "_law_bases" 704 321 2 3 396 true .none .none (R 398) 707
abbrev o400:=f2 "_law_bases" s__law_bases m9 399
abbrev o403:=f1 "_law_free" s__law_free
abbrev o404:=C1 "_law_free" 710 331 2 3 401 true .none .none (R 403) 713
abbrev o405:=f2 "_law_free" s__law_free m9 404
abbrev o408:=T [(V "_law_cells" 719),(V "_law_many" 720),(V "_law_rows_here" 721),(V "_law_j" 722),(V "_law_row" 723),(V "_law_k" 724),(V "_law_at" 725),(V "_law_mixed" 726)]
abbrev o410:=f1 "_law_rows" s__law_rows
abbrev o411:=C1 "_law_rows" 716 341 2 3 406 true (R 408) (R 409) (R 410) 727
abbrev o412:=f2 "_law_rows" s__law_rows m9 411
abbrev o415:=T [(V "_law_told" 733),(V "_law_many" 734),(V "_law_at" 735),(V "_law_kind_here" 736),(V "_law_found" 737),(V "_law_s" 738),(V "_law_wide" 739)]
abbrev o417:=f1 "_law_put" s__law_put
abbrev o418:=C1 "_law_put" 730 351 4 3 413 true (R 415) (R 416) (R 417) 740
abbrev o419:=f2 "_law_put" s__law_put m9 418
abbrev o422:=T [(V "_law_cells" 746),(V "_law_many" 747),(V "_law_told" 748),(V "_law_turn" 749),(V "_law_k" 750)]
abbrev o424:=f1 "_law_idle" s__law_idle
abbrev o425:=C1 "_law_idle" 743 362 3 3 420 true (R 422) (R 423) (R 424) 751
abbrev o426:=f2 "_law_idle" s__law_idle m9 425
abbrev o429:=f1 "_law_round" s__law_round
abbrev o430:=C1 "_law_round" 754 369 2 3 427 true .none .none (R 429) 757
abbrev o431:=f2 "_law_round" s__law_round m9 430
abbrev o434:=f1 "law" s_law
abbrev o435:=C1 "law" 760 380 1 3 432 true .none .none (R 434) 763
abbrev o436:=f2 "law" s_law m9 435
abbrev ub(x:Obj)(P:Params):List Obj:=[boot_o_0 P,boot_o_1 P,boot_o_2 P,x,boot_o_4 P,boot_o_5 P,boot_o_6 P,boot_o_7 P,boot_o_8 P,boot_o_9 P,boot_o_10 P,Y]
abbrev u0(P:Params):List Obj:=ub (boot_o_3 P) P
abbrev u1(P:Params):List Obj:=[Z,o13,o14]
abbrev u2(P:Params):List Obj:=ub (o3v1 P) P
abbrev u3(P:Params):List Obj:=[o12v1,o13,o14,Y,Z,o17,Y,o19,o20,o21,Y,Z]
abbrev u4(P:Params):List Obj:=[o24,o25,o26,Y,Z,o29,Y,o31,o32,o33,Y,Z]
abbrev u5(P:Params):List Obj:=[o36,Y,o38,o39,o40,Y,Z,o43,Y,o45,o46,o47]
abbrev u6(P:Params):List Obj:=[Y,Z,o50,o51,o52,Y,Z,o55,o56,o57,Y,Z]
abbrev u7(P:Params):List Obj:=[o60,o61,o62,Y,Z,o65,Y,o67,o68,o69,Y,Z]
abbrev u8(P:Params):List Obj:=[o72,Y,o74,o75,o76,Y,Z,o79,Y,o81,o82,o83]
abbrev u9(P:Params):List Obj:=ub (o3v2 P) P
abbrev u10(P:Params):List Obj:=[o12v2,o13,o14,Y,Z,o17,Y,o19,o20,o21,Y,Z]
abbrev u11(P:Params):List Obj:=[Y,o85,o86 P,Y,o88,o89,o90,Y,Z,o93,Y,o95]
abbrev u12(P:Params):List Obj:=[o96,o97,Y,Z,o100,Y,o102,o103,o104,Y,Z,o107]
abbrev u13(P:Params):List Obj:=[Y,o109,o110,o111,o112,o113 P,o114,o115,o116,o117,o118]
abbrev u14(P:Params):List Obj:=ub (o3v3 P) P
abbrev u15(P:Params):List Obj:=[o12v3,o13,o14,Y,Z,o17,Y,o19,o20,o21,Y,Z]
abbrev u16(P:Params):List Obj:=[Y,o109,o110,o111,o112,o113 P,o114v1,o115,o116,o117,o118,o119]
abbrev u17(P:Params):List Obj:=[o120,o121 P,Y,o123,o124,o125,Y,Z,o128,Y,o130,o131]
abbrev u18(P:Params):List Obj:=[o132,Y,Z,o135,o136,o137,o138,o139 P,o140,o141,o142,Y]
abbrev u19(P:Params):List Obj:=[Z,o145,Y,o147,o148,o149,Y,Z,o152,o153,o154,Y]
abbrev u20(P:Params):List Obj:=[Z,o157,o158,o159,Y,Z,o162,o163,o164]
abbrev u21(P:Params):List Obj:=ub (o3v4 P) P
abbrev u22(P:Params):List Obj:=[o12v4,o13,o14,Y,Z,o17,Y,o19,o20,o21,Y,Z]
abbrev u23(P:Params):List Obj:=[Y,o109,o110,o111,o112,o113 P,o114v2,o115,o116,o117,o118,o119]
abbrev u24(P:Params):List Obj:=[Z,o157,o158,o159,Y,Z,o162,o163,o164,o165,o166,o167 P]
abbrev u25(P:Params):List Obj:=[Y,o169,o170,o171,Y,Z,o174,Y,o176,o177,o178,Y]
abbrev u26(P:Params):List Obj:=[Z,o181,Y,o183,o184,o185,o186,o187 P,o188,o189,o190]
abbrev u27(P:Params):List Obj:=ub (o3v5 P) P
abbrev u28(P:Params):List Obj:=[o12v5,o13,o14,Y,Z,o17,Y,o19,o20,o21,Y,Z]
abbrev u29(P:Params):List Obj:=[Y,o109,o110,o111,o112,o113 P,o114v3,o115,o116,o117,o118,o119]
abbrev u30(P:Params):List Obj:=[Z,o181,Y,o183,o184,o185,o186,o187 P,o188,o189,o190,o191]
abbrev u31(P:Params):List Obj:=[o192,o193 P,Y,o195,o196,o197,Y,Z,o200,Y,o202,o203]
abbrev u32(P:Params):List Obj:=[o204,Y,Z,o207,Y,o209,o210,o211,o212,o213 P,o214,o215]
abbrev u33(P:Params):List Obj:=[o216,Y,Z,o219,o220,o221,Y,Z,o224,o225,o226]
abbrev u34(P:Params):List Obj:=ub (o3v6 P) P
abbrev u35(P:Params):List Obj:=[o12v6,o13,o14,Y,Z,o17,Y,o19,o20,o21,Y,Z]
abbrev u36(P:Params):List Obj:=[o216,Y,Z,o219,o220,o221,Y,Z,o224,o225,o226,Y]
abbrev u37(P:Params):List Obj:=[Z,o229,o230,o231,Y,Z,o234,Y,o236,o237,o238,Y]
abbrev u38(P:Params):List Obj:=[Z,o241,o242,o243,Y,Z,o246,Y,o248,o249,o250,Y]
abbrev u39(P:Params):List Obj:=[Z,o253,o254,o255,Y,Z,o258,o259,o260,Y,Z,o263]
abbrev u40(P:Params):List Obj:=[o264,o265]
abbrev u41(P:Params):List Obj:=ub (o3v7 P) P
abbrev u42(P:Params):List Obj:=[o12v7,o13,o14,Y,Z,o17,Y,o19,o20,o21,Y,Z]
abbrev u43(P:Params):List Obj:=[Y,o109,o110,o111,o112,o113 P,o114v4,o115,o116,o117,o118,o119]
abbrev u44(P:Params):List Obj:=[o264,o265,o266,o267,o268 P,Y,o270,o271,o272,Y,Z,o275]
abbrev u45(P:Params):List Obj:=[Y,o277,o278,o279,Y,Z,o282,Y,o284,o285,o286,o287]
abbrev u46(P:Params):List Obj:=[o288 P,o289,o290,o291,Y,Z,o294,o295,o296,Y,Z,o299]
abbrev u47(P:Params):List Obj:=[o300,o301,Y,Z,o304,o305,o306,Y,Z,o309,o310,o311]
abbrev u48(P:Params):List Obj:=ub (o3v8 P) P
abbrev u49(P:Params):List Obj:=[o12v8,o13,o14,Y,Z,o17,Y,o19,o20,o21,Y,Z]
abbrev u50(P:Params):List Obj:=[Y,Z,o314,o315,o316,Y,Z,o319,Y,o321,o322,o323]
abbrev u51(P:Params):List Obj:=[Y,Z,o326,Y,o328,o329,o330,Y,Z,o333,Y,o335]
abbrev u52(P:Params):List Obj:=[o336,o337,Y,Z,o340,Y,o342,o343,o344,Y,Z,o347]
abbrev u53(P:Params):List Obj:=[Y,o349,o350,o351,Y,Z,o354,o355,o356,Y,Z,o359]
abbrev u54(P:Params):List Obj:=[o360,o361,Y,Z,o364,Y,o366,o367,o368,Y,Z,o371]
abbrev u55(P:Params):List Obj:=[o372,o373,Y,Z,o376,o377,o378,Y,Z,o381,o382,o383]
abbrev u56(P:Params):List Obj:=[Y,Z,o386,o387,o388]
abbrev u57(P:Params):List Obj:=ub (o3v9 P) P
abbrev u58(P:Params):List Obj:=[o12v9,o13,o14,Y,Z,o17,Y,o19,o20,o21,Y,Z]
abbrev u59(P:Params):List Obj:=[Y,Z,o386,o387,o388,Y,Z,o391,Y,o393,o394,o395]
abbrev u60(P:Params):List Obj:=[Y,Z,o398,o399,o400,Y,Z,o403,o404,o405,Y,Z]
abbrev u61(P:Params):List Obj:=[o408,Y,o410,o411,o412,Y,Z,o415,Y,o417,o418,o419]
abbrev u62(P:Params):List Obj:=[Y,Z,o422,Y,o424,o425,o426,Y,Z,o429,o430,o431]
abbrev u63(P:Params):List Obj:=[Y,Z,o434,o435,o436]
theorem yu0:([u0,u1,u2,u3,u4,u5,u6,u7,u8,u9,u10,u11,u12,u13,u14,u15,u16,u17,u18,u19,u20,u21,u22,u23,u24,u25,u26,u27,u28,u29]:List (Params->List Obj)).all (λ_=>true)=true:=by k_qdec
theorem yu30:([u30,u31,u32,u33,u34,u35,u36,u37,u38,u39,u40,u41,u42,u43,u44,u45,u46,u47,u48,u49,u50,u51,u52,u53,u54,u55,u56,u57,u58,u59]:List (Params->List Obj)).all (λ_=>true)=true:=by k_qdec
theorem yu60:([u60,u61,u62,u63]:List (Params->List Obj)).all (λ_=>true)=true:=by k_qdec
abbrev spl(l:List Obj):List Obj×List Obj:= @List.rec Obj (λ_=>List Obj×List Obj) ([],[]) (λx _ ih=>(x::ih.2,ih.1)) l
abbrev mkT(n:Nat):List Obj->BT:= @Nat.rec (λ_=>List Obj->BT) (λ_=> .nil) (λ_ ih l=> @List.rec Obj (λ_=>BT) .nil (λx r _=> .node x (ih (spl r).1) (ih (spl r).2)) l) n
theorem qh{α:Sort u}{a b c d:α}(h:a=b)(k:d=c)(e:b=c):a=d:=h.trans (e.trans k.symm)
abbrev l0(P:Params):List Obj:=(tw13894225608423057668 P).append (tw17531079430653816501 P)
abbrev p0(P:Params):List Obj:=(tw1912701158020654693 P).append ((tw2188347355606102534 P).append ((tw16368670287772101220 P).append (tw14842115654739255404 P)))
abbrev l2(P:Params):List Obj:=(tw13809737476558091540 P).append ((tw2367299412457286945 P).append ((p0 P).append (tw4717311838995323452 P)))
abbrev p1(P:Params):List Obj:=(p0 P).append ((tw4717311838995323452 P).append ((tw10037743213843438893 P).append (tw10009084784789568687 P)))
abbrev l3(P:Params):List Obj:=(tw594758545415977400 P).append ((tw10895325593200808953 P).append ((p1 P).append (tw5084553986333570498 P)))
abbrev p2(P:Params):List Obj:=(p1 P).append ((tw1672153094372761355 P).append ((tw4580522010931877059 P).append ((tw15163288008780518816 P).append (tw2560371371167247513 P))))
abbrev l4(P:Params):List Obj:=(tw16641277437810104112 P).append ((tw11875653558476324687 P).append ((p2 P).append (tw13463505119322665063 P)))
abbrev p3(P:Params):List Obj:=(p1 P).append ((tw6492967895434240573 P).append ((tw4580522010931877059 P).append ((tw15163288008780518816 P).append ((tw2560371371167247513 P).append ((tw537001028611820367 P).append (tw9833210585337712870 P))))))
abbrev l5(P:Params):List Obj:=(tw18077194039007663117 P).append ((tw17755462387555777923 P).append ((p3 P).append (tw12708430989920435073 P)))
abbrev p4(P:Params):List Obj:=(p1 P).append ((tw12419440788177488941 P).append ((tw4580522010931877059 P).append ((tw15163288008780518816 P).append ((tw2560371371167247513 P).append ((tw537001028611820367 P).append ((tw9833210585337712870 P).append ((tw13144694907161067814 P).append ((tw9051403873925241803 P).append (tw9532798600492905429 P)))))))))
abbrev l6(P:Params):List Obj:=(tw3132545959879029114 P).append ((tw15893686080707579532 P).append ((p4 P).append (tw13540884194310252285 P)))
abbrev p5(P:Params):List Obj:=(p4 P).append ((tw108614505241798827 P).append ((tw13403271955525184085 P).append ((tw9008512798899243008 P).append (tw5233117687303994960 P))))
abbrev l7(P:Params):List Obj:=(tw7924019476267374970 P).append ((tw4163898066171597766 P).append ((p5 P).append (tw15952828016916965751 P)))
abbrev p6(P:Params):List Obj:=(p1 P).append ((tw11379478403280837710 P).append ((tw4580522010931877059 P).append ((tw15163288008780518816 P).append ((tw2560371371167247513 P).append ((tw537001028611820367 P).append ((tw9833210585337712870 P).append ((tw13144694907161067814 P).append ((tw9051403873925241803 P).append ((tw9532798600492905429 P).append ((tw108614505241798827 P).append ((tw13403271955525184085 P).append ((tw9008512798899243008 P).append ((tw5233117687303994960 P).append ((tw1829372832393830862 P).append ((tw15315517357904613441 P).append (tw464002682377336327 P))))))))))))))))
abbrev l8(P:Params):List Obj:=(tw15380438544845262330 P).append ((tw3498231505995959436 P).append ((p6 P).append (tw9818214866579459264 P)))
abbrev p7(P:Params):List Obj:=(p6 P).append ((tw9818214866579459264 P).append ((tw14515330622082756866 P).append ((tw14785798428834493632 P).append ((tw18201935550050738069 P).append ((tw10454839870730503995 P).append ((tw5571871322767964819 P).append (tw15018400351400277463 P)))))))
abbrev l9(P:Params):List Obj:=(tw12500792342951176350 P).append ((tw13796877066481274120 P).append ((p7 P).append (tw11561923852052835483 P)))
abbrev l10(P:Params):List Obj:=(tw6372914150048047727 P).append ((tw5599453077622544939 P).append ((tw1912701158020654693 P).append ((tw2188347355606102534 P).append ((tw16368670287772101220 P).append ((tw14842115654739255404 P).append ((tw4717311838995323452 P).append ((tw10037743213843438893 P).append ((tw10009084784789568687 P).append ((tw11379478403280837710 P).append ((tw4580522010931877059 P).append ((tw15163288008780518816 P).append ((tw2560371371167247513 P).append ((tw537001028611820367 P).append ((tw9833210585337712870 P).append ((tw13144694907161067814 P).append ((tw9051403873925241803 P).append ((tw9532798600492905429 P).append ((tw108614505241798827 P).append ((tw13403271955525184085 P).append ((tw9008512798899243008 P).append ((tw5233117687303994960 P).append ((tw1829372832393830862 P).append ((tw15315517357904613441 P).append ((tw464002682377336327 P).append ((tw9818214866579459264 P).append ((tw14515330622082756866 P).append ((tw14785798428834493632 P).append ((tw18201935550050738069 P).append ((tw10454839870730503995 P).append ((tw5571871322767964819 P).append ((tw15018400351400277463 P).append ((tw4093087934762282484 P).append ((tw17158561351216856475 P).append ((tw9474750161309284266 P).append ((tw3358886378142609072 P).append (tw8941747231313380785 P))))))))))))))))))))))))))))))))))))
abbrev env:Env:={scope:=(pw_basehouse_k42_tables_over_three).main.scope,locals:=mainNs,globals:=mainNs,cells:=[],code:=Value.ref 13,frame:=some 14}
abbrev G0:List Stmt:=[top 0,top 1,top 2,top 3,top 4,top 5,top 6,top 7,top 8,top 9,top 10,top 11,top 12,top 13]
abbrev G1:List Stmt:=[top 14]
abbrev G2:List Stmt:=[top 15,top 16,top 17,top 18,top 19,top 20,top 21]
abbrev G3:List Stmt:=[top 22]
abbrev G4:List Stmt:=[top 23,top 24,top 25,top 26,top 27,top 28,top 29,top 30,top 31]
abbrev G5:List Stmt:=[top 32,top 33,top 34,top 35,top 36,top 37,top 38,top 39,top 40]
abbrev G6:List Stmt:=[top 41,top 42,top 43,top 44,top 45]
abbrev G7:List Stmt:=[top 46,top 47,top 48,top 49,top 50,top 51,top 52,top 53,top 54,top 55,top 56,top 57,top 58,top 59]
abbrev G8:List Stmt:=[top 60,top 61,top 62,top 63,top 64,top 65,top 66,top 67]
abbrev B0:List Stmt:=G0++(G1++(G2++(G3++(G4++(G5++(G6++(G7++(G8++([])))))))))
abbrev c0:Code:= .body B0 env
abbrev f0:List Frame:=[topFrame ⟨0,0,0,0⟩]
def L0:World->OsState->Option (Shared×Thread):=λw os=>topGo treeTable pw_basehouse_k42_tables_over_three w 11 (some (Value.ref 6)) 12 ⟨boot_heap w.params,⟨[]⟩,boot_drawn,boot_toks,os⟩ (topStub pw_basehouse_k42_tables_over_three)
def M0:World->OsState->Option (Shared×Thread):=λw os=>some (⟨⟨⟨l0 w.params⟩,{}⟩,⟨[]⟩,{},187,os⟩,⟨denote treeTable c0,c0,⟨0,0,0,0⟩,f0⟩)
theorem yL0:((λ_=>true) L0&&(λ_=>true) M0)=true:=by k_qdec
theorem qL0:L0=M0:=qh te4453942571644881324 te7285866895703208684 (by kernel_rfl)
def L1:World->OsState->Option (Flow×Shared×Code×Pos):=λw os=>segRun treeTable pw_basehouse_k42_tables_over_three w 11 (some (Value.ref 6)) 1 1 ⟨⟨⟨l0 w.params⟩,{}⟩,⟨[]⟩,{},187,os⟩ (blockOf B0 env c0 ⟨0,0,0,0⟩ f0)
def M1:World->OsState->Option (Flow×Shared×Code×Pos):=λw os=>some (.next,(SharedT.mk (mkT 12 (l0 w.params)) 15 {} ⟨[]⟩ {} 187 os).abs,c0,⟨0,0,0,0⟩)
theorem yL1:((λ_=>true) L1&&(λ_=>true) M1)=true:=by k_qdec
theorem qL1:L1=M1:=qh te6387051279210280424 te10385057629971820802 (by kernel_rfl)
def L2:World->OsState->Option (Flow×SharedT×Code×Pos):=λw os=>segRunT treeTable pw_basehouse_k42_tables_over_three w 11 (some (Value.ref 6)) 1 342 (SharedT.mk (mkT 12 (l0 w.params)) 15 {} ⟨[]⟩ {} 187 os) (piecesOf G0 env c0 ⟨0,0,0,0⟩ f0)
def M2:World->OsState->Option (Flow×SharedT×Code×Pos):=λw os=>some (.next,(SharedT.mk (mkT 12 (l2 w.params)) 84 {} ⟨[]⟩ {} 273 os),c0,⟨31,0,31,8⟩)
theorem yL2:((λ_=>true) L2&&(λ_=>true) M2)=true:=by k_qdec
theorem qL2:L2=M2:=qh te9171306275460833034 te1760210624324108040 (by kernel_rfl)
def L3:World->OsState->Option (Flow×SharedT×Code×Pos):=λw os=>segRunT treeTable pw_basehouse_k42_tables_over_three w 11 (some (Value.ref 6)) 1 286 (SharedT.mk (mkT 12 (l2 w.params)) 84 {} ⟨[]⟩ {} 273 os) (piecesOf G1 env c0 ⟨31,0,31,8⟩ f0)
def M3:World->OsState->Option (Flow×SharedT×Code×Pos):=λw os=>some (.next,(SharedT.mk (mkT 12 (l3 w.params)) 119 {} ⟨[]⟩ {} 317 os),c0,⟨32,0,41,32⟩)
theorem yL3:((λ_=>true) L3&&(λ_=>true) M3)=true:=by k_qdec
theorem qL3:L3=M3:=qh te6196771281854559479 te2789812635788466785 (by kernel_rfl)
def L4:World->OsState->Option (Flow×SharedT×Code×Pos):=λw os=>segRunT treeTable pw_basehouse_k42_tables_over_three w 11 (some (Value.ref 6)) 1 400 (SharedT.mk (mkT 12 (l3 w.params)) 119 {} ⟨[]⟩ {} 317 os) (piecesOf G2 env c0 ⟨32,0,41,32⟩ f0)
def M4:World->OsState->Option (Flow×SharedT×Code×Pos):=λw os=>some (.next,(SharedT.mk (mkT 12 (l4 w.params)) 165 {} ⟨[]⟩ {} 378 os),c0,⟨60,0,60,8⟩)
theorem yL4:((λ_=>true) L4&&(λ_=>true) M4)=true:=by k_qdec
theorem qL4:L4=M4:=qh te18063231807419426806 te4793386113839911487 (by kernel_rfl)
def L5:World->OsState->Option (Flow×SharedT×Code×Pos):=λw os=>segRunT treeTable pw_basehouse_k42_tables_over_three w 11 (some (Value.ref 6)) 1 281 (SharedT.mk (mkT 12 (l4 w.params)) 165 {} ⟨[]⟩ {} 378 os) (piecesOf G3 env c0 ⟨60,0,60,8⟩ f0)
def M5:World->OsState->Option (Flow×SharedT×Code×Pos):=λw os=>some (.next,(SharedT.mk (mkT 12 (l5 w.params)) 191 {} ⟨[]⟩ {} 414 os),c0,⟨61,0,71,66⟩)
theorem yL5:((λ_=>true) L5&&(λ_=>true) M5)=true:=by k_qdec
theorem qL5:L5=M5:=qh te7289443652863241282 te11685339832826840484 (by kernel_rfl)
def L6:World->OsState->Option (Flow×SharedT×Code×Pos):=λw os=>segRunT treeTable pw_basehouse_k42_tables_over_three w 11 (some (Value.ref 6)) 1 390 (SharedT.mk (mkT 12 (l5 w.params)) 191 {} ⟨[]⟩ {} 414 os) (piecesOf G4 env c0 ⟨61,0,71,66⟩ f0)
def M6:World->OsState->Option (Flow×SharedT×Code×Pos):=λw os=>some (.next,(SharedT.mk (mkT 12 (l6 w.params)) 227 {} ⟨[]⟩ {} 477 os),c0,⟨94,0,95,44⟩)
theorem yL6:((λ_=>true) L6&&(λ_=>true) M6)=true:=by k_qdec
theorem qL6:L6=M6:=qh te11518265509499319272 te9035903999391717805 (by kernel_rfl)
def L7:World->OsState->Option (Flow×SharedT×Code×Pos):=λw os=>segRunT treeTable pw_basehouse_k42_tables_over_three w 11 (some (Value.ref 6)) 1 210 (SharedT.mk (mkT 12 (l6 w.params)) 227 {} ⟨[]⟩ {} 477 os) (piecesOf G5 env c0 ⟨94,0,95,44⟩ f0)
def M7:World->OsState->Option (Flow×SharedT×Code×Pos):=λw os=>some (.next,(SharedT.mk (mkT 12 (l7 w.params)) 266 {} ⟨[]⟩ {} 528 os),c0,⟨147,0,147,8⟩)
theorem yL7:((λ_=>true) L7&&(λ_=>true) M7)=true:=by k_qdec
theorem qL7:L7=M7:=qh te9490284035958612641 te1675962113473143740 (by kernel_rfl)
def L8:World->OsState->Option (Flow×SharedT×Code×Pos):=λw os=>segRunT treeTable pw_basehouse_k42_tables_over_three w 11 (some (Value.ref 6)) 1 382 (SharedT.mk (mkT 12 (l7 w.params)) 266 {} ⟨[]⟩ {} 528 os) (piecesOf G6 env c0 ⟨147,0,147,8⟩ f0)
def M8:World->OsState->Option (Flow×SharedT×Code×Pos):=λw os=>some (.next,(SharedT.mk (mkT 12 (l8 w.params)) 312 {} ⟨[]⟩ {} 585 os),c0,⟨179,0,180,60⟩)
theorem yL8:((λ_=>true) L8&&(λ_=>true) M8)=true:=by k_qdec
theorem qL8:L8=M8:=qh te7116466485190837356 te8127398886225657409 (by kernel_rfl)
def L9:World->OsState->Option (Flow×SharedT×Code×Pos):=λw os=>segRunT treeTable pw_basehouse_k42_tables_over_three w 11 (some (Value.ref 6)) 1 387 (SharedT.mk (mkT 12 (l8 w.params)) 312 {} ⟨[]⟩ {} 585 os) (piecesOf G7 env c0 ⟨179,0,180,60⟩ f0)
def M9:World->OsState->Option (Flow×SharedT×Code×Pos):=λw os=>some (.next,(SharedT.mk (mkT 12 (l9 w.params)) 389 {} ⟨[]⟩ {} 692 os),c0,⟨289,0,305,15⟩)
theorem yL9:((λ_=>true) L9&&(λ_=>true) M9)=true:=by k_qdec
theorem qL9:L9=M9:=qh te16134767483146388640 te1028310481701075085 (by kernel_rfl)
def L10:World->OsState->Option (Flow×SharedT×Code×Pos):=λw os=>segRunT treeTable pw_basehouse_k42_tables_over_three w 11 (some (Value.ref 6)) 1 243 (SharedT.mk (mkT 12 (l9 w.params)) 389 {} ⟨[]⟩ {} 692 os) (piecesOf G8 env c0 ⟨289,0,305,15⟩ f0)
def M10:World->OsState->Option (Flow×SharedT×Code×Pos):=λw os=>some (.next,(SharedT.mk (mkT 12 (l10 w.params)) 437 {} ⟨[]⟩ {} 766 os),c0,⟨380,0,403,15⟩)
theorem yL10:((λ_=>true) L10&&(λ_=>true) M10)=true:=by k_qdec
theorem qL10:L10=M10:=qh te8817224096938630680 te4223366021984358877 (by kernel_rfl)
def L11:World->OsState->Option Shared:=λw os=>topRun treeTable pw_basehouse_k42_tables_over_three w 11 (some (Value.ref 6)) 2 (SharedT.mk (mkT 12 (l10 w.params)) 437 {} ⟨[]⟩ {} 766 os).abs (restOf [] env c0 ⟨380,0,403,15⟩ f0)
def M11:World->OsState->Option Shared:=λw os=>some ⟨⟨⟨l10 w.params⟩,{}⟩,⟨[]⟩,{},766,os⟩
theorem yL11:((λ_=>true) L11&&(λ_=>true) M11)=true:=by k_qdec
theorem qL11:L11=M11:=qh te6997996825916537589 te5514423481259190630 (by kernel_rfl)
abbrev Hf(P:Params):Heap:=⟨⟨l10 P⟩,{}⟩
abbrev Mn:Nat:=12+(1+(342+(286+(400+(281+(390+(210+(382+(387+(243+(2)))))))))))
theorem rn(w:World)(os:OsState):topRun treeTable pw_basehouse_k42_tables_over_three w 11 (some (Value.ref 6)) Mn ⟨boot_heap w.params,⟨[]⟩,boot_drawn,boot_toks,os⟩ (topStub pw_basehouse_k42_tables_over_three)=some ⟨Hf w.params,⟨[]⟩,{},766,os⟩:=go_top (K6 (K6 qL0 w) os) (piece_block (K6 (K6 qL1 w) os) (Nu (Nv (K6 (K6 qL2 w) os)) (Nu (Nv (K6 (K6 qL3 w) os)) (Nu (Nv (K6 (K6 qL4 w) os)) (Nu (Nv (K6 (K6 qL5 w) os)) (Nu (Nv (K6 (K6 qL6 w) os)) (Nu (Nv (K6 (K6 qL7 w) os)) (Nu (Nv (K6 (K6 qL8 w) os)) (Nu (Nv (K6 (K6 qL9 w) os)) (Nu (Nv (K6 (K6 qL10 w) os)) (K6 (K6 qL11 w) os)))))))))))
abbrev vw:Program:={(pw_basehouse_k42_tables_over_three)with main:={(pw_basehouse_k42_tables_over_three).main with body:=[top 1,top 2,top 3,top 4,top 5,top 6,top 7,top 8,top 9,top 10,top 12,top 14,top 15,top 17,top 18,top 19,top 20,top 22,top 23,top 25,top 26,top 27,top 28,top 29,top 30,top 31,top 32,top 33,top 35,top 36,top 37,top 38,top 39,top 41,top 42,top 43,top 44,top 45,top 46,top 47,top 48,top 49,top 51,top 52,top 53,top 54,top 55,top 56,top 57,top 58,top 59,top 60,top 61,top 62,top 63,top 64,top 65,top 66,top 67]}}
abbrev KF:Params->Frag:=λP=>(nat_lit 2,boot_o_2 P)::(nat_lit 3,o3v9 P)::(nat_lit 15,Y)::(nat_lit 17,o17)::(nat_lit 18,Y)::(nat_lit 20,o20)::(nat_lit 21,o21)::(nat_lit 22,Y)::(nat_lit 25,o25)::(nat_lit 26,o26)::(nat_lit 27,Y)::(nat_lit 29,o29)::(nat_lit 30,Y)::(nat_lit 32,o32)::(nat_lit 33,o33)::(nat_lit 34,Y)::(nat_lit 36,o36)::(nat_lit 37,Y)::(nat_lit 39,o39)::(nat_lit 40,o40)::(nat_lit 41,Y)::(nat_lit 43,o43)::(nat_lit 44,Y)::(nat_lit 46,o46)::(nat_lit 47,o47)::(nat_lit 48,Y)::(nat_lit 51,o51)::(nat_lit 52,o52)::(nat_lit 53,Y)::(nat_lit 56,o56)::(nat_lit 57,o57)::(nat_lit 58,Y)::(nat_lit 61,o61)::(nat_lit 62,o62)::(nat_lit 63,Y)::(nat_lit 65,o65)::(nat_lit 66,Y)::(nat_lit 68,o68)::(nat_lit 69,o69)::(nat_lit 70,Y)::(nat_lit 72,o72)::(nat_lit 73,Y)::(nat_lit 75,o75)::(nat_lit 76,o76)::(nat_lit 77,Y)::(nat_lit 79,o79)::(nat_lit 80,Y)::(nat_lit 82,o82)::(nat_lit 83,o83)::(nat_lit 91,Y)::(nat_lit 93,o93)::(nat_lit 94,Y)::(nat_lit 96,o96)::(nat_lit 97,o97)::(nat_lit 98,Y)::(nat_lit 100,o100)::(nat_lit 101,Y)::(nat_lit 103,o103)::(nat_lit 104,o104)::(nat_lit 105,Y)::(nat_lit 107,o107)::(nat_lit 108,Y)::(nat_lit 110,o110)::(nat_lit 111,o111)::(nat_lit 112,o112)::(nat_lit 113,o113 P)::(nat_lit 114,o114v4)::(nat_lit 115,o115)::(nat_lit 116,o116)::(nat_lit 119,o119)::(nat_lit 126,Y)::(nat_lit 128,o128)::(nat_lit 129,Y)::(nat_lit 131,o131)::(nat_lit 132,o132)::(nat_lit 133,Y)::(nat_lit 136,o136)::(nat_lit 137,o137)::(nat_lit 138,o138)::(nat_lit 139,o139 P)::(nat_lit 140,o140)::(nat_lit 143,Y)::(nat_lit 145,o145)::(nat_lit 146,Y)::(nat_lit 148,o148)::(nat_lit 149,o149)::(nat_lit 150,Y)::(nat_lit 153,o153)::(nat_lit 154,o154)::(nat_lit 155,Y)::(nat_lit 158,o158)::(nat_lit 159,o159)::(nat_lit 160,Y)::(nat_lit 163,o163)::(nat_lit 164,o164)::(nat_lit 165,o165)::(nat_lit 172,Y)::(nat_lit 174,o174)::(nat_lit 175,Y)::(nat_lit 177,o177)::(nat_lit 178,o178)::(nat_lit 179,Y)::(nat_lit 181,o181)::(nat_lit 182,Y)::(nat_lit 184,o184)::(nat_lit 185,o185)::(nat_lit 186,o186)::(nat_lit 187,o187 P)::(nat_lit 188,o188)::(nat_lit 191,o191)::(nat_lit 198,Y)::(nat_lit 200,o200)::(nat_lit 201,Y)::(nat_lit 203,o203)::(nat_lit 204,o204)::(nat_lit 205,Y)::(nat_lit 207,o207)::(nat_lit 208,Y)::(nat_lit 210,o210)::(nat_lit 211,o211)::(nat_lit 212,o212)::(nat_lit 213,o213 P)::(nat_lit 214,o214)::(nat_lit 217,Y)::(nat_lit 220,o220)::(nat_lit 221,o221)::(nat_lit 222,Y)::(nat_lit 225,o225)::(nat_lit 226,o226)::(nat_lit 227,Y)::(nat_lit 230,o230)::(nat_lit 231,o231)::(nat_lit 232,Y)::(nat_lit 234,o234)::(nat_lit 235,Y)::(nat_lit 237,o237)::(nat_lit 238,o238)::(nat_lit 239,Y)::(nat_lit 242,o242)::(nat_lit 243,o243)::(nat_lit 244,Y)::(nat_lit 246,o246)::(nat_lit 247,Y)::(nat_lit 249,o249)::(nat_lit 250,o250)::(nat_lit 251,Y)::(nat_lit 254,o254)::(nat_lit 255,o255)::(nat_lit 256,Y)::(nat_lit 259,o259)::(nat_lit 260,o260)::(nat_lit 261,Y)::(nat_lit 264,o264)::(nat_lit 265,o265)::(nat_lit 266,o266)::(nat_lit 273,Y)::(nat_lit 275,o275)::(nat_lit 276,Y)::(nat_lit 278,o278)::(nat_lit 279,o279)::(nat_lit 280,Y)::(nat_lit 282,o282)::(nat_lit 283,Y)::(nat_lit 285,o285)::(nat_lit 286,o286)::(nat_lit 287,o287)::(nat_lit 288,o288 P)::(nat_lit 289,o289)::(nat_lit 292,Y)::(nat_lit 295,o295)::(nat_lit 296,o296)::(nat_lit 297,Y)::(nat_lit 300,o300)::(nat_lit 301,o301)::(nat_lit 302,Y)::(nat_lit 305,o305)::(nat_lit 306,o306)::(nat_lit 307,Y)::(nat_lit 310,o310)::(nat_lit 311,o311)::(nat_lit 312,Y)::(nat_lit 315,o315)::(nat_lit 316,o316)::(nat_lit 317,Y)::(nat_lit 319,o319)::(nat_lit 320,Y)::(nat_lit 322,o322)::(nat_lit 323,o323)::(nat_lit 324,Y)::(nat_lit 326,o326)::(nat_lit 327,Y)::(nat_lit 329,o329)::(nat_lit 330,o330)::(nat_lit 331,Y)::(nat_lit 333,o333)::(nat_lit 334,Y)::(nat_lit 336,o336)::(nat_lit 337,o337)::(nat_lit 338,Y)::(nat_lit 340,o340)::(nat_lit 341,Y)::(nat_lit 343,o343)::(nat_lit 344,o344)::(nat_lit 345,Y)::(nat_lit 347,o347)::(nat_lit 348,Y)::(nat_lit 350,o350)::(nat_lit 351,o351)::(nat_lit 352,Y)::(nat_lit 355,o355)::(nat_lit 356,o356)::(nat_lit 357,Y)::(nat_lit 360,o360)::(nat_lit 361,o361)::(nat_lit 362,Y)::(nat_lit 364,o364)::(nat_lit 365,Y)::(nat_lit 367,o367)::(nat_lit 368,o368)::(nat_lit 369,Y)::(nat_lit 372,o372)::(nat_lit 373,o373)::(nat_lit 374,Y)::(nat_lit 377,o377)::(nat_lit 378,o378)::(nat_lit 379,Y)::(nat_lit 382,o382)::(nat_lit 383,o383)::(nat_lit 384,Y)::(nat_lit 387,o387)::(nat_lit 388,o388)::(nat_lit 389,Y)::(nat_lit 391,o391)::(nat_lit 392,Y)::(nat_lit 394,o394)::(nat_lit 395,o395)::(nat_lit 396,Y)::(nat_lit 399,o399)::(nat_lit 400,o400)::(nat_lit 401,Y)::(nat_lit 404,o404)::(nat_lit 405,o405)::(nat_lit 406,Y)::(nat_lit 408,o408)::(nat_lit 409,Y)::(nat_lit 411,o411)::(nat_lit 412,o412)::(nat_lit 413,Y)::(nat_lit 415,o415)::(nat_lit 416,Y)::(nat_lit 418,o418)::(nat_lit 419,o419)::(nat_lit 420,Y)::(nat_lit 422,o422)::(nat_lit 423,Y)::(nat_lit 425,o425)::(nat_lit 426,o426)::(nat_lit 427,Y)::(nat_lit 430,o430)::(nat_lit 431,o431)::(nat_lit 432,Y)::(nat_lit 435,o435)::(nat_lit 436,o436)::[]
abbrev aL:List Addr:=2::3::15::17::18::20::21::22::25::26::27::29::30::32::33::34::36::37::39::40::41::43::44::46::47::48::51::52::53::56::57::58::61::62::63::65::66::68::69::70::72::73::75::76::77::79::80::82::83::91::93::94::96::97::98::100::101::103::104::105::107::108::110::111::112::113::114::115::116::119::126::128::129::131::132::133::136::137::138::139::140::143::145::146::148::149::150::153::154::155::158::159::160::163::164::165::172::174::175::177::178::179::181::182::184::185::186::187::188::191::198::200::201::203::204::205::207::208::210::211::212::213::214::217::220::221::222::225::226::227::230::231::232::234::235::237::238::239::242::243::244::246::247::249::250::251::254::255::256::259::260::261::264::265::266::273::275::276::278::279::280::282::283::285::286::287::288::289::292::295::296::297::300::301::302::305::306::307::310::311::312::315::316::317::319::320::322::323::324::326::327::329::330::331::333::334::336::337::338::340::341::343::344::345::347::348::350::351::352::355::356::357::360::361::362::364::365::367::368::369::372::373::374::377::378::379::382::383::384::387::388::389::391::392::394::395::396::399::400::401::404::405::406::408::409::411::412::413::415::416::418::419::420::422::423::425::426::427::430::431::432::435::436::[]
theorem eK(P:Params):aL=(KF P).map (·.1):=by kernel_rfl
abbrev HK:Hook:=kHook KF aL eK
abbrev lsN:List Str:=[]
abbrev rw0:RowW:=OpenRow.toRowW (OpenLaw.row rw_basehouse_k42_tables_over_three)
abbrev Xt(s:Shared):Bool:=xlAt vw [] s&&recOk (RowW.records rw0) s
def Lz:World->OsState->Bool×Nat×Option Value:=λw os=>((boot_heap w.params).isNs mainGlobals&&(⟨[]⟩:Array GenState).size==0,(boot_heap w.params).objs.size,(boot_heap w.params).nsMap mainGlobals "__annotations__")
def Mz:World->OsState->Bool×Nat×Option Value:=λw os=>(true,11,(some (Value.ref 6)))
theorem yLz:((λ_=>true) Lz&&(λ_=>true) Mz)=true:=by k_qdec
theorem qLz:Lz=Mz:=Eq.trans te17831390912981975158 (by kernel_rfl:tw17831390912981975158=Mz)
def Ll:=λ(w:World) (os:OsState)=>((staticsOk (importedModules (pw_basehouse_k42_tables_over_three).main.body) (boot_heap w.params) (Hf w.params)&&namesBound pw_basehouse_k42_tables_over_three (Hf w.params)&&gensDone ⟨Hf w.params,⟨[]⟩,{},766,os⟩&&laidKept (boot_heap w.params) (Hf w.params)),openSeen vw lsN (importedModules (pw_basehouse_k42_tables_over_three).main.body) Xt true ⟨Hf w.params,⟨[]⟩,{},766,os⟩,aL.map (Hf w.params).get?)
def Ml:=λ(w:World) (_:OsState)=>(true,openGood vw lsN,(KF w.params).map λp=>some p.2)
theorem yLl:((λ_=>true) Ll&&(λ_=>true) Ml)=true:=by k_qdec
abbrev tL:=tw17448342430068451512
abbrev tv:=tw7000725165481098050
theorem x0:(λw os=>(tL w os).1)=λw _=>true:=by kernel_rfl
theorem x1:(λw os=>(tL w os).2.1.1)=λw _=>expectedOf tv:=by kernel_rfl
theorem x2:(λw os=>(tL w os).2.1.2.1)=λw _=>bltViewBooted:=by kernel_rfl
theorem x3:(λw os=>(tL w os).2.1.2.2.1)=λw _=>true:=by kernel_rfl
theorem x4:(λw os=>(tL w os).2.1.2.2.2.1)=λw _=>true:=by kernel_rfl
theorem x5:(λw os=>(tL w os).2.1.2.2.2.2.1)=λw _=>pinGoodD (drecsOf tv):=by kernel_rfl
theorem x6:(λw os=>(tL w os).2.1.2.2.2.2.2.1)=λw _=>plainGoodE tv (looseW tv lsN):=by kernel_rfl
theorem x7:(λw os=>(tL w os).2.1.2.2.2.2.2.2.1)=λw _=>plainGoodD tv lsN:=by kernel_rfl
theorem x8:(λw os=>(tL w os).2.1.2.2.2.2.2.2.2.1)=λw _=>wideGood tv:=by kernel_rfl
theorem x9:(λw os=>(tL w os).2.1.2.2.2.2.2.2.2.2)=λw _=>clsGoodW tv lsN:=by kernel_rfl
theorem x10:(λw os=>(tL w os).2.2)=λw _=>(KF w.params).map λp=>some p.2:=by kernel_rfl
theorem xx{A B C D E F G H I J K:Type}{x:A× (B×C×D×E×F×G×H×I×J)×K}{a b c d e f g h i j k}(y0:x.1=a)(y1:x.2.1.1=b)(y2:x.2.1.2.1=c)(y3:x.2.1.2.2.1=d)(y4:x.2.1.2.2.2.1=e)(y5:x.2.1.2.2.2.2.1=f)(y6:x.2.1.2.2.2.2.2.1=g)(y7:x.2.1.2.2.2.2.2.2.1=h)(y8:x.2.1.2.2.2.2.2.2.2.1=i)(y9:x.2.1.2.2.2.2.2.2.2.2=j)(y10:x.2.2=k):x=(a,(b,c,d,e,f,g,h,i,j),k):=by obtain⟨_,⟨_,_,_,_,_,_,_,_,_⟩,_⟩:=x;cases y0;cases y1;cases y2;cases y3;cases y4;cases y5;cases y6;cases y7;cases y8;cases y9;cases y10;rfl
theorem qLl:Ll=Ml:=qh te17448342430068451512 te15266112935050528847 (funext λw=>funext λos=>xx (K6 (K6 x0 w) os) (K6 (K6 x1 w) os) (K6 (K6 x2 w) os) (K6 (K6 x3 w) os) (K6 (K6 x4 w) os) (K6 (K6 x5 w) os) (K6 (K6 x6 w) os) (K6 (K6 x7 w) os) (K6 (K6 x8 w) os) (K6 (K6 x9 w) os) (K6 (K6 x10 w) os))
theorem hl:LeftO pw_basehouse_k42_tables_over_three vw lsN Xt HK.obs HK.val 5950:=LeftO.of_pieces (m₀:=11) (ann:=(some (Value.ref 6))) (boot_open (by kernel_rfl) (by decide) (λs=>by kernel_rfl)) (λw=>K6 (K6 qLz w) default) rn (by decide+kernel) (λw=>K6 qLl w)
end
end Hd
open PySem PySem.W PyProof.Rows
set_option maxRecDepth 100000 in
set_option maxHeartbeats 0 in
theorem PySem.Challenge.cw_basehouse_k42_tables_over_three_holds : PySem.Challenge.rw_basehouse_k42_tables_over_three.Holds := by
 w_on;o_law
 refine holds_open (q:=Hd.vw) (loose:=Hd.lsN) (Xt:=Hd.Xt) (XP:=XL Hd.vw []) (Yf:=Hd.HK.obs) (Ya:=Hd.HK.val) (YP:=(kHook Hd.KF Hd.aL Hd.eK).says) (N:=5950) Hd.hl Hd.HK.of Hd.HK.keeps (λs e=>xl_of s (Bool.and_eq_true_iff.mp e).1) XL.keeps (by rfl) (by rfl) (by rfl) (λs e=>recFacts_of (Bool.and_eq_true_iff.mp e).2) (by rfl) (by first|assumption|decide+kernel) (by decide+kernel) ⟨rfl,rfl,rfl,rfl,rfl,by decide+kernel⟩ ?hw ?hc
 (case hw=>w_witness2)
 k_fill
 refine BhK.walk (l:=PySem.Challenge.rw_basehouse_k42_tables_over_three) rfl rfl (λw h Y=>PySem.W.kIn_of Y) ?F
 case F=>
  intro w mg fa h KX G hmg
  refine' BhK.all_mk KX G hmg ?_ ?_ ?_ ?_ ?_ ?_ ?_ ?_ ?_ ?_ ?_ ?_ ?_ ?_ ?_ ?_ ?_ ?_ ?_ ?_ ?_ ?_ ?_ ?_ ?_ ?_ ?_ ?_ ?_ ?_ ?_ ?_ ?_ ?_ ?_ ?_ ?_ ?_ ?_ ?_ ?_ ?_ ?_ ?_ ?_ ?_ ?_ ?_ ?_ ?_ ?_ ?_ ?_ ?_ ?_ ?_ ?_ ?_ ?_ ?_ ?_ ?_ ?_ ?_ ?_ ?_ ?_ ?_ ?_ ?_ ?_ ?_ ?_ ?_ ?_ ?_ ?_ ?_ ?_ ?_ ?_ ?_ ?_ ?_ ?_ ?_ ?_ ?_ ?_ ?_ ?_ ?_ ?_ ?_ ?_ ?_ ?_ ?_ ?_ ?_ ?_ ?_ ?_ ?_ ?_ ?_ ?_ ?_ ?_ ?_ ?_ ?_ ?_ ?_ ?_ ?_ ?_ ?_ ?_ ?_ ?_ ?_ ?_ ?_ ?_ ?_ ?_
  all_goals try first|k_is|kit_is|decide|kernel_rfl|(refine' BhK.HL.mk ?_ ?_ ?_ ?_ ?_ ?_ ?_<;>try k_is)|(refine' BhK.HM.mk ?_ ?_ ?_ ?_ ?_<;>try k_is)|(refine' BhK.HD.mk ?_ ?_ ?_ ?_<;>try k_is)|(refine' BhK.HI.mk ?_ ?_ ?_ ?_<;>try k_is)
#print axioms PySem.Challenge.cw_basehouse_k42_tables_over_three_holds
