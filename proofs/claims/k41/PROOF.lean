import PyProof.Rows.All
import Wide.All
import OpenK.AllK
import Wide.FinOn
import Lean
import PyProof.EqAt
import PyProof.EqKinds
import PyProof.TupleCall
import PyProof.AttrMissHeap
import PySem.Challenge.RW_basehouse_k41_tables_over_two
set_option Elab.async false
set_option linter.all false
set_option maxRecDepth 100000
open PySem.W(instObj methodObj lookIn plainGet hasDictIn findIn isFn plainOver takerIn makesIn emptyDict keepIn specialIn takesIn mroIn kitOne fnOf codeIn nsIn)
abbrev F3:=@List.length_map
abbrev F4:=@decide_eq_false
abbrev F5:=@decide_eq_true
abbrev F6:=@Int.toNat_natCast
abbrev F7:=@if_pos
abbrev F8:=@if_neg
abbrev F9:=@Nat.lt_of_lt_of_le
abbrev Ga:=@List.getElem?_eq_some_iff
abbrev Gb:=@List.getD_eq_getElem?_getD
abbrev Gd:=@Nat.le_trans
abbrev Ge:=@List.mem_of_getElem?
abbrev Gf:=@Nat.le_refl
abbrev Gg:=@Nat.testBit_two_pow
abbrev Gh:=@List.mem_cons
abbrev Gi:=@Nat.eq_of_testBit_eq
abbrev Gj:=@Bool.false_ne_true
abbrev Gk:=@List.mem_range
abbrev Gm:=@List.mem_cons_of_mem
abbrev Gn:=@List.mem_cons_self
abbrev Gp:=@List.getElem?_eq_getElem
abbrev Gq:=@Nat.lt_of_le_of_lt
abbrev Gr:=@List.length_append
abbrev Gs:=@List.getElem?_map
abbrev Gu:=@List.mem_append
abbrev Gv:=@Nat.pow_le_pow_right
abbrev Gw:=@List.mem_singleton
abbrev Gx:=@of_decide_eq_true
abbrev Gy:=@List.length_range
abbrev Gz:=@List.mem_map
abbrev GA:=@List.length_cons
abbrev GC:=@Nat.testBit_or
abbrev GD:=@Nat.testBit_two_pow_sub_one
abbrev GF:=@decide_eq_true_iff
abbrev GG:=@PySem.Heap.lt_size
abbrev GH:=@List.getElem?_append_left
abbrev GI:=@List.getElem?_append_right
abbrev GJ:=@List.length_take
abbrev GK:=@PySem.Heap.get?_push_of_some
abbrev GL:=@Bool.and_eq_true
abbrev GN:=@List.mem_filter
abbrev GO:=@List.map_append
abbrev GP:=@List.map_cons
abbrev GQ:=@congrArg
abbrev GR:=@PySem.wpAny_bind
abbrev GS:=@List.size_toArray
abbrev GU:=@Int.dvd_mul_of_dvd_right
abbrev GV:=@congrFun
abbrev GW:=@List.all_eq_true
abbrev GX:=@Nat.testBit_lt_two_pow
abbrev GY:=@Option.some.inj
abbrev GZ:=@Nat.ne_of_lt
abbrev Hc:=@List.map_map
abbrev He:=@List.length_eraseIdx_of_lt
abbrev Hg:=@PySem.mem_of_lookup
abbrev Hi:=@Nat.xor_assoc
abbrev Hj:=@Bool.false_and
abbrev Hk:=@List.getElem?_of_mem
abbrev Hl:=@Bool.true_and
abbrev Hm:=@List.mem_append_right
abbrev Ho:=@Nat.testBit_xor
abbrev Hq:=@Classical.byContradiction
abbrev Hr:=@Int.natCast_nonneg
abbrev Ht:=@PySem.W.mg_none_of
abbrev Hu:=@Bool.and_false
abbrev Hv:=@List.not_mem_nil
abbrev Hw:=@Nat.testBit_and
abbrev Hx:=@PySem.wpAny_pure
abbrev Hy:=@Nat.zero_le
abbrev Hz:=@List.take_add_one
abbrev HJ:=@PySem.Heap.get?_push_size
abbrev HN:=@List.take_length
abbrev HP:=@List.map_congr_left
abbrev HS:=@Nat.zero_testBit
abbrev HU:=@PySem.F.plainAttrs_list
abbrev HV:=@PySem.F.slot_list_append
abbrev HW:=@PySem.F.type_list_append
abbrev Ic:=@List.append_nil
abbrev Ie:=@List.length_filter_le
abbrev Ig:=@Nat.lt_succ_self
abbrev Ih:=@List.filter_congr
abbrev Ii:=@List.mem_append_left
abbrev Ij:=@Nat.le_of_not_lt
abbrev Ik:=@List.getElem_mem
abbrev Il:=@List.filter_cons
abbrev Im:=@Bool.or_eq_true
abbrev Io:=@Int.zero_add
abbrev Ip:=@Nat.sub_lt_sub_left
abbrev Iq:=@List.filter_eq_self
abbrev Ir:=@Nat.le_antisymm
abbrev Iu:=@decide_eq_decide
abbrev Iv:=@Nat.succ_le_succ
abbrev Iw:=@Nat.or_lt_two_pow
abbrev Iy:=@List.getElem?_range
abbrev Iz:=@PyProof.Rows.callWith_type1
abbrev IA:=@Nat.lt_irrefl
abbrev IB:=@List.append_assoc
abbrev IC:=@List.range_succ
abbrev ID:=@Nat.pow_pos
abbrev IE:=@Bool.eq_false_iff
abbrev IF:=@Int.eq_ofNat_of_zero_le
abbrev IG:=@Nat.testBit_div_two_pow
abbrev IH:=@Int.mul_assoc
abbrev II:=@List.foldl_cons
abbrev IJ:=@Int.emod_lt_of_pos
abbrev IK:=@List.foldl_append
abbrev IL:=@PySem.W.mg_of
abbrev IM:=@Bool.or_false
abbrev IP:=@Nat.xor_self
abbrev IQ:=@PyProof.Rows.boot_isinstance
abbrev IS:=@Bool.eq_iff_iff
abbrev IT:=@PySem.W.kia_one
abbrev IU:=@List.nil_append
abbrev IV:=@Int.emod_nonneg
abbrev IW:=@List.lookup_cons
abbrev IX:=@Int.mul_comm
abbrev IY:=@PyProof.Rows.boot_list
abbrev IZ:=@List.nodup_cons
abbrev I0:=@List.getElem?_take_of_lt
abbrev Ja:=@List.length_drop
abbrev Jb:=@List.filter_append
abbrev Jc:=@List.nodup_range
abbrev Jd:=@Nat.lt_of_not_le
abbrev Je:=@Nat.pow_lt_pow_right
abbrev Jf:=@List.take_of_length_le
abbrev Jg:=@Int.one_mul
abbrev Jh:=@True.intro
abbrev Ji:=@PySem.Heap.size_push
abbrev Jj:=@Nat.lt_pow_two_of_testBit
abbrev Jk:=@List.map_id
abbrev Jl:=@Nat.xor_zero
abbrev Jm:=@List.mem_of_mem_take
abbrev Jn:=@List.length_pos_of_mem
abbrev Jo:=@Nat.zero_add
abbrev Jp:=@Nat.xor_comm
abbrev Jq:=@Nat.or_assoc
abbrev Jr:=@List.filter_filter
abbrev Js:=@PySem.wpAny_passesOwn
abbrev Jt:=@List.find?_cons
abbrev Ju:=@PySem.wpAny_truthy_bool
abbrev Jv:=@Nat.le_of_succ_le
abbrev Jw:=@Int.mul_left_comm
abbrev Jx:=@List.map_nil
abbrev Jy:=@List.length_erase_of_mem
abbrev Jz:=@Int.dvd_zero
abbrev JA:=@beq_eq_false_iff_ne
abbrev JB:=@Array.length_toList
abbrev JC:=@Nat.testBit_mod_two_pow
abbrev JD:=@PyProof.Rows.boot_tuple
abbrev JE:=@List.sum_cons
abbrev JF:=@PySem.wpAny_Call_Name_kw
abbrev JG:=@List.filter_map
abbrev JH:=@PySem.W.piece_app
abbrev JI:=@PySem.W.segRun_of
abbrev JJ:=@List.getElem?_eraseIdx
abbrev JK:=@List.eq_nil_of_length_eq_zero
abbrev JL:=@List.nodup_append
abbrev JM:=@Array.getElem?_toList
abbrev JN:=@Nat.pow_succ
abbrev JO:=@Int.sub_self
abbrev JP:=@PySem.wpAny_mono
abbrev JQ:=@or_false
abbrev JR:=@Nat.le_add_right
abbrev JS:=@List.any_eq_true
abbrev JT:=@PySem.Paired.length
abbrev JU:=@List.any_cons
abbrev JV:=@Int.neg_mul
abbrev JW:=@List.length_reverse
abbrev JX:=@List.mem_map_of_mem
abbrev JY:=@Nat.add_le_add_left
abbrev JZ:=@Int.toNat_of_nonneg
abbrev J0:=@Nat.min_eq_left
abbrev J1:=@PySem.pushCells_keeps
abbrev J2:=@Nat.not_lt_zero
abbrev J3:=@PySem.codeAny_mono
abbrev J4:=@PySem.W.callWith_K
abbrev J5:=@Nat.lt_trans
abbrev J6:=@of_decide_eq_false
abbrev J7:=@Nat.zero_xor
abbrev J8:=@Bool.xor_false
abbrev J9:=@List.getElem?_cons_succ
abbrev Ka:=@List.filter_cons_of_neg
abbrev Kb:=@List.length_eq_zero_iff
abbrev Kc:=@Int.dvd_mul_of_dvd_left
abbrev Kd:=@Nat.lt_succ_of_lt
abbrev Ke:=@Int.dvd_mul_right
abbrev Kf:=@List.getElem?_inj
abbrev Kg:=@PySem.wpAny_pyIter_rangeiter
abbrev Kh:=@Option.map_eq_some_iff
abbrev Ki:=@Nat.or_comm
abbrev Kj:=@Int.mul_neg
abbrev Kk:=@List.singleton_sublist
abbrev Kl:=@Int.dvd_trans
abbrev Km:=@Nat.min_eq_right
abbrev Kn:=@Nat.testBit_eq_decide_div_mod_eq
abbrev Ko:=@Ne.symm
abbrev Kp:=@List.length_replicate
abbrev Kq:=@PySem.W.methodCall_KW
abbrev Kr:=@PySem.F.slot_range_reversed
abbrev Ks:=@List.getElem?_eq_none
abbrev Kt:=@Nat.le_of_lt
abbrev Ku:=@PySem.wpAny_execs_nil
abbrev Kv:=@beq_iff_eq
abbrev Kw:=@PySem.Around.frames_deeper
abbrev Kx:=@Or.inl
abbrev Ky:=@List.range_eq_range'
abbrev Kz:=@Array.toArray_toList
abbrev KA:=@Bool.or_true
abbrev KC:=@Int.zero_mul
abbrev KD:=@Int.add_zero
abbrev KG:=@Int.pow_succ
abbrev KH:=@List.mem_of_mem_drop
abbrev KI:=@List.eq_nil_iff_forall_not_mem
abbrev KJ:=@List.filterMap_cons
abbrev KL:=@PySem.W.plainGet_of
abbrev KN:=@Int.natAbs_mul
abbrev KO:=@or_congr_right
abbrev KP:=@PySem.wpAny_of_eq
abbrev KQ:=@Int.mul_add
abbrev KR:=@Int.sub_mul
abbrev KS:=@Nat.pos_of_ne_zero
abbrev KU:=@List.append_of_mem
abbrev KW:=@Int.ofNat_dvd_left
abbrev KY:=@Nat.testBit_two_pow_mul_add
abbrev KZ:=@Nat.and_one_is_mod
abbrev K0:=@Int.fdiv_eq_ediv_of_nonneg
abbrev K1:=@List.all_cons
abbrev K2:=@PySem.slot_list_getitem
abbrev K3:=@List.reverse_cons
abbrev K4:=@Bool.not_eq_true'
abbrev K5:=@Int.eq_of_mul_eq_mul_left
abbrev K6:=@Nat.ne_of_gt
abbrev K7:=@List.cons_append
abbrev K8:=@List.getElem_map
abbrev K9:=@Int.mul_zero
abbrev La:=@Int.pow_zero
abbrev Lb:=@Nat.sub_self
abbrev Lc:=@Nat.testBit_zero
abbrev Ld:=@List.getElem?_replicate
abbrev Le:=@Nat.add_sub_cancel_left
abbrev Lf:=@List.filter_cons_of_pos
abbrev Lg:=@List.of_mem_zip
abbrev Lh:=@List.length_nil
abbrev Li:=@Int.mul_eq_zero
abbrev Lj:=@Nat.le_succ
abbrev Lk:=@Nat.pow_add
abbrev Lm:=@Nat.zero_or
abbrev Ln:=@Int.dvd_add
abbrev Lo:=@Int.mul_sub
abbrev Lp:=@if_true
abbrev Lq:=@PySem.boot_len
abbrev Lr:=@Nat.mod_lt
abbrev Ls:=@Nat.mul_assoc
abbrev Lu:=@Bool.and_comm
namespace L2
open PySem PySem.Spec PyProof.Rows
abbrev Key:=Sum Int Str
def nK:Key->Value->Bool
 | .inl k,v=>Value.isInt k v
 | .inr x,v=>Value.isStrOf x v
def FT(w:World):Key->Int
 | .inl k=>hashInt k
 | .inr x=>hashStr w x
theorem bG:∀ {k:Key} {v:Value},nK k v=true->(∃i t,k=Sum.inl i/\v=Value.int i t)\/(∃x t,k=Sum.inr x/\v=Value.str x t)
 | .inl i,v,h=>by obtain⟨t,e⟩:=Value.isInt_shape (k:=i) (v:=v) h;exact .inl ⟨i,t,rfl,e⟩
 | .inr x,v,h=>by obtain⟨t,e⟩:=Value.isStrOf_shape (x:=x) (v:=v) h;exact .inr ⟨x,t,rfl,e⟩
theorem yJ(i:Int)(t:Tok):nK (.inl i) (.int i t)=true:=by simp[nK,Value.isInt]
theorem yI(x:Str)(t:Tok):nK (.inr x) (.str x t)=true:=by simp[nK,Value.isStrOf]
theorem vi(a b:Int):decide ((Sum.inl a:Key)=Sum.inl b)=(a==b):=by
 by_cases e:a=b
 .subst e;simp
 .have h:¬(Sum.inl a:Key)=Sum.inl b:=λq=>e (Sum.inl.inj q);rw[F4 h];exact(JA.mpr e).symm
theorem EJ(a b:Str):decide ((Sum.inr a:Key)=Sum.inr b)=decide (a=b):=by
 by_cases e:a=b
 .subst e;simp
 .have h:¬(Sum.inr a:Key)=Sum.inr b:=λq=>e (Sum.inr.inj q);rw[F4 h,F4 e]
theorem EL(a:Int)(b:Str):decide ((Sum.inl a:Key)=Sum.inr b)=false:=F4 (λq=>nomatch q)
theorem EK(a:Str)(b:Int):decide ((Sum.inr a:Key)=Sum.inl b)=false:=F4 (λq=>nomatch q)
def cw(prog:Program)(w:World):PySem.KeyKind prog w Key where
 is:=nK
 hash:=FT w
 inj:=λv a b ha hb=>by
  rcases bG ha with ⟨i,t,rfl,rfl⟩|⟨x,t,rfl,rfl⟩
  .rcases bG hb with ⟨j,u,rfl,e⟩|⟨y,u,rfl,e⟩
   .injection e with e1 _;rw[e1]
   .exact nomatch e
  .rcases bG hb with ⟨j,u,rfl,e⟩|⟨y,u,rfl,e⟩
   .exact nomatch e
   .injection e with e1 _;rw[e1]
 byValue:=λk v h=>by rcases bG h with ⟨i,t,rfl,rfl⟩|⟨x,t,rfl,rfl⟩<;>rfl
 pyHash:=λhv h=>by
  rcases bG hv with ⟨i,t,rfl,rfl⟩|⟨x,t,rfl,rfl⟩
  .exact wpAny_pyHash_int h
  .exact wpAny_pyHash_str h
 eqBool:=λhu hv h=>by
  rcases bG hu with ⟨i,t,rfl,rfl⟩|⟨x,t,rfl,rfl⟩
  .rcases bG hv with ⟨j,u,rfl,rfl⟩|⟨y,u,rfl,rfl⟩
   .rw[vi]at h;exact wpAny_eqBool_int h
   .rw[EL]at h;exact SeqAt.EqAt.int_str i t y u _ _ _ _ h
  .rcases bG hv with ⟨j,u,rfl,rfl⟩|⟨y,u,rfl,rfl⟩
   .rw[EK]at h;exact SeqAt.EqAt.str_int x t j u _ _ _ _ h
   .rw[EJ]at h;exact wpAny_eqBool_str h
 «strs»:=λk x t v h=>by
  rcases bG h with ⟨i,u,rfl,e⟩|⟨y,u,rfl,e⟩
  .exact nomatch e
  .injection e with e1 _
   subst e1;cases v<;>rfl
theorem tj(prog:Program)(w:World)(i:Int)(t:Tok):(cw prog w).is (.inl i) (.int i t)=true:=yJ i t
theorem tf(prog:Program)(w:World)(x:Str)(t:Tok):(cw prog w).is (.inr x) (.str x t)=true:=yI x t
end L2
namespace L2
open PySem PySem.Spec PyProof.Rows
inductive V where
 |non|bl (b:Bool)|int (i:Int)|str (x:Str)|byt (b:Array UInt8)|flt (b:UInt64)|ref (a:Addr)|ty (n:String)
 deriving DecidableEq
def a9:V->Value->Prop
 | .non,u=>u=Value.none
 | .bl b,u=>u=Value.bool b
 | .int i,u=>∃t,u=Value.int i t
 | .str x,u=>∃t,u=Value.str x t
 | .byt b,u=>∃t,u=Value.bytes b t
 | .flt b,u=>∃t,u=Value.float b t
 | .ref a,u=>u=Value.ref a
 | .ty n,u=>u=Value.type n
abbrev Vals:List V->List Value->Prop:=Paired a9
theorem Vals.length{xs:List V}{us:List Value}(r:Vals xs us):xs.length=us.length:=JT r
theorem Vals.get:∀ {xs:List V} {us:List Value} {i:Nat} {x:V},Vals xs us->xs[i]?=some x->∃u,us[i]?=some u/\a9 x u
 |_,_,_,_, .nil,e=>by simp at e
 |_,_,0,_, .cons r _,e=>by simp at e;subst e;exact⟨_,rfl,r⟩
 |_,_,i+1,x, .cons _ t,e=>by obtain⟨u,h1,h2⟩:=Vals.get (i:=i) (x:=x) t (by simpa using e);exact⟨u,by simpa using h1,h2⟩
theorem Vals.set(r:a9 x u):∀ {xs:List V} {us:List Value} (i:Nat),Vals xs us->Vals (xs.set i x) (us.set i u)
 |_,_,_, .nil=> .nil
 |_,_,0, .cons _ t=> .cons r t
 |_,_,i+1, .cons q t=> .cons q (Vals.set r i t)
theorem Vals.append:∀ {xs ys:List V} {us ws:List Value},Vals xs us->Vals ys ws->Vals (xs++ys) (us++ws)
 |_,_,_,_, .nil,s=>s
 |_,_,_,_, .cons r t,s=> .cons r (Vals.append t s)
theorem Vals.take:∀ {xs:List V} {us:List Value} (n:Nat),Vals xs us->Vals (xs.take n) (us.take n)
 |_,_,0,_=> .nil
 |_,_,_+1, .nil=> .nil
 |_,_,n+1, .cons r t=> .cons r (Vals.take n t)
theorem Vals.drop:∀ {xs:List V} {us:List Value} (n:Nat),Vals xs us->Vals (xs.drop n) (us.drop n)
 |_,_,0,r=>r
 |_,_,_+1, .nil=> .nil
 |_,_,n+1, .cons _ t=>Vals.drop n t
def gU:Option V->Option Value->Prop
 |some v,some u=>a9 v u
 |none,none=>True
 |_,_=>False
def KV{κ:Type}:List (κ×V)->List (κ×Value)->Prop:=Paired λ(p:κ×V) (q:κ×Value)=>p.1=q.1/\a9 p.2 q.2
def kV:Key->V
 | .inl i=> .int i
 | .inr x=> .str x
inductive HO where
 |lst (xs:List V)
 |tup (xs:List V)
 |dK (kvs:List (Key×V))|dT (kvs:List (List Key×V))
 |set (S:Int->Bool) (n:Nat)
 |ins (C dx:Addr) (fs:List (Str×V))
 |own (x:Addr)
 |xd (fs:List (Str×V))
 |met (f x:Addr)
 |rng (lo hi:Int)
 |frz (o:Obj) (u:HO)
 |tbl (ps:Array Value)
 |ext (φ:Heap->Prop)
abbrev Hp:=Addr->Option HO
def upd(H:Hp)(a:Addr)(o:HO):Hp:=λb=>if b=a then some o else H b
theorem aj:upd H a o a=some o:=by unfold upd;rw[F7 rfl]
theorem av(h:b≠a):upd H a o b=H b:=by unfold upd;rw[F8 h]
theorem iL:upd (upd H a o) a u=upd H a u:=by funext b;unfold upd;split<;>rfl
theorem gr{H:Hp}(h:H a=some o)(h':H b=some u)(d:o≠u):a≠b:=by intro e;subst e;rw[h]at h';exact d (GY h')
theorem az{H:Hp}(h:H a=some o)(h':H b=none):a≠b:=by intro e;subst e;rw[h]at h';cases h'
section
variable(P:Program)(w:World)
def bC(H:Hp)(h:Heap)(a:Addr):HO->Prop
 | .lst xs=>xs.length<=sizeLine/\∃ (its:List Value) (n:Nat),Vals xs its/\h.get? a=some {cls:= .type "list",data:= .seq its.toArray n}
 | .tup xs=>xs.length<=sizeLine/\∃its:List Value,Vals xs its/\IsTup h a its.toArray
 | .dK kvs=>kvs.length<=sizeLine/\(a==sysModules)=false/\∃vs,KV kvs vs/\h.DictOf (cw P w) a vs
 | .dT kvs=>kvs.length<=sizeLine/\(a==sysModules)=false/\∃xs:List (List Key×Addr×Value),
   Paired (λ(p:List Key×V) (q:List Key×Addr×Value)=>p.1=q.1/\H q.2.1=some (.tup (p.1.map kV))/\a9 p.2 q.2.2) kvs xs/\
   ∃o es ep,h.get? a=some o/\o.ExactDict/\o.data= .dict es ep/\es.toList=xs.map (entryOfKey (tupleKind (cw P w)))/\(xs.map (·.1)).Nodup
 | .set S n=>h.SetOf (intKind P w) a S n
 | .ins C dx fs=>H dx=some (.own a)/\fs.length<=1000/\dx≠a/\h.get? a=some (instObj C dx)/\
   ∃mA,h.Ns1 dx mA/\(∀f,gU (fs.lookup f) (mA f))/\PySem.Within mA (fs.map (·.1))
 | .own _=>∃o,h.get? a=some o
 | .xd fs=>∃mA,h.Ns1 a mA/\∀f,gU (fs.lookup f) (mA f)
 | .rng lo hi=>∃t u v,h.get? a=some {cls:= .type "range",data:= .fields #[.int lo t, .int hi u, .int 1 v]}
 | .frz o u=>h.get? a=some o/\bC H h a u
 | .tbl ps=>h.get? a=some {cls:= .none,data:= .fields ps}
 | .met f x=>h.get? a=some (methodObj (.ref f) (.ref x))
 | .ext φ=>φ h/\(∃o,h.get? a=some o)/\∀h1 h2:Heap,φ h1->(∀o,h1.get? a=some o->h2.get? a=some o)->φ h2
def HOk(H:Hp)(h:Heap):Prop:=∀a o,H a=some o->bC P w H h a o
end
section
variable{P:Program}{w:World}{H H':Hp}{h h':Heap}{a:Addr}{o:HO}
theorem bC.lt(x:bC P w H h a o):a<h.objs.size:=by
 cases o with
 |lst xs=>obtain⟨_,_,_,_,e⟩:=x;exact GG e
 |tup xs=>obtain⟨_,_,_,p⟩:=x;exact p.lt
 |dK kvs=>obtain⟨_,_,_,_,o,_,_,e,_⟩:=x;exact GG e
 |dT kvs=>obtain⟨_,_,_,_,o,_,_,e,_⟩:=x;exact GG e
 |set S n=>obtain⟨o,_,_,_,e,_⟩:=x;exact GG e
 |ins C dx fs=>obtain⟨_,_,_,e,_⟩:=x;exact GG e
 |own y=>obtain⟨_,e⟩:=x;exact GG e
 |xd fs=>obtain⟨_,⟨_,_,_,e,_⟩,_⟩:=x;exact GG e
 |rng lo hi=>obtain⟨_,_,_,e⟩:=x;exact GG e
 |frz ob u=>obtain⟨e,_⟩:=x;exact GG e
 |tbl ps=>exact GG (show h.get? a=some _ from x)
 |met f y=>exact GG (show h.get? a=some _ from x)
 |ext φ=>obtain⟨_,⟨_,e⟩,_⟩:=x;exact GG e
theorem Paired.mapP:∀ {l₁:List α} {l₂:List β},Paired F l₁ l₂->(∀a b,F a b->G a b)->Paired G l₁ l₂
 |_,_, .nil,_=> .nil
 |_,_, .cons r t,f=> .cons (f _ _ r) (Paired.mapP t f)
theorem bC.stay(x:bC P w H h a o)(k:∀b u,(b=a\/H b=some (.own a))->h.get? b=some u->h'.get? b=some u)
  (ho:∀b,H b=some (.own a)->H' b=some (.own a)) (ht:∀b xs,H b=some (.tup xs)->H' b=some (.tup xs)):bC P w H' h' a o:=by
 induction o with
 |lst xs=>obtain⟨z,its,n,r,e⟩:=x;exact⟨z,its,n,r,k _ _ (.inl rfl) e⟩
 |tup xs=>obtain⟨z,its,r,ob,e,c⟩:=x;exact⟨z,its,r,ob,k _ _ (.inl rfl) e,c⟩
 |dK kvs=>obtain⟨z,y,vs,r,ob,es,ep,e,c⟩:=x;exact⟨z,y,vs,r,ob,es,ep,k _ _ (.inl rfl) e,c⟩
 |dT kvs=>
  obtain⟨z,y,xs,r,ob,es,ep,e,c⟩:=x;exact⟨z,y,xs,Paired.mapP r λp q z=>⟨z.1,ht _ _ z.2.1,z.2.2⟩,ob,es,ep,k _ _ (.inl rfl) e,c⟩
 |set S n=>obtain⟨ob,es,ep,t,e,c⟩:=x;exact⟨ob,es,ep,t,k _ _ (.inl rfl) e,c⟩
 |ins C dx fs=>
  obtain⟨d,z,ne,e,mA,⟨od,es,ep,e2,c⟩,r⟩:=x;exact⟨ho _ d,z,ne,k _ _ (.inl rfl) e,mA,⟨od,es,ep,k _ _ (.inr d) e2,c⟩,r⟩
 |own y=>obtain⟨ob,e⟩:=x;exact⟨ob,k _ _ (.inl rfl) e⟩
 |xd fs=>obtain⟨mA,⟨od,es,ep,e,c⟩,r⟩:=x;exact⟨mA,⟨od,es,ep,k _ _ (.inl rfl) e,c⟩,r⟩
 |rng lo hi=>obtain⟨t,u,v,e⟩:=x;exact⟨t,u,v,k _ _ (.inl rfl) e⟩
 |frz ob u ih=>obtain⟨e,q⟩:=x;exact⟨k _ _ (.inl rfl) e,ih q⟩
 |tbl ps=>
  have e:h.get? a=some {cls:= .none,data:= .fields ps}:=x;show h'.get? a=some {cls:= .none,data:= .fields ps};exact k a _ (.inl rfl) e
 |met f y=>
  have e:h.get? a=some (methodObj (.ref f) (.ref y)):=x;show h'.get? a=some (methodObj (.ref f) (.ref y));exact k a _ (.inl rfl) e
 |ext φ=>obtain⟨p,⟨o,e⟩,st⟩:=x;exact⟨st _ _ p λo q=>k _ _ (.inl rfl) q,⟨o,k _ _ (.inl rfl) e⟩,st⟩
theorem HOk.lt(x:HOk P w H h)(e:H a=some o):a<h.objs.size:=(x a o e).lt
theorem HOk.fresh(x:HOk P w H h)(e:h.objs.size<=a):H a=none:=by
 cases q:H a with
 |none=>rfl
 |some u=>exact absurd (F9 (x.lt q) e) (IA _)
theorem HOk.kept(x:HOk P w H h)(k:∀b u,h.get? b=some u->h'.get? b=some u):HOk P w H h':=λa o e=>
 (x a o e).stay (λb u _ q=>k b u q) (λ_ q=>q) λ_ _ q=>q
theorem HOk.laid(x:HOk P w H h)(k:∀b u,h.get? b=some u->h'.get? b=some u)(hp:h.objs.size<=a)(new:bC P w (upd H a o) h' a o):HOk P w (upd H a o) h':=λb u e=>by
 have hn:=x.fresh hp;by_cases hb:b=a
 .subst hb;rw[aj]at e;cases e;exact new
 .rw[av hb]at e;exact(x b u e).stay (λc v _ q=>k c v q) (λc q=>by rw[av (az q hn)];exact q) λc xs q=>by rw[av (az q hn)];exact q
end
def Rd(H:Hp)(a:Addr)(u:HO):Prop:=H a=some u\/∃o,H a=some (.frz o u)
theorem Rd.of(h:H a=some u):Rd H a u:= .inl h
theorem Rd.ok(r:Rd H a u)(x:HOk P w H h):bC P w H h a u:=by
 rcases r with r|⟨o,r⟩
 .exact x a u r
 .obtain⟨_,q⟩:=x a _ r;exact q
def Mut:Option HO->Prop
 |some (.lst _)=>True
 |some (.dK _)=>True
 |some (.dT _)=>True
 |some (.set _ _)=>True
 |some (.ins _ _ _)=>True
 |some (.ext _)=>True
 |_=>False
section
variable{P:Program}{w:World}{H:Hp}{h h':Heap}{x e:Addr}{o':HO}
theorem HOk.write(ok:HOk P w H h)(mu:Mut (H x))(he:e=x\/H e=some (.own x))(k:∀b u,b≠e->h.get? b=some u->h'.get? b=some u)(heo:∃u,h'.get? e=some u)
  (new:bC P w (upd H x o') h' x o'):HOk P w (upd H x o') h':=λb u q=>by
 have nown:∀c y,H c=some (.own y)->c≠x:=λc y r z=>by subst z;rw[r]at mu;exact mu
 have ntup:∀c xs,H c=some (.tup xs)->c≠x:=λc xs r z=>by subst z;rw[r]at mu;exact mu
 by_cases hb:b=x
 .subst hb;rw[aj]at q;cases q;exact new
 .rw[av hb]at q;by_cases hbe:b=e
  .have q':H b=some (.own x):=by
    rcases he with z|z
    .exact absurd (hbe.trans z) hb
    .rw[hbe];exact z
   rw[q]at q';cases q';obtain⟨v,hv⟩:=heo;exact⟨v,by rw[hbe];exact hv⟩
  .refine(ok b u q).stay (λc v hc r=>k c v ?_ r) (λc r=>by rw[av (nown c b r)];exact r) λc xs r=>by rw[av (ntup c xs r)];exact r
   rcases hc with rfl|hc
   .exact hbe
   .rintro rfl;rcases he with z|z
    .exact nown c b hc z
    .rw[hc]at z;cases z;exact hb rfl
end
structure Un(fs ex:List Addr)(H H':Hp)(h h':Heap):Prop where
 keep:∀b o,h.get? b=some o->H b=none->b∉fs->b∉ex->h'.get? b=some o
 slot:∀b o,h.get? b=some o->H b=none->b∈fs->b∉ex->∃sl,h'.get? b=some {o with slots:=sl}
 free:∀b o,h.get? b=some o->H b=none->b∉ex->H' b=none
 there:∀b o,h.get? b=some o->b∉ex->∃o',h'.get? b=some o'
 tups:∀b xs,H b=some (.tup xs)->H' b=some (.tup xs)
 frzs:∀b o u,H b=some (.frz o u)->H' b=some (.frz o u)
 tbls:∀b ps,H b=some (.tbl ps)->∃more,H' b=some (.tbl (ps++more))
section
variable{fs fs' ex ex':List Addr}{H H1 H2:Hp}{h h1 h2 h':Heap}{a x e:Addr}{o:HO}
theorem Un.any(u:Un fs ex H H1 h h1)(q:h.get? b=some ob)(n:H b=none)(hx:b∉ex):∃sl,h1.get? b=some {ob with slots:=sl}:=by
 by_cases hb:b∈fs
 .exact u.slot b ob q n hb hx
 .exact⟨ob.slots,u.keep b ob q n hb hx⟩
theorem Un.trans(a:Un fs ex H H1 h h1)(b:Un fs ex H1 H2 h1 h2):Un fs ex H H2 h h2 where
 keep:=λc ob q n hc hx=>b.keep c ob (a.keep c ob q n hc hx) (a.free c ob q n hx) hc hx
 slot:=λc ob q n hc hx=>by obtain⟨sl,e1⟩:=a.slot c ob q n hc hx;obtain⟨sl',e2⟩:=b.slot c _ e1 (a.free c ob q n hx) hc hx;exact⟨sl',e2⟩
 free:=λc ob q n hx=>by obtain⟨o',e1⟩:=a.there c ob q hx;exact b.free c o' e1 (a.free c ob q n hx) hx
 there:=λc ob q hx=>by obtain⟨o',e1⟩:=a.there c ob q hx;exact b.there c o' e1 hx
 tups:=λc xs q=>b.tups c xs (a.tups c xs q)
 frzs:=λc ob xs q=>b.frzs c ob xs (a.frzs c ob xs q)
 tbls:=λc ps q=>by obtain⟨m1,e1⟩:=a.tbls c ps q;obtain⟨m2,e2⟩:=b.tbls c _ e1;exact⟨m1++m2,by rw[e2,Array.append_assoc]⟩
theorem Un.kept(k:∀b u,h.get? b=some u->h'.get? b=some u):Un fs ex H H h h':=
 ⟨λb ob q _ _ _=>k b ob q,λb ob q _ _ _=>⟨ob.slots,k b ob q⟩,λ_ _ _ n _=>n,λb ob q _=>⟨ob,k b ob q⟩,λ_ _ q=>q,λ_ _ _ q=>q,λ_ ps q=>⟨#[],by rw[q];simp⟩⟩
theorem Un.refl:Un fs ex H H h h:=Un.kept λ_ _ q=>q
theorem Un.laid(k:∀b u,h.get? b=some u->h'.get? b=some u)(hp:h.objs.size<=a)(hn:H a=none):Un fs ex H (upd H a o) h h' where
 keep:=λb u q _ _ _=>k b u q
 slot:=λb u q _ _ _=>⟨u.slots,k b u q⟩
 free:=λb u q n _=>by rw[av (GZ (F9 (GG q) hp))];exact n
 there:=λb u q _=>⟨u,k b u q⟩
 tups:=λb xs q=>by rw[av (az q hn)];exact q
 frzs:=λb u xs q=>by rw[av (az q hn)];exact q
 tbls:=λb ps q=>⟨#[],by rw[av (az q hn),q];simp⟩
theorem Un.write(mu:Mut (H x))(he:e=x\/H e=some (.own x))(k:∀b u,b≠e->h.get? b=some u->h'.get? b=some u)(heo:∃u,h'.get? e=some u):Un fs ex H (upd H x o) h h':=by
 have hx:∀b,H b=none->b≠x:=λb n z=>by subst z;rw[n]at mu;exact mu
 have hb:∀b,H b=none->b≠e:=λb n z=>by
  subst z;rcases he with r|r
  .exact hx b n r
  .rw[n]at r;cases r
 have hm:∀b u,H b=some u->¬Mut (some u)->b≠x:=λb u q nm z=>by subst z;rw[q]at mu;exact nm mu
 refine⟨λb u q n _ _=>k b u (hb b n) q,λb u q n _ _=>⟨u.slots,k b u (hb b n) q⟩,λb u q n _=>by rw[av (hx b n)];exact n,λb u q _=> ?_,
  λb xs q=>by rw[av (hm b _ q λz=>z)];exact q,λb u xs q=>by rw[av (hm b _ q λz=>z)];exact q,λb ps q=>⟨#[],by rw[av (hm b _ q λz=>z),q];simp⟩⟩
 by_cases hbe:b=e
 .subst hbe;exact heo
 .exact⟨u,k b u hbe q⟩
theorem Un.mono(u:Un fs ex H H1 h h1)(hs:∀b∈fs,b∈fs')(hx:∀b∈ex,b∈ex'):Un fs' ex' H H1 h h1:=
 ⟨λb ob q n hb he=>u.keep b ob q n (λz=>hb (hs b z)) λz=>he (hx b z),λ_ _ q n _ he=>u.any q n λz=>he (hx _ z),λb ob q n he=>u.free b ob q n λz=>he (hx b z),λb ob q he=>u.there b ob q λz=>he (hx b z),u.tups,u.frzs,u.tbls⟩
end
def trk(h:Heap)(H:Hp):List Addr:=(List.range h.objs.size).filter λa=>(H a).isSome
def qX(h:Heap)(H:Hp):Heap:=PySem.W.hideAll h (trk h H)
theorem yM(h:Heap)(H:Hp):(qX h H).objs.size=h.objs.size:=PySem.W.hideAll_size _ _
theorem Bz{h:Heap}(e:h.get? b=some o)(n:H b=none):(qX h H).get? b=some o:=
 PySem.W.hideAll_get _ e λhm=>by have q:(H b).isSome=true:=(GN.mp hm).2;rw[n]at q;simp at q
theorem CW{h:Heap}(e:(qX h H).get? b=some o):h.get? b=some o/\H b=none:=by
 have e':h.get? b=some o:=PySem.W.of_hideAll (trk h H) e;refine⟨e',?_⟩;cases q:H b with
 |none=>rfl
 |some x=>
  have hm:b∈trk h H:=GN.mpr ⟨Gk.mpr (GG e'),by simp[q]⟩;have z:(qX h H).get? b=none:=PySem.W.hideAll_none (trk h H) hm;rw[z]at e;cases e
def Dv(g h:Heap)(L:Addr):List (Addr×Obj):=(List.range h.objs.size).filterMap λa=>if a=L\/(g.get? a).isSome=true then none else(h.get? a).map λo=>(a,o)
def rest(g h:Heap)(L d:Addr):List (Addr×Obj):=(Dv g h L).filter λp=>decide (p.1≠d)
end L2
namespace L2
open PySem PySem.Spec PyProof.Rows
structure Mod(K:PySem.W.Frag)(mg:Str->Option Value)(base:Heap):Prop where
 kin:K.In base
 glob:base.Ns mainGlobals mg
 blt:∃mb,base.Ns builtinsNs mb/\∀x:Str,x≠ "__name__"->mb x=bootBuiltins x
 nolimit:base.NoLimit
structure Cx where
 prog:Program
 w:World
 K:PySem.W.Frag
 mg:Str->Option Value
 base:Heap
 A:Around
 N:List Str
 s₀:Shared
 H₀:Hp
 env:Env
 outer:List Env
 stack:List Env
 ex:List Addr
 fn:Str->Bool
 calm:Bool
 pn:List (Addr×Obj)
 xe:Value->Shared->Prop
def frs(l:List Env):List Addr:=l.filterMap (·.frame)
abbrev Cx.fs(X:Cx):List Addr:=frs X.outer
def Vis(sc:Scope)(x:Str):Prop:=sc.names.lookup x=some .local\/sc.names.lookup x=some .cell\/sc.names.lookup x=some .free
def Loc(sc:Scope)(x:Str):Prop:=sc.names.lookup x=some .local\/sc.names.lookup x=some .cell
def Look(env:Env)(h:Heap)(m:Str->Option Value)(x:Str)(u:Value):Prop:=
 (env.kindOf x=some .local/\m x=some u)\/((env.kindOf x=some .cell\/env.kindOf x=some .free)/\∃c,env.cells.lookup x=some c/\h.IsCell c (some u))
structure Cx.Ok(X:Cx):Prop where
 mod:Mod X.K X.mg X.base
 kind:X.env.scope.kind= .function
 glob:X.env.globals=mainGlobals
 blt:X.env.builtins=builtinsNs
 above:X.s₀.heap.objs.size<=X.env.locals
 inj:∀x y c,X.env.cells.lookup x=some c->X.env.cells.lookup y=some c->x=y
 has:∀x,(X.env.kindOf x=some .cell\/X.env.kindOf x=some .free)->∃c,X.env.cells.lookup x=some c
 cab:∀x c,X.fn x=true->X.env.cells.lookup x=some c->X.s₀.heap.objs.size<=c
 hd:X.calm=true->X.A.handled=none
 frames:X.A.frames=some X.stack
 stk:X.stack=X.outer\/(X.stack=X.env::X.outer/\X.env.frame=some X.env.locals)
 exf:∀b∈X.ex,b≠X.env.locals/\∀x c,X.env.cells.lookup x=some c->c≠b
 bs:∀b o,X.base.get? b=some o->X.s₀.heap.get? b=some o/\X.H₀ b=none
 bsz:X.base.objs.size<=X.s₀.heap.objs.size
 noex:∀b o,X.base.get? b=some o->b∉X.ex
 exfs:∀b∈X.ex,b∉X.fs
 funs:X.s₀.heap.FunFrames X.base X.outer
 frf:∀b∈X.fs,X.H₀ b=none
structure Inv(X:Cx)(pins:List (Addr×Obj))(σ:List (Option V))(H:Hp)(s:Shared):Prop where
 ok:X.Ok
 os:s.os=X.s₀.os
 bare:AllBare s.gens
 base:Un X.fs X.ex X.H₀ H X.s₀.heap s.heap
 loc:∃m,s.heap.Ns X.env.locals m/\∀ (i:Nat) (x:Str) (v:V),X.N[i]?=some x->σ[i]?=some (some v)->Vis X.env.scope x->∃u,a9 v u/\Look X.env s.heap m x u
 cell:∀x c,X.env.cells.lookup x=some c->∃v,s.heap.IsCell c v
 free:H X.env.locals=none
 freeC:∀x c,X.env.cells.lookup x=some c->H c=none
 pin:∀p∈X.pn++pins,s.heap.get? p.1=some p.2/\H p.1=none/\p.1≠X.env.locals/\p.1∉X.fs/\∀v,p.2.data≠ .cell v
 hok:HOk X.prog X.w H s.heap
 len:σ.length=X.N.length
section
variable{X:Cx}{pins:List (Addr×Obj)}{σ:List (Option V)}{H H':Hp}{s:Shared}{h':Heap}
theorem Cx.Ok.nofr(ok:X.Ok)(e:X.base.get? b=some o):b∉X.fs:=λhb=>by have:=(ok.funs.mem hb).1;rw[e]at this;cases this
theorem Inv.bs(I:Inv X pins σ H s):∀b o,X.base.get? b=some o->s.heap.get? b=some o/\H b=none:=λb o e=>
 ⟨I.base.keep b o (I.ok.bs b o e).1 (I.ok.bs b o e).2 (I.ok.nofr e) (I.ok.noex b o e),I.base.free b o (I.ok.bs b o e).1 (I.ok.bs b o e).2 (I.ok.noex b o e)⟩
theorem Inv.bk(I:Inv X pins σ H s):∀b o,X.base.get? b=some o->s.heap.get? b=some o:=λb o e=>(I.bs b o e).1
theorem Inv.mod(I:Inv X pins σ H s):Mod X.K X.mg X.base:=I.ok.mod
theorem Inv.kIn(I:Inv X pins σ H s):X.K.In s.heap:=I.ok.mod.kin.keeps I.bk
theorem Inv.nolimit(I:Inv X pins σ H s):s.heap.NoLimit:=I.ok.mod.nolimit.keeps I.bk
theorem Inv.fr(I:Inv X pins σ H s):∃m,Fr X.base X.env.locals s.heap m:=
 let⟨m,hn,_⟩:=I.loc
 ⟨m,hn,I.bk,Gd I.ok.bsz I.ok.above⟩
theorem Inv.lt(I:Inv X pins σ H s):X.env.locals<s.heap.objs.size:=let⟨_,hn,_⟩:=I.loc;hn.lt
theorem Inv.sz(I:Inv X pins σ H s):X.s₀.heap.objs.size<=s.heap.objs.size:=Gd I.ok.above (Kt I.lt)
theorem Inv.nofs(I:Inv X pins σ H s){a:Addr}(h:s.heap.objs.size<=a):a∉X.fs:=λhb=>by obtain⟨_,o,ho,_⟩:=I.ok.funs.mem hb;exact absurd (F9 (GG ho) (Gd I.sz h)) (IA _)
theorem Inv.cne(I:Inv X pins σ H s):∀x c,X.env.cells.lookup x=some c->c≠X.env.locals:=λx c e z=>by obtain⟨v,o,ho,hd⟩:=I.cell x c e;obtain⟨m,⟨o',es,ep,ho',hd',_⟩,_⟩:=I.loc;rw[z,ho']at ho;cases ho;rw[hd']at hd;cases hd
theorem Inv.funs(I:Inv X pins σ H s):s.heap.FunFrames X.base X.outer:=by
 have all:∀ (l:List Env),(∀b∈frs l,b∈X.fs)->X.s₀.heap.FunFrames X.base l->s.heap.FunFrames X.base l:=by
  intro l
  induction l with
  |nil=>intro _ _;trivial
  |cons env r ih=>
   intro hs hl;obtain⟨hk,⟨L,o,hf,hn,ho,hd⟩,hr⟩:=hl;have hL:L∈X.fs:=hs L (by unfold frs;rw[KJ,hf];exact Gn);obtain⟨sl,e⟩:=I.base.slot L o ho (I.ok.frf L hL) hL λz=>I.ok.exfs L z hL;exact⟨hk,⟨L,_,hf,hn,e,hd⟩,ih (λb hb=>hs b (by unfold frs;rw[KJ,hf];exact Gm _ hb)) hr⟩
 exact all X.outer (λ_ hb=>hb) I.ok.funs
theorem Inv.stack(I:Inv X pins σ H s):s.heap.FunFrames X.base X.stack:=by
 rcases I.ok.stk with e|⟨e,hf⟩
 .rw[e];exact I.funs
 .rw[e];obtain⟨m,hn,_⟩:=I.loc;refine .cons (by rw[I.ok.kind];decide) hf hn ?_ I.funs;exact Heap.get?_none_of_le (Gd I.ok.bsz I.ok.above)
theorem Inv.stkSub(I:Inv X pins σ H s):∀b∈frs X.stack,b∈X.env.locals::X.fs:=λb hb=>by
 rcases I.ok.stk with e|⟨e,hf⟩
 .rw[e]at hb;exact Gm _ hb
 .rw[e]at hb;unfold frs at hb;rw[KJ,hf]at hb;exact hb
theorem Inv.stkFree(I:Inv X pins σ H s):∀b∈frs X.stack,H b=none:=λb hb=>by
 rcases Gh.mp (I.stkSub b hb)with e|hb
 .rw[e];exact I.free
 .obtain⟨_,o,ho,_⟩:=I.ok.funs.mem hb;exact I.base.free b o ho (I.ok.frf b hb) λz=>I.ok.exfs b z hb
theorem Inv.step{ch:List Addr}(I:Inv X pins σ H s)
  (hch:∀b∈ch,(b∈X.ex\/X.s₀.heap.objs.size<=b)/\b≠X.env.locals/\(∀x c,X.env.cells.lookup x=some c->c≠b)/\∀p∈X.pn++pins,p.1≠b)
  (keep:∀b o,b≠X.env.locals->b∉X.fs->b∉ch->s.heap.get? b=some o->H b=none->h'.get? b=some o)
  (slot:∀b o,b≠X.env.locals->b∈X.fs->b∉ch->s.heap.get? b=some o->H b=none->∃sl,h'.get? b=some {o with slots:=sl}) (free:∀b o,b∉ch->s.heap.get? b=some o->H b=none->H' b=none)
  (there:∀b o,b∉ch->s.heap.get? b=some o->∃o',h'.get? b=some o')
  (tups:∀b xs,H b=some (.tup xs)->H' b=some (.tup xs)) (frzs:∀b o u,H b=some (.frz o u)->H' b=some (.frz o u)) (tbls:∀b ps,H b=some (.tbl ps)->∃more,H' b=some (.tbl (ps++more)))
  (ns:∀m,s.heap.Ns X.env.locals m->h'.Ns X.env.locals m) (hok:HOk X.prog X.w H' h') (hg:AllBare g'):
  Inv X pins σ H' {s with heap:=h',gens:=g',drawn:=d',toks:=t'}:=by
 have neL:∀b o,X.s₀.heap.get? b=some o->b≠X.env.locals:=λb o e=>GZ (F9 (GG e) I.ok.above);have neC:∀b o,X.s₀.heap.get? b=some o->b∉X.ex->b∉ch:=λb o e hx hb=>by
  rcases(hch b hb).1 with z|z
  .exact hx z
  .exact absurd (F9 (GG e) z) (IA _)
 have cellK:∀x c,X.env.cells.lookup x=some c->∀v,s.heap.IsCell c v->h'.IsCell c v:=λx c e v ⟨o,ho,hd⟩=>by
  have nch:c∉ch:=λz=>(hch c z).2.2.1 x c e rfl;by_cases hc:c∈X.fs
  .obtain⟨sl,q⟩:=slot c o (I.cne x c e) hc nch ho (I.freeC x c e);exact⟨_,q,hd⟩
  .exact⟨o,keep c o (I.cne x c e) hc nch ho (I.freeC x c e),hd⟩
 refine⟨I.ok,I.os,hg,⟨λb o e n hb hx=> ?_,λb o e n hb hx=> ?_,λb o e n hx=> ?_,λb o e hx=> ?_,λb xs e=>tups b xs (I.base.tups b xs e),λb o xs e=>frzs b o xs (I.base.frzs b o xs e),λb ps e=> ?_⟩,?_,λx c e=> ?_,?_,λx c e=> ?_,λp hp=> ?_,hok,I.len⟩
 .exact keep b o (neL b o e) hb (neC b o e hx) (I.base.keep b o e n hb hx) (I.base.free b o e n hx)
 .obtain⟨sl,e1⟩:=I.base.slot b o e n hb hx;obtain⟨sl',e2⟩:=slot b _ (neL b o e) hb (neC b o e hx) e1 (I.base.free b o e n hx);exact⟨sl',e2⟩
 .obtain⟨o',e1⟩:=I.base.there b o e hx;exact free b o' (neC b o e hx) e1 (I.base.free b o e n hx)
 .obtain⟨o',e1⟩:=I.base.there b o e hx;exact there b o' (neC b o e hx) e1
 .obtain⟨m1,e1⟩:=I.base.tbls b ps e;obtain⟨m2,e2⟩:=tbls b _ e1;exact⟨m1++m2,by rw[e2,Array.append_assoc]⟩
 .obtain⟨m,hn,hl⟩:=I.loc;refine⟨m,ns m hn,λi x v e1 e2 e3=> ?_⟩;obtain⟨u,r,l⟩:=hl i x v e1 e2 e3;refine⟨u,r,?_⟩;rcases l with l|⟨k,c,e,z⟩
  .exact .inl l
  .exact .inr ⟨k,c,e,cellK x c e _ z⟩
 .obtain⟨v,z⟩:=I.cell x c e;exact⟨v,cellK x c e v z⟩
 .obtain⟨m,⟨o,_,_,ho,_⟩,_⟩:=I.loc;exact free _ o (λz=>(hch _ z).2.1 rfl) ho I.free
 .obtain⟨v,o,ho,hd⟩:=I.cell x c e;exact free c o (λz=>(hch c z).2.2.1 x c e rfl) ho (I.freeC x c e)
 .obtain⟨e,n,ne,nf,d⟩:=I.pin p hp;have nch:p.1∉ch:=λz=>(hch p.1 z).2.2.2 p hp rfl;exact⟨keep p.1 p.2 ne nf nch e n,free p.1 p.2 nch e n,ne,nf,d⟩
theorem Inv.un(I:Inv X pins σ H s)(u:Un X.fs [] H H' s.heap h')(hok:HOk X.prog X.w H' h'):Inv X pins σ H' {s with heap:=h',toks:=t'}:=by
 obtain⟨m,⟨o,es,ep,ho,r⟩,_⟩:=id I.loc;obtain⟨sl,hL⟩:=u.any ho I.free (by simp);exact I.step (g':=s.gens) (d':=s.drawn) (ch:=[]) (λ_ z=>nomatch z) (λb o _ hb _ e n=>u.keep b o e n hb (by simp)) (λb o _ hb _ e n=>u.slot b o e n hb (by simp)) (λb o _ e n=>u.free b o e n (by simp)) (λb o _ e=>u.there b o e (by simp)) u.tups u.frzs u.tbls (λm' hm=>by obtain⟨o',es',ep',ho',r'⟩:=hm;rw[ho]at ho';cases ho';exact⟨_,es',ep',hL,r'⟩) hok I.bare
theorem Inv.call(I:Inv X pins σ H s)(u:Un (frs X.stack) ch H H' s.heap h')(hok:HOk X.prog X.w H' h')(hg:AllBare g')
  (hch:∀b∈ch,(b∈X.ex\/X.s₀.heap.objs.size<=b)/\b≠X.env.locals/\(∀x c,X.env.cells.lookup x=some c->c≠b)/\∀p∈X.pn++pins,p.1≠b):
  Inv X pins σ H' {s with heap:=h',gens:=g',drawn:=d',toks:=t'}:=by
 obtain⟨m,⟨o,es,ep,ho,r⟩,_⟩:=id I.loc;obtain⟨sl,hL⟩:=u.any ho I.free λz=>(hch _ z).2.1 rfl;exact I.step (ch:=ch) hch (λb o hL hb hc e n=>u.keep b o e n (λz=>(Gh.mp (I.stkSub b z)).elim hL hb) hc) (λb o _ _ hc e n=>u.any e n hc) (λb o hc e n=>u.free b o e n hc) (λb o hc e=>u.there b o e hc) u.tups u.frzs u.tbls (λm' hm=>by obtain⟨o',es',ep',ho',r'⟩:=hm;rw[ho]at ho';cases ho';exact⟨_,es',ep',hL,r'⟩) hok hg
theorem Inv.turned(I:Inv X pins σ H s)(k:∀b o,b≠it->s.heap.get? b=some o->h'.get? b=some o)(hn:H it=none)(hL:it≠X.env.locals)
  (h1:it∈X.ex\/X.s₀.heap.objs.size<=it) (h2:∀x c,X.env.cells.lookup x=some c->c≠it) (h3:∀p∈X.pn++pins,p.1≠it):Inv X pins σ H {s with heap:=h',toks:=t'}:=by
 have nit:∀b u,H b=some u->b≠it:=λb u e z=>by rw[z,hn]at e;cases e
 refine I.step (g':=s.gens) (d':=s.drawn) (ch:=[it]) (λb hb=> ?_) (λb o _ _ hc e _=>k b o (λz=>hc (by simp[z])) e) (λb o _ _ hc e _=>⟨o.slots,k b o (λz=>hc (by simp[z])) e⟩) (λ_ _ _ _ n=>n)
  (λb o hc e=>⟨o,k b o (λz=>hc (by simp[z])) e⟩) (λ_ _ e=>e) (λ_ _ _ e=>e) (λb ps e=>⟨#[],by rw[e];simp⟩) (λm hm=> ?_) (λb u e=> ?_) I.bare
 .have e:b=it:=by simpa using hb
  subst e;exact⟨h1,hL,h2,h3⟩
 .obtain⟨o,es,ep,ho,r⟩:=hm;exact⟨o,es,ep,k _ o (Ko hL) ho,r⟩
 .refine(I.hok b u e).stay (λc v hc q=>k c v ?_ q) (λ_ q=>q) λ_ _ q=>q;rcases hc with z|z
  .rw[z];exact nit b u e
  .exact nit c _ z
theorem Inv.tok(I:Inv X pins σ H s)(t:Nat):Inv X pins σ H {s with toks:=t}:=I.un (h':=s.heap) (t':=t) Un.refl I.hok
theorem Inv.kept(I:Inv X pins σ H s)(k:∀b u,s.heap.get? b=some u->h'.get? b=some u):Inv X pins σ H {s with heap:=h',toks:=t'}:=I.un (Un.kept k) (I.hok.kept k)
theorem Inv.laid{a:Addr}(I:Inv X pins σ H s)(k:∀b u,s.heap.get? b=some u->h'.get? b=some u)(hp:s.heap.objs.size<=a)(new:bC X.prog X.w (upd H a o) h' a o):
  Inv X pins σ (upd H a o) {s with heap:=h',toks:=t'}:=I.un (Un.laid k hp (I.hok.fresh hp)) (I.hok.laid k hp new)
theorem Inv.write(I:Inv X pins σ H s)(mu:Mut (H x))(he:e=x\/H e=some (.own x))(k:∀b u,b≠e->s.heap.get? b=some u->h'.get? b=some u)(heo:∃u,h'.get? e=some u)
  (new:bC X.prog X.w (upd H x o) h' x o):Inv X pins σ (upd H x o) {s with heap:=h',toks:=t'}:=I.un (Un.write mu he k heo) (I.hok.write mu he k heo new)
theorem Inv.pins_of(I:Inv X pins σ H s)(h:∀p∈pins',s.heap.get? p.1=some p.2/\H p.1=none/\p.1≠X.env.locals/\p.1∉X.fs/\∀v,p.2.data≠ .cell v):Inv X pins' σ H s:=
 ⟨I.ok,I.os,I.bare,I.base,I.loc,I.cell,I.free,I.freeC,λp hp=>(Gu.mp hp).elim (λz=>I.pin p (Ii _ z)) (h p),I.hok,I.len⟩
theorem sW{N:List Str}(hN:N.Nodup){i j:Nat}(a:N[i]?=some x)(b:N[j]?=some x):i=j:=by obtain⟨h1,e1⟩:=Ga.mp a;obtain⟨h2,e2⟩:=Ga.mp b;exact(List.getElem_inj hN).mp (e1.trans e2.symm)
theorem o4{M:Model}{A:Around}{E:Value->Shared->Prop}{i:Nat}{x:Str}{v:V}{u:Value}{Q:Unit->Shared->Prop}(I:Inv X pins σ H s)(hN:X.N.Nodup)(hi:X.N[i]?=some x)(hx:Loc X.env.scope x)(r:a9 v u)
  (h:∀s',Inv X pins (σ.set i (some v)) H s'->(∃a,Heap.SameBut a s.heap s'.heap/\(a=X.env.locals\/X.env.cells.lookup x=some a))->Q () s') (hf:X.fn x=true\/X.env.scope.names.lookup x=some .local:=by first|exact .inl rfl|exact .inr rfl|assumption):wpAny M A (storeName X.env x u) Q E s:=by
 obtain⟨m,hn,hl⟩:=id I.loc;have hcls:(X.env.scope.kind== .class||(X.env.scope.kind== .module&&X.env.locals !=X.env.globals))=false:=by rw[I.ok.kind];rfl
 have hiσ:i<σ.length:=by rw[I.len];exact(Ga.mp hi).1
 have cne:=I.cne;have tracked:∀ {a:Addr} {h':Heap},(∃o,s.heap.get? a=some o/\H a=none)->Heap.SameBut a s.heap h'->HOk X.prog X.w H h':=λ{a h'} ha hs b ob e=>by
  obtain⟨_,_,hfree⟩:=ha;refine(I.hok b ob e).stay (λc w' hc q=>(hs.2 c ?_).trans q) (λ_ q=>q) λ_ _ q=>q;rintro rfl;rcases hc with rfl|hc
  .rw[hfree]at e;cases e
  .rw[hfree]at hc;cases hc
 rcases hx with hk|hk
 .refine wpAny_storeName_local hk hn (λh' hn' hs=> ?_) hcls;obtain⟨oL,_,_,hoL,_⟩:=id hn;refine h _ ⟨I.ok,I.os,I.bare,⟨λb o e n hb hx=> ?_,λb o e n hb hx=> ?_,I.base.free,λb o e hx=> ?_,I.base.tups,I.base.frzs,I.base.tbls⟩,⟨_,hn',λj y v' e1 e2 e3=> ?_⟩,λy c e=> ?_,I.free,I.freeC,λp hp=> ?_,tracked ⟨oL,hoL,I.free⟩ hs,by simpa using I.len⟩ ⟨_,hs, .inl rfl⟩
  .exact(hs.2 b (GZ (F9 (GG e) I.ok.above))).trans (I.base.keep b o e n hb hx)
  .obtain⟨sl,e1⟩:=I.base.slot b o e n hb hx;exact⟨sl,(hs.2 b (GZ (F9 (GG e) I.ok.above))).trans e1⟩
  .obtain⟨o',e1⟩:=I.base.there b o e hx;exact⟨o',(hs.2 b (GZ (F9 (GG e) I.ok.above))).trans e1⟩
  .by_cases hj:j=i
   .subst hj;rw[hi]at e1;cases e1;rw[List.getElem?_set_self hiσ]at e2;cases e2;exact⟨u,r, .inl ⟨hk,by simp⟩⟩
   .rw[List.getElem?_set_ne (Ko hj)]at e2;obtain⟨u',r',q⟩:=hl j y v' e1 e2 e3;refine⟨u',r',?_⟩;rcases q with ⟨k,e⟩|⟨k,c,e,z⟩
    .refine .inl ⟨k,?_⟩;have:y≠x:=λe=>hj (sW hN e1 (e▸hi));simp[this,e]
    .exact .inr ⟨k,c,e,z.sameBut hs (cne y c e)⟩
  .obtain⟨w',z⟩:=I.cell y c e;exact⟨w',z.sameBut hs (cne y c e)⟩
  .obtain⟨e,n,ne,nf,d⟩:=I.pin p hp;exact⟨(hs.2 p.1 ne).trans e,n,ne,nf,d⟩
 .have hfn:X.fn x=true:=by
   rcases hf with z|z
   .exact z
   .rw[z]at hk;cases hk
  obtain⟨c,hc⟩:=I.ok.has x (.inl hk);obtain⟨w',z⟩:=I.cell x c hc;refine wpAny_storeName_cell I.ok.kind hk hc z (λh' hc' hs=> ?_);obtain⟨oc,hoc,hocd⟩:=id z;refine h {s with heap:=h'} ⟨I.ok,I.os,I.bare,⟨λb o e n hb hx=> ?_,λb o e n hb hx=> ?_,I.base.free,λb o e hx=> ?_,I.base.tups,I.base.frzs,I.base.tbls⟩,⟨m,hn.sameBut hs (Ko (cne x c hc)),λj y v' e1 e2 e3=> ?_⟩,λy c' e=> ?_,I.free,I.freeC,λp hp=> ?_,tracked ⟨oc,hoc,I.freeC x c hc⟩ hs,by simpa using I.len⟩ ⟨c,hs, .inr hc⟩
  .exact(hs.2 b (GZ (F9 (GG e) (I.ok.cab x c hfn hc)))).trans (I.base.keep b o e n hb hx)
  .obtain⟨sl,e1⟩:=I.base.slot b o e n hb hx;exact⟨sl,(hs.2 b (GZ (F9 (GG e) (I.ok.cab x c hfn hc)))).trans e1⟩
  .obtain⟨o',e1⟩:=I.base.there b o e hx;exact⟨o',(hs.2 b (GZ (F9 (GG e) (I.ok.cab x c hfn hc)))).trans e1⟩
  .by_cases hj:j=i
   .subst hj;rw[hi]at e1;cases e1;rw[List.getElem?_set_self hiσ]at e2;cases e2;exact⟨u,r, .inr ⟨.inl hk,c,hc,hc'⟩⟩
   .rw[List.getElem?_set_ne (Ko hj)]at e2;obtain⟨u',r',q⟩:=hl j y v' e1 e2 e3;refine⟨u',r',?_⟩;rcases q with q|⟨k,c',e,z'⟩
    .exact .inl q
    .refine .inr ⟨k,c',e,z'.sameBut hs ?_⟩;rintro rfl;exact hj (sW hN e1 (I.ok.inj _ _ _ e hc▸hi))
  .by_cases hcc:c'=c
   .subst hcc;exact⟨_,hc'⟩
   .obtain⟨w2,z2⟩:=I.cell y c' e;exact⟨w2,z2.sameBut hs hcc⟩
  .obtain⟨e,n,ne,nf,d⟩:=I.pin p hp;refine⟨(hs.2 p.1 ?_).trans e,n,ne,nf,d⟩;intro q;rw[q,hoc]at e;have q':oc=p.2:=GY e;exact d w' (by rw[<-q'];exact hocd)
theorem rT{M:Model}{A:Around}{E:Value->Shared->Prop}{i:Nat}{x:Str}{v:V}{u:Value}{Q:Unit->Shared->Prop}(I:Inv X pins σ H s)(hN:X.N.Nodup)(hi:X.N[i]?=some x)(hx:Loc X.env.scope x)(r:a9 v u)
  (h:∀s',Inv X pins (σ.set i (some v)) H s'->Q () s') (hf:X.fn x=true\/X.env.scope.names.lookup x=some .local:=by first|exact .inl rfl|exact .inr rfl|assumption):wpAny M A (storeName X.env x u) Q E s:=
 o4 I hN hi hx r (λs' I' _=>h s' I') hf
theorem Inv.call'{s':Shared}(I:Inv X pins σ H s)(ho:s'.os=s.os)(u:Un (frs X.stack) ch H H' s.heap s'.heap)(hok:HOk X.prog X.w H' s'.heap)(hg:AllBare s'.gens)
  (hch:∀b∈ch,(b∈X.ex\/X.s₀.heap.objs.size<=b)/\b≠X.env.locals/\(∀x c,X.env.cells.lookup x=some c->c≠b)/\∀p∈X.pn++pins,p.1≠b):Inv X pins σ H' s':=by
 obtain⟨h',g',d',t',o'⟩:=s';have e:o'=s.os:=ho;subst e;exact I.call (g':=g') (t':=t') (d':=d') u hok hg hch
end
abbrev XK:=Value->Option Addr->Hp->Prop
abbrev St:=List (Option V)
abbrev VK:=V->Hp->Prop
abbrev TE:=St->Hp->VK->Prop
abbrev TT:=St->Hp->(Bool->Hp->Prop)->Prop
abbrev TA:=St->Hp->(List V->Hp->Prop)->Prop
structure Ends where
 nx:St->Hp->Prop
 rt:VK
 bk:St->Hp->Prop:=λ_ _=>False
 ct:St->Hp->Prop:=λ_ _=>False
abbrev TS:=Ends->St->Hp->Prop
def EP(X:Cx)(pins:List (Addr×Obj))(σ:St)(Q:VK)(u:Value)(s':Shared):Prop:=∃v H',Inv X pins σ H' s'/\a9 v u/\Q v H'
def TP(X:Cx)(pins:List (Addr×Obj))(σ:St)(Q:Bool->Hp->Prop)(b:Bool)(s':Shared):Prop:=∃H',Inv X pins σ H' s'/\Q b H'
def AP(X:Cx)(pins:List (Addr×Obj))(σ:St)(Q:List V->Hp->Prop)(us:List Value)(s':Shared):Prop:=∃vs H',Inv X pins σ H' s'/\Vals vs us/\Q vs H'
def SP(X:Cx)(pins:List (Addr×Obj))(D:Ends)(f:Flow)(s':Shared):Prop:=
 match f with
 | .next=>∃σ' H',Inv X pins σ' H' s'/\D.nx σ' H'
 | .brk=>∃σ' H',Inv X pins σ' H' s'/\D.bk σ' H'
 | .cont=>∃σ' H',Inv X pins σ' H' s'/\D.ct σ' H'
 | .ret u=>∃v σ' H',Inv X pins σ' H' s'/\a9 v u/\D.rt v H'
def PE(X:Cx)(e:Expr)(t:TE):Prop:=
 ∀ (pins:List (Addr×Obj)) (s:Shared) (σ:St) (H:Hp) (Q:VK),Inv X pins σ H s->t σ H Q->wpAny (model X.prog X.w) X.A (eval e X.env) (EP X pins σ Q) X.xe s
def PT(X:Cx)(e:Expr)(t:TT):Prop:=
 ∀ (pins:List (Addr×Obj)) (s:Shared) (σ:St) (H:Hp) (Q:Bool->Hp->Prop),Inv X pins σ H s->t σ H Q->wpAny (model X.prog X.w) X.A (isTrue e X.env (eval e X.env)) (TP X pins σ Q) X.xe s
def PW(X:Cx)(e:Expr)(t:TT):Prop:=
 ∀ (whole:Sem Value) (pins:List (Addr×Obj)) (s:Shared) (σ:St) (H:Hp) (Q:Bool->Hp->Prop),Inv X pins σ H s->t σ H Q->wpAny (model X.prog X.w) X.A (isTrue e X.env whole) (TP X pins σ Q) X.xe s
theorem PW.pt(h:PW X e t):PT X e t:=h _
def PA(X:Cx)(es:List Expr)(t:TA):Prop:=
 ∀ (pos:Pos) (pins:List (Addr×Obj)) (s:Shared) (σ:St) (H:Hp) (Q:List V->Hp->Prop),Inv X pins σ H s->t σ H Q->wpAny (model X.prog X.w) X.A (spliced (backTo pos (starEach es X.env))) (AP X pins σ Q) X.xe s
def PS(X:Cx)(st:Stmt)(t:TS):Prop:=
 ∀ (pins:List (Addr×Obj)) (s:Shared) (σ:St) (H:Hp) (D:Ends),Inv X pins σ H s->t D σ H->wpAny (model X.prog X.w) X.A (exec st X.env) (SP X pins D) X.xe s
def PSs(X:Cx)(st:List Stmt)(t:TS):Prop:=
 ∀ (pins:List (Addr×Obj)) (s:Shared) (σ:St) (H:Hp) (D:Ends),Inv X pins σ H s->t D σ H->wpAny (model X.prog X.w) X.A (execs st X.env) (SP X pins D) X.xe s
theorem thn(h:wpAny M A t Q E s)(hQ:∀a s,Q a s->Q' a s):wpAny M A t Q' E s:=JP h hQ λ_ _ x=>x
end L2
namespace L2
open PySem PySem.Spec PyProof.Rows
section
variable{X:Cx}
inductive RdV(o:Option (Option V))(H:Hp)(Q:VK):Prop
 |mk (v:V) (e:o=some (some v)) (q:Q v H):RdV o H Q
def DY(i:Nat):TE:=λσ H Q=>RdV σ[i]? H Q
def tC(v:V):TE:=λ_ H Q=>Q v H
theorem Ej{i:Nat}{x:Str}{pos:Pos}(hN:X.N[i]?=some x)(hv:Vis X.env.scope x)(hd:(x==("__debug__":Str))=false:=by decide)(hcd:(x==("__classdict__":Str))=false:=by decide):PE X (.Name x pos) (DY i):=by
 intro pins s σ H Q I h;obtain⟨v,e,h⟩:=h;obtain⟨m,hn,hl⟩:=I.loc;obtain⟨u,r,l⟩:=hl i x v hN e hv;have fin:EP X pins σ Q u s:=⟨v,H,I,r,h⟩;rcases l with ⟨hk,hm⟩|⟨hk,c,hc,hcell⟩
 .exact wpAny_Name (wpAny_loadName_local I.ok.kind hk hn hm fin) hd
 .rcases hk with hk|hk
  .exact wpAny_Name (wpAny_loadName_cell I.ok.kind hk hc hcell fin) hd
  .exact wpAny_Name (wpAny_loadName_free I.ok.kind hk hc hcell fin hcd) hd
theorem ae{i j pos}:PE X (.Constant (.int i) j pos) (tC (.int i)):=λ_ _ _ H _ I h=>wpAny_Constant_int ⟨.int i,H,I.tok _,⟨_,rfl⟩,h⟩
theorem eh{b j pos}:PE X (.Constant (.bool b) j pos) (tC (.bl b)):=λ_ _ _ H _ I h=>Constant_bool ⟨.bl b,H,I,rfl,h⟩
theorem fz{j pos}:PE X (.Constant .none j pos) (tC .non):=λ_ _ _ H _ I h=>Constant_none ⟨.non,H,I,rfl,h⟩
theorem fv{x j pos}:PE X (.Constant (.str x) j pos) (tC (.str x)):=λ_ _ _ H _ I h=>Calls.Constant_str ⟨.str x,H,I.tok _,⟨_,rfl⟩,h⟩
def Gl(X:Cx)(x:Str):Prop:=X.env.kindOf x=some .globalImplicit
theorem qW{E:Value->Shared->Prop}{pins:List (Addr×Obj)}{s:Shared}{σ:St}{H:Hp}{x:Str}{u:Value}{pos:Pos}{Q:Value->Shared->Prop}(I:Inv X pins σ H s)(hg:Gl X x)(hm:X.mg x=some u)(h:Q u s)
  (hd:(x==("__debug__":Str))=false:=by decide):wpAny (model X.prog X.w) X.A (eval (.Name x pos) X.env) Q E s:=
 Calls.Name_function_global I.ok.kind hg (Calls.loadGlobal_global (by rw[I.ok.glob];exact I.mod.glob.keeps I.bk) hm h) hd
theorem gc{E:Value->Shared->Prop}{pins:List (Addr×Obj)}{s:Shared}{σ:St}{H:Hp}{x:Str}{u:Value}{pos:Pos}{Q:Value->Shared->Prop}(I:Inv X pins σ H s)(hg:Gl X x)(hm:X.mg x=none)(hv:bootBuiltins x=some u)(h:Q u s)
  (hn:x≠ "__name__":=by decide) (hd:(x==("__debug__":Str))=false:=by decide):wpAny (model X.prog X.w) X.A (eval (.Name x pos) X.env) Q E s:=by
 obtain⟨mb,h1,h2⟩:=I.mod.blt;exact Calls.Name_function_global I.ok.kind hg (Calls.loadGlobal_builtin (by rw[I.ok.glob];exact I.mod.glob.keeps I.bk) hm (by rw[I.ok.blt];exact h1.keeps I.bk) ((h2 x hn).trans hv) h) hd
theorem dN{x:Str}{v:V}{u:Value}{pos:Pos}(hg:Gl X x)(hm:X.mg x=some u)(r:a9 v u)(hd:(x==("__debug__":Str))=false:=by decide):PE X (.Name x pos) (tC v):=
 λ_ _ _ H _ I h=>qW I hg hm ⟨v,H,I,r,h⟩ hd
theorem iS{x:Str}{v:V}{u:Value}{pos:Pos}(hg:Gl X x)(hm:X.mg x=none)(hv:bootBuiltins x=some u)(r:a9 v u)(hn:x≠ "__name__":=by decide)(hd:(x==("__debug__":Str))=false:=by decide):PE X (.Name x pos) (tC v):=
 λ_ _ _ H _ I h=>gc I hg hm hv ⟨v,H,I,r,h⟩ hn hd
variable{a b:Expr}{ta tb:TE}{pos:Pos}
inductive RdB(Q:Bool->Hp->Prop)(x:V)(H:Hp):Prop
 |mk (k:Bool) (e:x= .bl k) (q:Q k H):RdB Q x H
def tB(t:TE):TT:=λσ H Q=>t σ H (RdB Q)
theorem cH{e:Expr}{t:TE}(h:PE X e t)(he:∀whole,isTrue e X.env whole=(do let v<-whole;standAt e.pos;holding [v] (truthy v)):=by intro _;rfl):PT X e (tB t):=by intro pins s σ H Q I hw;refine isTrue_plain (thn (h pins s σ H _ I hw) λv s1 ⟨x,H1,I1,r1,q1⟩=> ?_) (he _);obtain⟨d,rfl,q⟩:=q1;cases r1;exact Ju ⟨H1,I1,q⟩
variable{tA tB':TT}{rest:List Expr}
def FQ(t u:TT):TT:=λσ H Q=>t σ H λc H1=>if c=true then u σ H1 Q else Q false H1
def tOr(t u:TT):TT:=λσ H Q=>t σ H λc H1=>if c=true then Q true H1 else u σ H1 Q
def FO(t:TT):TT:=λσ H Q=>t σ H λc H1=>Q (!c) H1
theorem d0(ha:PT X a tA):PW X (.BoolOp .And [a] pos) tA:=by
 intro wh pins s σ H Q I h;refine isTrue_and (thn (ha pins s σ H Q I h) λc s1 e=> ?_);cases c with
 |true=>exact isTrue_and_nil e
 |false=>exact e
theorem gF(ha:PT X a tA):PW X (.BoolOp .Or [a] pos) tA:=by
 intro wh pins s σ H Q I h;refine isTrue_or (thn (ha pins s σ H Q I h) λc s1 e=> ?_);cases c with
 |false=>exact isTrue_or_nil e
 |true=>exact e
theorem cV(ha:PT X a tA)(hb:PW X (.BoolOp .And (b::rest) pos) tB'):PW X (.BoolOp .And (a::b::rest) pos) (FQ tA tB'):=by
 intro wh pins s σ H Q I h;refine isTrue_and (thn (ha pins s σ H _ I h) λc s1 ⟨H1,I1,q1⟩=> ?_);cases c with
 |true=>exact hb wh pins s1 σ H1 Q I1 q1
 |false=>exact⟨H1,I1,q1⟩
theorem fQ(ha:PT X a tA)(hb:PW X (.BoolOp .Or (b::rest) pos) tB'):PW X (.BoolOp .Or (a::b::rest) pos) (tOr tA tB'):=by
 intro wh pins s σ H Q I h;refine isTrue_or (thn (ha pins s σ H _ I h) λc s1 ⟨H1,I1,q1⟩=> ?_);cases c with
 |true=>exact⟨H1,I1,q1⟩
 |false=>exact hb wh pins s1 σ H1 Q I1 q1
theorem jf(ha:PT X a tA):PT X (.UnaryOp .Not a pos) (FO tA):=by intro pins s σ H Q I h;exact isTrue_not (ha pins s σ H (λc H1=>Q (!c) H1) I h)
def Fe(ta tb:TE):TE:=λσ H Q=>ta σ H (RdB λc H1=>if c=true then tb σ H1 Q else Q (.bl false) H1)
def E6(ta:TE):TE:=λσ H Q=>ta σ H (RdB λc H1=>Q (.bl (!c)) H1)
theorem uO{op}(h:PE X a t):PE X (.BoolOp op [a] pos) t:=λpins s σ H Q I hw=>BoolOp_one (h pins s σ H Q I hw)
theorem qH(ha:PE X a ta)(hb:PE X (.BoolOp .And (b::rest) pos) tb):PE X (.BoolOp .And (a::b::rest) pos) (Fe ta tb):=by
 intro pins s σ H Q I h;refine BoolOp_and (thn (ha pins s σ H _ I h) λv s1 ⟨x,H1,I1,r1,q1⟩=> ?_);obtain⟨c,rfl,q1⟩:=q1;cases r1;refine Ju ?_;cases c with
 |true=>exact hb pins s1 σ H1 Q I1 q1
 |false=>exact⟨.bl false,H1,I1,rfl,q1⟩
theorem Em(ha:PE X a ta):PE X (.UnaryOp .Not a pos) (E6 ta):=by intro pins s σ H Q I h;refine UnaryOp_ (thn (ha pins s σ H _ I h) λv s1 ⟨x,H1,I1,r1,q1⟩=> ?_);obtain⟨c,rfl,q1⟩:=q1;cases r1;exact not_of (Ju ⟨.bl (!c),H1,I1,rfl,q1⟩)
def tIf(t:TT)(ta tb:TE):TE:=λσ H Q=>t σ H λc H1=>if c=true then ta σ H1 Q else tb σ H1 Q
theorem jQ(hc:PT X c tA)(ha:PE X a ta)(hb:PE X b tb):PE X (.IfExp c a b pos) (tIf tA ta tb):=by
 intro pins s σ H Q I h;refine wpAny_IfExp (thn (hc pins s σ H _ I h) λd s1 ⟨H1,I1,q1⟩=> ?_);cases d with
 |true=>exact ha pins s1 σ H1 Q I1 q1
 |false=>exact hb pins s1 σ H1 Q I1 q1
end
end L2
namespace L2
open PySem PySem.Spec PyProof.Rows
def SqL(K:PySem.W.Frag)(H:Hp)(a:Addr)(xs:List V):Prop:=
 Rd H a (.lst xs)\/
  ∃ (o:Obj) (its:Array Value) (n:Nat),K.lookup a=some o/\o.cls= .type "list"/\o.dict=none/\o.data= .seq its n/\its.size<=sizeLine/\Vals xs its.toList
def SqT(K:PySem.W.Frag)(H:Hp)(a:Addr)(xs:List V):Prop:=
 Rd H a (.tup xs)\/
  ∃ (o:Obj) (its:Array Value) (n:Nat),K.lookup a=some o/\o.cls= .type "tuple"/\o.data= .seq its n/\its.size<=sizeLine/\Vals xs its.toList
def FY:Value->Option V
 | .none=>some .non
 | .bool b=>some (.bl b)
 | .int i _=>some (.int i)
 | .str x _=>some (.str x)
 | .bytes b _=>some (.byt b)
 | .float b _=>some (.flt b)
 | .ref a=>some (.ref a)
 | .type n=>some (.ty n)
 |_=>none
theorem a9.abs(r:a9 x u):FY u=some x:=by
 cases x with
 |non=>cases r;rfl
 |bl _=>cases r;rfl
 |int _=>obtain⟨t,rfl⟩:=r;rfl
 |str _=>obtain⟨t,rfl⟩:=r;rfl
 |byt _=>obtain⟨t,rfl⟩:=r;rfl
 |flt _=>obtain⟨t,rfl⟩:=r;rfl
 |ref _=>cases r;rfl
 |ty _=>cases r;rfl
theorem a9.inj(r:a9 x u)(q:a9 y u):x=y:=GY (r.abs.symm.trans q.abs)
theorem Vals.inj:∀ {xs ys:List V} {us:List Value},Vals xs us->Vals ys us->xs=ys
 |_,_,_, .nil, .nil=>rfl
 |_,_,_, .cons r t, .cons r' t'=>by rw[r.inj r',Vals.inj t t']
section
variable{X:Cx}{pins:List (Addr×Obj)}{σ:St}{H:Hp}{s:Shared}{a:Addr}{xs ys:List V}
theorem SqL.of{K:PySem.W.Frag}(h:H a=some (.lst xs)):SqL K H a xs:= .inl (.inl h)
theorem SqT.of{K:PySem.W.Frag}(h:H a=some (.tup xs)):SqT K H a xs:= .inl (.inl h)
theorem Inv.list(I:Inv X pins σ H s)(h:SqL X.K H a xs):∃its:List Value,Vals xs its/\PlainL s.heap a its.toArray/\xs.length<=sizeLine:=by
 rcases h with h|⟨o,its,n,hk,hc,hd,hs,hz,r⟩
 .obtain⟨z,its,n,r,e⟩:=h.ok I.hok;exact⟨its,r,⟨_,n,e,rfl,rfl,rfl⟩,z⟩
 .refine⟨its.toList,r,⟨o,n,I.kIn a o hk,hc,hd,by simpa using hs⟩,?_⟩;have e:=r.length;simp only[JB]at e;lia
theorem Inv.tuple(I:Inv X pins σ H s)(h:SqT X.K H a xs):∃its:List Value,Vals xs its/\IsTup s.heap a its.toArray/\xs.length<=sizeLine:=by
 rcases h with h|⟨o,its,n,hk,hc,hs,hz,r⟩
 .obtain⟨z,its,r,p⟩:=h.ok I.hok;exact⟨its,r,p,z⟩
 .refine⟨its.toList,r,⟨o,I.kIn a o hk,hc,n,by simpa using hs⟩,?_⟩;have e:=r.length;simp only[JB]at e;lia
theorem Inv.list_inj(I:Inv X pins σ H s)(h:SqL X.K H a xs)(h':SqL X.K H a ys):xs=ys:=by
 obtain⟨its,r,⟨o,n,e,_,_,d⟩,_⟩:=I.list h;obtain⟨its',r',⟨o',n',e',_,_,d'⟩,_⟩:=I.list h';rw[e]at e';cases e';rw[d]at d';injection d' with d1 _
 have:its=its':=by simpa using GQ Array.toList d1
 subst this;exact r.inj r'
theorem Inv.tuple_inj(I:Inv X pins σ H s)(h:SqT X.K H a xs)(h':SqT X.K H a ys):xs=ys:=by
 obtain⟨its,r,⟨o,e,_,n,d⟩,_⟩:=I.tuple h;obtain⟨its',r',⟨o',e',_,n',d'⟩,_⟩:=I.tuple h';rw[e]at e';cases e';rw[d]at d';injection d' with d1 _
 have:its=its':=by simpa using GQ Array.toList d1
 subst this;exact r.inj r'
end
abbrev Cx.wish(X:Cx)(E:Value->Shared->Prop):Cx:={X with xe:=E}
abbrev Cx.nox(X:Cx):Cx:=X.wish λ_ _=>False
theorem Cx.Ok.wish{X:Cx}(ok:X.Ok)(E:Value->Shared->Prop):(X.wish E).Ok:=
 ⟨ok.mod,ok.kind,ok.glob,ok.blt,ok.above,ok.inj,ok.has,ok.cab,ok.hd,ok.frames,ok.stk,ok.exf,ok.bs,ok.bsz,ok.noex,ok.exfs,ok.funs,ok.frf⟩
theorem Cx.Ok.unwish{X:Cx}(ok:(X.wish E).Ok):X.Ok:=
 ⟨ok.mod,ok.kind,ok.glob,ok.blt,ok.above,ok.inj,ok.has,ok.cab,ok.hd,ok.frames,ok.stk,ok.exf,ok.bs,ok.bsz,ok.noex,ok.exfs,ok.funs,ok.frf⟩
section
variable{X:Cx}{pins:List (Addr×Obj)}{σ:St}{H:Hp}{s:Shared}{E:Value->Shared->Prop}
theorem Inv.wish(I:Inv X pins σ H s)(E:Value->Shared->Prop):Inv (X.wish E) pins σ H s:=⟨I.ok.wish E,I.os,I.bare,I.base,I.loc,I.cell,I.free,I.freeC,I.pin,I.hok,I.len⟩
theorem Inv.unwish(I:Inv (X.wish E) pins σ H s):Inv X pins σ H s:=⟨I.ok.unwish,I.os,I.bare,I.base,I.loc,I.cell,I.free,I.freeC,I.pin,I.hok,I.len⟩
theorem SP.unwish(h:SP (X.wish E) pins D f s'):SP X pins D f s':=by
 cases f with
 |next=>obtain⟨σ',H',I,q⟩:=h;exact⟨σ',H',I.unwish,q⟩
 |brk=>obtain⟨σ',H',I,q⟩:=h;exact⟨σ',H',I.unwish,q⟩
 |cont=>obtain⟨σ',H',I,q⟩:=h;exact⟨σ',H',I.unwish,q⟩
 |ret u=>obtain⟨v,σ',H',I,r,q⟩:=h;exact⟨v,σ',H',I.unwish,r,q⟩
theorem PSs.nox{st:List Stmt}(h:PSs X.nox st t):PSs X st t:=λpins s σ H D I hw=>
 JP (h pins s σ H D (I.wish _) hw) (λ_ _ q=>q.unwish) λ_ _ z=>False.elim z
end
section
variable{X:Cx}{st:Stmt}{rest:List Stmt}{t u:TS}{e:Expr}{te:TE}{pos:Pos}
def zU:TS:=λD σ H=>D.nx σ H
def zT(t u:TS):TS:=λD σ H=>t {D with nx:=u D} σ H
theorem aF:PSs X [] zU:=λ_ _ σ H _ I h=>Ku ⟨σ,H,I,h⟩
theorem ab(h1:PS X st t)(h2:PSs X rest u):PSs X (st::rest) (zT t u):=by
 intro pins s σ H D I h;refine wpAny_execs_cons (thn (h1 pins s σ H {D with nx:=u D} I h) λf s1 q=> ?_);cases f with
 |next=>
  obtain⟨σ',H',I',q⟩:=q;exact h2 pins s1 σ' H' D I' q
 |ret v=>exact q
 |brk=>exact q
 |cont=>exact q
theorem ah(h1:PS X st t):PSs X [st] t:=by
 intro pins s σ H D I h;refine wpAny_execs_cons (thn (h1 pins s σ H D I h) λf s1 q=> ?_);cases f with
 |next=>exact Ku q
 |ret v=>exact q
 |brk=>exact q
 |cont=>exact q
theorem Inv.quiet{σ:St}(I:Inv X pins σ H s):interactive X.env=false:=by simp[interactive,I.ok.kind]
def E9(te:TE):TS:=λD σ H=>te σ H λ_ H1=>D.nx σ H1
theorem bR(he:PE X e te)(hs:swapsWith e none pos.line X.env=pure false:=by rfl):PS X (.Expr e pos) (E9 te):=by intro pins s σ H D I h;exact wpAny_Expr_any (thn (he pins s σ H _ I h) λv s1 ⟨x,H1,I1,r1,q1⟩=>⟨σ,H1,I1,q1⟩) I.quiet hs
def FN(te:TE):TS:=λD σ H=>te σ H D.rt
theorem aw(he:PE X e te):PS X (.Return (some e) pos) (FN te):=by intro pins s σ H D I h;exact wpAny_Return_some (thn (he pins s σ H _ I h) λv s1 ⟨x,H1,I1,r1,q1⟩=>⟨x,σ,H1,I1,r1,q1⟩)
def FP(c:TT)(t u:TS):TS:=λD σ H=>c σ H λb H1=>if b=true then t D σ H1 else u D σ H1
theorem aX(hc:PT X c tc)(ha:PSs X a t)(hb:PSs X b u):PS X (.If c a b pos) (FP tc t u):=by
 intro pins s σ H D I h;refine wpAny_If (thn (hc pins s σ H _ I h) λd s1 ⟨H1,I1,q1⟩=> ?_);cases d with
 |true=>exact ha pins s1 σ H1 D I1 q1
 |false=>exact hb pins s1 σ H1 D I1 q1
end
abbrev TG:=V->St->Hp->(St->Hp->Prop)->Prop
abbrev TGs:=List V->St->Hp->(St->Hp->Prop)->Prop
def PG(X:Cx)(target:Expr)(t:TG):Prop:=
 ∀ (pins:List (Addr×Obj)) (s:Shared) (σ:St) (H:Hp) (v:V) (u:Value) (Q:St->Hp->Prop),Inv X pins σ H s->a9 v u->t v σ H Q->
  wpAny (model X.prog X.w) X.A (assign target X.env u) (λ_ s'=>∃σ' H',Inv X pins σ' H' s'/\Q σ' H') X.xe s
def PGs(X:Cx)(ts:List Expr)(t:TGs):Prop:=
 ∀ (pins:List (Addr×Obj)) (s:Shared) (σ:St) (H:Hp) (vs:List V) (us:List Value) (Q:St->Hp->Prop),Inv X pins σ H s->Vals vs us->t vs σ H Q->
  wpAny (model X.prog X.w) X.A (assignInOrder ((assignEach ts X.env).map (·.2)) us) (λ_ s'=>∃σ' H',Inv X pins σ' H' s'/\Q σ' H') X.xe s
section
variable{X:Cx}{pos:Pos}
def aS(i:Nat):TG:=λv σ H Q=>Q (σ.set i (some v)) H
theorem wz{i:Nat}{x:Str}(hN:X.N.Nodup)(hi:X.N[i]?=some x)(hx:Loc X.env.scope x)(hf:X.fn x=true\/X.env.scope.names.lookup x=some .local:=by first|exact .inl rfl|exact .inr rfl|assumption):PG X (.Name x pos) (aS i):=by intro pins s σ H v u Q I r h;exact wpAny_assign_Name (rT I hN hi hx r (λs' I'=>⟨_,H,I',h⟩) hf)
def FV:TGs:=λvs σ H Q=>vs=[]/\Q σ H
inductive RdC(t:TG)(u:TGs)(vs:List V)(σ:St)(H:Hp)(Q:St->Hp->Prop):Prop
 |mk (v:V) (r:List V) (e:vs=v::r) (q:t v σ H λσ' H'=>u r σ' H' Q):RdC t u vs σ H Q
def Fv(t:TG)(u:TGs):TGs:=λvs σ H Q=>RdC t u vs σ H Q
theorem iP:PGs X [] FV:=by intro pins s σ H vs us Q I r h;obtain⟨e,h⟩:=h;subst e;cases r;exact assignInOrder_nil ⟨σ,H,I,h⟩
theorem cD{e:Expr}{es:List Expr}{t:TG}{u:TGs}(h1:PG X e t)(h2:PGs X es u)
  (hs:(assignEach (e::es) X.env).map (·.2)=assign e X.env::(assignEach es X.env).map (·.2):=by rfl):PGs X (e::es) (Fv t u):=by
 intro pins s σ H vs us Q I r h;obtain⟨v,vr,e1,h⟩:=h;subst e1;cases r with
 |cons r rr=>
  rw[hs];refine assignInOrder_cons (thn (h1 pins s σ H _ _ _ I r h) λ_ s1 ⟨σ1,H1,I1,q1⟩=> ?_);exact h2 pins s1 σ1 H1 _ _ Q I1 rr q1
inductive RdT(K:PySem.W.Frag)(n:Nat)(t:TGs)(v:V)(σ:St)(H:Hp)(Q:St->Hp->Prop):Prop
 |mk (a:Addr) (xs:List V) (e:v= .ref a) (s:SqT K H a xs) (l:xs.length=n) (q:t xs σ H Q):RdT K n t v σ H Q
def Fu(K:PySem.W.Frag)(n:Nat)(t:TGs):TG:=λv σ H Q=>RdT K n t v σ H Q
theorem Ei{es:List Expr}{k:Nat}{t:TGs}{n:Nat}(hc:X.calm=true)(h:PGs X es t)
  (hn:(assignEach es X.env).length=n:=by rfl) (hst:(assignEach es X.env).findIdx? (·.1)=none:=by rfl):PG X (.Tuple es k pos) (Fu X.K n t):=by
 intro pins s σ H v u Q I r hw;obtain⟨a,xs,e1,hq,hl,hw⟩:=hw;subst e1;cases r;obtain⟨its,rv,ht,hz⟩:=I.tuple hq;refine assign_Tuple_tuple (I.ok.hd hc) ht (by simp[hn,<-hl,rv.length]) hst λh' hx=> ?_;have I1:Inv X pins σ H {s with heap:=h'}:=I.kept (t':=s.toks) λb o e=>hx b o (GZ (GG e)) e;exact h pins _ σ H xs _ Q I1 (by simpa using rv) hw
def uG(te:TE)(g:TG):TS:=λD σ H=>te σ H λx H1=>g x σ H1 D.nx
theorem Az{tg e:Expr}{te:TE}{g:TG}(he:PE X e te)(hg:PG X tg g)(hs:swapsWithSole [tg] e pos.line X.env=pure false:=by rfl)(hw:swappedStores [tg] e X.env=pure none:=by rfl)
  (h1:(assignEach [tg] X.env).map (·.2)=[assign tg X.env]:=by rfl):PS X (.Assign [tg] e pos) (uG te g):=by
 intro pins s σ H D I h;refine wpAny_Assign_stores (thn (he pins s σ H _ I h) λv s1 ⟨x,H1,I1,r1,q1⟩=> ?_) hs hw;rw[h1];exact thn (hg pins s1 σ H1 x v _ I1 r1 q1) λ_ s2 q=>q
theorem Ay{i:Nat}{x:Str}{e:Expr}{te:TE}{pos':Pos}(hN:X.N.Nodup)(hi:X.N[i]?=some x)(hx:Loc X.env.scope x)(he:PE X e te)(hs:swapsWith e (some (.Name x pos')) pos.line X.env=pure false:=by rfl)(hf:X.fn x=true\/X.env.scope.names.lookup x=some .local:=by first|exact .inl rfl|exact .inr rfl|assumption):
  PS X (.Assign [.Name x pos'] e pos) (uG te (aS i)):=by
 intro pins s σ H D I h;refine wpAny_Assign_Name (thn (he pins s σ H _ I h) λv s1 ⟨y,H1,I1,r1,q1⟩=> ?_) hs;exact rT I1 hN hi hx r1 (λs2 I2=>⟨_,H1,I2,q1⟩) hf
end
section
variable{X:Cx}{pos:Pos}
def DX(c:TT)(tb:TS):TS:=λD σ H=>∃W:Nat->St->Hp->Prop,(∃m,W m σ H)/\∀m σ H,W m σ H->
 c σ H λb H1=>if b=true then∃N:St->Hp->Prop,(∀σ' H',N σ' H'->∃m',m'<m/\W m' σ' H')/\tb {D with nx:=N,ct:=N,bk:=D.nx} σ H1 else D.nx σ H1
theorem Ax(hp:PassesOwn (model X.prog X.w) X.A X.env X.xe)(hc:PT X c tc)(hb:PSs X body tb):PS X (.While c body [] pos) (DX tc tb):=by
 intro pins s σ H D I h;obtain⟨W,⟨m0,w0⟩,turn⟩:=h;refine wpAny_While (codeAny_whileLoop (λn s'=>∃σ' H',Inv X pins σ' H' s'/\W n σ' H') ?_ m0 ⟨σ,H,I,w0⟩);rintro n s1 ⟨σ1,H1,I1,w1⟩;refine Js hp (thn (hc pins s1 σ1 H1 _ I1 (turn n σ1 H1 w1)) λb s2 ⟨H2,I2,q2⟩=> ?_);cases b with
 |true=>
  obtain⟨N,hN,q2⟩:=q2;rw[F7 rfl];refine Js hp (thn (hb pins s2 σ1 H2 _ I2 q2) λf s3 q3=> ?_);cases f with
  |next=>
   obtain⟨σ3,H3,I3,n3⟩:=q3;obtain⟨m',hm,w3⟩:=hN σ3 H3 n3;exact⟨m',hm,σ3,H3,I3,w3⟩
  |cont=>
   obtain⟨σ3,H3,I3,n3⟩:=q3;obtain⟨m',hm,w3⟩:=hN σ3 H3 n3;exact⟨m',hm,σ3,H3,I3,w3⟩
  |brk=>exact q3
  |ret v=>exact q3
 |false=>
  rw[F8 Gj];exact Ku ⟨σ1,H2,I2,q2⟩
end
structure It where
 go:Nat->Hp->Prop
 yld:Nat->Hp->V->Hp->Prop
 stop:Nat->Hp->Prop
def rF(X:Cx)(pins:List (Addr×Obj))(H:Hp)(b:Addr):Prop:=
 H b=none/\b≠X.env.locals/\b∉X.fs/\(b∈X.ex\/X.s₀.heap.objs.size<=b)/\(∀x c,X.env.cells.lookup x=some c->c≠b)/\∀p∈X.pn++pins,p.1≠b
theorem Inv.fpOk{σ:St}{s:Shared}{b:Addr}(I:Inv X pins σ H s)(hb:s.heap.objs.size<=b)(hn:H' b=none):rF X pins H' b:=by
 refine⟨hn,K6 (F9 I.lt hb),I.nofs hb, .inr (Gd I.sz hb),λx c e z=> ?_,λp hp z=> ?_⟩
 .obtain⟨v,q⟩:=I.cell x c e;exact absurd (F9 q.lt (by rw[z];exact hb)) (IA _)
 .exact absurd (F9 (GG (I.pin p hp).1) (by rw[z];exact hb)) (IA _)
structure Turn(P:Program)(w:World)(K:PySem.W.Frag)(tg:Expr)(J:It)(fp:List Addr)(it:Addr)(tn:Nat->Heap->Prop):Prop where
 mem:it∈fp
 obj:∀i h,tn i h->∀b∈fp,∃o,h.get? b=some o/\∀v,o.data≠ .cell v
 keep:∀i h h',tn i h->(∀b∈fp,∀o,h.get? b=some o->h'.get? b=some o)->tn i h'
 item:∀ (X:Cx),X.prog=P->X.w=w->X.K=K->X.calm=true->∀ (i:Nat) (pins:List (Addr×Obj)) (s:Shared) (σ:St) (H:Hp) (E:Value->Shared->Prop),Inv X pins σ H s->(∀b∈fp,rF X pins H b)->tn i s.heap->J.go i H->
  wpAny (model P w) X.A (pyNext (.ref it)) (λr s1=>∃u,r=some u/\
   wpAny (model P w) X.A (letOwnedTupleGo tg (.ref it) u) (λ_ s2=>∃x H',Inv X pins σ H' s2/\a9 x u/\J.yld i H x H'/\tn (i+1) s2.heap/\∀b∈fp,H' b=none) E s1) E s
 done:∀ (X:Cx),X.prog=P->X.w=w->X.K=K->X.calm=true->∀ (i:Nat) (pins:List (Addr×Obj)) (s:Shared) (σ:St) (H:Hp) (E:Value->Shared->Prop),Inv X pins σ H s->(∀b∈fp,rF X pins H b)->tn i s.heap->J.stop i H->
  wpAny (model P w) X.A (pyNext (.ref it)) (λr s1=>r=none/\Inv X pins σ H s1) E s
 self:∀ (A:Around) (i:Nat) (s:Shared) (Q:Value->Shared->Prop) (E:Value->Shared->Prop),tn i s.heap->Q (.ref it) s->wpAny (model P w) A (pyIter (.ref it)) Q E s
abbrev TI:=St->Hp->(It->Hp->Prop)->Prop
def PIE(X:Cx)(pins:List (Addr×Obj))(σ:St)(tg:Expr)(R:It->Hp->Prop)(itv:Value)(s2:Shared):Prop:=
 ∃ (it:Addr) (fp:List Addr) (tn:Nat->Heap->Prop) (J:It) (H':Hp),itv= .ref it/\Inv X pins σ H' s2/\Turn X.prog X.w X.K tg J fp it tn/\tn 0 s2.heap/\(∀b∈fp,rF X pins H' b)/\R J H'
def PI(X:Cx)(tg iter:Expr)(wi:TI):Prop:=
 ∀ (pins:List (Addr×Obj)) (s:Shared) (σ:St) (H:Hp) (R:It->Hp->Prop),Inv X pins σ H s->wi σ H R->
  wpAny (model X.prog X.w) X.A (eval iter X.env) (λv s1=>wpAny (model X.prog X.w) X.A (pyIter v) (PIE X pins σ tg R) X.xe s1) X.xe s
theorem wJ{s:Shared}{o:Obj}(ho:s.heap.get? it=some o)(hc:o.cls= .type n)(hd:o.data= .fields vs)
  (hn:["enumerate","zip","dict_itemiterator","dict_reverseitemiterator","odict_iterator","itertools.zip_longest","itertools.pairwise"].contains n=false) (hQ:Q () s):wpAny M A (letOwnedTupleGo tg (.ref it) u) Q E s:=by
 unfold letOwnedTupleGo;cases tg<;>first
  |exact Hx hQ
  |(cases u<;>first
    |exact Hx hQ
    |(refine GR (wpAny_load ho ?_)
      rw[hc,hd];show wpAny M A (if(["enumerate","zip","dict_itemiterator","dict_reverseitemiterator","odict_iterator","itertools.zip_longest","itertools.pairwise"].contains n&&vs[0]?==some (rawInt _))=true then _ else _) Q E s;rw[F8 (by intro h;rw[hn,Hj]at h;cases h)];exact Hx hQ))
def Itl(K:PySem.W.Frag)(a:Addr):It:=
 ⟨λi H=>∃xs x,SqL K H a xs/\xs[i]?=some x,λi H x H'=>H'=H/\∀xs,SqL K H a xs->xs[i]?=some x,λi H=>∃xs,SqL K H a xs/\xs.length<=i⟩
def Itt(K:PySem.W.Frag)(a:Addr):It:=
 ⟨λi H=>∃xs x,SqT K H a xs/\xs[i]?=some x,λi H x H'=>H'=H/\∀xs,SqT K H a xs->xs[i]?=some x,λi H=>∃xs,SqT K H a xs/\xs.length<=i⟩
def Itr(lo:Int)(n:Nat):It:=⟨λi _=>i<n,λi H x H'=>H'=H/\x= .int (lo+i),λi _=>n<=i⟩
theorem xm{P:Program}{w:World}{K:PySem.W.Frag}{tg:Expr}(a it:Addr):Turn P w K tg (Itl K a) [it] it (λi h=>h.IsListIter it a i) where
 mem:=by simp
 obj:=λi h st b hb=>by
  have e:b=it:=by simpa using hb
  subst e;obtain⟨o,e,c,d⟩:=st;exact⟨o,e,λv z=>by rw[d]at z;cases z⟩
 keep:=λi h h' st k=>st.at λo e=>k it (by simp) o e
 item:=by intro X hP hw hK hc i pins s σ H E I hf st hg;subst hP hw hK;obtain⟨xs,x,hq,hx⟩:=hg;obtain⟨its,rv,p,hz⟩:=I.list hq;obtain⟨u,hu,ru⟩:=rv.get hx;obtain⟨f0,f1,f2,f3,f4,f5⟩:=hf it (by simp);refine wpAny_pyNext_list_item st p.isList (x:=u) (by simpa using hu) λh' st' sb=> ?_;have I1:Inv X pins σ H {s with heap:=h'}:=I.turned (t':=s.toks) (λb o hb e=>(sb.2 b hb).trans e) f0 f1 f3 f4 f5;obtain⟨o,e,c,d⟩:=id st';exact⟨u,rfl,wJ (s:={s with heap:=h'}) e c d (by decide) ⟨x,H,I1,ru,⟨rfl,λys hy=>by rw[I.list_inj hy hq];exact hx⟩,st',λb hb=>(hf b hb).1⟩⟩
 done:=by intro X hP hw hK hc i pins s σ H E I hf st hg;subst hP hw hK;obtain⟨xs,hq,hx⟩:=hg;obtain⟨its,rv,p,hz⟩:=I.list hq;obtain⟨f0,f1,f2,f3,f4,f5⟩:=hf it (by simp);have hl:=rv.length;exact wpAny_pyNext_list_end (I.ok.hd hc) st p.isList (by simp;lia) λh' eb=>⟨rfl,I.turned (t':=s.toks) (λb o hb e=>eb b o hb e) f0 f1 f3 f4 f5⟩
 self:=λ_ _ _ _ _ st h=>wpAny_pyIter_listiter st h
theorem uD{P:Program}{w:World}{K:PySem.W.Frag}{tg:Expr}(a it:Addr):Turn P w K tg (Itt K a) [it] it (λi h=>h.IsTupleIter it a i) where
 mem:=by simp
 obj:=λi h st b hb=>by
  have e:b=it:=by simpa using hb
  subst e;obtain⟨o,e,c,d⟩:=st;exact⟨o,e,λv z=>by rw[d]at z;cases z⟩
 keep:=λi h h' st k=>st.at λo e=>k it (by simp) o e
 item:=by intro X hP hw hK hc i pins s σ H E I hf st hg;subst hP hw hK;obtain⟨xs,x,hq,hx⟩:=hg;obtain⟨its,rv,p,hz⟩:=I.tuple hq;obtain⟨u,hu,ru⟩:=rv.get hx;obtain⟨f0,f1,f2,f3,f4,f5⟩:=hf it (by simp);refine wpAny_pyNext_tuple_item st (show s.heap.IsTuple a its.toArray from p) (x:=u) (by simpa using hu) λh' st' sb=> ?_;have I1:Inv X pins σ H {s with heap:=h'}:=I.turned (t':=s.toks) (λb o hb e=>(sb.2 b hb).trans e) f0 f1 f3 f4 f5;obtain⟨o,e,c,d⟩:=id st';exact⟨u,rfl,wJ (s:={s with heap:=h'}) e c d (by decide) ⟨x,H,I1,ru,⟨rfl,λys hy=>by rw[I.tuple_inj hy hq];exact hx⟩,st',λb hb=>(hf b hb).1⟩⟩
 done:=by intro X hP hw hK hc i pins s σ H E I hf st hg;subst hP hw hK;obtain⟨xs,hq,hx⟩:=hg;obtain⟨its,rv,p,hz⟩:=I.tuple hq;obtain⟨f0,f1,f2,f3,f4,f5⟩:=hf it (by simp);have hl:=rv.length;exact wpAny_pyNext_tuple_end (I.ok.hd hc) st (show s.heap.IsTuple a its.toArray from p) (by simp;lia) λh' eb=>⟨rfl,I.turned (t':=s.toks) (λb o hb e=>eb b o hb e) f0 f1 f3 f4 f5⟩
 self:=λ_ _ _ _ _ st h=>wpAny_pyIter_tupleiter st h
theorem uE{P:Program}{w:World}{K:PySem.W.Frag}{tg:Expr}(it:Addr)(lo:Int)(n:Nat):Turn P w K tg (Itr lo n) [it] it (λi h=>IsRangeIter h it (lo+(i:Nat)*1) ((n:Int) - (i:Nat)) 1) where
 mem:=by simp
 obj:=λi h st b hb=>by
  have e:b=it:=by simpa using hb
  subst e;exact⟨_,st,λv z=>by have z':Data.fields _=Data.cell v:=z;cases z'⟩
 keep:=λi h h' st k=>k it (by simp) _ st
 item:=by intro X hP hw hK hc i pins s σ H E I hf st hg;subst hP hw hK;obtain⟨f0,f1,f2,f3,f4,f5⟩:=hf it (by simp);have W:=Walks.range (prog:=X.prog) (w:=X.w) (I.ok.hd hc) it lo 1 n;refine W.item i s _ _ hg st λv h' tk hv st' kk=> ?_;obtain⟨t,rfl⟩:=hv;have I1:Inv X pins σ H {s with heap:=h',toks:=tk}:=I.turned (λb o hb e=>kk b o (by simpa using hb) e) f0 f1 f3 f4 f5;refine⟨_,rfl,wJ (s:={s with heap:=h',toks:=tk}) (n:= "range_iterator") st' rfl rfl (by decide) ⟨.int (lo+i),H,I1,⟨t,?_⟩,⟨rfl,rfl⟩,st',λb hb=>(hf b hb).1⟩⟩;rw[Int.mul_one]
 done:=by intro X hP hw hK hc i pins s σ H E I hf st hg;subst hP hw hK;obtain⟨f0,f1,f2,f3,f4,f5⟩:=hf it (by simp);exact wpAny_pyNext_range_end (I.ok.hd hc) st (by have:n<=i:=hg;lia) λh' eb=>⟨rfl,I.turned (t':=s.toks) (λb o hb e=>eb b o hb e) f0 f1 f3 f4 f5⟩
 self:=λ_ _ _ _ _ st h=>Kg st h
end L2
namespace L2
open PySem PySem.Spec PyProof.Rows
section
variable{X:Cx}{tg:Expr}
inductive RdL(K:PySem.W.Frag)(R:It->Hp->Prop)(x:V)(H:Hp):Prop
 |mk (a:Addr) (e:x= .ref a) (s:∃xs,SqL K H a xs) (q:R (Itl K a) H):RdL K R x H
def Bx(K:PySem.W.Frag)(tl:TE):TI:=λσ H R=>tl σ H (RdL K R)
def EN(K:PySem.W.Frag)(tl:TE):TI:=λσ H R=>tl σ H λx H1=>∃a,x= .ref a/\(∃xs,SqT K H1 a xs)/\R (Itt K a) H1
theorem CH(hl:PE X l tl):PI X tg l (Bx X.K tl):=by
 intro pins s σ H R I h;refine thn (hl pins s σ H _ I h) λv s1 ⟨x,H1,I1,r1,q1⟩=> ?_;obtain⟨a,e,⟨xs,hq⟩,q⟩:=q1;subst e;cases r1;obtain⟨its,rv,p,hz⟩:=I1.list hq;refine wpAny_pyIter_list p.isList ?_;refine⟨s1.heap.objs.size,[s1.heap.objs.size],_,_,H1,rfl,I1.kept (t':=s1.toks) λb o e=>GK _ e,xm a _,⟨_,HJ _ rfl,rfl,rfl⟩,λb hb=> ?_,q⟩;have e:b=s1.heap.objs.size:=by simpa using hb
 subst e;exact I1.fpOk (Gf _) (I1.hok.fresh (Gf _))
theorem Eg(hl:PE X l tl):PI X tg l (EN X.K tl):=by
 intro pins s σ H R I h;refine thn (hl pins s σ H _ I h) λv s1 ⟨x,H1,I1,r1,q1⟩=> ?_;obtain⟨a,e,⟨xs,hq⟩,q⟩:=q1;subst e;cases r1;obtain⟨its,rv,p,hz⟩:=I1.tuple hq;refine wpAny_pyIter_tuple (show s1.heap.IsTuple a its.toArray from p) ?_;refine⟨s1.heap.objs.size,[s1.heap.objs.size],_,_,H1,rfl,I1.kept (t':=s1.toks) λb o e=>GK _ e,uD a _,⟨_,HJ _ rfl,rfl,rfl⟩,λb hb=> ?_,q⟩;have e:b=s1.heap.objs.size:=by simpa using hb
 subst e;exact I1.fpOk (Gf _) (I1.hok.fresh (Gf _))
theorem sH{σ:St}{s:Shared}{lo hi:Int}(I:Inv X pins σ H s)(h1: -(2^62)<=lo)(h2:lo<2^62)(h3: -(2^62)<=hi)(h4:hi<2^62)
  (q:R (Itr lo (hi-lo).toNat) H):wpAny (model X.prog X.w) X.A (pyIter (.ref s.heap.objs.size)) (PIE X pins σ tg R) E {s with heap:=s.heap.push {cls:= .type "range",data:= .fields #[.int lo t, .int hi u, .int 1 v]},toks:=tk}:=by
 refine wpAny_pyIter_range (IsRange.new ..) (small_one h1 h2 h3 h4) ?_;have I1:Inv X pins σ H {s with heap:=s.heap.push {cls:= .type "range",data:= .fields #[.int lo t, .int hi u, .int 1 v]},toks:=tk}:=I.kept λb o e=>GK _ e;refine⟨(s.heap.push {cls:= .type "range",data:= .fields #[.int lo t, .int hi u, .int 1 v]}).objs.size,[(s.heap.push {cls:= .type "range",data:= .fields #[.int lo t, .int hi u, .int 1 v]}).objs.size],_,_,H,rfl,
  I1.kept (t':=tk) λb o e=>GK _ e,uE _ lo (hi-lo).toNat,?_,λb hb=> ?_,q⟩
 .have e1:lo+((0:Nat):Int)*1=lo:=by simp
  have e2:(((hi-lo).toNat:Nat):Int) - ((0:Nat):Int)=Builtin.Range.rangeSize lo hi 1:=by rw[rangeSize_one];split<;>lia
  show IsRangeIter _ _ (lo+((0:Nat):Int)*1) ((((hi-lo).toNat:Nat):Int) - ((0:Nat):Int)) 1;rw[e1,e2];exact HJ _ rfl
 .have e:b=(s.heap.push {cls:= .type "range",data:= .fields #[.int lo t, .int hi u, .int 1 v]}).objs.size:=by simpa using hb
  subst e;exact I1.fpOk (Gf _) (I1.hok.fresh (Gf _))
def DK(ta:TA):TI:=λσ H R=>ta σ H λvs H1=>∃j:Int,vs=[.int j]/\ -(2^62)<=j/\j<2^62/\R (Itr 0 j.toNat) H1
def Ft(ta:TA):TI:=λσ H R=>ta σ H λvs H1=>∃i j:Int,vs=[.int i, .int j]/\(-(2^62)<=i/\i<2^62/\ -(2^62)<=j/\j<2^62)/\R (Itr i (j-i).toNat) H1
theorem xU{a:Expr}{ta:TA}{p pos:Pos}(hg:Gl X "range")(hm:X.mg "range"=none)(ha:PA X [a] ta)(hs:starEach [a] X.env=[(false,eval a X.env)]:=by rfl):PI X tg (.Call (.Name "range" p) [a] [] pos) (DK ta):=by
 intro pins s σ H R I h;refine Call_ (gc I hg hm boot_range (Iz (thn (ha pos pins s σ H _ I h) λus s1 ⟨vs,H1,I1,r1,q1⟩=> ?_) hs rfl));obtain⟨j,e,q1,q2,q⟩:=q1;subst e;cases r1 with
 |cons r rr=>
  cases rr;obtain⟨t,rfl⟩:=r;exact call_range_1 (sH I1 (by lia) (by lia) q1 q2 (by simpa using q))
theorem xT{a b:Expr}{ta:TA}{p pos:Pos}(hg:Gl X "range")(hm:X.mg "range"=none)(ha:PA X [a,b] ta)(hs:starEach [a,b] X.env=[(false,eval a X.env),(false,eval b X.env)]:=by rfl)(hs2:starEach [b] X.env=[(false,eval b X.env)]:=by rfl):
  PI X tg (.Call (.Name "range" p) [a,b] [] pos) (Ft ta):=by
 intro pins s σ H R I h;refine Call_ (gc I hg hm boot_range (Iz (thn (ha pos pins s σ H _ I h) λus s1 ⟨vs,H1,I1,r1,q1⟩=> ?_) (by rw[hs,hs2]) (by rw[hs2];rfl)));obtain⟨i,j,e,⟨q1,q2,q3,q4⟩,q⟩:=q1;subst e;cases r1 with
 |cons r rr=>
  cases rr with
  |cons r' rr=>
   cases rr;obtain⟨t,rfl⟩:=r;obtain⟨t',rfl⟩:=r';exact call_range_2 (sH I1 q1 q2 q3 q4 q)
def E8(wi:TI)(g:TG)(tb:TS):TS:=λD σ H=>wi σ H λJ H1=>∃W:Nat->Nat->St->Hp->Prop,(∃m,W 0 m σ H1)/\∀i m σ H,W i m σ H->
 (J.stop i H/\D.nx σ H)\/(J.go i H/\∃N:St->Hp->Prop,(∀σ' H',N σ' H'->∃m',m'<m/\W (i+1) m' σ' H')/\∀x H',J.yld i H x H'->g x σ H' λσ2 H2=>tb {D with nx:=N,ct:=N,bk:=D.nx} σ2 H2)
def mX(fp:List Addr)(h:Heap):List (Addr×Obj):=fp.filterMap λb=>(h.get? b).map λo=>(b,o)
theorem gJ{h:Heap}(hb:b∈fp)(e:h.get? b=some o):(b,o)∈mX fp h:=List.mem_filterMap.mpr ⟨b,hb,by rw[e];rfl⟩
theorem yk{h:Heap}(hp:p∈mX fp h):p.1∈fp/\h.get? p.1=some p.2:=by
 obtain⟨b,hb,e⟩:=List.mem_filterMap.mp hp;cases q:h.get? b with
 |none=>rw[q]at e;cases e
 |some o=>
  rw[q]at e;have e':(b,o)=p:=GY e;subst e';exact⟨hb,q⟩
theorem Inv.pinned{σ:St}{s:Shared}(I:Inv X pins σ H s)(hf:∀b∈fp,rF X pins H b)(ho:∀b∈fp,∃o,s.heap.get? b=some o/\∀v,o.data≠ .cell v):Inv X (pins++mX fp s.heap) σ H s:=
 I.pins_of λp hp=>(Gu.mp hp).elim (λz=>I.pin p (Hm _ z)) λz=>by obtain⟨hb,e⟩:=yk z;obtain⟨f0,f1,f2,_⟩:=hf p.1 hb;obtain⟨o,e',d⟩:=ho p.1 hb;rw[e]at e';cases e';exact⟨e,f0,f1,f2,d⟩
theorem Inv.unpinned{σ:St}(I:Inv X (pins++pl) σ H s):Inv X pins σ H s:=I.pins_of λp hp=>I.pin p (Hm _ (Ii _ hp))
theorem Ed{iter:Expr}{body:List Stmt}{wi:TI}{g:TG}{tb:TS}{pos:Pos}(hp:PassesOwn (model X.prog X.w) X.A X.env X.xe)(hc:X.calm=true)(hi:PI X tg iter wi)(hg:PG X tg g)(hb:PSs X body tb)
  (hs:∀x,foldedSetIterable iter X.env x=pure x:=by intro _;rfl):PS X (.For tg iter body [] pos) (E8 wi g tb):=by
 intro pins s σ H D I h;refine wpAny_For (thn (hi pins s σ H _ I h) λv s1 h1=>thn h1 λitv s2 h2=> ?_) hs;obtain⟨it,fp,tn,J,H2,e,I2,T,st2,f2,W,⟨m0,w0⟩,turn⟩:=h2;subst e;have stat:∀ {H':Hp},(∀b∈fp,H' b=none)->∀b∈fp,rF X pins H' b:=λhn b hb=>⟨hn b hb,(f2 b hb).2⟩;refine codeAny_forLoop_any (λn s'=>∃i σ' H',Inv X pins σ' H' s'/\tn i s'.heap/\(∀b∈fp,H' b=none)/\W i n σ' H') ?_ m0 ⟨0,σ,H2,I2,st2,λb hb=>(f2 b hb).1,w0⟩;rintro n s3 ⟨i,σ3,H3,I3,st3,fr3,w3⟩;rcases turn i n σ3 H3 w3 with ⟨stop,qn⟩|⟨go,N,hN,step⟩
 .refine Js hp (thn (T.done X rfl rfl rfl hc i pins s3 σ3 H3 X.xe I3 (stat fr3) st3 stop) λr s4 ⟨hr,I4⟩=> ?_);subst hr;exact Ku ⟨σ3,H3,I4,qn⟩
 .refine Js hp (thn (T.item X rfl rfl rfl hc i pins s3 σ3 H3 X.xe I3 (stat fr3) st3 go) λr s4 ⟨u,hr,h4⟩=> ?_);subst hr;refine Js hp (thn h4 λ_ s5 ⟨x,H5,I5,r5,y5,st5,fr5⟩=> ?_);have I5':=I5.pinned (stat fr5) (T.obj _ _ st5);refine Js hp (thn (hg _ s5 σ3 H5 x u _ I5' r5 (step x H5 y5)) λ_ s6 ⟨σ6,H6,I6,q6⟩=> ?_);refine Js hp (thn (hb _ s6 σ6 H6 _ I6 q6) λf s7 q7=> ?_);have again:∀ {σ7:St} {H7:Hp},Inv X (pins++mX fp s5.heap) σ7 H7 s7->N σ7 H7->∃m,m<n/\∃i σ' H',Inv X pins σ' H' s7/\tn i s7.heap/\(∀b∈fp,H' b=none)/\W i m σ' H':=λ{σ7 H7} I7 n7=>by obtain⟨m',hm,w7⟩:=hN σ7 H7 n7;refine⟨m',hm,i+1,σ7,H7,I7.unpinned,T.keep _ _ _ st5 λb hb o e=>(I7.pin (b,o) (Hm _ (Hm _ (gJ hb e)))).1,λb hb=> ?_,w7⟩;obtain⟨o,e,d⟩:=T.obj _ _ st5 b hb;exact(I7.pin (b,o) (Hm _ (Hm _ (gJ hb e)))).2.1
  cases f with
  |next=>obtain⟨σ7,H7,I7,n7⟩:=q7;exact again I7 n7
  |cont=>obtain⟨σ7,H7,I7,n7⟩:=q7;exact again I7 n7
  |brk=>obtain⟨σ7,H7,I7,q7⟩:=q7;exact⟨σ7,H7,I7.unpinned,q7⟩
  |ret v=>obtain⟨x7,σ7,H7,I7,r7,q7⟩:=q7;exact⟨x7,σ7,H7,I7.unpinned,r7,q7⟩
end
theorem bz{K:PySem.W.Frag}{xs:List V}{g:TG}{tb:TS}{D:Ends}(Pv:Nat->St->Hp->Prop)(h0:Pv 0 σ H)(hl:∀i σ H,i<=xs.length->Pv i σ H->SqL K H a xs)
  (hs:∀i x σ H,xs[i]?=some x->Pv i σ H->g x σ H λσ2 H2=>tb {D with nx:=Pv (i+1),ct:=Pv (i+1),bk:=D.nx} σ2 H2) (hd:∀σ H,Pv xs.length σ H->D.nx σ H):
  ∃W:Nat->Nat->St->Hp->Prop,(∃m,W 0 m σ H)/\∀i m σ H,W i m σ H->
   ((Itl K a).stop i H/\D.nx σ H)\/((Itl K a).go i H/\∃N:St->Hp->Prop,(∀σ' H',N σ' H'->∃m',m'<m/\W (i+1) m' σ' H')/\∀x H',(Itl K a).yld i H x H'->g x σ H' λσ2 H2=>tb {D with nx:=N,ct:=N,bk:=D.nx} σ2 H2):=by
 refine⟨λi m σ H=>m=xs.length-i/\i<=xs.length/\Pv i σ H,⟨xs.length,by simp,Hy _,h0⟩,?_⟩;rintro i m σ H ⟨rfl,hi,p⟩;have q:=hl i σ H hi p;by_cases hlt:i<xs.length
 .refine .inr ⟨⟨xs,xs[i],q,by simp[hlt]⟩,Pv (i+1),λσ' H' p'=>⟨xs.length- (i+1),Ip hlt (Ig _),rfl,hlt,p'⟩,λx H' y=> ?_⟩;obtain⟨e,y⟩:=y;subst e;exact hs i x σ _ (y xs q) p
 .have e:i=xs.length:=Ir hi (Ij hlt);subst e;exact .inl ⟨⟨xs,q,Gf _⟩,hd σ H p⟩
theorem bK{lo:Int}{g:TG}{tb:TS}{D:Ends}(Pv:Nat->St->Hp->Prop)(h0:Pv 0 σ H)
  (hs:∀i σ H,i<n->Pv i σ H->g (.int (lo+i)) σ H λσ2 H2=>tb {D with nx:=Pv (i+1),ct:=Pv (i+1),bk:=D.nx} σ2 H2) (hd:∀σ H,Pv n σ H->D.nx σ H):
  ∃W:Nat->Nat->St->Hp->Prop,(∃m,W 0 m σ H)/\∀i m σ H,W i m σ H->
   ((Itr lo n).stop i H/\D.nx σ H)\/((Itr lo n).go i H/\∃N:St->Hp->Prop,(∀σ' H',N σ' H'->∃m',m'<m/\W (i+1) m' σ' H')/\∀x H',(Itr lo n).yld i H x H'->g x σ H' λσ2 H2=>tb {D with nx:=N,ct:=N,bk:=D.nx} σ2 H2):=by
 refine⟨λi m σ H=>m=n-i/\i<=n/\Pv i σ H,⟨n,by simp,Hy _,h0⟩,?_⟩;rintro i m σ H ⟨rfl,hi,p⟩;by_cases hlt:i<n
 .refine .inr ⟨hlt,Pv (i+1),λσ' H' p'=>⟨n- (i+1),Ip hlt (Ig _),rfl,hlt,p'⟩,λx H' y=> ?_⟩;obtain⟨e,y⟩:=y;subst e y;exact hs i σ _ hlt p
 .have e:i=n:=Ir hi (Ij hlt);subst e;exact .inl ⟨Gf _,hd σ H p⟩
end L2
namespace L2
open PySem PySem.Spec PyProof.Rows
abbrev R2:=V->V->Hp->VK->Prop
def OpR(X:Cx)(f:Value->Value->Sem Value)(r:R2):Prop:=
 ∀ (pins:List (Addr×Obj)) (s:Shared) (σ:St) (H:Hp) (x y:V) (v u:Value) (Q:VK),Inv X pins σ H s->a9 x v->a9 y u->r x y H Q->
  wpAny (model X.prog X.w) X.A (f v u) (EP X pins σ Q) X.xe s
def UnR(X:Cx)(f:Value->Sem Value)(r:V->Hp->VK->Prop):Prop:=
 ∀ (pins:List (Addr×Obj)) (s:Shared) (σ:St) (H:Hp) (x:V) (v:Value) (Q:VK),Inv X pins σ H s->a9 x v->r x H Q->
  wpAny (model X.prog X.w) X.A (f v) (EP X pins σ Q) X.xe s
def cE(X:Cx)(f:Value)(r:List V->Hp->VK->Prop):Prop:=
 ∀ (pins:List (Addr×Obj)) (s:Shared) (σ:St) (H:Hp) (xs:List V) (us:List Value) (Q:VK),Inv X pins σ H s->Vals xs us->r xs H Q->
  wpAny (model X.prog X.w) X.A (call f us) (EP X pins σ Q) X.xe s
def FZ(X:Cx)(r:V->Hp->(Bool->Hp->Prop)->Prop):Prop:=
 ∀ (pins:List (Addr×Obj)) (s:Shared) (σ:St) (H:Hp) (x:V) (v:Value) (Q:Bool->Hp->Prop),Inv X pins σ H s->a9 x v->r x H Q->
  wpAny (model X.prog X.w) X.A (truthy v) (TP X pins σ Q) X.xe s
def tOp(r:R2)(ta tb:TE):TE:=λσ H Q=>ta σ H λx H1=>tb σ H1 λy H2=>r x y H2 Q
def tUn(r:V->Hp->VK->Prop)(ta:TE):TE:=λσ H Q=>ta σ H λx H1=>r x H1 Q
inductive RdI(C:Int->Int->Prop)(g:Int->Int->V)(x y:V)(H:Hp)(Q:VK):Prop
 |mk (i j:Int) (e1:x= .int i) (e2:y= .int j) (c:C i j) (q:Q (g i j) H):RdI C g x y H Q
def rI(C:Int->Int->Prop)(g:Int->Int->V):R2:=λx y H Q=>RdI C g x y H Q
inductive FC(g:Int->Int->V)(x y:V)(H:Hp)(Q:VK):Prop
 |mk (i j:Int) (e1:x= .int i) (e2:y= .int j) (q:Q (g i j) H):FC g x y H Q
def rI0(g:Int->Int->V):R2:=λx y H Q=>FC g x y H Q
def rU(g:Int->V):V->Hp->VK->Prop:=λx H Q=>∃i,x= .int i/\Q (g i) H
section
variable{X:Cx}{a b c:Expr}{ta tb tc:TE}{pos:Pos}
theorem E1(ha:PE X a ta)(hb:PE X b tb){σ:St}{R:V->V->Hp->Prop}(I:Inv X pins σ H s)
  (h:ta σ H λx H1=>tb σ H1 λy H2=>R x y H2)  {f:Value->Value->Sem Value}
  (hf:∀v u s2 x y H2,Inv X pins σ H2 s2->a9 x v->a9 y u->R x y H2->wpAny (model X.prog X.w) X.A (f v u) Q X.xe s2):
  wpAny (model X.prog X.w) X.A (eval a X.env) (λv s₁=>wpAny (model X.prog X.w) X.A (eval b X.env) (λu s₂=>wpAny (model X.prog X.w) X.A (f v u) Q X.xe s₂) X.xe s₁) X.xe s:=by
 refine thn (ha pins s σ H _ I h) λv s1 ⟨x,H1,I1,r1,q1⟩=> ?_;refine thn (hb pins s1 σ H1 _ I1 q1) λu s2 ⟨y,H2,I2,r2,q2⟩=> ?_;exact hf v u s2 x y H2 I2 r1 r2 q2
theorem aq(ho:OpR X (binaryOp op) r)(ha:PE X a ta)(hb:PE X b tb):PE X (.BinOp a op b pos) (tOp r ta tb):=by intro pins s σ H Q I h;exact wpAny_BinOp (E1 ha hb I h λv u s2 x y H2 I2 rx ry q=>ho pins s2 σ H2 x y v u Q I2 rx ry q)
theorem gq(ho:UnR X (unaryOp op) r)(ha:PE X a ta):PE X (.UnaryOp op a pos) (tUn r ta):=by intro pins s σ H Q I h;exact UnaryOp_ (thn (ha pins s σ H _ I h) λv s1 ⟨x,H1,I1,r1,q1⟩=>ho pins s1 σ H1 x v Q I1 r1 q1)
theorem opI{g:Int->Int->Int}
  (rule:∀ (i j:Int) (t u:Tok) (s:Shared) (Q:Value->Shared->Prop) (E:Value->Shared->Prop),C i j->Q (.int (g i j) s.toks) {s with toks:=s.toks+1}->wpAny (model X.prog X.w) X.A (f (.int i t) (.int j u)) Q E s):
  OpR X f (rI C λi j=> .int (g i j)):=by
 intro pins s σ H x y v u Q I rx ry h;obtain⟨i,j,rfl,rfl,hc,q⟩:=h;obtain⟨t,rfl⟩:=rx;obtain⟨t',rfl⟩:=ry;exact rule i j t t' s _ _ hc ⟨.int (g i j),H,I.tok _,⟨_,rfl⟩,q⟩
theorem AN{g:Int->Int->Int}
  (rule:∀ (i j:Int) (t u:Tok) (s:Shared) (Q:Value->Shared->Prop) (E:Value->Shared->Prop),Q (.int (g i j) s.toks) {s with toks:=s.toks+1}->wpAny (model X.prog X.w) X.A (f (.int i t) (.int j u)) Q E s):
  OpR X f (rI0 λi j=> .int (g i j)):=by
 intro pins s σ H x y v u Q I rx ry h;obtain⟨i,j,rfl,rfl,q⟩:=h;obtain⟨t,rfl⟩:=rx;obtain⟨t',rfl⟩:=ry;exact rule i j t t' s _ _ ⟨.int (g i j),H,I.tok _,⟨_,rfl⟩,q⟩
theorem Ew{g:Int->Int->Bool}
  (rule:∀ (i j:Int) (t u:Tok) (s:Shared) (Q:Value->Shared->Prop) (E:Value->Shared->Prop),Q (.bool (g i j)) s->wpAny (model X.prog X.w) X.A (f (.int i t) (.int j u)) Q E s):
  OpR X f (rI0 λi j=> .bl (g i j)):=by
 intro pins s σ H x y v u Q I rx ry h;obtain⟨i,j,rfl,rfl,q⟩:=h;obtain⟨t,rfl⟩:=rx;obtain⟨t',rfl⟩:=ry;exact rule i j t t' s _ _ ⟨.bl (g i j),H,I,rfl,q⟩
def F2(i j:Int):Prop:=0<j/\j<1073741824
def FH(i j:Int):Prop:=0<=j/\j<=1000000/\i.natAbs<2^64
def E2(i j:Int):Prop:=(-(2^64)<i/\i<2^64)\/(-(2^64)<j/\j<2^64)
theorem E2.ok(h:E2 i j):IntMulOk i j:=by
 rcases h with ⟨h1,h2⟩|⟨h1,h2⟩
 .exact .of_left (intBits_le_64 h1 h2)
 .exact .of_right (intBits_le_64 h1 h2)
theorem jc(k:Nat):(0:Int)<=2^k:=by rw[two_pow_cast];exact Hr _
theorem dg:OpR X (binaryOp .Add) (rI0 λi j=> .int (i+j)):=AN λ_ _ _ _ _ _ _ q=>add_int q
theorem dO:OpR X (binaryOp .Sub) (rI0 λi j=> .int (i-j)):=AN λ_ _ _ _ _ _ _ q=>sub_int q
theorem gH:OpR X (binaryOp .Mult) (rI E2 λi j=> .int (i*j)):=opI λ_ _ _ _ _ _ _ hc q=>mul_int q hc.ok
theorem gI:OpR X (binaryOp .FloorDiv) (rI F2 λi j=> .int (i/j)):=opI λi j _ _ _ _ _ hc q=>by have h1:(0:Int)<j:=hc.1;have h2:j<1073741824:=hc.2;exact floordiv_int (by lia) (by rw[K0 i (by lia)];exact q) (.inl (PyProof.noPylong_small (by lia)))
theorem bD:OpR X (binaryOp .Mod) (rI (λ_ j=>0<j) λi j=> .int (i % j)):=opI λi j _ _ _ _ _ hc q=>by have h1:(0:Int)<j:=hc;exact mod_int' (by lia) (by rw[Int.fmod_eq_emod_of_nonneg i (by lia)];exact q)
theorem bY:OpR X (binaryOp .LShift) (rI FH λi j=> .int (i*2^j.toNat)):=opI λ_ _ _ _ _ _ _ hc q=>lshift_int_small hc.1 hc.2.1 hc.2.2 q
theorem fC:OpR X (binaryOp .RShift) (rI (λ_ j=>0<=j) λi j=> .int (i/2^j.toNat)):=opI λi j _ _ _ _ _ hc q=>
 rshift_int hc (by rw[K0 i (jc _)];exact q)
theorem dy:OpR X (binaryOp .BitAnd) (rI0 λi j=> .int (Builtin.bitAnd i j)):=AN λ_ _ _ _ _ _ _ q=>and_int q
theorem jS:OpR X (binaryOp .BitOr) (rI0 λi j=> .int (Builtin.bitOr i j)):=AN λ_ _ _ _ _ _ _ q=>or_int q
theorem uQ:OpR X (binaryOp .BitXor) (rI0 λi j=> .int (Builtin.bitXor i j)):=AN λ_ _ _ _ _ _ _ q=>xor_int q
theorem unI{f:Value->Sem Value}{g:Int->Int}
  (rule:∀ (i:Int) (t:Tok) (s:Shared) (Q:Value->Shared->Prop) (E:Value->Shared->Prop),Q (.int (g i) s.toks) {s with toks:=s.toks+1}->wpAny (model X.prog X.w) X.A (f (.int i t)) Q E s):
  UnR X f (rU λi=> .int (g i)):=by
 intro pins s σ H x v Q I rx h;obtain⟨i,rfl,q⟩:=h;obtain⟨t,rfl⟩:=rx;exact rule i t s _ _ ⟨.int (g i),H,I.tok _,⟨_,rfl⟩,q⟩
theorem dS:UnR X (unaryOp .USub) (rU λi=> .int (-i)):=unI λ_ _ _ _ _ q=>neg_int q
end
def scal:V->V->Bool
 | .non, .non=>true| .non, .int _=>true| .int _, .non=>true| .non, .bl _=>true| .bl _, .non=>true| .non, .str _=>true| .str _, .non=>true
 | .int _, .int _=>true| .bl _, .bl _=>true| .str _, .str _=>true| .byt _, .byt _=>true
 | .int _, .str _=>true| .str _, .int _=>true| .bl _, .str _=>true| .str _, .bl _=>true
 |_,_=>false
def rEq:R2:=λx y H Q=>scal x y=true/\Q (.bl (decide (x=y))) H
def rNe:R2:=λx y H Q=>scal x y=true/\Q (.bl (!decide (x=y))) H
theorem aJ:decide (V.int i=V.int j)=(i==j):=by rw[IS];simp
theorem BL:decide (V.bl i=V.bl j)=(i==j):=by rw[IS];simp
theorem wQ:decide (V.str i=V.str j)=(i==j):=by rw[IS];simp
theorem wR{i j:Array UInt8}:decide (V.byt i=V.byt j)=(i.toList==j.toList):=by rw[IS];cases i;cases j;simp
section
variable{X:Cx}{a b c:Expr}{ta tb tc:TE}{pos:Pos}
theorem bb{pins:List (Addr×Obj)}{σ:St}{H:Hp}{s:Shared}{Q:VK}{k k':Bool}(I:Inv X pins σ H s)(q:Q (.bl k) H)(e:k=k'):EP X pins σ Q (.bool k') s:=by subst e;exact⟨.bl k,H,I,rfl,q⟩
theorem aO:OpR X (compareOp .Eq) rEq:=by
 intro pins s σ H x y v u Q I rx ry h;obtain⟨hs,q⟩:=h;cases x with
 |non=>
  cases rx;cases y with
  |non=>cases ry;exact PySem.EqNone.eq_none_none (bb I q (by simp))
  |bl j=>cases ry;exact PySem.EqNone.eq_none_bool (bb I q (by simp))
  |int j=>obtain⟨t',rfl⟩:=ry;exact PySem.EqNone.eq_none_int (bb I q (by simp))
  |str j=>obtain⟨t',rfl⟩:=ry;exact PySem.EqNone.eq_none_str (bb I q (by simp))
  |_=>exact absurd (show false=true from hs) Gj
 |bl i=>
  cases rx;cases y with
  |non=>cases ry;exact PySem.EqNone.eq_bool_none (bb I q (by simp))
  |bl j=>cases ry;exact eq_bool (bb I q BL)
  |str j=>obtain⟨t',rfl⟩:=ry;exact PySem.EqMixed.eq_bool_str (bb I q (by simp))
  |_=>exact absurd (show false=true from hs) Gj
 |int i=>
  obtain⟨t,rfl⟩:=rx;cases y with
  |non=>cases ry;exact PySem.EqNone.eq_int_none (bb I q (by simp))
  |int j=>obtain⟨t',rfl⟩:=ry;exact eq_int (bb I q aJ)
  |str j=>obtain⟨t',rfl⟩:=ry;exact PySem.EqMixed.eq_int_str (bb I q (by simp))
  |_=>exact absurd (show false=true from hs) Gj
 |str i=>
  obtain⟨t,rfl⟩:=rx;cases y with
  |non=>cases ry;exact PySem.EqNone.eq_str_none (bb I q (by simp))
  |bl j=>cases ry;exact PySem.EqMixed.eq_str_bool (bb I q (by simp))
  |int j=>obtain⟨t',rfl⟩:=ry;exact PySem.EqMixed.eq_str_int (bb I q (by simp))
  |str j=>obtain⟨t',rfl⟩:=ry;exact eq_str (bb I q wQ)
  |_=>exact absurd (show false=true from hs) Gj
 |byt i=>
  obtain⟨t,rfl⟩:=rx;cases y with
  |byt j=>obtain⟨t',rfl⟩:=ry;exact PySem.W.eq_bytes (bb I q wR)
  |_=>exact absurd (show false=true from hs) Gj
 |_=>cases y<;>exact absurd (show false=true from hs) Gj
theorem eX:OpR X (compareOp .NotEq) rNe:=by
 intro pins s σ H x y v u Q I rx ry h;obtain⟨hs,q⟩:=h;cases x with
 |non=>
  cases rx;cases y with
  |non=>cases ry;exact PySem.EqNone.ne_none_none (bb I q (by simp))
  |bl j=>cases ry;exact PySem.EqNone.ne_none_bool (bb I q (by simp))
  |int j=>obtain⟨t',rfl⟩:=ry;exact PySem.EqNone.ne_none_int (bb I q (by simp))
  |str j=>obtain⟨t',rfl⟩:=ry;exact PySem.EqNone.ne_none_str (bb I q (by simp))
  |_=>exact absurd (show false=true from hs) Gj
 |bl i=>
  cases rx;cases y with
  |non=>cases ry;exact PySem.EqNone.ne_bool_none (bb I q (by simp))
  |bl j=>cases ry;exact ne_bool (bb I q (GQ not BL))
  |str j=>obtain⟨t',rfl⟩:=ry;exact PySem.EqMixed.ne_bool_str (bb I q (by simp))
  |_=>exact absurd (show false=true from hs) Gj
 |int i=>
  obtain⟨t,rfl⟩:=rx;cases y with
  |non=>cases ry;exact PySem.EqNone.ne_int_none (bb I q (by simp))
  |int j=>obtain⟨t',rfl⟩:=ry;exact ne_int (bb I q (GQ not aJ))
  |str j=>obtain⟨t',rfl⟩:=ry;exact PySem.EqMixed.ne_int_str (bb I q (by simp))
  |_=>exact absurd (show false=true from hs) Gj
 |str i=>
  obtain⟨t,rfl⟩:=rx;cases y with
  |non=>cases ry;exact PySem.EqNone.ne_str_none (bb I q (by simp))
  |bl j=>cases ry;exact PySem.EqMixed.ne_str_bool (bb I q (by simp))
  |int j=>obtain⟨t',rfl⟩:=ry;exact PySem.EqMixed.ne_str_int (bb I q (by simp))
  |str j=>obtain⟨t',rfl⟩:=ry;exact ne_str (bb I q (GQ not wQ))
  |_=>exact absurd (show false=true from hs) Gj
 |byt i=>
  obtain⟨t,rfl⟩:=rx;cases y with
  |byt j=>obtain⟨t',rfl⟩:=ry;exact PySem.W.ne_bytes (bb I q (GQ not wR))
  |_=>exact absurd (show false=true from hs) Gj
 |_=>cases y<;>exact absurd (show false=true from hs) Gj
theorem kU:OpR X (compareOp .Lt) (rI0 λi j=> .bl (decide (i<j))):=Ew λ_ _ _ _ _ _ _ q=>lt_int q
theorem nj:OpR X (compareOp .Gt) (rI0 λi j=> .bl (decide (j<i))):=Ew λ_ _ _ _ _ _ _ q=>gt_int q
theorem Fo:OpR X (compareOp .GtE) (rI0 λi j=> .bl (decide (j<=i))):=Ew λ_ _ _ _ _ _ _ q=>ge_int q
theorem Eu:OpR X (compareOp .Is) (λx y H Q=>y= .non/\Q (.bl (decide (x= .non))) H):=by
 intro pins s σ H x y v u Q I rx ry h;obtain⟨rfl,q⟩:=h;cases ry;refine is_none_gen (bb I q ?_);cases x<;>first
  |(cases rx;rfl)
  |(obtain⟨t,rfl⟩:=rx;rfl)
theorem qK:OpR X (compareOp .IsNot) (λx y H Q=>y= .non/\Q (.bl (!decide (x= .non))) H):=by
 intro pins s σ H x y v u Q I rx ry h;obtain⟨rfl,q⟩:=h;cases ry;refine isnot_none_gen (bb I q ?_);cases x<;>first
  |(cases rx;rfl)
  |(obtain⟨t,rfl⟩:=rx;rfl)
theorem OpR.or(h:OpR X f r)(h':OpR X f r'):OpR X f (λx y H Q=>r x y H Q\/r' x y H Q):=by
 intro pins s σ H x y v u Q I rx ry q;rcases q with q|q
 .exact h pins s σ H x y v u Q I rx ry q
 .exact h' pins s σ H x y v u Q I rx ry q
theorem nomark(b:Expr){op:CmpOp}(h:op≠ .In:=by decide)(h2:op≠ .NotIn:=by decide):behindInMarks op b=false:=by
 have e1:(op==CmpOp.In)=false:=by cases op<;>first|rfl|exact absurd rfl h
 have e2:(op==CmpOp.NotIn)=false:=by cases op<;>first|rfl|exact absurd rfl h2
 cases b<;>simp[behindInMarks,e1,e2]
theorem wC(ho:OpR X (compareOp op) r)(ha:PE X a ta)(hb:PE X b tb)(hm:behindInMarks op b=false):PE X (.Compare a [op] [b] pos) (tOp r ta tb):=by intro pins s σ H Q I h;exact wpAny_Compare1 (E1 ha hb I h λv u s2 x y H2 I2 rx ry q=>ho pins s2 σ H2 x y v u Q I2 rx ry q) hm
def Dy(t:TE):TT:=λσ H Q=>t σ H (RdB Q)
theorem qF(ho:OpR X (compareOp op) r)(ha:PE X a ta)(hb:PE X b tb)(hm:behindInMarks op b=false):PT X (.Compare a [op] [b] pos) (Dy (tOp r ta tb)):=by
 intro pins s σ H Q I h;refine wpAny_isTrue_Compare1 (thn (ha pins s σ H _ I h) λv s1 ⟨x,H1,I1,r1,q1⟩=>thn (hb pins s1 σ H1 _ I1 q1) λu s2 ⟨y,H2,I2,r2,q2⟩=>
  thn (ho pins s2 σ H2 x y v u _ I2 r1 r2 q2) λc s3 ⟨z,H3,I3,r3,k,e,q3⟩=> ?_) hm
 subst e;cases r3;exact Ju ⟨H3,I3,q3⟩
def FA(K:PySem.W.Frag)(x:V)(H:Hp)(k:Bool):Prop:=
 match x with
 | .non=>k=false
 | .bl b=>k=b
 | .int i=>k=(i !=0)
 | .str y=>y.length<=sizeLine/\k=((y.length:Int) !=0)
 | .byt y=>y.size<=sizeLine/\k=((y.size:Int) !=0)
 | .ref p=>(∃xs,SqL K H p xs/\k= !xs.isEmpty)\/(∃xs,SqT K H p xs/\k= !xs.isEmpty)\/∃kvs,H p=some (.dK kvs)/\k= !kvs.isEmpty
 |_=>False
theorem vj{kvs:List (κ×V)}{vs:List (κ×Value)}(r:KV kvs vs):(!vs.isEmpty)= !kvs.isEmpty:=by cases r<;>rfl
theorem nN{xs:List V}{its:List Value}(r:Vals xs its):(!its.toArray.isEmpty)= !xs.isEmpty:=by cases r<;>simp
theorem qV:(sizeLine:Nat)<2^63:=by rw[sizeLine_eq];decide
theorem DU:FZ X (λx H Q=>∃k,FA X.K x H k/\Q k H):=by
 intro pins s σ H x v Q I rx h;obtain⟨k,e,q⟩:=h;have hl:=qV;have hs:sizeLine=16777216:=sizeLine_eq;cases x with
 |non=>
  cases rx;have e':k=false:=e;subst e';exact truthy_none ⟨H,I,q⟩
 |bl b=>
  cases rx;have e':k=b:=e;subst e';exact Ju ⟨H,I,q⟩
 |int i=>
  obtain⟨t,rfl⟩:=rx;have e':k=(i !=0):=e;subst e';exact PySem.P.truthy_int ⟨H,I,q⟩
 |str y=>
  obtain⟨t,rfl⟩:=rx;obtain⟨hy,e'⟩:y.length<=sizeLine/\k=((y.length:Int) !=0):=e;subst e';exact PySem.P.truthy_str (by lia) ⟨H,I.tok _,q⟩
 |byt y=>
  obtain⟨t,rfl⟩:=rx;obtain⟨hy,e'⟩:y.size<=sizeLine/\k=((y.size:Int) !=0):=e;subst e';exact PySem.W.truthy_bytes (by lia) ⟨H,I.tok _,q⟩
 |ref p=>
  cases rx;have e':(∃xs,SqL X.K H p xs/\k= !xs.isEmpty)\/(∃xs,SqT X.K H p xs/\k= !xs.isEmpty)\/∃kvs,H p=some (.dK kvs)/\k= !kvs.isEmpty:=e;rcases e' with ⟨xs,hx,e'⟩|⟨xs,hx,e'⟩|⟨kvs,hx,e'⟩
  .subst e';obtain⟨its,r,pl,hz⟩:=I.list hx;have hlen:=r.length;exact wpAny_truthy_list pl.isList (by simp only[GS];lia) ⟨H,I.tok _,by rw[nN r];exact q⟩
  .subst e';obtain⟨its,r,pl,hz⟩:=I.tuple hx;have hlen:=r.length;exact truthy_tuple pl (by simp only[GS];lia) ⟨H,I.tok _,by rw[nN r];exact q⟩
  .subst e';obtain⟨hz,hS,vs,r,m⟩:kvs.length<=sizeLine/\(p==sysModules)=false/\∃vs,KV kvs vs/\s.heap.DictOf (cw X.prog X.w) p vs:=I.hok p _ hx;have hlen:kvs.length=vs.length:=JT r;exact wpAny_truthy_dict hS m (by lia) ⟨H,I.tok _,by rw[vj r];exact q⟩
 |_=>exact(show False from e).elim
theorem Aw(ha:PE X a ta)(he:∀whole,isTrue a X.env whole=(do let v<-whole;standAt a.pos;holding [v] (truthy v))):
  PT X a (λσ H Q=>ta σ H λx H'=>∃k,FA X.K x H' k/\Q k H'):=by
 intro pins s σ H Q I h;exact isTrue_plain (thn (ha pins s σ H _ I h) λv s1 ⟨x,H1,I1,r1,q1⟩=>DU pins s1 σ H1 x v Q I1 r1 q1) (he _)
theorem kN(r:Vals [x] us):∃u,us=[u]/\a9 x u:=by
 cases r with
 |cons r1 r2=>cases r2;exact⟨_,rfl,r1⟩
theorem Dx(r:Vals [x,y] us):∃u w',us=[u,w']/\a9 x u/\a9 y w':=by
 cases r with
 |cons r1 r2=>
  cases r2 with
  |cons r3 r4=>cases r4;exact⟨_,_,rfl,r1,r3⟩
theorem zi(hc:X.calm=true):cE X (.builtin "max") (λxs H Q=>∃i j,xs=[.int i, .int j]/\Q (.int (if j>i then j else i)) H):=by
 intro pins s σ H xs us Q I r h;obtain⟨i,j,rfl,q⟩:=h;obtain⟨u,w',rfl,⟨t,rfl⟩,⟨t',rfl⟩⟩:=Dx r;refine max_two_ints (I.ok.hd hc) λh' tk k=>⟨_,H,I.kept k,?_,q⟩;by_cases hj:j>i
 .rw[F7 hj,F7 hj];exact⟨_,rfl⟩
 .rw[F8 hj,F8 hj];exact⟨_,rfl⟩
end
end L2
namespace L2
open PySem PySem.Spec PyProof.Rows
structure vH(h:Heap)(x dx C:Addr)(mA:Str->Option Value):Prop where
 obj:h.get? x=some (instObj C dx)
 ns:h.Ns1 dx mA
 ne:dx≠x
theorem yz{h:Heap}(n:h.Ns1 dx mA):∃od,h.get? dx=some od/\∀name,lookIn name od=some (mA name):=by
 obtain⟨o,es,ep,ho,hd,hk,_,hm⟩:=n;refine⟨o,ho,λname=> ?_⟩;have e:=hm name;unfold nsFind findBy at e;rw[<-Array.find?_toList]at e;unfold lookIn;rw[hd];dsimp only;split
 .rename_i y q;rw[q]at e;exact GQ some e
 .rename_i q;rw[q]at e;have a:es.toList.any (·.refKey)=false:=by rw[List.any_eq_false];intro y hy;obtain⟨z,t,hkey⟩:=hk y (Array.mem_toList_iff.mp hy);simp[DictEntry.refKey,hkey]
  have a':¬es.toList.any (·.refKey)=true:=by rw[a];exact Gj
  rw[F8 a'];exact GQ some e
theorem vH.look(I:vH h x dx C mA):∃od,PySem.W.InstAt h x (instObj C dx) C (some od)/\∀name,lookIn name od=some (mA name):=
 let⟨od,ho,hl⟩:=yz I.ns
 ⟨od,⟨I.obj,rfl,rfl,ho⟩,hl⟩
section
variable{prog:Program}{w:World}{A:Around}{E:Value->Shared->Prop}{s:Shared}{K:PySem.W.Frag}{x dx C f:Addr}{mA:Str->Option Value}{name:Str}{v:Value}
theorem Df(X:K.In s.heap)(I:vH s.heap x dx C mA)(hg:plainGet K C name=true)(hh:hasDictIn K C=true)
  (ha:findIn K (.ref C) name=some none) (hv:mA name=some v) (hv':PySem.W.handedIn v=true) (h:Q v {s with toks:=s.toks+1}):
  wpAny (model prog w) A (getAttr (.ref x) name expr) Q E s:=by
 obtain⟨od,J,hl⟩:=I.look;exact PySem.W.get_value X J (KL hg).1 (PySem.W.findObj_own hh ha rfl (by rw[hl,hv])) hv' h
theorem BB(X:K.In s.heap)(I:vH s.heap x dx C mA)(hg:plainGet K C name=true)
  (hf:findIn K (.ref C) name=some (some (.ref f))) (ht:isFn K (.ref f)=true) (hv:mA name=none) (h:Q (.ref f,[.ref x]) s):
  wpAny (model prog w) A (getMethod (.ref x) name pl) Q E s:=by
 obtain⟨od,J,hl⟩:=I.look;exact PySem.W.method_fn X J (KL hg).1 (KL hg).2 hf (Kv.mp ht) (by show(lookIn name od).map (·.isSome)=some false;rw[hl,hv];rfl) h
theorem Cr{ns:List Str}(X:K.In s.heap)(I:vH s.heap x dx C mA)
  (hs:findIn K (.ref C) "__setattr__"=some (some (.builtin "object.__setattr__"))) (hp:plainOver K C=true) (ht:takerIn K C name=some none) (hh:hasDictIn K C=true)
  (hw:PySem.Within mA ns) (hsz:ns.length<=sizeLine)
  (h:∀h',vH h' x dx C (λy=>if y=name then some v else mA y)->Heap.SameBut dx s.heap h'->Q () {s with heap:=h',toks:=s.toks+2}):
  wpAny (model prog w) A (setAttr (.ref x) name v) Q E s:=by
 obtain⟨od,J,hl⟩:=I.look;refine PySem.W.set_plain X J hs (PySem.W.osa_open (s:={s with toks:=s.toks+1}) (r:=none) X J hp ht λb=> ?_);obtain⟨cd,hc,hd'⟩:=PySem.W.any_some hh;have hx:s.heap.get? x=some ⟨.ref C,some dx, .plain, #[]⟩:=I.obj;refine GR (Hx (GR (GR (wpAny_loadPart hx (GR (PySem.W.Looks.here (s:={s with toks:=s.toks+1}) (PySem.W.looks_clsIn X hc) ?_))))));rw[hd'];refine Hx (a:=some dx) (GR (Hx (GR ?_)));refine wpAny_nsSet1 (s:={s with toks:=s.toks+1}) I.ns λh' hn2 hs2=> ?_;obtain⟨oD,esD,epD,hoD,hdD,hcD⟩:=hn2.count (PySem.Within.cons name v hw);refine GR (wpAny_lookBehind hoD (by rw[hdD];exact pastItsLine_dict (Gd hcD (by rw[GA];lia))) ?_);exact Hx (h _ ⟨(hs2.2 _ (Ko I.ne)).trans I.obj,hn2,I.ne⟩ hs2)
theorem Bc(X:K.In s.heap)(hm:makesIn K C=true)
  (hi:findIn K (.ref C) "__init__"=some (some (.ref f))) (hf:PySem.W.typeIn K (.ref f)=some (.type "function"))
  (h:codeAny (model prog w) (A.under (.builtin "type.__call__" ⟨.ref C::vs,kw⟩)) (.call (.ref f) ⟨.ref (s.heap.objs.size+1)::vs,kw⟩) (PySem.W.InitBack (s.heap.objs.size+1) R)
   {s with heap:=(s.heap.push emptyDict).push (instObj C s.heap.objs.size)}):
  codeAny (model prog w) A (.call (.ref C) ⟨vs,kw⟩) R s:=by
 obtain⟨hh,g,d,t,os⟩:=s;exact PySem.W.make_core (PySem.W.makes_of X hm) (PySem.W.looks_findIn X hi) (λself=>PySem.W.bind_fn X self hf) (.inl rfl) h
end
def bc(f:Str)(v:V):List (Str×V)->List (Str×V)
 | []=>[(f,v)]
 |(g,x)::r=>if g=f then(g,v)::r else(g,x)::bc f v r
theorem fT(f g:Str)(v:V):∀fs:List (Str×V),(bc f v fs).lookup g=if g=f then some v else fs.lookup g
 | []=>by
  show List.lookup g [(f,v)]=_;by_cases h:g=f
  .have hb:(g==f)=true:=Kv.mpr h;simp only[List.lookup,hb,F7 h]
  .have hb:(g==f)=false:=JA.mpr h;simp only[List.lookup,hb,F8 h]
 |(k,x)::r=>by
  have ih:=fT f g v r;rw[show bc f v ((k,x)::r)=(if k=f then(k,v)::r else(k,x)::bc f v r)from rfl];by_cases hk:k=f
  .rw[F7 hk];by_cases h:g=k
   .have hb:(g==k)=true:=Kv.mpr h;simp only[List.lookup,hb,F7 (h.trans hk)]
   .have hb:(g==k)=false:=JA.mpr h;simp only[List.lookup,hb,F8 (λe:g=f=>h (e.trans hk.symm))]
  .rw[F8 hk];by_cases h:g=k
   .have hb:(g==k)=true:=Kv.mpr h;simp only[List.lookup,hb,F8 (λe:g=f=>hk (h.symm.trans e))]
   .have hb:(g==k)=false:=JA.mpr h;simp only[List.lookup,hb];exact ih
theorem kC(f:Str)(v:V):∀fs:List (Str×V),f∈(bc f v fs).map (·.1)/\∀g,g∈fs.map (·.1)->g∈(bc f v fs).map (·.1)
 | []=>⟨by simp[bc],λg h=>by simp at h⟩
 |(k,x)::r=>by
  obtain⟨i1,i2⟩:=kC f v r;rw[show bc f v ((k,x)::r)=(if k=f then(k,v)::r else(k,x)::bc f v r)from rfl];by_cases hk:k=f
  .rw[F7 hk];subst hk;exact⟨by simp,λg h=>by simpa using h⟩
  .rw[F8 hk];refine⟨?_,λg h=> ?_⟩
   .rw[GP];exact Gm _ i1
   .rw[GP]at h⊢;rcases Gh.mp h with e|e
    .exact Gh.mpr (.inl e)
    .exact Gm _ (i2 g e)
theorem aH(f:Str)(v:V):∀fs:List (Str×V),(bc f v fs).length<=fs.length+1
 | []=>by simp[bc]
 |(k,x)::r=>by
  have ih:=aH f v r;rw[show bc f v ((k,x)::r)=(if k=f then(k,v)::r else(k,x)::bc f v r)from rfl];by_cases hk:k=f
  .rw[F7 hk,GA,GA];lia
  .rw[F8 hk,GA,GA];lia
theorem gU.some_of(r:gU (some v) o):∃u,o=some u/\a9 v u:=by
 cases o with
 |none=>exact(show False from r).elim
 |some u=>exact⟨u,rfl,r⟩
theorem gU.none_of(r:gU none o):o=none:=by
 cases o with
 |none=>rfl
 |some u=>exact(show False from r).elim
theorem yN(r:a9 v u):PySem.W.handedIn u=true:=by
 cases v with
 |non=>cases (show u=Value.none from r);rfl
 |bl b=>cases (show u=Value.bool b from r);rfl
 |int i=>obtain⟨t,e⟩:=(show∃t,u=Value.int i t from r);cases e;rfl
 |str x=>obtain⟨t,e⟩:=(show∃t,u=Value.str x t from r);cases e;rfl
 |byt b=>obtain⟨t,e⟩:=(show∃t,u=Value.bytes b t from r);cases e;rfl
 |flt b=>obtain⟨t,e⟩:=(show∃t,u=Value.float b t from r);cases e;rfl
 |ref a=>cases (show u=Value.ref a from r);rfl
 |ty n=>cases (show u=Value.type n from r);rfl
section
variable{P:Program}{w:World}{H H':Hp}{h h':Heap}{a C dx:Addr}{fs fs':List (Str×V)}
theorem mm(hok:HOk P w H h)(e:H a=some (.ins C dx fs)):∃mA,vH h a dx C mA/\(∀f,gU (fs.lookup f) (mA f))/\PySem.Within mA (fs.map (·.1))/\fs.length<=1000/\H dx=some (.own a):=by obtain⟨d,z,ne,ob,mA,n,r,q⟩:=(show bC P w H h a (.ins C dx fs)from hok a _ e);exact⟨mA,⟨ob,n,ne⟩,r,q,z,d⟩
end
structure Cls(K:PySem.W.Frag)(C:Addr):Prop where
 pg:plainGet K C Str.empty=true
 hd:hasDictIn K C=true
 po:plainOver K C=true
 sa:findIn K (.ref C) "__setattr__"=some (some (.builtin "object.__setattr__"))
theorem Cls.get{K:PySem.W.Frag}{C:Addr}(c:Cls K C)(f:Str):plainGet K C f=true:=c.pg
def aV(K:PySem.W.Frag)(C:Addr)(f:Str):Prop:=findIn K (.ref C) f=some none
theorem aV.taker{K:PySem.W.Frag}{C:Addr}{f:Str}(n:aV K C f):takerIn K C f=some none:=by unfold takerIn;rw[show findIn K (.ref C) f=some none from n];rfl
structure Meth(K:PySem.W.Frag)(C:Addr)(m:Str)(f:Addr):Prop where
 at_:findIn K (.ref C) m=some (some (.ref f))
 fn:isFn K (.ref f)=true
 kp:keepIn K (.ref f)=true
section
variable{X:Cx}{pins:List (Addr×Obj)}{σ:St}{H:Hp}{s:Shared}{a C dx:Addr}{fs:List (Str×V)}{f:Str}{v:V}{A:Around}{E:Value->Shared->Prop}
theorem vn(I:Inv X pins σ H s)(e:H a=some (.ins C dx fs))(c:Cls X.K C)(n:aV X.K C f)(l:fs.lookup f=some v)
  (h:∀u s',Inv X pins σ H s'->a9 v u->Q u s'):wpAny (model X.prog X.w) A (getAttr (.ref a) f b) Q E s:=by
 obtain⟨mA,O,r,_,_,_⟩:=mm I.hok e;obtain⟨u,hu,ru⟩:=gU.some_of (v:=v) (o:=mA f) (by rw[<-l];exact r f);exact Df I.kIn O (c.get f) c.hd n hu (yN ru) (h u _ (I.tok _) ru)
theorem nR(I:Inv X pins σ H s)(e:H a=some (.ins C dx fs))(c:Cls X.K C)(k:Meth X.K C m g)(l:fs.lookup m=none)
  (h:Q (.ref g,[.ref a]) s):wpAny (model X.prog X.w) A (getMethod (.ref a) m pl) Q E s:=by
 obtain⟨mA,O,r,_,_,_⟩:=mm I.hok e;have hn:mA m=none:=gU.none_of (by rw[<-l];exact r m);exact BB I.kIn O (c.get m) k.at_ k.fn hn h
theorem uJ(I:Inv X pins σ H s)(e:H a=some (.ins C dx fs))(c:Cls X.K C)(n:aV X.K C f)(hl:fs.length<1000)(ry:a9 y u)
  (h:∀s',Inv X pins σ (upd H a (.ins C dx (bc f y fs))) s'->Q () s'):wpAny (model X.prog X.w) A (setAttr (.ref a) f u) Q E s:=by
 obtain⟨mA,O,r,wi,_,ho⟩:=mm I.hok e;have hz:(fs.map (·.1)).length<=sizeLine:=by rw[F3,sizeLine_eq];lia
 refine Cr I.kIn O c.sa c.po n.taker c.hd wi hz λh' O' sb=>h _ ?_;have hd:∃o,h'.get? dx=some o:=let⟨o,_,_,e',_⟩:=O'.ns;⟨o,e'⟩;refine I.write (x:=a) (e:=dx) (by rw[e];exact Jh) (.inr ho) (λb q hb z=>(sb.2 b hb).trans z) hd ?_;refine⟨by rw[av O.ne];exact ho,?_,O.ne,O'.obj,_,O'.ns,λg=> ?_,λg hg=> ?_⟩
 .have:=aH f y fs;lia
 .show gU ((bc f y fs).lookup g) (if g=f then some u else mA g);rw[fT];by_cases q:g=f
  .rw[F7 q,F7 q];exact ry
  .rw[F8 q,F8 q];exact r g
 .by_cases q:g=f
  .rw[q];exact(kC f y fs).1
  .refine(kC f y fs).2 g (wi g λz=>hg ?_);show(if g=f then some u else mA g)=none;rw[F8 q];exact z
theorem Inv.made(I:Inv X pins σ H s):Inv X pins σ (upd (upd H s.heap.objs.size (.own (s.heap.objs.size+1))) (s.heap.objs.size+1) (.ins C s.heap.objs.size []))
  {s with heap:=(s.heap.push emptyDict).push (instObj C s.heap.objs.size)}:=by
 have e1:(s.heap.push emptyDict).get? s.heap.objs.size=some emptyDict:=HJ s.heap rfl;have e2:((s.heap.push emptyDict).push (instObj C s.heap.objs.size)).get? (s.heap.objs.size+1)=some (instObj C s.heap.objs.size):=by
  have:=HJ (s.heap.push emptyDict) (o:=instObj C s.heap.objs.size) rfl
  rwa [Ji]at this
 have e3:(s.heap.push emptyDict).Ns s.heap.objs.size (λ_=>none):=⟨emptyDict, #[],_,e1,rfl,(λe he=>absurd he (by simp)),λ_=>rfl⟩;have I1:=I.laid (a:=s.heap.objs.size) (o:= .own (s.heap.objs.size+1)) (h':=s.heap.push emptyDict) (t':=s.toks) (λb u q=>GK _ q) (Gf _) ⟨_,e1⟩;refine I1.laid (a:=s.heap.objs.size+1) (o:= .ins C s.heap.objs.size []) (t':=s.toks) (λb u q=>GK _ q) (Nat.le_of_eq (Ji _ _)) ?_;have ne:s.heap.objs.size≠s.heap.objs.size+1:=GZ (Ig _);refine⟨by rw[av ne,aj],Hy _,ne,e2,λ_=>none,(Heap.Ns1.of_empty e3).at λo q=>GK _ q,λ_=>Jh,λy hy=>absurd rfl hy⟩
theorem Ds(hb:attributeBase e f env (eval e env)=eval e env)
  (h:wpAny (model prog w) A (eval e env) (λo s₁=>wpAny (model prog w) A (getAttr o f true) Q E s₁) E s):wpAny (model prog w) A (eval (.Attribute e f pos) env) Q E s:=
 Attribute_any_ h (by rw[arm_eval_Attribute,hb])
end
inductive RdF(K:PySem.W.Frag)(f:Str)(Q:VK)(x:V)(H:Hp):Prop
 |mk (a C dx:Addr) (fs:List (Str×V)) (v:V) (e1:x= .ref a) (e2:H a=some (.ins C dx fs)) (c:Cls K C) (n:aV K C f) (l:fs.lookup f=some v) (q:Q v H):RdF K f Q x H
def DZ(K:PySem.W.Frag)(ta:TE)(f:Str):TE:=λσ H Q=>ta σ H (RdF K f Q)
def D5(K:PySem.W.Frag)(ta tv:TE)(f:Str):TS:=λD σ H=>tv σ H λy H1=>ta σ H1 λx H2=>∃a C dx fs,x= .ref a/\H2 a=some (.ins C dx fs)/\Cls K C/\aV K C f/\fs.length<1000/\
 D.nx σ (upd H2 a (.ins C dx (bc f y fs)))
section
variable{X:Cx}{o e value:Expr}{f:Str}{pos pos' tpos:Pos}{ta tv:TE}
theorem Eo(he:PE X e ta)(hb:attributeBase e f X.env (eval e X.env)=eval e X.env):PE X (.Attribute e f pos) (DZ X.K ta f):=by intro pins s σ H Q I h;refine Ds hb (thn (he pins s σ H _ I h) λu s1 hq_=> ?_);obtain⟨x,H1,I1,rx,a,C,dx,fs,v,ex,ea,c,n,l,q⟩:=hq_;subst ex;obtain rfl:u=Value.ref a:=rx;exact vn I1 ea c n l λu' s2 I2 ru=>⟨v,H1,I2,ru,q⟩
theorem Ee(ha:PE X o ta)(hv:PE X value tv)(hs:swapsWith value (some (.Attribute o f pos')) pos.line X.env=pure false):PS X (.Assign [.Attribute o f pos'] value pos) (D5 X.K ta tv f):=by intro pins s σ H D I h;refine plainObj_wpAny_Assign_Attribute (thn (hv pins s σ H _ I h) λu s1 ⟨y,H1,I1,ry,q⟩=>thn (ha pins s1 σ H1 _ I1 q) λov s2 hq_=> ?_) hs;obtain⟨x,H2,I2,rx,a,C,dx,fs,ex,ea,c,n,l,q2⟩:=hq_;subst ex;obtain rfl:ov=Value.ref a:=rx;exact uJ I2 ea c n l ry λs3 I3=>⟨σ,_,I3,q2⟩
end
section
variable{X:Cx}{pins:List (Addr×Obj)}{σ:St}{H:Hp}{s:Shared}{A:Around}{E:Value->Shared->Prop}{Q:Value->Shared->Prop}{c:Value}{b:Bool}
inductive kf(K:PySem.W.Frag)(H:Hp):V->Value->Prop where
 |non:kf K H .non (.type "NoneType")
 |bl (x:Bool):kf K H (.bl x) (.type "bool")
 |int (i:Int):kf K H (.int i) (.type "int")
 |str (x:Str):kf K H (.str x) (.type "str")
 |flt (x:UInt64):kf K H (.flt x) (.type "float")
 |lst {a:Addr} {xs:List V} (e:H a=some (.lst xs)):kf K H (.ref a) (.type "list")
 |frz {a:Addr} {o:Obj} {xs:List V} (e:H a=some (.frz o (.lst xs))):kf K H (.ref a) (.type "list")
 |tup {a:Addr} {xs:List V} (e:H a=some (.tup xs)):kf K H (.ref a) (.type "tuple")
 |dK {a:Addr} {kvs:List (Key×V)} (e:H a=some (.dK kvs)):kf K H (.ref a) (.type "dict")
 |dT {a:Addr} {kvs:List (List Key×V)} (e:H a=some (.dT kvs)):kf K H (.ref a) (.type "dict")
 |ins {a C dx:Addr} {fs:List (Str×V)} (e:H a=some (.ins C dx fs)) (cl:Cls K C) (ha:findIn K (.ref C) "__class__"=some (some (.builtin "object.__class__")))
   (hn:specialIn K (.builtin "object.__class__") "__get__"=some (some (.builtin "getset_descriptor.__get__"))) (htk:takesIn K (.builtin "object.__class__")=some true)
   (hm:mroIn K C (.type "object")=some true):kf K H (.ref a) (.ref C)
theorem yK(I:Inv X pins σ H s)(rx:a9 x u)(ty:kf X.K H x t)(e:kitOne X.K t c=some b)(h:∀tk,Q (.bool b) {s with toks:=tk}):
  wpAny (model X.prog X.w) A (call (.builtin "isinstance") [u,c]) Q E s:=by
 cases ty with
 |non=>cases (show u=Value.none from rx);exact IT PySem.W.kitx_none I.kIn Jh e (λz=>nomatch z) h
 |bl y=>cases (show u=Value.bool y from rx);exact IT PySem.W.kitx_bool I.kIn Jh e (λz=>nomatch z) h
 |int i=>obtain⟨t,q⟩:=(show∃t,u=Value.int i t from rx);cases q;exact IT PySem.W.kitx_int I.kIn Jh e (λz=>nomatch z) h
 |str y=>obtain⟨t,q⟩:=(show∃t,u=Value.str y t from rx);cases q;exact IT PySem.W.kitx_str I.kIn Jh e (λz=>nomatch z) h
 |flt y=>obtain⟨t,q⟩:=(show∃t,u=Value.float y t from rx);cases q;exact IT PySem.W.kitx_float I.kIn Jh e (λz=>nomatch z) h
 | @lst a xs ea=>
  cases (show u=Value.ref a from rx);obtain⟨_,_,n,_,h1⟩:=(show bC X.prog X.w H s.heap a (.lst xs)from I.hok a _ ea);exact IT PySem.W.kitx_list I.kIn ⟨_,h1,rfl⟩ e (λz=>nomatch z) h
 | @frz a ob xs ea=>
  cases (show u=Value.ref a from rx);obtain⟨_,_,_,n,_,h1⟩:=(show bC X.prog X.w H s.heap a (.frz ob (.lst xs))from I.hok a _ ea);exact IT PySem.W.kitx_list I.kIn ⟨_,h1,rfl⟩ e (λz=>nomatch z) h
 | @tup a xs ea=>
  cases (show u=Value.ref a from rx);obtain⟨_,_,_,p⟩:=(show bC X.prog X.w H s.heap a (.tup xs)from I.hok a _ ea);obtain⟨o,h1,h2,_⟩:=p;exact IT PySem.W.kitx_tuple I.kIn ⟨o,h1,h2⟩ e (λz=>nomatch z) h
 | @dK a kvs ea=>
  cases (show u=Value.ref a from rx);obtain⟨_,_,vs,_,p⟩:=(show bC X.prog X.w H s.heap a (.dK kvs)from I.hok a _ ea);obtain⟨o,es,ep,h1,h2,_⟩:=p;exact IT PySem.W.kitx_dict I.kIn ⟨o,h1,h2.1⟩ e (λz=>nomatch z) h
 | @dT a kvs ea=>
  cases (show u=Value.ref a from rx);obtain⟨_,_,xs,_,o,es,ep,h1,h2,_⟩:=(show bC X.prog X.w H s.heap a (.dT kvs)from I.hok a _ ea);exact IT PySem.W.kitx_dict I.kIn ⟨o,h1,h2.1⟩ e (λz=>nomatch z) h
 | @ins a C dx fs ea cl ha hn htk hm=>
  cases (show u=Value.ref a from rx);obtain⟨mA,O,_⟩:=mm I.hok ea;obtain⟨od,J,_⟩:=O.look;exact IT (PySem.W.kitx_own (cl.get _) cl.hd ha hn htk hm) I.kIn J e (λz=>nomatch z) h
end
end L2
namespace L2
open PySem PySem.Spec PyProof.Rows
structure Room(k:Nat)(A:Around):Prop where
 hd:A.handled=none
 dp:A.depth+3*k+5<recursionLimit
 un:A.units+16*k+200<cLine
theorem Room.mono(r:Room k A)(h:j<=k):Room j A:=⟨r.hd,by have:=r.dp;lia,by have:=r.un;lia⟩
theorem Room.deeper{A:Around}(r:Room (k+1) A)(env:Env):Room k (A.deeper env):=
 ⟨r.hd,by have:=r.dp;show A.depth+1+3*k+5<_;lia,by have:=r.un;show A.units+3+16*k+200<_;lia⟩
theorem ve{A:Around}:(A.under (.builtin "type.__call__" ⟨.ref C::us,kw⟩)).depth=A.depth+1:=by
 first|rfl|simp[Around.under,Code.weight,Code.isCreation,Code.isGuard,Code.isCaller,Code.frames,Code.isFrame,guardIds]
theorem vd{A:Around}:(A.under (.builtin "type.__call__" ⟨.ref C::us,kw⟩)).units=A.units+1:=by
 first|rfl|simp[Around.under,Code.cUnits,Code.frames,Code.isFrame]
theorem Room.make{A:Around}(r:Room (k+1) A)(C:Addr)(us:List Value)(kw:List (Str×Value)):Room k (A.under (.builtin "type.__call__" ⟨.ref C::us,kw⟩)):=
 ⟨r.hd,by have:=r.dp;rw[ve];lia,by have:=r.un;rw[vd];lia⟩
theorem Room.depth{A:Around}(r:Room k A):A.depth<recursionLimit:=by have:=r.dp;lia
theorem Room.units{A:Around}(r:Room k A):A.units+64<cLine:=by have:=r.un;lia
def Cj:TA:=λ_ H Q=>Q [] H
def zW(ta:TE)(tr:TA):TA:=λσ H Q=>ta σ H λx H1=>tr σ H1 λxs H2=>Q (x::xs) H2
section
variable{X:Cx}{e:Expr}{es:List Expr}{te:TE}{t:TA}{pos:Pos}
theorem af:PA X [] Cj:=λ_ _ _ _ H Q I h=>Calls.spliced_nil ⟨[],H,I, .nil,h⟩
theorem aa(ha:PE X e te)(hr:PA X es t)(hs:starEach (e::es) X.env=(false,eval e X.env)::starEach es X.env:=by rfl):PA X (e::es) (zW te t):=by intro pos pins s σ H Q I h;rw[hs];show wpAny _ _ (spliced ((false,eval e X.env)::backTo pos (starEach es X.env))) _ _ s;refine Calls.spliced_cons (thn (ha pins s σ H _ I h) λu s1 ⟨x,H1,I1,r1,q1⟩=> ?_);exact thn (hr pos pins s1 σ H1 _ I1 q1) λus s2 ⟨xs,H2,I2,r2,q2⟩=>⟨x::xs,H2,I2, .cons r1 r2,q2⟩
def FK(t:TA):TE:=λσ H Q=>t σ H λxs H1=>xs.length<=sizeLine/\∀p,H1 p=none->Q (.ref p) (upd H1 p (.tup xs))
def E7(t:TA):TE:=λσ H Q=>t σ H λxs H1=>xs.length<=sizeLine/\∀p,H1 p=none->Q (.ref p) (upd H1 p (.lst xs))
theorem ie{x1}(h:PA X es t):PE X (.Tuple es x1 pos) (FK t):=by intro pins s σ H Q I hq;refine wpAny_Tuple_spliced (thn (h pos pins s σ H _ I hq) λus s1 ⟨xs,H1,I1,r,z,q⟩=>⟨by rw[<-r.length];exact z,?_⟩);have hf:H1 s1.heap.objs.size=none:=I1.hok.fresh (Gf _);refine⟨.ref s1.heap.objs.size,upd H1 s1.heap.objs.size (.tup xs),I1.laid (t':=s1.toks) (λb u e=>GK _ e) (Gf _) ?_,rfl,q _ hf⟩;exact⟨z,us,r,⟨_,HJ _ rfl,rfl,_,rfl⟩⟩
theorem cI(h:PA X es t):PE X (.List es pos) (E7 t):=by intro pins s σ H Q I hq;refine wpAny_List_spliced (thn (h pos pins s σ H _ I hq) λus s1 ⟨xs,H1,I1,r,z,q⟩=>⟨by rw[<-r.length];exact z,?_⟩);have hf:H1 s1.heap.objs.size=none:=I1.hok.fresh (Gf _);refine⟨.ref s1.heap.objs.size,upd H1 s1.heap.objs.size (.lst xs),I1.laid (t':=s1.toks) (λb u e=>GK _ e) (Gf _) ?_,rfl,q _ hf⟩;exact⟨z,us,0,r,HJ _ rfl⟩
end
abbrev Sp:=List V->Hp->VK->XK->Prop
abbrev CXT:=List Env->Hp->Shared->XK->Value->Shared->Prop
structure vJ(P:Program)(w:World)(K:PySem.W.Frag)(mg:Str->Option Value)(base:Heap)(A:Around)(outer:List Env)(s:Shared)(H:Hp):Prop where
 frames:A.frames=some outer
 mod:Mod K mg base
 bs:∀b o,base.get? b=some o->s.heap.get? b=some o/\H b=none
 bsz:base.objs.size<=s.heap.objs.size
 funs:s.heap.FunFrames base outer
 frf:∀b∈frs outer,H b=none
 hok:HOk P w H s.heap
 bare:AllBare s.gens
def CE(outer:List Env)(P:Program)(w:World)(H:Hp)(s:Shared)(Q:VK)(u:Value)(s':Shared):Prop:=
 ∃v H',s'.os=s.os/\AllBare s'.gens/\Un (frs outer) [] H H' s.heap s'.heap/\HOk P w H' s'.heap/\a9 v u/\Q v H'
def CR(CX:CXT)(outer:List Env)(P:Program)(w:World)(H:Hp)(s:Shared)(Q:VK)(E:XK)(r:Result)(s':Shared):Prop:=
 match r with
 | .ok (.ret u)=>CE outer P w H s Q u s'
 | .ok _=>False
 | .error e=>CX outer H s E e s'
structure gQ(P:Program)(w:World)(K:PySem.W.Frag)(mg:Str->Option Value)(base:Heap)(CX:CXT)(k:Nat)(f:Addr)(fd:FuncData)(ps:List Str)(sp:Sp):Prop where
 len:∀vs H Q E,sp vs H Q E->vs.length=ps.length
 run:∀ (A:Around) (outer:List Env) (s:Shared) (H:Hp) (args:Args) (us:List Value) (vs:List V) (Q:VK) (E:XK),Room k A->vJ P w K mg base A outer s H->BindsTo s fd args (ps.zip us)->Vals vs us->sp vs H Q E->
  codeAny (model P w) A (.call (.ref f) args) (CR CX outer P w H s Q E) s
theorem gQ.mono{P:Program}{w:World}{K:PySem.W.Frag}{mg:Str->Option Value}{base:Heap}{CX:CXT}{j k:Nat}{f:Addr}{fd:FuncData}{ps:List Str}{sp:Sp}(F:gQ P w K mg base CX j f fd ps sp)(h:j<=k):
  gQ P w K mg base CX k f fd ps sp:=⟨F.len,λA outer s H args us vs Q E hr=>F.run A outer s H args us vs Q E (hr.mono h)⟩
theorem gQ.imp{P:Program}{w:World}{K:PySem.W.Frag}{mg:Str->Option Value}{base:Heap}{CX:CXT}{k:Nat}{f:Addr}{fd:FuncData}{ps:List Str}{sp sp':Sp}(F:gQ P w K mg base CX k f fd ps sp)
  (h:∀vs H Q E,sp' vs H Q E->sp vs H Q E):gQ P w K mg base CX k f fd ps sp':=
 ⟨λvs H Q E q=>F.len vs H Q E (h _ _ _ _ q),λA outer s H args us vs Q E hr he hb hv hs=>F.run A outer s H args us vs Q E hr he hb hv (h _ _ _ _ hs)⟩
theorem vJ.make{P:Program}{w:World}{K:PySem.W.Frag}{mg:Str->Option Value}{base:Heap}{A:Around}{outer:List Env}{s:Shared}{H:Hp}(e:vJ P w K mg base A outer s H)(C:Addr)(us:List Value)(kw:List (Str×Value)):
  vJ P w K mg base (A.under (.builtin "type.__call__" ⟨.ref C::us,kw⟩)) outer s H:=⟨by first|exact e.frames|(simpa [Around.under,Code.envs,Code.isFrame,pushEnvs]using e.frames),e.mod,e.bs,e.bsz,e.funs,e.frf,e.hok,e.bare⟩
section
variable{X:Cx}{pins:List (Addr×Obj)}{σ:St}{H:Hp}{s s':Shared}
theorem Inv.env0(I:Inv X pins σ H s):vJ X.prog X.w X.K X.mg X.base X.A X.stack s H:=
 ⟨I.ok.frames,I.ok.mod,I.bs,Gd I.ok.bsz I.sz,I.stack,I.stkFree,I.hok,I.bare⟩
theorem Inv.after(I:Inv X pins σ H s)(h:CE X.stack X.prog X.w H s Q u s'):EP X pins σ Q u s':=by obtain⟨v,H',os,bare,un,hok,r,q⟩:=h;obtain⟨hh,g,d,t,os'⟩:=s';obtain rfl:os'=s.os:=os;exact⟨v,H',I.call (h':=hh) (g':=g) (d':=d) (t':=t) (ch:=[]) un hok bare (λb z=>absurd z (by simp)),r,q⟩
end
def zX(sp:Sp)(dvs:List V)(E:XK)(t:TA):TE:=λσ H Q=>t σ H λvs H1=>sp (vs++dvs) H1 Q E
def Dz(C:Addr)(sp:Sp)(dvs:List V)(E:XK)(t:TA):TE:=λσ H Q=>t σ H λvs H1=>∀x dx,H1 x=none->H1 dx=none->dx≠x->
 sp (.ref x::(vs++dvs)) (upd (upd H1 dx (.own x)) x (.ins C dx [])) (λv H2=>v= .non/\Q (.ref x) H2) E
def iK(K:PySem.W.Frag)(fd:FuncData)(ps:List Str)(ds:List Value):Prop:=
 ∀ (s:Shared) (us:List Value),K.In s.heap->(us++ds).length=ps.length->BindsTo s fd ⟨us,[]⟩ (ps.zip (us++ds))
theorem iK.all{K:PySem.W.Frag}{fd:FuncData}{ps:List Str}(h:∀us:List Value,us.length=ps.length->bindArgs fd ⟨us,[]⟩=pure (ps.zip us)):iK K fd ps []:=λs us _ hl=>by rw[Ic]at hl⊢;exact .of_eq (h us hl)
def ow(CX:CXT)(X:Cx)(E:XK):Prop:=∀ (pins:List (Addr×Obj)) (σ:St) (H:Hp) (s:Shared) (e:Value) (s':Shared),Inv X pins σ H s->CX X.stack H s E e s'->X.xe e s'
section
variable{X:Cx}{CX:CXT}{k:Nat}{f C:Addr}{fd:FuncData}{ps:List Str}{sp:Sp}{dvs:List V}{ds:List Value}{E:XK}{x m:Str}{p pos apos:Pos}{e o:Expr}{es:List Expr}{ta:TE}{t:TA}
theorem qz{pins:List (Addr×Obj)}{σ:St}{H:Hp}{s:Shared}{Q:VK}{us:List Value}{vs:List V}(F:gQ X.prog X.w X.K X.mg X.base CX k f fd ps sp)(hr:Room k X.A)(hb:iK X.K fd ps ds)(hd:Vals dvs ds)(hx:ow CX X E)
  (I:Inv X pins σ H s) (r:Vals vs us) (h:sp (vs++dvs) H Q E):wpAny (model X.prog X.w) X.A (call (.ref f) us) (EP X pins σ Q) X.xe s:=by
 have r2:Vals (vs++dvs) (us++ds):=r.append hd;have hl:(us++ds).length=ps.length:=by rw[<-r2.length];exact F.len _ _ _ _ h
 refine wpAny_call (J3 (F.run X.A X.stack s H ⟨us,[]⟩ (us++ds) (vs++dvs) Q E hr I.env0 (hb s us I.kIn hl) r2 h) λr s' hq=> ?_);cases r with
 |error e=>exact hx pins σ H s e s' I hq
 |ok fl=>
  cases fl with
  |ret u=>exact I.after hq
  |next=>exact False.elim hq
  |brk=>exact False.elim hq
  |cont=>exact False.elim hq
theorem CN(F:gQ X.prog X.w X.K X.mg X.base CX k f fd ps sp)(hr:Room k X.A)(hg:Gl X x)(hm:X.mg x=some (.ref f))(hk:keepIn X.K (.ref f)=true)(hb:iK X.K fd ps ds)(hd:Vals dvs ds)(hx:ow CX X E)
  (ha:PA X (e::es) t) (hdb:(x==("__debug__":Str))=false:=by decide) (he:starEach (e::es) X.env=(false,eval e X.env)::starEach es X.env:=by rfl) (hpl:(backTo pos (starEach es X.env)).any (·.1)=false:=by rfl):
  PE X (.Call (.Name x p) (e::es) [] pos) (zX sp dvs E t):=by
 intro pins s σ H Q I h;refine JF (qW I hg hm ?_ hdb);refine J4 (h₀:=X.base) I.ok.mod.kin hk (thn (ha pos pins s σ H _ I h) λus s1 ⟨vs,H1,I1,r,q⟩=>⟨I1.kIn,?_⟩) he hpl;exact qz F hr hb hd hx I1 r q
structure Mk(K:PySem.W.Frag)(C f:Addr):Prop where
 makes:makesIn K C=true
 init:findIn K (.ref C) "__init__"=some (some (.ref f))
 fn:isFn K (.ref f)=true
 kp:keepIn K (.ref C)=true
theorem Ak{pins:List (Addr×Obj)}{σ:St}{H:Hp}{s:Shared}{Q:VK}{us:List Value}{vs:List V}(M:Mk X.K C f)(F:gQ X.prog X.w X.K X.mg X.base CX k f fd ps sp)(hr:Room (k+1) X.A)(hb:iK X.K fd ps ds)(hd:Vals dvs ds)
  (hx:ow CX X E) (I:Inv X pins σ H s) (r:Vals vs us)
  (h:∀x dx,H x=none->H dx=none->dx≠x->sp (.ref x::(vs++dvs)) (upd (upd H dx (.own x)) x (.ins C dx [])) (λv H2=>v= .non/\Q (.ref x) H2) E):
  wpAny (model X.prog X.w) X.A (call (.ref C) us) (EP X pins σ Q) X.xe s:=by
 have hq:=h (s.heap.objs.size+1) s.heap.objs.size (I.hok.fresh (Lj _)) (I.hok.fresh (Gf _)) (GZ (Ig _));have I2:=Inv.made (C:=C) I;have r2:Vals (V.ref (s.heap.objs.size+1)::(vs++dvs)) (Value.ref (s.heap.objs.size+1)::(us++ds)):= .cons rfl (r.append hd);have hl:(Value.ref (s.heap.objs.size+1)::us++ds).length=ps.length:=by have e:=r2.length;rw[F.len _ _ _ _ hq]at e;exact e.symm
 refine wpAny_call (Bc (f:=f) I.kIn M.makes M.init (Kv.mp M.fn) (J3 (F.run _ X.stack _ _ ⟨Value.ref (s.heap.objs.size+1)::us,[]⟩ (Value.ref (s.heap.objs.size+1)::(us++ds)) _ _ E (hr.make C us [])
  (I2.env0.make C us []) (hb _ (Value.ref (s.heap.objs.size+1)::us) I2.kIn hl) r2 hq) λr s' hq'=> ?_))
 cases r with
 |error e=>exact hx pins σ _ _ e s' I2 hq'
 |ok fl=>
  cases fl with
  |ret u=>
   obtain⟨v,H',I3,rv,ev,q3⟩:=I2.after hq';subst ev;exact⟨rv,⟨V.ref (s.heap.objs.size+1),H',I3,rfl,q3⟩⟩
  |next=>exact False.elim hq'
  |brk=>exact False.elim hq'
  |cont=>exact False.elim hq'
theorem CL(M:Mk X.K C f)(F:gQ X.prog X.w X.K X.mg X.base CX k f fd ps sp)(hr:Room (k+1) X.A)(hg:Gl X x)(hm:X.mg x=some (.ref C))(hb:iK X.K fd ps ds)(hd:Vals dvs ds)(hx:ow CX X E)
  (ha:PA X (e::es) t) (hdb:(x==("__debug__":Str))=false:=by decide) (he:starEach (e::es) X.env=(false,eval e X.env)::starEach es X.env:=by rfl) (hpl:(backTo pos (starEach es X.env)).any (·.1)=false:=by rfl):
  PE X (.Call (.Name x p) (e::es) [] pos) (Dz C sp dvs E t):=by
 intro pins s σ H Q I h;refine JF (qW I hg hm ?_ hdb);refine J4 (h₀:=X.base) I.ok.mod.kin M.kp (thn (ha pos pins s σ H _ I h) λus s1 ⟨vs,H1,I1,r,q⟩=>⟨I1.kIn,?_⟩) he hpl;exact Ak M F hr hb hd hx I1 r q
end
section
variable{X:Cx}{CX:CXT}{k:Nat}{f C:Addr}{fd:FuncData}{ps ks:List Str}{sp:Sp}{E:XK}{x m:Str}{p pos apos kpos:Pos}{e o:Expr}{es:List Expr}{kws:List Keyword}{te ta:TE}{t tk:TA}{nm:Option Str}
variable{g:List Value->List Value->List Value}{gV:List V->List V->List V}
end
structure aB(N P:List Str)(sc:Scope):Prop where
 kind:sc.kind= .function
 co:sc.isCoroutine=false
 gen:sc.isGenerator=false
 nd:N.Nodup
 pre:N.take P.length=P
 par:∀x∈P,sc.names.lookup x=some .local\/sc.names.lookup x=some .cell
 nofree:∀y∈sc.names,y.2≠ .free
theorem pH{kindOf:Str->Option NameKind}{x:Str}:∀ {binds:List (Str×Value)} {m:Str->Option Value},(∀v,(x,v)∉binds)->bindL kindOf binds m x=m x
 | [],_,_=>rfl
 |(n,v)::r,m,h=>by
  unfold bindL;rw[pH λw hw=>h w (Gm _ hw)];split
  .have:x≠n:=by rintro rfl;exact h v Gn
   simp[this]
  .rfl
theorem pJ{kindOf:Str->Option NameKind}{x:Str}:∀ {binds:List (Str×Value)} {m:Str->Option Value},(∀v,(x,v)∉binds)->bindC kindOf binds m x=m x
 | [],_,_=>rfl
 |(n,v)::r,m,h=>by
  unfold bindC;rw[pJ λw hw=>h w (Gm _ hw)];split
  .rfl
  .have:x≠n:=by rintro rfl;exact h v Gn
   simp[this]
theorem pI{kindOf:Str->Option NameKind}{x:Str}{v:Value}:∀ {P:List Str} {vs:List Value} {i:Nat} {m:Str->Option Value},P.Nodup->P[i]?=some x->vs[i]?=some v->kindOf x=some .local->
  bindL kindOf (P.zip vs) m x=some v
 | [],_,_,_,_,h,_,_=>by simp at h
 |_::_,[],_,_,_,_,h,_=>by simp at h
 |p::P,w::vs,0,m,nd,h1,h2,hk=>by simp at h1 h2;subst h1;subst h2;show bindL kindOf ((p,w)::P.zip vs) m p=_;unfold bindL;rw[pH λv hv=>(IZ.mp nd).1 (Lg hv).1,F7 hk];simp
 |p::P,w::vs,i+1,m,nd,h1,h2,hk=>by show bindL kindOf ((p,w)::P.zip vs) m x=_;unfold bindL;exact pI (i:=i) (IZ.mp nd).2 (by simpa using h1) (by simpa using h2) hk
theorem pK{kindOf:Str->Option NameKind}{x:Str}{v:Value}:∀ {P:List Str} {vs:List Value} {i:Nat} {m:Str->Option Value},P.Nodup->P[i]?=some x->vs[i]?=some v->kindOf x≠some .local->
  bindC kindOf (P.zip vs) m x=some v
 | [],_,_,_,_,h,_,_=>by simp at h
 |_::_,[],_,_,_,_,h,_=>by simp at h
 |p::P,w::vs,0,m,nd,h1,h2,hk=>by simp at h1 h2;subst h1;subst h2;show bindC kindOf ((p,w)::P.zip vs) m p=_;unfold bindC;rw[pJ λv hv=>(IZ.mp nd).1 (Lg hv).1,F8 hk];simp
 |p::P,w::vs,i+1,m,nd,h1,h2,hk=>by show bindC kindOf ((p,w)::P.zip vs) m x=_;unfold bindC;exact pK (i:=i) (IZ.mp nd).2 (by simpa using h1) (by simpa using h2) hk
def start(N:List Str)(vs:List V):St:=vs.map some++List.replicate (N.length-vs.length) none
def rf(CX:CXT)(P:Program)(w:World)(K:PySem.W.Frag)(mg:Str->Option Value)(base:Heap)(N:List Str)(qual:Str)(scope:Scope)(f:Addr)(cd:Value)(A:Around)(outer:List Env)(s:Shared)(H:Hp)(E:XK):Cx where
 prog:=P
 w:=w
 K:=K
 mg:=mg
 base:=base
 A:=A.deeper (envOfC qual scope s.heap.objs.size f cd)
 N:=N
 s₀:=s
 H₀:=H
 env:=envOfC qual scope s.heap.objs.size f cd
 outer:=outer
 stack:=envOfC qual scope s.heap.objs.size f cd::outer
 ex:=[]
 calm:=true
 fn:=λ_=>true
 pn:=[]
 xe:=λe s'=>wpAny (model P w) (A.deeper (envOfC qual scope s.heap.objs.size f cd)) (leaving (envOfC qual scope s.heap.objs.size f cd) e) (λ_ s''=>CX outer H s E e s'') (λe' s''=>CX outer H s E e' s'') s'
theorem tW{sc:Scope}(h:sc.names.lookup x=some .cell):∃c,(cellsFrom n sc.names []).lookup x=some c:=by have q:=PySem.W.cellsFrom_some sc.names n [] (.inl h);exact Option.isSome_iff_exists.mp q
theorem yL{CX:CXT}{P:Program}{w:World}{K:PySem.W.Frag}{mg:Str->Option Value}{base:Heap}{N ps:List Str}{qual:Str}{scope:Scope}{f:Addr}{cd:Value}{A:Around}{outer:List Env}{s s1:Shared}{H:Hp}{E:XK}{us:List Value}{vs:List V}
  (S:aB N ps scope) (hd:A.handled=none) (e0:vJ P w K mg base A outer s H) (hl:vs.length=ps.length) (r:Vals vs us)
  (x:InCallC s s.heap.objs.size (bindL (envOfC qual scope s.heap.objs.size f cd).kindOf (ps.zip us) λ_=>none) (cellsFrom (s.heap.objs.size+1) scope.names []) (bindC (envOfC qual scope s.heap.objs.size f cd).kindOf (ps.zip us) λ_=>none) s1):
  Inv (rf CX P w K mg base N qual scope f cd A outer s H E) [] (start N vs) H s1:=by
 have hpl:ps.length<=N.length:=by have:=GQ List.length S.pre;rw[GJ]at this;lia
 obtain⟨h1,tk,rfl,hk⟩:=x.done;have noA:∀b:Addr,b∉ (rf CX P w K mg base N qual scope f cd A outer s H E).ex:=λb z=>absurd (show b∈([]:List Addr)from z) (by simp);refine⟨⟨e0.mod,S.kind,rfl,rfl,Gf _,λy z c h1 h2=> ?_,λy hy=> ?_,λy c _ h=> ?_,λ_=>hd,Kw e0.frames, .inr ⟨rfl,rfl⟩,λb z=>absurd z (noA b),e0.bs,e0.bsz,λb _ _=>noA b,λb z=>absurd z (noA b),e0.funs,e0.frf⟩,
  rfl,e0.bare,Un.kept hk,⟨_,x.toInCall.ns,λi y v h1 h2 h3=> ?_⟩,λy c h=>⟨_,x.cell y c h⟩,e0.hok.fresh (Gf _),λy c h=> ?_,λp hp=>absurd (show p∈([]:List (Addr×Obj))from hp) (by simp),e0.hok.kept hk,?_⟩
 .exact name_of_addr x.apart (Hg h1) (Hg h2)
 .have hy:scope.names.lookup y=some .cell\/scope.names.lookup y=some .free:=hy;rcases hy with hy|hy
  .exact tW hy
  .exact absurd rfl (S.nofree _ (Hg hy))
 .exact Kt (x.above y c (Hg h))
 .have hi:i<vs.length:=by
   unfold start at h2;by_cases hi:i<vs.length
   .exact hi
   .rw[GI (by simpa using hi)]at h2;rw[Ld]at h2;split at h2<;>cases h2
  have ha:vs[i]?=some v:=by
   unfold start at h2;rw[GH (by simpa using hi),Gs]at h2;cases e:vs[i]? with
   |none=>rw[e]at h2;cases h2
   |some a=>rw[e]at h2;cases h2;rfl
  obtain⟨u,hu,rv⟩:=r.get ha;have hp:ps[i]?=some y:=by rw[<-S.pre,I0 (by lia)];exact h1
  have ndP:ps.Nodup:=by rw[<-S.pre];exact S.nd.sublist (List.take_sublist _ _)
  refine⟨u,rv,?_⟩;rcases S.par y (Ge hp)with k|k
  .exact .inl ⟨k,pI ndP hp hu k⟩
  .obtain⟨c,e⟩:=tW (n:=s.heap.objs.size+1) k;refine .inr ⟨.inl k,c,e,?_⟩;have q:=x.cell y c e;rw[pK ndP hp hu (by show scope.names.lookup y≠_;rw[k];decide)]at q;exact q
 .exact e0.hok.fresh (Kt (x.above y c (Hg h)))
 .unfold start;show _=N.length;rw[Gr,F3,Kp];lia
theorem Fw{CX:CXT}{P:Program}{w:World}{K:PySem.W.Frag}{mg:Str->Option Value}{base:Heap}{k:Nat}{f:Addr}{name qual:Str}{params:Arguments}{body:List Stmt}{scope:Scope}{dV kV doc pm cdv ct oc:Value}{an od:Option Addr}
  {osl:Array (Option Value)} {N ps:List Str} {sp:Sp} (lk:K.lookup f=some ⟨oc,od, .func (fnOf name qual params body scope dV kV doc pm an cdv ct),osl⟩) (hcd:codeIn K cdv qual=true) (S:aB N ps scope)
  (len:∀vs H Q E,sp vs H Q E->vs.length=ps.length)
  (hbody:∀ (A:Around) (outer:List Env) (s:Shared) (H:Hp) (vs:List V) (Q:VK) (E:XK),Room k (A.deeper (envOfC qual scope s.heap.objs.size f cdv))->sp vs H Q E->
   ∃t,PSs (rf CX P w K mg base N qual scope f cdv A outer s H E) body t/\t {nx:=λ_ H'=>Q .non H',rt:=Q} (start N vs) H):
  gQ P w K mg base CX (k+1) f (fnOf name qual params body scope dV kV doc pm an cdv ct) ps sp:=by
 refine⟨len,λA outer s H args us vs Q E hr e0 hb r hsp=> ?_⟩;have hl:=len _ _ _ _ hsp;have KX:K.In s.heap:=e0.mod.kin.keeps λb o e=>(e0.bs b o e).1;have lim:s.heap.NoLimit:=e0.mod.nolimit.keeps λb o e=>(e0.bs b o e).1;have hkind:∀y∈ps.zip us,scope.names.lookup y.1=some .local\/(scope.names.lookup y.1=some .cell/\((cellsFrom (s.heap.objs.size+1) scope.names []).lookup y.1).isSome=true):=λ⟨n,v⟩ hy=>by
  rcases S.par n (Lg hy).1 with q|q
  .exact .inl q
  .exact .inr ⟨q,PySem.W.cellsFrom_some _ _ _ (.inl q)⟩
 refine codeAny_call_function hr.depth (KX _ _ lk) rfl S.co S.gen rfl (PySem.W.codeRec_of KX hcd) (hb _ _ _ _ ?_);refine wpAny_newFunctionEnv_cells S.kind hkind λenv he s1 x=> ?_;subst he;refine⟨lim.keeps x.toInCall.keep,codeAny_func ?_⟩;obtain⟨t,ht,hq⟩:=hbody A outer s H vs Q E (hr.deeper _) hsp;have I:Inv (rf CX P w K mg base N qual scope f cdv A outer s H E) [] (start N vs) H s1:=yL S hr.hd e0 hl r x;refine JP (ht [] s1 (start N vs) H _ I hq) (λfl s' hs=> ?_) λe s' hs=>hs;have fin:∀ {σ':St} {H':Hp} {v:V} {u:Value},Inv (rf CX P w K mg base N qual scope f cdv A outer s H E) [] σ' H' s'->a9 v u->Q v H'->CE outer P w H s Q u s':=
  λ{σ' H' v u} J rv q=>⟨v,H',J.os,J.bare,J.base,J.hok,rv,q⟩
 cases fl with
 |ret u=>
  obtain⟨v,σ',H',J,rv,q⟩:=hs;exact fin J rv q
 |next=>
  obtain⟨σ',H',J,q⟩:=hs;exact fin (v:=V.non) (u:=Value.none) J rfl q
 |brk=>
  obtain⟨_,_,_,q⟩:=hs;exact False.elim q
 |cont=>
  obtain⟨_,_,_,q⟩:=hs;exact False.elim q
end L2
namespace L2
open PySem PySem.Spec PyProof.Rows
section
variable{X:Cx}{x:Str}{p pos:Pos}{e:Expr}{es:List Expr}{t:TA}{id T:String}{r:List V->Hp->VK->Prop}
def tCB(r:List V->Hp->VK->Prop)(t:TA):TE:=λσ H Q=>t σ H λvs H1=>r vs H1 Q
theorem cj(hc:cE X (.builtin id) r)(hg:Gl X x)(hm:X.mg x=none)(hv:bootBuiltins x=some (.builtin id))(ha:PA X (e::es) t)(hn:x≠ "__name__":=by decide)(hdb:(x==("__debug__":Str))=false:=by decide)
  (he:starEach (e::es) X.env=(false,eval e X.env)::starEach es X.env:=by rfl) (hpl:(backTo pos (starEach es X.env)).any (·.1)=false:=by rfl):PE X (.Call (.Name x p) (e::es) [] pos) (tCB r t):=by
 intro pins s σ H Q I h;refine JF (gc I hg hm hv ?_ hn hdb);exact PyProof.Rows.callWith_builtin1 (thn (ha pos pins s σ H _ I h) λus s1 ⟨vs,H1,I1,r1,q1⟩=>hc pins s1 σ H1 vs us Q I1 r1 q1) he hpl
theorem cF(hc:cE X (.type T) r)(hg:Gl X x)(hm:X.mg x=none)(hv:bootBuiltins x=some (.type T))(ha:PA X (e::es) t)(hn:x≠ "__name__":=by decide)(hdb:(x==("__debug__":Str))=false:=by decide)
  (he:starEach (e::es) X.env=(false,eval e X.env)::starEach es X.env:=by rfl) (hpl:(backTo pos (starEach es X.env)).any (·.1)=false:=by rfl):PE X (.Call (.Name x p) (e::es) [] pos) (tCB r t):=by
 intro pins s σ H Q I h;refine JF (gc I hg hm hv ?_ hn hdb);exact Iz (thn (ha pos pins s σ H _ I h) λus s1 ⟨vs,H1,I1,r1,q1⟩=>hc pins s1 σ H1 vs us Q I1 r1 q1) he hpl
end
end L2
namespace HT
open PySem PyProof.Rows
section
open PySem.SeqAt
open PySem.AutoSeq1 (wpAny_loadPart')
open PySem.MeetsSeq PySem.MeetsSeq2 PySem.MeetsSeq3
end
section
variable{prog:Program}{w:World}{A:Around}{E:Value->Shared->Prop}{s:Shared}
def sIx(n d:Nat):Option Int->Nat
 |none=>d
 |some v=>if v<0 then(v+(n:Int)).toNat else min v.toNat n
theorem mR(n d:Nat):sIx n d none=d:=rfl
theorem qy(n d k:Nat):sIx n d (some (k:Int))=min k n:=by show(if(k:Int)<0 then((k:Int)+(n:Int)).toNat else min (k:Int).toNat n)=min k n;rw[F8 (by lia),F6]
end
end HT
namespace L2
open PySem PySem.Spec PyProof.Rows
abbrev TO:=St->Hp->(Option Int->Hp->Prop)->Prop
def PO(X:Cx)(e:Option Expr)(t:TO):Prop:=
 ∀ (pins:List (Addr×Obj)) (s:Shared) (σ:St) (H:Hp) (Q:Option Int->Hp->Prop),Inv X pins σ H s->t σ H Q->
  wpAny (model X.prog X.w) X.A (evalPart e X.env) (λu s'=>∃o H',Inv X pins σ H' s'/\IsPart u o/\Q o H') X.xe s
def Ci:TO:=λ_ H Q=>Q none H
def E5(t:TE):TO:=λσ H Q=>t σ H λx H1=>∃i,x= .int i/\Q (some i) H1
theorem nO{ns:List Int}:∀ {us:List Value},Vals (ns.map V.int) us->IntsAre us ns:=by
 induction ns with
 |nil=>intro us r;rw[Jx]at r;cases r;exact .nil
 |cons n ns ih=>
  intro us r;rw[GP]at r;cases r with
  |cons r1 r2=>
   obtain⟨t,e⟩:=r1;subst e;exact .cons n t (ih r2)
section
variable{X:Cx}{e:Expr}{te:TE}{lo hi:Option Expr}{tl th:TO}{pos p2:Pos}
theorem jP:PO X none Ci:=by intro pins s σ H Q I h;rw[evalPart_none];exact Hx ⟨none,H,I, .none,h⟩
theorem jO(h:PE X e te):PO X (some e) (E5 te):=by intro pins s σ H Q I hw;rw[evalPart_some];refine thn (h pins s σ H _ I hw) λu s1 ⟨x,H1,I1,r1,q1⟩=> ?_;obtain⟨i,rfl,q⟩:=q1;obtain⟨t,rfl⟩:=r1;exact⟨some i,H1,I1, .int i t,q⟩
def SlR(X:Cx)(r:V->Option Int->Option Int->Hp->VK->Prop):Prop:=
 ∀ (pins:List (Addr×Obj)) (s:Shared) (σ:St) (H:Hp) (x:V) (v vl vu:Value) (lo hi:Option Int) (sl:Addr) (Q:VK),Inv X pins σ H s->a9 x v->s.heap.IsSliceOf sl vl vu .none->IsPart vl lo->IsPart vu hi->r x lo hi H Q->
  ∃T id,typeLookup (.type T) "__getitem__"=pure (some (.builtin id))/\s.TypeIs v T/\wpAny (model X.prog X.w) X.A (getItem v (.ref sl)) (EP X pins σ Q) X.xe s
theorem SlR.or(h:SlR X r)(h':SlR X r'):SlR X (λx lo hi H Q=>r x lo hi H Q\/r' x lo hi H Q):=by
 intro pins s σ H x v vl vu lo hi sl Q I rx hs pl pu q;rcases q with q|q
 .exact h pins s σ H x v vl vu lo hi sl Q I rx hs pl pu q
 .exact h' pins s σ H x v vl vu lo hi sl Q I rx hs pl pu q
def tSl(r:V->Option Int->Option Int->Hp->VK->Prop)(te:TE)(tl th:TO):TE:=λσ H Q=>te σ H λx H1=>tl σ H1 λl H2=>th σ H2 λu H3=>r x l u H3 Q
theorem ig(hr:SlR X r)(he:PE X e te)(hl:PO X lo tl)(hu:PO X hi th):PE X (.Subscript e (.Slice lo hi none p2) pos) (tSl r te tl th):=by intro pins s σ H Q I h;refine Subscript_ (thn (he pins s σ H _ I h) λv s1 ⟨x,H1,I1,r1,q1⟩=> ?_);refine wpAny_Slice (thn (hl pins s1 σ H1 _ I1 q1) λvl s2 ⟨l,H2,I2,pl,q2⟩=>thn (hu pins s2 σ H2 _ I2 q2) λvu s3 ⟨u,H3,I3,pu,q3⟩=> ?_);rw[evalPart_none];refine Hx ?_;have I4:Inv X pins σ H3 {s3 with heap:=s3.heap.push {cls:= .type "slice",data:= .fields #[vl,vu, .none]}}:=I3.kept (t':=s3.toks) λb ob q=>GK _ q;obtain⟨T,id,hT,ht,hg⟩:=hr pins {s3 with heap:=s3.heap.push {cls:= .type "slice",data:= .fields #[vl,vu, .none]}} σ H3 x v vl vu l u s3.heap.objs.size Q I4 r1 (Heap.IsSliceOf.new ..) pl pu q3;show wpAny (model X.prog X.w) X.A (subscriptTail e (.Slice lo hi none p2) v (.ref s3.heap.objs.size)) (EP X pins σ Q) X.xe {s3 with heap:=s3.heap.push {cls:= .type "slice",data:= .fields #[vl,vu, .none]}};exact tail_any (ops:=[.ref s3.heap.objs.size,v]) ht hT hg (by with_unfolding_all rfl)
def lM(xs:List V)(lo hi:Option Int):List V:=(xs.drop (HT.sIx xs.length 0 lo)).take (HT.sIx xs.length xs.length hi-HT.sIx xs.length 0 lo)
theorem tU(xs:List V)(lo hi:Option Int):(lM xs lo hi).length<=xs.length:=by unfold lM;rw[GJ,Ja];exact Gd (Nat.min_le_right _ _) (Nat.sub_le _ _)
end
end L2
namespace L2
open PySem PySem.Spec PyProof.Rows
def ixN(n:Nat)(i:Int):Option Nat:=if 0<=i then(if i<n then some i.toNat else none)else if-(n:Int)<=i then some (i+n).toNat else none
def atI{α:Type}(xs:List α)(i:Int):Option α:=(ixN xs.length i).bind λj=>xs[j]?
theorem Dc(h:ixN n i=some j):seqIndex? i n=some j/\j<n/\ -(n:Int)<=i/\i<n:=by
 unfold ixN at h;by_cases h0:0<=i
 .rw[F7 h0]at h;by_cases h1:i<n
  .rw[F7 h1]at h;have e:i.toNat=j:=GY h;exact⟨by rw[seqIndex_of h0 h1,e],by lia,by lia,h1⟩
  .rw[F8 h1]at h;cases h
 .rw[F8 h0]at h;by_cases h1: -(n:Int)<=i
  .rw[F7 h1]at h;have e:(i+n).toNat=j:=GY h;exact⟨by rw[seqIndex_neg (by lia) h1,e],by lia,h1,by lia⟩
  .rw[F8 h1]at h;cases h
theorem wW{xs:List α}(h:atI xs i=some v):∃j,seqIndex? i xs.length=some j/\xs[j]?=some v/\j<xs.length/\ -(xs.length:Int)<=i/\i<xs.length:=by
 unfold atI at h;cases e:ixN xs.length i with
 |none=>rw[e]at h;cases h
 |some j=>
  rw[e]at h;obtain⟨h1,h2,h3,h4⟩:=Dc e;exact⟨j,h1,h,h2,h3,h4⟩
theorem cR{α:Type}{xs:List α}{j:Nat}{v:α}(h:xs[j]?=some v):atI xs (j:Int)=some v:=by
 have hj:j<xs.length:=(Ga.mp h).1;have e:ixN xs.length (j:Int)=some j:=by unfold ixN;rw[F7 (by lia),F7 (by lia)];simp
 unfold atI;rw[e];exact h
def rD(b:Expr):Prop:=∀o i,subscripted b false o i=operate [o,i] (getItem o i)
def IxR(X:Cx)(r:R2):Prop:=
 ∀ (value slice:Expr) (pins:List (Addr×Obj)) (s:Shared) (σ:St) (H:Hp) (x y:V) (v u:Value) (Q:VK),Inv X pins σ H s->a9 x v->a9 y u->r x y H Q->
  subscripted slice false v u=operate [v,u] (getItem v u)->wpAny (model X.prog X.w) X.A (subscriptTail value slice v u) (EP X pins σ Q) X.xe s
def MtR(X:Cx)(id:String)(r:V->List V->Hp->VK->Prop):Prop:=
 ∀ (pins:List (Addr×Obj)) (s:Shared) (σ:St) (H:Hp) (x:V) (xs:List V) (v:Value) (us:List Value) (Q:VK),Inv X pins σ H s->a9 x v->Vals xs us->r x xs H Q->
  wpAny (model X.prog X.w) X.A (call (.builtin id) (v::us)) (EP X pins σ Q) X.xe s
section
variable{X:Cx}{a b:Expr}{ta tb:TE}{pos:Pos}
theorem IxR.or(h:IxR X r)(h':IxR X r'):IxR X (λx y H Q=>r x y H Q\/r' x y H Q):=by
 intro value slice pins s σ H x y v u Q I rx ry q hs;rcases q with q|q
 .exact h value slice pins s σ H x y v u Q I rx ry q hs
 .exact h' value slice pins s σ H x y v u Q I rx ry q hs
theorem MtR.or{id:String}{r r':V->List V->Hp->VK->Prop}(h:MtR X id r)(h':MtR X id r'):MtR X id (λx xs H Q=>r x xs H Q\/r' x xs H Q):=by
 intro pins s σ H x xs v us Q I rx rs q;rcases q with q|q
 .exact h pins s σ H x xs v us Q I rx rs q
 .exact h' pins s σ H x xs v us Q I rx rs q
theorem wA(hr:IxR X r)(ha:PE X a ta)(hb:PE X b tb)(hs:rD b):PE X (.Subscript a b pos) (tOp r ta tb):=by intro pins s σ H Q I h;exact Subscript_ (E1 ha hb I h λv u s2 x y H2 I2 rx ry q=>hr a b pins s2 σ H2 x y v u Q I2 rx ry q (hs _ _))
inductive RdX(K:PySem.W.Frag)(x y:V)(H:Hp)(Q:VK):Prop
 |mk (p:Addr) (xs:List V) (i:Int) (v:V) (e1:x= .ref p) (e2:y= .int i) (s:SqL K H p xs) (a:atI xs i=some v) (q:Q v H):RdX K x y H Q
def Av(K:PySem.W.Frag):R2:=λx y H Q=>RdX K x y H Q
def Eb(K:PySem.W.Frag):R2:=λx y H Q=>∃p xs i v,x= .ref p/\y= .int i/\SqT K H p xs/\atI xs i=some v/\Q v H
theorem C9:IxR X (Av X.K):=by
 intro value slice pins s σ H x y v u Q I rx ry h hs;obtain⟨p,xs,i,z,rfl,rfl,hq,he,q⟩:=h;cases rx;obtain⟨t,rfl⟩:=ry;obtain⟨its,r,pl,hz⟩:=I.list hq;obtain⟨j,h1,h2,h3,h4,h5⟩:=wW he;obtain⟨w,ew,rw'⟩:=r.get h2;have hl:=r.length;have hn:=qV;have fin:EP X pins σ Q w s:=⟨z,H,I,rw',q⟩;by_cases h0:0<=i
 .have hj:i.toNat=j:=by rw[seqIndex_of h0 h5]at h1;exact GY h1
  exact item_listR pl.isList h0 (by lia) (by rw[hj];simpa using ew) fin hs
 .have hj:(i+(its.toArray.size:Int)).toNat=j:=by rw[seqIndex_neg (by lia) h4]at h1;rw[GS,<-hl];exact GY h1
  exact subscriptTail_builtinR (x:=w) pl.isList.typeIs K2.lookup
   (wpAny_getItem_list_neg (Q:=λr s'=>r=w/\EP X pins σ Q r s') pl.isList (by lia) (by rw[GS]<;>lia) (by lia) (by rw[hj];simpa using ew) ⟨rfl,fin⟩) hs
theorem EM:IxR X (Eb X.K):=by
 intro value slice pins s σ H x y v u Q I rx ry h hs;obtain⟨p,xs,i,z,rfl,rfl,hq,he,q⟩:=h;cases rx;obtain⟨t,rfl⟩:=ry;obtain⟨its,r,pl,hz⟩:=I.tuple hq;obtain⟨j,h1,h2,h3,h4,h5⟩:=wW he;obtain⟨w,ew,rw'⟩:=r.get h2;have hl:=r.length;have hn:=qV;have fin:EP X pins σ Q w s:=⟨z,H,I,rw',q⟩;exact subscriptTail_builtinR (x:=w) pl.typeIs slot_tuple_getitem.lookup
  (getItem_tuple (j:=j) (Q:=λr s'=>r=w/\EP X pins σ Q r s') pl (by lia) (by lia) (by rw[GS,<-hl];exact h1) (by simpa using ew) ⟨rfl,fin⟩) hs
theorem Inv.lst{pins:List (Addr×Obj)}{σ:St}{H:Hp}{s:Shared}{p:Addr}{xs:List V}(I:Inv X pins σ H s)(h:H p=some (.lst xs)):
  ∃ (its:List Value) (n:Nat),Vals xs its/\s.heap.get? p=some {cls:= .type "list",data:= .seq its.toArray n}/\xs.length<=sizeLine:=by
 obtain⟨z,its,n,r,e⟩:=I.hok p _ h;exact⟨its,n,r,e,z⟩
theorem qu(lo hi:Option Int)(n:Nat):(sliceBounds lo hi none n).1=((HT.sIx n 0 lo:Nat):Int)/\(sliceBounds lo hi none n).2.1=((HT.sIx n n hi:Nat):Int)/\(sliceBounds lo hi none n).2.2=1:=by
 refine⟨?_,?_,rfl⟩
 .cases lo with
  |none=>simp[sliceBounds,HT.sIx]
  |some i=>
   simp only[sliceBounds,HT.sIx,Option.getD_none,show(1:Int)>0 by decide,Lp];by_cases h:i<0
   .simp only[h,Lp]<;>lia
   .simp only[h,if_false]<;>lia
 .cases hi with
  |none=>simp[sliceBounds,HT.sIx]
  |some i=>
   simp only[sliceBounds,HT.sIx,Option.getD_none,show(1:Int)>0 by decide,Lp];by_cases h:i<0
   .simp only[h,Lp]<;>lia
   .simp only[h,if_false]<;>lia
theorem oG(its:List Value)(lo hi:Option Int):slicePick its.toArray lo hi none=((its.drop (HT.sIx its.length 0 lo)).take (HT.sIx its.length its.length hi-HT.sIx its.length 0 lo)).toArray:=by obtain⟨h1,h2,h3⟩:=qu lo hi its.toArray.size;unfold slicePick;rw[h1,h2,h3];simp only[sliceRange_one,pick_run,GS]<;>rfl
def Fi(K:PySem.W.Frag):V->Option Int->Option Int->Hp->VK->Prop:=λx lo hi H Q=>∃a xs,x= .ref a/\SqL K H a xs/\∀p,H p=none->Q (.ref p) (upd H p (.lst (lM xs lo hi)))
theorem Cq:SlR X (Fi X.K):=by intro pins s σ H x v vl vu lo hi sl Q I rx hs pl pu h;obtain⟨a,xs,rfl,hx,q⟩:=h;cases rx;obtain⟨its,r,ht,hz⟩:=I.list hx;have hlen:=r.length;refine⟨"list",_,K2.lookup,ht.isList.typeIs,?_⟩;refine wpAny_getItem_list_slice ht.isList hs pl pu .none (by simp) ?_ (by rw[GS]<;>lia);rw[oG,<-hlen];refine⟨.ref s.heap.objs.size,_,I.laid (t':=s.toks) (o:= .lst (lM xs lo hi)) (λb ob q=>GK _ q) (Gf _) ?_,rfl,q _ (I.hok.fresh (Gf _))⟩;exact⟨Gd (tU xs lo hi) hz,_,0,(r.drop (HT.sIx xs.length 0 lo)).take (HT.sIx xs.length xs.length hi-HT.sIx xs.length 0 lo),HJ _ rfl⟩
def j4:V->Bool
 | .non=>true
 | .bl _=>true
 | .int _=>true
 | .str _=>true
 |_=>false
def eqV:V->V->Bool
 | .non, .non=>true
 | .bl a, .bl b=>a==b
 | .bl a, .int b=>(if a then 1 else 0)==b
 | .int a, .bl b=>a==(if b then 1 else 0)
 | .int a, .int b=>a==b
 | .str a, .str b=>a==b
 |_,_=>false
theorem ET(ry:a9 y u)(rx:a9 x v)(fy:j4 y=true)(fx:j4 x=true):SeqAt.EqAt A s u v (eqV y x):=by
 cases y with
 |non=>
  cases ry;cases x with
  |non=>cases rx;exact SeqAt.EqAt.same _
  |bl b=>cases rx;exact SeqAt.EqAt.none_bool b
  |int b=>obtain⟨t,rfl⟩:=rx;exact SeqAt.EqAt.none_int b t
  |str b=>obtain⟨t,rfl⟩:=rx;exact SeqAt.EqAt.none_str b t
  |_=>exact absurd (show false=true from fx) Gj
 |bl a=>
  cases ry;cases x with
  |non=>cases rx;exact SeqAt.EqAt.bool_none a
  |bl b=>cases rx;exact SeqAt.EqAt.bool_bool a b
  |int b=>obtain⟨t,rfl⟩:=rx;exact SeqAt.EqAt.bool_int a b t
  |str b=>obtain⟨t,rfl⟩:=rx;exact SeqAt.EqAt.bool_str a b t
  |_=>exact absurd (show false=true from fx) Gj
 |int a=>
  obtain⟨t',rfl⟩:=ry;cases x with
  |non=>cases rx;exact SeqAt.EqAt.int_none a t'
  |bl b=>cases rx;exact SeqAt.EqAt.int_bool a t' b
  |int b=>obtain⟨t,rfl⟩:=rx;exact SeqAt.EqAt.int_int a t' b t
  |str b=>obtain⟨t,rfl⟩:=rx;exact SeqAt.EqAt.int_str a t' b t
  |_=>exact absurd (show false=true from fx) Gj
 |str a=>
  obtain⟨t',rfl⟩:=ry;cases x with
  |non=>cases rx;exact SeqAt.EqAt.str_none a t'
  |bl b=>cases rx;exact SeqAt.EqAt.str_bool a t' b
  |int b=>obtain⟨t,rfl⟩:=rx;exact SeqAt.EqAt.str_int a t' b t
  |str b=>obtain⟨t,rfl⟩:=rx;exact SeqAt.EqAt.str_str a t' b t
  |_=>exact absurd (show false=true from fx) Gj
 |_=>exact absurd (show false=true from fy) Gj
def eqU(x:V)(u:Value):Bool:=match u with
 | .none=>eqV .non x
 | .bool b=>eqV (.bl b) x
 | .int i _=>eqV (.int i) x
 | .str z _=>eqV (.str z) x
 |_=>false
theorem BG(r:a9 y u)(f:j4 y=true):eqU x u=eqV y x:=by
 cases y with
 |non=>cases r;rfl
 |bl b=>cases r;rfl
 |int i=>obtain⟨t,rfl⟩:=r;rfl
 |str z=>obtain⟨t,rfl⟩:=r;rfl
 |_=>exact absurd (show false=true from f) Gj
theorem ka:∀ {xs:List V} {us:List Value},Vals xs us->xs.all j4=true->us.any (eqU x)=xs.any λy=>eqV y x
 |_,_, .nil,_=>rfl
 |y::xs,u::us, .cons r t,f=>by rw[K1,GL]at f;rw[JU,JU,BG r f.1,ka t f.2]
theorem iu(rx:a9 x v)(fx:j4 x=true):∀ {xs:List V} {us:List Value},Vals xs us->xs.all j4=true->∀u∈us,SeqAt.EqAt A s u v (eqU x u)
 |_,_, .nil,_=>λu hu=>by cases hu
 |y::xs,u::us, .cons r t,f=>λu' hu=>by
  rw[K1,GL]at f;rcases Gh.mp hu with rfl|hu
  .rw[BG r f.1];exact ET r rx f.1 fx
  .exact iu rx fx t f.2 u' hu
def inV(x:V)(xs:List V):Bool:=xs.any λy=>eqV y x
def rIn(K:PySem.W.Frag)(neg:Bool):R2:=λx y H Q=>∃p xs,y= .ref p/\(SqL K H p xs\/SqT K H p xs)/\j4 x=true/\xs.all j4=true/\Q (.bl (if neg then !inV x xs else inV x xs)) H
theorem yd:OpR X (compareOp .In) (rIn X.K false):=by
 intro pins s σ H x y v u Q I rx ry h;obtain⟨p,xs,rfl,hq,fx,fs,q⟩:=h;cases ry;rcases hq with hq|hq
 .obtain⟨its,r,pl,hz⟩:=I.list hq;refine SeqAt.in_listAt (eqU x) pl.isList (λw hw=>iu rx fx r fs w (by simpa using hw)) ⟨.bl _,H,I,rfl,?_⟩;rw[show its.toArray.any (eqU x)=its.any (eqU x) by simp,ka r fs];exact q
 .obtain⟨its,r,pl,hz⟩:=I.tuple hq;refine SeqAt.in_tupleAt (eqU x) pl (λw hw=>iu rx fx r fs w (by simpa using hw)) ⟨.bl _,H,I,rfl,?_⟩;rw[show its.toArray.any (eqU x)=its.any (eqU x) by simp,ka r fs];exact q
theorem qL:OpR X (compareOp .NotIn) (rIn X.K true):=by
 intro pins s σ H x y v u Q I rx ry h;obtain⟨p,xs,rfl,hq,fx,fs,q⟩:=h;cases ry;rcases hq with hq|hq
 .obtain⟨its,r,pl,hz⟩:=I.list hq;refine SeqAt.notIn_listAt (eqU x) pl.isList (λw hw=>iu rx fx r fs w (by simpa using hw)) ⟨.bl _,H,I,rfl,?_⟩;rw[show its.toArray.any (eqU x)=its.any (eqU x) by simp,ka r fs];exact q
 .obtain⟨its,r,pl,hz⟩:=I.tuple hq;refine SeqAt.notIn_tupleAt (eqU x) pl (λw hw=>iu rx fx r fs w (by simpa using hw)) ⟨.bl _,H,I,rfl,?_⟩;rw[show its.toArray.any (eqU x)=its.any (eqU x) by simp,ka r fs];exact q
theorem ro:cE X (.builtin "len") (λxs H Q=>∃p ys,xs=[.ref p]/\(SqL X.K H p ys\/SqT X.K H p ys)/\Q (.int ys.length) H):=by
 intro pins s σ H xs us Q I r h;obtain⟨p,ys,rfl,hq,q⟩:=h;obtain⟨u,rfl,rx⟩:=kN r;cases rx;have hn:=qV;rcases hq with hq|hq
 .obtain⟨its,r',pl,hz⟩:=I.list hq;have hlen:=r'.length;exact Calls.call_len_list pl.isList (by simp only[GS]<;>lia) ⟨.int ys.length,H,I.tok _,⟨s.toks+1,by rw[GS,hlen]⟩,q⟩
 .obtain⟨its,r',pl,hz⟩:=I.tuple hq;have hlen:=r'.length;exact len_tuple pl (by simp only[GS]<;>lia) ⟨.int ys.length,H,I.tok _,⟨s.toks+1,by rw[GS,hlen]⟩,q⟩
theorem cE.or(h:cE X f r)(h':cE X f r'):cE X f (λxs H Q=>r xs H Q\/r' xs H Q):=by
 intro pins s σ H xs us Q I rs q;rcases q with q|q
 .exact h pins s σ H xs us Q I rs q
 .exact h' pins s σ H xs us Q I rs q
theorem rl:cE X (.type "list") (λxs H Q=>∃p ys,xs=[.ref p]/\(SqL X.K H p ys\/SqT X.K H p ys)/\∀l,H l=none->Q (.ref l) (upd H l (.lst ys))):=by
 intro pins s σ H xs us Q I r h;obtain⟨p,ys,rfl,hq,q⟩:=h;obtain⟨u,rfl,rx⟩:=kN r;cases rx;have fin:∀ (its:List Value),Vals ys its->ys.length<=sizeLine->∀ (h':Heap) (c':Nat),(∀b o',s.heap.get? b=some o'->h'.get? b=some o')->
   h'.get? s.heap.objs.size=some {cls:= .type "list",dict:=none,data:= .seq its.toArray c',slots:= #[]}->EP X pins σ Q (.ref s.heap.objs.size) {s with heap:=h'}:=λits r' hz h' c' kp e=>
  ⟨.ref s.heap.objs.size,_,I.laid (t':=s.toks) kp (Gf _) (show bC X.prog X.w _ h' _ (.lst ys)from⟨hz,its,c',r',e⟩),rfl,q _ (I.hok.fresh (Gf _))⟩
 rcases hq with hq|hq
 .obtain⟨its,r',pl,hz⟩:=I.list hq;have hlen:=r'.length;obtain⟨o,ho,hc,n,hd⟩:=pl.isList;exact call_list_seq p (.inl rfl) ho hc hd (λh' c' kp e=>fin its r' hz h' c' kp e) (by simp only[GS]<;>lia)
 .obtain⟨its,r',pl,hz⟩:=I.tuple hq;have hlen:=r'.length;obtain⟨o,ho,hc,n,hd⟩:=pl;exact call_list_seq p (.inr rfl) ho hc hd (λh' c' kp e=>fin its r' hz h' c' kp e) (by simp only[GS]<;>lia)
theorem oV:cE X (.type "tuple") (λxs H Q=>∃p ys,xs=[.ref p]/\((SqL X.K H p ys/\∀l,H l=none->Q (.ref l) (upd H l (.tup ys)))\/(SqT X.K H p ys/\Q (.ref p) H))):=by
 intro pins s σ H xs us Q I r h;obtain⟨p,ys,rfl,h⟩:=h;obtain⟨u,rfl,rx⟩:=kN r;cases rx;rcases h with ⟨hq,q⟩|⟨hq,q⟩
 .obtain⟨its,r',pl,hz⟩:=I.list hq;have hlen:=r'.length;refine call_tuple_list pl.isList (λh' kp=> ?_) (by simp only[GS]<;>lia);have I1:Inv X pins σ H {s with heap:=h'}:=I.kept (t':=s.toks) kp;have I2:Inv X pins σ (upd H h'.objs.size (.tup ys)) {s with heap:=h'.push {cls:= .type "tuple",data:= .seq its.toArray}}:=
   I1.laid (t':=s.toks) (λb o e=>GK _ e) (Gf _) (show bC X.prog X.w _ _ _ (.tup ys)from⟨hz,its,r',IsTup.new _ _⟩)
  exact⟨.ref h'.objs.size,_,I2,rfl,q _ (I1.hok.fresh (Gf _))⟩
 .obtain⟨its,r',pl,hz⟩:=I.tuple hq;exact call_tuple_same pl ⟨.ref p,H,I,rfl,q⟩
def tyV(K:PySem.W.Frag)(T:String)(x:V)(H:Hp):Prop:=match x with
 | .str _=>T= "str"
 | .int _=>T= "int"
 | .ref p=>(T= "list"/\∃xs,SqL K H p xs)\/(T= "tuple"/\∃o,K.lookup p=some o/\o.cls= .type "tuple"/\o.dict=none)\/
   (T= "dict"/\((∃kvs,H p=some (.dK kvs))\/∃kvs,H p=some (.dT kvs)))\/(T= "set"/\∃S n,H p=some (.set S n))
 |_=>False
theorem zH{pins:List (Addr×Obj)}{σ:St}{H:Hp}{s:Shared}{T:String}{x:V}{v:Value}(I:Inv X pins σ H s)(r:a9 x v)(ty:tyV X.K T x H):
  s.TypeIs v T/\∀a,v= .ref a->∃ob,s.heap.get? a=some ob/\ob.dict=none:=by
 cases x with
 |str z=>
  obtain⟨t,rfl⟩:=r;cases (show T= "str" from ty);exact⟨typeIs_str s z t,λ_ e=>nomatch e⟩
 |int i=>
  obtain⟨t,rfl⟩:=r;cases (show T= "int" from ty);exact⟨typeIs_int s i t,λ_ e=>nomatch e⟩
 |ref p=>
  cases r;rcases ty with ⟨rfl,xs,hq⟩|⟨rfl,o,hk,hc,hd⟩|⟨rfl,hk⟩|⟨rfl,S,n,hk⟩
  .obtain⟨its,_,pl,_⟩:=I.list hq;refine⟨pl.isList.typeIs,λa e=> ?_⟩;cases e;obtain⟨o,n,e,c,hd,_⟩:=pl;exact⟨o,e,hd⟩
  .refine⟨⟨o,I.kIn p o hk,hc⟩,λa e=> ?_⟩;cases e;exact⟨o,I.kIn _ o hk,hd⟩
  .have z:∃o,s.heap.get? p=some o/\o.ExactDict:=by
    rcases hk with ⟨kvs,hk⟩|⟨kvs,hk⟩
    .obtain⟨_,_,_,_,o,_,_,e,ex,_⟩:=I.hok p _ hk;exact⟨o,e,ex⟩
    .obtain⟨_,_,_,_,o,_,_,e,ex,_⟩:=I.hok p _ hk;exact⟨o,e,ex⟩
   obtain⟨o,e,ex⟩:=z;refine⟨⟨o,e,ex.1⟩,λa e2=> ?_⟩;cases e2;exact⟨o,e,ex.2.1⟩
  .obtain⟨o,_,_,_,e,ex,_⟩:=I.hok p _ hk;refine⟨⟨o,e,ex.1⟩,λa e2=> ?_⟩;cases e2;exact⟨o,e,ex.2.1⟩
 |_=>exact False.elim ty
def Fd(K:PySem.W.Frag)(T:String)(r:V->List V->Hp->VK->Prop)(to:TE):TE:=λσ H Q=>to σ H λx H1=>tyV K T x H1/\r x [] H1 Q
def tBM(K:PySem.W.Frag)(T:String)(r:V->List V->Hp->VK->Prop)(to:TE)(t:TA):TE:=λσ H Q=>to σ H λx H1=>tyV K T x H1/\t σ H1 λxs H2=>r x xs H2 Q
variable{o e:Expr}{es:List Expr}{to:TE}{t:TA}{name:Str}{apos cpos:Pos}{T id:String}{r:V->List V->Hp->VK->Prop}
theorem Er(pa:PlainAttrs T)(slot:Slot T name id)(hty:typeOf (.builtin id)=pure (.type "method_descriptor"))(hm:MtR X id r)(ho:PE X o to)
  (hbase:attributeBase o name X.env (eval o X.env)=eval o X.env:=by rfl) (hline:(apos.endLine==cpos.line)=true:=by rfl):PE X (.Call (.Attribute o name apos) [] [] cpos) (Fd X.K T r to):=by
 intro pins s σ H Q I h;refine wpAny_Call_method0_late hbase hline (thn (ho pins s σ H _ I h) λv s1 ⟨x,H1,I1,r1,ty,q1⟩=> ?_);obtain⟨h1,h2⟩:=zH I1 r1 ty;exact⟨T,id,pa,slot,hty,h1,h2,Calls.callWith_builtin rfl (PySem.evalArgs_none (hm pins s1 σ H1 x [] v [] Q I1 r1 .nil q1))⟩
theorem Fm(pa:PlainAttrs T)(slot:Slot T name id)(hty:typeOf (.builtin id)=pure (.type "method_descriptor"))(hm:MtR X id r)(ho:PE X o to)(ha:PA X (e::es) t)
  (hbase:attributeBase o name X.env (eval o X.env)=eval o X.env:=by rfl)
  (hfew:((backTo cpos (starEach (e::es) X.env)).all (λx=> !x.1)&&(backToKw cpos (keywordEach [] X.env)).all (λx=>x.1.isSome)
   &&decide ((e::es).length+([]:List Keyword).length+(if([]:List Keyword).isEmpty then 0 else 1)<30))=true:=by rfl)
  (hline:(apos.endLine==cpos.line)=true:=by rfl) (hs:starEach (e::es) X.env=(false,eval e X.env)::starEach es X.env:=by rfl) (hplain:(backTo cpos (starEach es X.env)).any (·.1)=false:=by rfl):
  PE X (.Call (.Attribute o name apos) (e::es) [] cpos) (tBM X.K T r to t):=by
 intro pins s σ H Q I h;refine wpAny_Call_method_late hbase hfew hline rfl (thn (ho pins s σ H _ I h) λv s1 ⟨x,H1,I1,r1,ty,q1⟩=> ?_);obtain⟨h1,h2⟩:=zH I1 r1 ty;refine⟨T,id,pa,slot,hty,h1,h2,?_⟩;have hA:=ha cpos pins s1 σ H1 _ I1 q1;rw[hs]at hA⊢;refine Calls.callWith_builtin (by show(false||(backTo cpos (starEach es X.env)).any (·.1))=false;rw[hplain]<;>rfl) (Calls.evalArgs_plain ?_);exact thn hA λus s2 ⟨vs,H2,I2,r2,q2⟩=>hm pins s2 σ H2 x vs v us Q I2 r1 r2 q2
end
end L2
namespace L2
open PySem PySem.Spec PyProof.Rows
def MtM(X:Cx)(id:String)(r:V->List V->Hp->VK->Prop):Prop:=
 ∀ (pins:List (Addr×Obj)) (s:Shared) (σ:St) (H:Hp) (x:V) (xs:List V) (v:Value) (us:List Value) (Q:VK),Inv X pins σ H s->a9 x v->Vals xs us->r x xs H Q->
  wpAny (model X.prog X.w) X.A (call (.builtin id) (v::us)) (EP X pins σ Q) X.xe s
theorem Vals.one(h:Vals [x] us):∃u,us=[u]/\a9 x u:=by
 cases h with
 |cons r q=>cases q;exact⟨_,rfl,r⟩
theorem Vals.two(h:Vals [x,y] us):∃u v,us=[u,v]/\a9 x u/\a9 y v:=by
 cases h with
 |cons r q=>obtain⟨v,rfl,q2⟩:=Vals.one q;exact⟨_,_,rfl,r,q2⟩
theorem Vals.zero:∀ {us:List Value},Vals [] us->us=[]
 |_, .nil=>rfl
theorem Vals.eraseIdx:∀ {xs:List V} {us:List Value} (i:Nat),Vals xs us->Vals (xs.eraseIdx i) (us.eraseIdx i)
 |_,_,_, .nil=> .nil
 |_,_,0, .cons _ t=>t
 |_,_,i+1, .cons r t=> .cons r (Vals.eraseIdx i t)
theorem Vals.reverse{xs:List V}{us:List Value}(h:Vals xs us):Vals xs.reverse us.reverse:=by
 induction h with
 |nil=>exact .nil
 |cons r t ih=>rw[K3,K3];exact Vals.append ih (.cons r .nil)
section
variable{X:Cx}{pins:List (Addr×Obj)}{σ:St}{H:Hp}{s:Shared}{l b:Addr}{xs ys zs:List V}
theorem Inv.lset{its its':List Value}(I:Inv X pins σ H s)(hH:H l=some (.lst xs))
  (e:s.heap.get? l=some {cls:= .type "list",data:= .seq its.toArray n}) (hf:f its.toArray=its'.toArray) (hv:Vals ys its') (hz:ys.length<=sizeLine):
  Inv X pins σ (upd H l (.lst ys)) {s with heap:=s.heap.update l (Obj.mapSeq f),toks:=t'}:=by
 have q:=PySem.IsL.update e f;rw[hf]at q;refine I.write (x:=l) (e:=l) (by rw[hH];exact trivial) (.inl rfl) (λb' u hb hu=>(Heap.get?_update_other s.heap (Obj.mapSeq f) (Ko hb)).trans hu) ⟨_,q⟩ ?_;exact⟨hz,its',_,hv,q⟩
theorem Inv.lnew{its:List Value}(I:Inv X pins σ H s)(hv:Vals ys its)(hz:ys.length<=sizeLine):
  Inv X pins σ (upd H s.heap.objs.size (.lst ys)) {s with heap:=s.heap.push {cls:= .type "list",data:= .seq its.toArray},toks:=t'}:=
 I.laid (λ_ _ q=>GK _ q) (Gf _) ⟨hz,its,0,hv,HJ _ rfl⟩
theorem Inv.fresh(I:Inv X pins σ H s):H s.heap.objs.size=none:=I.hok.fresh (Gf _)
theorem Inv.lstM(I:Inv X pins σ H s)(hH:H l=some (.lst xs)):xs.length<=sizeLine/\∃ (its:List Value) (n:Nat),Vals xs its/\xs.length=its.length/\s.heap.get? l=some {cls:= .type "list",data:= .seq its.toArray n}:=by obtain⟨z,its,n,r,e⟩:=I.hok l _ hH;exact⟨z,its,n,r,r.length,e⟩
theorem AX(h:n<=sizeLine):Builtin.List.listTooLong n=false:=by unfold Builtin.List.listTooLong;exact F4 (by lia)
end
section
variable{X:Cx}
inductive RdA(x:V)(vs:List V)(H:Hp)(Q:VK):Prop
 |mk (l:Addr) (xs:List V) (y:V) (e1:x= .ref l) (e2:vs=[y]) (h:H l=some (.lst xs)) (n:xs.length<sizeLine) (q:Q .non (upd H l (.lst (xs++[y])))):RdA x vs H Q
def CB:V->List V->Hp->VK->Prop:=λx vs H Q=>RdA x vs H Q
theorem bI:MtM X "list.append" CB:=by intro pins s σ H x vs v us Q I rx rv h;obtain⟨l,xs,y,rfl,rfl,hH,hz,q⟩:=h;cases rx;obtain⟨u,rfl,ru⟩:=rv.one;obtain⟨z,its,n,r,hl,e⟩:=I.lstM hH;refine call_meets F.slot_list_append ⟨_,e,rfl⟩ F.entry_list_append (F.args_list_append_2 _ _) (PySem.list_append l its.toArray n u (by rw[GS];lia)) ⟨e,?_⟩;refine⟨.non,_,I.lset (its':=its++[u]) hH e (by simp) (r.append (.cons ru .nil)) ?_,rfl,q⟩;rw[Gr,List.length_singleton];lia
def CA:V->List V->Hp->VK->Prop:=λx vs H Q=>∃l b xs zs,x= .ref l/\vs=[.ref b]/\H l=some (.lst xs)/\H b=some (.lst zs)/\xs.length+zs.length<=sizeLine/\Q .non (upd H l (.lst (xs++zs)))
theorem yo:MtM X "list.extend" CA:=by
 intro pins s σ H x vs v us Q I rx rv h;obtain⟨l,b,xs,zs,rfl,rfl,hH,hB,hz,q⟩:=h;cases rx;obtain⟨u,rfl,ru⟩:=rv.one;cases ru;obtain⟨z,its,n,r,hl,e⟩:=I.lstM hH;obtain⟨z2,its2,n2,r2,hl2,e2⟩:=I.lstM hB;have hsz:its.toArray.size+its2.toArray.size<=sizeLine:=by rw[GS,GS];lia
 have hlong:¬(!its.toArray.isEmpty&&Builtin.List.listTooLong (its.toArray.size+its2.toArray.size))=true:=by rw[AX hsz,Hu];exact Gj
 refine call_meets F.slot_list_extend ⟨_,e,rfl⟩ F.entry_list_extend (F.args_list_extend_2 _ _)
  (AutoSeq1.list_extend_list_list_0 l its.toArray n b its2.toArray n2 hlong (by rw[GS];lia) (by lia)) ⟨e,e2,?_⟩
 refine⟨.non,_,I.lset (its':=its++its2) hH e (by simp) (r.append r2) ?_,rfl,q⟩;rw[Gr];lia
def FR:R2:=λx y H Q=>∃l b xs zs,x= .ref l/\y= .ref b/\H l=some (.lst xs)/\H b=some (.lst zs)/\xs.length+zs.length<=sizeLine/\∀p,H p=none->Q (.ref p) (upd H p (.lst (xs++zs)))
theorem kB:OpR X (binaryOp .Add) FR:=by
 intro pins s σ H x y v u Q I rx ry h;obtain⟨l,b,xs,zs,rfl,rfl,hH,hB,hz,q⟩:=h;cases rx;cases ry;obtain⟨z,its,n,r,hl,e⟩:=I.lstM hH;obtain⟨z2,its2,n2,r2,hl2,e2⟩:=I.lstM hB;refine PySem.P.add_list e e2 ?_ (by rw[GS,GS];lia);have ea:its.toArray++its2.toArray=(its++its2).toArray:=by simp
 rw[ea];exact⟨.ref _,_,I.lnew (t':=s.toks) (r.append r2) (by rw[Gr];lia),rfl,q _ I.fresh⟩
end
section
variable{prog:Program}{w:World}{A:Around}{E:Value->Shared->Prop}{s:Shared}
end
section
variable{X:Cx}
end
end L2
namespace Att
open PySem PySem.W PySem.Calls PyProof.Rows
theorem lJ:∀ (ns:List Int) (vs:List Value),WellAll P h vs (ns.map WData.int)->IntsAre vs ns:=by
 intro ns
 induction ns with
 |nil=>
  intro vs w;rw[Jx]at w;cases w;exact .nil
 |cons n ns ih=>
  intro vs w;rw[GP]at w;cases w with
  |cons a b=>
   cases a;exact .cons _ _ (ih _ b)
theorem xF{l:OpenLaw}(hn:l.most=some n){h:Heap}
  (hpre:l.row.toRowW.claim.pre args=true) (hwl:WellAll P h vals args):
  ∃a vs ns,vals=[Value.ref a]/\args=[WData.list (ns.map WData.int)]/\h.get? a=some {cls:= .type "list",data:= .seq vs.toArray}/\IntsAre vs ns/\ns.length<=n:=by
 have hsh:WShape.hasAll [] args [.list .int]=true:=(pre_splitW hpre).1;have hc:l.pre.holds [] {args:=args}=true:=(pre_splitW hpre).2;obtain⟨d,r,rfl,h1,h2⟩:=hasAllW_cons hsh;obtain rfl:=hasAllW_nil h2;obtain⟨xs,rfl,h3⟩:=hasW_list h1;obtain⟨ns,rfl⟩:=items_int h3;have hlen:ns.length<=n:=by
  unfold OpenLaw.pre at hc;have h4:(WTm.not (.lt (.lit (.int (n:Int))) (.len (.arg 0)))).holds [] {args:=[.list (ns.map .int)]}=true:=by have h4:=(holds_andW hc).1;rw[hn]at h4;exact h4
  have h5:=condW_of h4 (w_not (w_lt w_lit (w_len_list (w_arg rfl))));rw[F3]at h5;refine Ij λq=> ?_;have q':(n:Int)<((ns.length:Nat):Int):=by lia
  first
   |(rw[F5 q']at h5;exact absurd h5 (by decide))
   |(simp at h5;lia)
 cases hwl with
 |cons w1 w2=>
  cases w2;cases w1 with
  |list ho hall=>exact⟨_,_,ns,rfl,rfl,ho,lJ ns _ hall,hlen⟩
theorem xR(l:OpenLaw)(args:List WData):l.row.toRowW.claim.post args (.bool true) args=true:=
 postW_of (r:=l.row.toRowW) (X:=(true==true))
  (show WShape.has [] (.bool true) .bool=true by first|rfl|decide|simp[WShape.has,WShape.arms,WShape.armsAll])
  (show(WTm.eq .res (.lit (.bool true))).value [] {args:=args,res:=some (.bool true),after:=args}=some (.bool (true==true))from w_eq_bool (w_res rfl) w_lit) rfl
theorem ua{l:OpenLaw}{d:DefRec}
  (hn:l.most=some n) (hdf:d.params.defaults=[])
  (call:∀ (w:World) (s₀ s₁:Shared) (mg mb:Str->Option Value) (fa:Addr) (o:Obj) (pm cd doc:Value) (a:Addr) (vs:List Value) (ns:List Int),
   Ground q loose [] XP w s₀ mg mb s₁.heap->YP w s₁.heap->
   s₁.heap.get? fa=some o->o.data= .func (docDef d.name d.params d.body d.scope pm cd doc)->s₁.heap.CodeRec cd d.name->mg d.name=some (.ref fa)->
   s₁.heap.get? a=some {cls:= .type "list",data:= .seq vs.toArray}->IntsAre vs ns->ns.length<=n->s₁.gens= #[]->
   codeAny (model l.prog w) callerA (.call (.ref fa) ⟨[.ref a],[]⟩) (λr s'=>r= .ok (.ret (.bool true))/\OldK s₁.heap s'.heap/\s'.os=s₁.os/\AllBare s'.gens) s₁):
  WalkO q loose XP YP l.row.toRowW d [] (λf vs=>PySem.call f vs):=by
 intro w s₀ s₁ mg mb G Y fa o pm cd doc dV kV ho hd hcd hD hmg hg args vals as hpre hlay hrd hwl hlo;obtain rfl:dV= .none:=Dflts.none hD hdf;obtain rfl:kV= .none:=Dflts.noKw hD;obtain⟨a,vs,ns,rfl,rfl,hobj,hints,hlen⟩:=xF hn hpre hwl;refine enter_call (J3 (call w s₀ s₁ mg mb fa o pm cd doc a vs ns G Y ho (fd_plain hd) hcd hmg hobj hints hlen hg) λr s' hq=> ?_);obtain⟨rfl,h2,h3,h4⟩:=hq;exact⟨.inl ⟨.bool true, .bool true,[],rfl,λ_=>rfl, .bool true,xR l _,λ_=>⟨List.Pairwise.nil,λ_ hm=>(nomatch hm)⟩⟩,h2,h3,h4⟩
section
variable{prog:Program}{w:World}{A:Around}{E:Value->Shared->Prop}{s:Shared}{K:Frag}
def ledger(h:Heap)(L d:Addr):List (Addr×Obj):=(List.range h.objs.size).filterMap λa=>if a=L\/a=d then none else(h.get? a).map λo=>(a,o)
end
end Att
namespace L2
open PySem PySem.Spec PyProof.Rows
theorem oY:∀ {vs:List Value} {ns:List Int},IntsAre vs ns->Vals (ns.map V.int) vs
 |_,_, .nil=> .nil
 |_,_, .cons n t h=> .cons ⟨t,rfl⟩ (oY h)
def Only(H:Hp):Prop:=∀b,H b=none\/∃o xs,H b=some (.frz o (.lst xs))
theorem Bm{K:PySem.W.Frag}{s₁:Shared}{vs:List Value}{ns:List Int}
  (KX:K.In s₁.heap) (hns:s₁.heap.Ns mainGlobals mg) (hb:s₁.heap.Ns builtinsNs mb) (hbb:∀x:Str,x≠ "__name__"->mb x=bootBuiltins x) (hlim:s₁.heap.NoLimit) (hg:s₁.gens= #[])
  (ha:s₁.heap.get? a=some {cls:= .type "list",data:= .seq vs.toArray}) (hi:IntsAre vs ns) (hl:ns.length<=sizeLine) (hr:Room k callerA)
  (F:∀base:Heap,K.In base->base.Ns mainGlobals mg->gQ P w K mg base CX k fa fd [x] sp) (hbind:∀ (s:Shared) (u:Value),BindsTo s fd ⟨[u],[]⟩ [(x,u)])
  (hsp:∀H:Hp,Only H->SqL K H a (ns.map V.int)->sp [.ref a] H (λv _=>v= .bl true) λ_ _ _=>False)
  (hCX:∀H e s',CX [] H s₁ (λ_ _ _=>False) e s'->False):
  codeAny (model P w) callerA (.call (.ref fa) ⟨[.ref a],[]⟩) (λr s'=>r= .ok (.ret (.bool true))/\OldK s₁.heap s'.heap/\s'.os=s₁.os/\AllBare s'.gens) s₁:=by
 have rv:=oY hi;have lenV:=hi.length;have core:∀H:Hp,Only H->SqL K H a (ns.map V.int)->HOk P w H s₁.heap->(∀b,H b≠none->b=a)->(H a≠none->K.lookup a=none)->
   codeAny (model P w) callerA (.call (.ref fa) ⟨[.ref a],[]⟩) (λr s'=>r= .ok (.ret (.bool true))/\OldK s₁.heap s'.heap/\s'.os=s₁.os/\AllBare s'.gens) s₁:=by
  intro H hO hS hok hA hK;have base_of:∀ {b:Addr} {o:Obj},s₁.heap.get? b=some o->H b=none->(qX s₁.heap H).get? b=some o:=λe n=>Bz e n;have noA:∀ {b:Addr} {o:Obj} {es:Array DictEntry} {ep:Nat},s₁.heap.get? b=some o->o.data= .dict es ep->H b=none:=λ{b o es ep} e d=>by
   cases q:H b with
   |none=>rfl
   |some u=>
    have e':b=a:=hA b (by rw[q];simp);subst e';rw[ha]at e;cases e;have d':Data.seq vs.toArray _=Data.dict es ep:=d;cases d'
  have nsK:∀ {b:Addr} {m:Str->Option Value},s₁.heap.Ns b m->(qX s₁.heap H).Ns b m:=λ{b m} ⟨o,es,ep,e,d,r⟩=>⟨o,es,ep,base_of e (noA e d),d,r⟩;have hKb:K.In (qX s₁.heap H):=λb o e=>base_of (KX b o e) (by
   cases q:H b with
   |none=>rfl
   |some u=>
    have e':b=a:=hA b (by rw[q];simp);subst e';rw[hK (by rw[q];simp)]at e;cases e)
  have hM:Mod K mg (qX s₁.heap H):=⟨hKb,nsK hns,⟨mb,nsK hb,hbb⟩,let⟨mc,h1,h2⟩:=hlim;⟨mc,nsK h1,h2⟩⟩;have e0:vJ P w K mg (qX s₁.heap H) callerA [] s₁ H:=⟨rfl,hM,λb o e=>CW e,Nat.le_of_eq (yM _ _),trivial,λb hb=>absurd (show b∈([]:List Addr)from hb) (by simp),hok, .of_eq hg⟩;refine J3 ((F _ hKb (nsK hns)).run callerA [] s₁ H ⟨[.ref a],[]⟩ [.ref a] [.ref a] _ _ hr e0 (hbind s₁ (.ref a)) (.cons rfl .nil) (hsp H hO hS)) λr s' h=> ?_;cases r with
  |error e=>exact(hCX H e s' h).elim
  |ok fl=>
   cases fl with
   |next=>exact False.elim h
   |brk=>exact False.elim h
   |cont=>exact False.elim h
   |ret u=>
    obtain⟨v,H',os,bare,un,hok',r',q⟩:=h;have q':v= .bl true:=q;subst q';obtain rfl:u=Value.bool true:=r';refine⟨rfl,OldK.of_keep λb o e=> ?_,os,bare⟩;cases q:H b with
    |none=>exact un.keep b o e q (by intro z;exact absurd (show b∈([]:List Addr)from z) (by simp)) (by simp)
    |some u=>
     rcases hO b with z|⟨ob,xs,z⟩
     .rw[q]at z;cases z
     .have z2:=un.frzs b ob _ z;obtain⟨e1,_⟩:=hok b _ z;obtain⟨e2,_⟩:=hok' b _ z2;rw[e]at e1;cases e1;exact e2
 cases hk:K.lookup a with
 |some o=>
  have e:=KX a o hk;rw[ha]at e;cases e;refine core (λ_=>none) (λ_=> .inl rfl) (.inr ⟨_,vs.toArray,_,hk,rfl,rfl,rfl,by rw[GS,lenV];exact hl,by simpa using rv⟩) (λb u z=>by have z':(none:Option HO)=some u:=z;cases z') (λb z=>absurd rfl z) λz=>absurd rfl z
 |none=>
  refine core (λb=>if b=a then some (.frz {cls:= .type "list",data:= .seq vs.toArray} (.lst (ns.map V.int)))else none) (λb=> ?_) (.inl (.inr ⟨{cls:= .type "list",data:= .seq vs.toArray},F7 rfl⟩)) (λb u z=> ?_) (λb z=> ?_) λ_=>hk
  .by_cases hb:b=a
   .exact .inr ⟨_,_,F7 hb⟩
   .exact .inl (F8 hb)
  .by_cases hb:b=a
   .have z':=(F7 hb).symm.trans z;cases z';subst hb;exact⟨ha,by rw[F3];exact hl,vs,_,rv,ha⟩
   .have z':=(F8 hb).symm.trans z;cases z'
  .by_cases hb:b=a
   .exact hb
   .exact absurd (F8 hb) z
end L2
namespace L2
open PySem PySem.Spec PyProof.Rows
abbrev KOf{K:PySem.W.Frag}{h:Heap}(_:K.In h):PySem.W.Frag:=K
theorem vM{l:PySem.W.OpenLaw}{n k:Nat}{q:Program}{loose:List Str}{XP:(Str->Option Value)->Heap->Prop}{YP:World->Heap->Prop}{d:DefRec}{K:Params->PySem.W.Frag}{CX:World->CXT}{sp:World->Sp}{x:Str}
  (hn:l.most=some n) (hn2:n<=sizeLine) (hdf:d.params.defaults=[]) (hr:Room k callerA)
  (hY:∀ (w:World) (h:Heap),YP w h->(K w.params).In h)
  (F:∀ (w:World) (mg:Str->Option Value) (fa:Addr) (h:Heap),(K w.params).In h->h.Ns mainGlobals mg->mg d.name=some (.ref fa)->
   ∃fd:FuncData,(∀ (s:Shared) (u:Value),BindsTo s fd ⟨[u],[]⟩ [(x,u)])/\
    ∀base:Heap,(K w.params).In base->base.Ns mainGlobals mg->gQ l.prog w (K w.params) mg base (CX w) k fa fd [x] (sp w))
  (hsp:∀ (w:World) (H:Hp) (a:Addr) (ns:List Int),ns.length<=n->Only H->SqL (K w.params) H a (ns.map V.int)->sp w [.ref a] H (λv _=>v= .bl true) λ_ _ _=>False)
  (hCX:∀ (w:World) (H:Hp) (s:Shared) (e:Value) (s':Shared),CX w [] H s (λ_ _ _=>False) e s'->False):
  PySem.W.WalkO q loose XP YP l.row.toRowW d [] (λf vs=>PySem.call f vs):=by
 refine Att.ua hn hdf λw s₀ s₁ mg mb fa o pm cd doc a vs ns G Y ho hd hcd hmg hobj hints hlen hg=> ?_;have KX:=hY w _ Y;obtain⟨fd,hb,hF⟩:=F w mg fa _ KX G.T.g hmg;exact Bm KX G.T.g G.T.b G.T.builtins G.T.nolimit hg hobj hints (Gd hlen hn2) hr hF hb (λH hO hS=>hsp w H a ns hlen hO hS) λH e s'=>hCX w H s₁ e s'
end L2
namespace L2
open PySem PySem.Spec PyProof.Rows
def cP(s:Stmt)(j:Nat):Stmt:=match s with
 | .ClassDef _ _ _ body _ _ _ _ _ _ _=>body.getD j (.Pass ⟨0,0,0,0⟩)
 |_=> .Pass ⟨0,0,0,0⟩
def cy(s:Stmt):Arguments:=match s with
 | .FunctionDef _ a _ _ _ _ _ _ _ _=>a
 |_=>{posonlyargs:=[],args:=[],vararg:=none,kwonlyargs:=[],kw_defaults:=[],kwarg:=none,defaults:=[]}
def aR(s:Stmt):List Stmt:=match s with
 | .FunctionDef _ _ b _ _ _ _ _ _ _=>b
 |_=>[]
def ak(s:Stmt):Scope:=match s with
 | .FunctionDef _ _ _ _ _ _ sc _ _ _=>sc
 |_=>{kind:= .function,names:=[],isGenerator:=false,isCoroutine:=false}
abbrev CX0:CXT:=λ_ _ _ _ _ _=>False
abbrev E0:XK:=λ_ _ _=>False
theorem sL:ow CX0 X E0:=λ_ _ _ _ _ _ _ h=>h.elim
structure Fun(K:PySem.W.Frag)(x qual:Str)(st:Stmt)(f:Addr)(fd:FuncData):Prop where
 ex:∃ (oc:Value) (od:Option Addr) (kV doc pm:Value) (an:Option Addr) (cdv ct:Value) (osl:Array (Option Value)),
  fd=fnOf x qual (cy st) (aR st) (ak st) .none kV doc pm an cdv ct/\K.lookup f=some ⟨oc,od, .func fd,osl⟩/\codeIn K cdv qual=true
 kp:keepIn K (.ref f)=true
section
variable{P:Program}{w:World}{K:PySem.W.Frag}{mg:Str->Option Value}{base:Heap}
theorem Fun.ok{x qual:Str}{st:Stmt}{f:Addr}{fd:FuncData}{N ps:List Str}{k:Nat}{sp:Sp}(F:Fun K x qual st f fd)(S:aB N ps (ak st))(len:∀vs H Q E,sp vs H Q E->vs.length=ps.length)
  (hbody:∀ (cdv:Value) (A:Around) (outer:List Env) (s:Shared) (H:Hp) (vs:List V) (Q:VK) (E:XK),Room k (A.deeper (envOfC qual (ak st) s.heap.objs.size f cdv))->sp vs H Q E->
   ∃t,PSs (rf CX0 P w K mg base N qual (ak st) f cdv A outer s H E).nox (aR st) t/\t {nx:=λ_ H'=>Q .non H',rt:=Q} (start N vs) H):gQ P w K mg base CX0 (k+1) f fd ps sp:=by
 obtain⟨oc,od,kV,doc,pm,an,cdv,ct,osl,rfl,lk,hcd⟩:=F.ex;refine Fw lk hcd S len λA outer s H vs Q E hr hsp=> ?_;obtain⟨t,h,q⟩:=hbody cdv A outer s H vs Q E hr hsp;exact⟨t,h.nox,q⟩
theorem Fun.binds{x qual:Str}{st:Stmt}{f:Addr}{fd:FuncData}{ps:List Str}(F:Fun K x qual st f fd)
  (h:∀ (kV doc pm:Value) (an:Option Addr) (cdv ct:Value) (us:List Value),us.length=ps.length->bindArgs (fnOf x qual (cy st) (aR st) (ak st) .none kV doc pm an cdv ct) ⟨us,[]⟩=pure (ps.zip us)):iK K fd ps []:=by
 obtain⟨oc,od,kV,doc,pm,an,cdv,ct,osl,rfl,lk,hcd⟩:=F.ex;exact .all (h kV doc pm an cdv ct)
theorem nS{x qual:Str}{st:Stmt}{f:Addr}{oc:Value}{od an:Option Addr}{osl:Array (Option Value)}{kV doc pm cdv ct:Value}(l:K.lookup f=some ⟨oc,od, .func (fnOf x qual (cy st) (aR st) (ak st) .none kV doc pm an cdv ct),osl⟩)
  (c:codeIn K cdv qual=true) (k:keepIn K (.ref f)=true):Fun K x qual st f (fnOf x qual (cy st) (aR st) (ak st) .none kV doc pm an cdv ct):=⟨⟨oc,od,kV,doc,pm,an,cdv,ct,osl,rfl,l,c⟩,k⟩
end
section
variable{X:Cx}
theorem pv(i:Nat){x:Str}{pos:Pos}(hN:X.N[i]?=some x:=by rfl)(hv:Vis X.env.scope x:=by first|exact Kx rfl|exact Or.inr (Kx rfl)|exact Or.inr (Or.inr rfl))(hd:(x==("__debug__":Str))=false:=by decide)
  (hcd:(x==("__classdict__":Str))=false:=by decide):PE X (.Name x pos) (DY i):=Ej hN hv hd hcd
end
theorem dQ{A B:Prop}(h:B):if false=true then A else B:=by rw[F8 Gj];exact h
theorem kD{A B:Prop}(h:A):if true=true then A else B:=by rw[F7 rfl];exact h
theorem bJ{c A B:Prop}[Decidable c](h1:c->A)(h2:¬c->B):if c then A else B:=by
 by_cases h:c
 .rw[F7 h];exact h1 h
 .rw[F8 h];exact h2 h
theorem pA{c A B:Prop}[Decidable c](hc:c)(h:B):if(!decide c)=true then A else B:=by rw[F5 hc];exact dQ h
def Same(H H':Hp):Prop:=∀b o,H b=some o->H' b=some o
theorem Same.refl(H:Hp):Same H H:=λ_ _ h=>h
theorem Same.trans(a:Same H H1)(b:Same H1 H2):Same H H2:=λc o h=>b c o (a c o h)
theorem Same.free(e:Same H H')(h:H' l=Option.none):H l=Option.none:=by
 cases q:H l with
 |none=>rfl
 |some o=>
  rw[e l o q]at h;cases h
theorem Same.seq{K:PySem.W.Frag}{H H':Hp}{a:Addr}{xs:List V}(e:Same H H')(h:SqL K H a xs):SqL K H' a xs:=by
 rcases h with (h|⟨o,h⟩)|h
 .exact .inl (.inl (e _ _ h))
 .exact .inl (.inr ⟨o,e _ _ h⟩)
 .exact .inr h
end L2
namespace L2
open PySem PySem.Spec PyProof.Rows
theorem kE{α β:Type}{f:α->β->Sem (ForInStep β)}(g:β->α->β):∀ (l:List α) (c:β),(∀x∈l,∀c,f x c=pure (.yield (g c x)))->forIn l c f=pure (l.foldl g c):=by
 intro l
 induction l with
 |nil=>intro c _;rfl
 |cons x l ih=>
  intro c h;rw[List.forIn_cons,h x Gn,pure_bind];exact ih _ λy hy=>h y (Gm _ hy)
def eS(env:Env)(cs:List (Str×Addr))(y:Str×NameKind):List (Str×Addr):=if(y.2==NameKind.free)=true then(y.1,(env.cells.lookup y.1).getD 0)::cs else cs
def gL(env:Env)(names:List (Str×NameKind)):List (Str×Addr):=names.foldl (eS env) []
theorem i9{env:Env}{sc:Scope}(h:∀y∈sc.names,y.2= .free->∃c,env.cells.lookup y.1=some c):closureFor sc env=pure (gL env sc.names):=by
 simp only[closureFor];rw[kE (eS env) sc.names [] (λx hx c=>by
  obtain⟨n,kind⟩:=x;by_cases hk:kind= .free
  .subst hk;obtain⟨a,ha⟩:=h _ hx rfl;have ha':env.cells.lookup n=some a:=ha;have e:cellOf env n=pure a:=by simp only[cellOf,ha']
   simp only[eS,e,ha',beq_self_eq_true,Lp,pure_bind,Option.getD_some]
  .have:(kind==NameKind.free)=false:=by simpa using hk
   simp only[eS,this,Bool.false_eq_true,if_false])]
 rfl
theorem zb(env:Env):∀ (names:List (Str×NameKind)) (acc:List (Str×Addr)),(∀y∈names,y.2= .free->∃c,env.cells.lookup y.1=some c)->(∀x c,acc.lookup x=some c->env.cells.lookup x=some c)->
  ∀x c,(names.foldl (eS env) acc).lookup x=some c->env.cells.lookup x=some c:=by
 intro names
 induction names with
 |nil=>intro acc _ ha x c e;exact ha x c e
 |cons y r ih=>
  intro acc h ha;refine ih _ (λz hz=>h z (Gm _ hz)) λx c e=> ?_;unfold eS at e;split at e
  .rename_i hk;obtain⟨a,ey⟩:=h y Gn (by simpa using hk);rw[IW]at e;cases hx:x==y.1 with
   |true=>
    rw[hx]at e;have hxy:x=y.1:=by simpa using hx
    rw[ey]at e;rw[hxy,ey];exact e
   |false=>rw[hx]at e;exact ha x c e
  .exact ha x c e
theorem zd(env:Env):∀ (names:List (Str×NameKind)) (acc:List (Str×Addr)) (x:Str),((∃y∈names,y.1=x/\y.2= .free)\/∃c,acc.lookup x=some c)->∃c,(names.foldl (eS env) acc).lookup x=some c:=by
 intro names
 induction names with
 |nil=>
  intro acc x h;rcases h with ⟨y,hy,_⟩|h
  .cases hy
  .exact h
 |cons y r ih=>
  intro acc x h;refine ih _ x ?_;have lk:∀c,acc.lookup x=some c->∃c,(eS env acc y).lookup x=some c:=λc e=>by
   unfold eS;split
   .rw[IW];cases hx:x==y.1 with
    |true=>exact⟨_,rfl⟩
    |false=>exact⟨c,e⟩
   .exact⟨c,e⟩
  rcases h with ⟨z,hz,hzx,hzk⟩|⟨c,e⟩
  .rcases Gh.mp hz with e|hr
   .subst e;refine .inr ?_;unfold eS;rw[hzk,F7 (by rfl),IW,hzx];simp
   .exact .inl ⟨z,hr,hzx,hzk⟩
  .exact .inr (lk c e)
theorem EZ{env:Env}(h:∀y∈names,y.2= .free->∃c,env.cells.lookup y.1=some c)(e:(gL env names).lookup x=some c):env.cells.lookup x=some c:=
 zb env names [] h (λ_ _ z=>by simp at z) x c e
theorem BR(h:∃y∈names,y.1=x/\y.2= .free):∃c,(gL env names).lookup x=some c:=zd env names [] x (.inl h)
def inner(nv:Nat)(fr:List Nat)(σ:St):St:=List.replicate nv none++fr.map λj=>(σ[j]?).join
def lO(X:Cx)(sc:Scope):List Nat->List Str->Prop
 | [],[]=>True
 |j::js,x::xs=>(X.N[j]?=some x/\(X.env.kindOf x=some .cell\/X.env.kindOf x=some .free)/\((relabel sc X.env).names.lookup x=some .cell\/(relabel sc X.env).names.lookup x=some .free))/\lO X sc js xs
 |_,_=>False
theorem lO.get{X:Cx}:∀ {fr:List Nat} {names:List Str} {k j:Nat},lO X sc fr names->fr[k]?=some j->
  ∃x,names[k]?=some x/\X.N[j]?=some x/\(X.env.kindOf x=some .cell\/X.env.kindOf x=some .free)/\((relabel sc X.env).names.lookup x=some .cell\/(relabel sc X.env).names.lookup x=some .free)
 | [],[],_,_,_,e=>by simp at e
 | [],_::_,_,_,h,_=>h.elim
 |_::_,[],_,_,h,_=>h.elim
 |j::js,x::xs,0,i,h,e=>by
  have e':j=i:=by simpa using e
  subst e';exact⟨x,rfl,h.1⟩
 |j::js,x::xs,k+1,i,h,e=>by obtain⟨y,h1,h2⟩:=lO.get (k:=k) (j:=i) h.2 (by simpa using e);exact⟨y,by simpa using h1,h2⟩
theorem lO.len:∀ {fr:List Nat} {names:List Str},lO X sc fr names->fr.length=names.length
 | [],[],_=>rfl
 | [],_::_,h=>h.elim
 |_::_,[],h=>h.elim
 |_::_,_::_,h=>by rw[GA,GA,lO.len h.2]
def PTs(X:Cx)(ifs:List Expr)(t:TT):Prop:=
 ∀ (pins:List (Addr×Obj)) (s:Shared) (σ:St) (H:Hp) (Q:Bool->Hp->Prop),Inv X pins σ H s->t σ H Q->
  wpAny (model X.prog X.w) X.A (forIn ifs true λc r=>if r=true then do let ok<-isTrue c X.env (eval c X.env);pure (ForInStep.yield ok)else pure (ForInStep.yield r)) (TP X pins σ Q) X.xe s
def fK:TT:=λ_ H Q=>Q true H
theorem bw:PTs X [] fK:=λ_ _ _ H _ I h=>wpAny_tests_nil ⟨H,I,h⟩
theorem bW(h:PT X c t):PTs X [c] t:=λpins s σ H Q I q=>wpAny_tests_one (h pins s σ H Q I q)
def LCW(J:It)(g:TG)(tc:TT)(te:TE)(nv:Nat)(fr:List Nat)(σ:St)(H1:Hp)(Q:VK):Prop:=∀D,H1 D=none->
 ∃W:Nat->Nat->St->Hp->Prop,(∃m,W 0 m (inner nv fr σ) (upd H1 D (.lst [])))/\∀i m σ' H',W i m σ' H'->
  (J.stop i H'/\Q (.ref D) H')\/(J.go i H'/\∃N:St->Hp->Prop,(∀σ'' H'',N σ'' H''->∃m',m'<m/\W (i+1) m' σ'' H'')/\
   ∀x H2,J.yld i H' x H2->g x σ' H2 λσ2 H3=>tc σ2 H3 λb H4=>if b=true then te σ2 H4 λy H5=>∃xs,H5 D=some (.lst xs)/\xs.length<sizeLine/\N σ2 (upd H5 D (.lst (xs++[y])))else N σ2 H4)
def tLC(wi:TI)(g:TG)(tc:TT)(te:TE)(nv:Nat)(fr:List Nat):TE:=λσ H Q=>wi σ H λJ H1=>LCW J g tc te nv fr σ H1 Q
section
variable{X:Cx}{elt target iter:Expr}{ifs:List Expr}{sc:Scope}{pos:Pos}{wi:TI}{g:TG}{tc:TT}{te:TE}{vars frn:List Str}{fr:List Nat}
def Cc(X:Cx)(pins:List (Addr×Obj))(σ:St)(Q:VK)(D C:Addr)(s':Shared):Prop:=
 ∃H',Inv X pins σ H' s'/\Q (.ref D) H'/\(∃m,s'.heap.Ns C m)/\H' C=none/\C≠X.env.locals/\X.s₀.heap.objs.size<=C/\(∀x c,X.env.cells.lookup x=some c->c≠C)/\∀p∈X.pn++pins,p.1≠C
theorem DM{env:Env}(h:sc.names.all (λy=> !(y.2== .free)||(env.kindOf y.1==some .cell||env.kindOf y.1==some .free))=true):∀y∈sc.names,y.2= .free->env.kindOf y.1=some .cell\/env.kindOf y.1=some .free:=λy hy hk=>by have:=GW.mp h y hy;rw[hk]at this;simpa using this
theorem DJ(h:sc.names.all (λy=> !(y.2== .local)||(sc.names.lookup y.1==some .local))=true):∀y∈sc.names,y.2= .local->sc.names.lookup y.1=some .local:=λy hy hk=>by have:=GW.mp h y hy;rw[hk]at this;simpa using this
end
end L2
namespace L2
open PySem PySem.Spec PyProof.Rows
section
variable{X:Cx}{e st:Expr}{te ts:TE}{pos p2:Pos}
def E4(K:PySem.W.Frag)(te ts:TE):TE:=λσ H Q=>te σ H λx H1=>ts σ H1 λk H2=>k= .int (-1)/\∃a xs,x= .ref a/\SqL K H2 a xs/\∀p,H2 p=none->Q (.ref p) (upd H2 p (.lst xs.reverse))
theorem Ek(he:PE X e te)(hs:PE X st ts):PE X (.Subscript e (.Slice none none (some st) p2) pos) (E4 X.K te ts):=by intro pins s σ H Q I h;refine Subscript_ (thn (he pins s σ H _ I h) λv s1 ⟨x,H1,I1,r1,q1⟩=> ?_);refine wpAny_Slice ?_;rw[evalPart_none];refine Hx (Hx ?_);rw[evalPart_some];refine thn (hs pins s1 σ H1 _ I1 q1) λvk s3 ⟨k,H3,I3,rk,q3⟩=> ?_;obtain⟨rfl,a,xs,rfl,hx,q⟩:=q3;obtain⟨t,rfl⟩:=rk;cases r1;have I4:Inv X pins σ H3 {s3 with heap:=s3.heap.push {cls:= .type "slice",data:= .fields #[.none, .none, .int (-1) t]}}:=I3.kept (t':=s3.toks) λb ob q=>GK _ q;obtain⟨its,r,ht,hz⟩:=I4.list hx;have hlen:=r.length;show wpAny (model X.prog X.w) X.A (subscriptTail e (.Slice none none (some st) p2) (.ref a) (.ref s3.heap.objs.size)) (EP X pins σ Q) X.xe {s3 with heap:=s3.heap.push {cls:= .type "slice",data:= .fields #[.none, .none, .int (-1) t]}};refine tail_any (ops:=[.ref a, .ref s3.heap.objs.size]) ht.isList.typeIs K2.lookup ?_ (by with_unfolding_all rfl);refine wpAny_getItem_list_slice ht.isList (Heap.IsSliceOf.new ..) .none .none (.int (-1) t) (by simp) ?_ (by rw[GS]<;>lia);rw[PySem.W.krv_pick];refine⟨.ref _,_,I4.laid (t':=s3.toks) (o:= .lst xs.reverse) (λb ob q=>GK _ q) (Gf _) ?_,rfl,q _ (I4.hok.fresh (Gf _))⟩;exact⟨by rw[JW];exact hz,_,0,r.reverse,HJ _ rfl⟩
def Fl:V->List V->Hp->VK->Prop:=λx vs H Q=>∃i,x= .int i/\vs=[]/\Q (.int (Builtin.Int.intBits i:Nat)) H
theorem CZ:MtR X "int.bit_length" Fl:=by intro pins s σ H x vs v us Q I rx rv h;obtain⟨i,rfl,rfl,q⟩:=h;obtain⟨t,rfl⟩:=rx;cases rv.zero;exact call_gives F.slot_int_bit_length (typeIs_int s i t) F.entry_int_bit_length (F.args_int_bit_length_1 _) (PySem.AutoIntG2.int_bit_length_int_0 i t) ⟨.int (Builtin.Int.intBits i:Nat),H,I.tok _,⟨_,rfl⟩,q⟩
def Fj(K:PySem.W.Frag):List V->Hp->VK->Prop:=λxs H Q=>∃x n t b,xs=[x, .ty n]/\kf K H x t/\kitOne K t (.type n)=some b/\Q (.bl b) H
theorem tZ:cE X (.builtin "isinstance") (Fj X.K):=by intro pins s σ H vs us Q I rv h;obtain⟨x,n,t,b,rfl,ty,e,q⟩:=h;obtain⟨u,w,rfl,ru,rw'⟩:=rv.two;cases (show w=Value.type n from rw');exact yK I ru ty e λtk=>⟨.bl b,H,I.tok tk,rfl,q⟩
end
def Ite(K:PySem.W.Frag)(a:Addr):It:=
 ⟨λi H=>∃xs x,SqL K H a xs/\xs[i]?=some x,
  λi H x H'=>∃t,x= .ref t/\H t=none/\∃v,(∀xs,SqL K H a xs->xs[i]?=some v)/\H'=upd H t (.tup [.int (i:Nat),v]),
  λi H=>∃xs,SqL K H a xs/\xs.length<=i⟩
theorem Inv.own{X:Cx}{pins:List (Addr×Obj)}{s:Shared}{σ:St}{H:Hp}{h₂:Heap}{t':Nat}(ch:List Addr)(I:Inv X pins σ H s)(hf:∀b∈ch,rF X pins H b)
  (kk:∀b o,b∉ch->s.heap.get? b=some o->h₂.get? b=some o):Inv X pins σ H {s with heap:=h₂,gens:=s.gens,drawn:=s.drawn,toks:=t'}:=by
 have hok:HOk X.prog X.w H h₂:=λb v e=>(I.hok b v e).stay (λc o hc q=>kk c o (λhm=>by
   have n:=(hf c hm).1;rcases hc with z|z
   .rw[z,e]at n;cases n
   .rw[z]at n;cases n) q) (λ_ q=>q) λ_ _ q=>q
 have hL:∀m,s.heap.Ns X.env.locals m->h₂.Ns X.env.locals m:=λm hm=>by obtain⟨o,es,ep,ho,r⟩:=hm;exact⟨o,es,ep,kk _ o (λhm=>(hf _ hm).2.1 rfl) ho,r⟩
 exact I.step (h':=h₂) (g':=s.gens) (d':=s.drawn) (t':=t') (ch:=ch) (λb hb=>⟨(hf b hb).2.2.2.1,(hf b hb).2.1,(hf b hb).2.2.2.2.1,(hf b hb).2.2.2.2.2⟩) (λb o _ _ hc e _=>kk b o hc e)
  (λb o _ _ hc e _=>⟨o.slots,kk b o hc e⟩) (λ_ _ _ _ n=>n) (λb o hc e=>⟨o,kk b o hc e⟩) (λ_ _ e=>e) (λ_ _ _ e=>e) (λb ps e=>⟨#[],by rw[e];simp⟩) hL hok I.bare
theorem Inv.pairIn{X:Cx}{pins:List (Addr×Obj)}{s s1:Shared}{σ:St}{H:Hp}{x y:V}{u v:Value}(I:Inv X pins σ H s)(I1:Inv X pins σ H s1)(ru:a9 x u)(rv:a9 y v)
  (ht:s1.heap.get? s.heap.objs.size=some {cls:= .type "tuple",data:= .seq #[u,v]}):Inv X pins σ (upd H s.heap.objs.size (.tup [x,y])) s1:=by
 have hfr:H s.heap.objs.size=none:=I.fresh;refine⟨I1.ok,I1.os,I1.bare,⟨λb o e n hb hx=>I1.base.keep b o e n hb hx,λb o e n hb hx=>I1.base.slot b o e n hb hx,λb o e n hx=> ?_,I1.base.there,λb ys e=> ?_,λb o u e=> ?_,λb ps e=> ?_⟩,I1.loc,I1.cell,?_,λy c e=> ?_,λp hp=> ?_,?_,I1.len⟩
 .have hb:b≠s.heap.objs.size:=GZ (F9 (GG e) I.sz);rw[av hb];exact I1.base.free b o e n hx
 .have h1:=I1.base.tups b ys e;rw[av (az h1 hfr)];exact h1
 .have h1:=I1.base.frzs b o u e;rw[av (az h1 hfr)];exact h1
 .obtain⟨more,h1⟩:=I1.base.tbls b ps e;exact⟨more,by rw[av (az h1 hfr)];exact h1⟩
 .rw[av (GZ I.lt)];exact I1.free
 .obtain⟨v,q⟩:=I.cell y c e;rw[av (GZ q.lt)];exact I1.freeC y c e
 .obtain⟨q1,q2,q3,q4,q5⟩:=I1.pin p hp;have hb:p.1≠s.heap.objs.size:=GZ (GG (I.pin p hp).1);exact⟨q1,by rw[av hb];exact q2,q3,q4,q5⟩
 .intro b o e;by_cases hb:b=s.heap.objs.size
  .subst hb;rw[aj]at e;cases e;exact⟨by show 2<=sizeLine;decide,[u,v], .cons ru (.cons rv .nil),⟨_,ht,rfl,_,rfl⟩⟩
  .rw[av hb]at e;refine(I1.hok b o e).stay (λ_ _ _ q=>q) (λc q=> ?_) λc ys q=> ?_
   .rw[av (az q hfr)];exact q
   .rw[av (az q hfr)];exact q
theorem xn{P:Program}{w:World}{K:PySem.W.Frag}{elts:List Expr}{x1:Nat}{tp:Pos}(a it en:Addr)(hne:en≠it):
  Turn P w K (.Tuple elts x1 tp) (Ite K a) [en,it] en (λi h=>(∃old,IsEnum h en it ((i:Nat):Int) old)/\h.IsListIter it a i) where
 mem:=by simp
 obj:=λi h st b hb=>by
  obtain⟨⟨old,he⟩,hi⟩:=st;rcases Gh.mp hb with e|e
  .subst e;exact⟨_,he,λv z=>by have z':Data.fields _=Data.cell v:=z;cases z'⟩
  .have e:b=it:=by simpa using e
   subst e;obtain⟨o,e,c,d⟩:=hi;exact⟨o,e,λv z=>by rw[d]at z;cases z⟩
 keep:=λi h h' st k=>⟨let⟨old,he⟩:=st.1;⟨old,k en (by simp) _ he⟩,st.2.at λo e=>k it (by simp) o e⟩
 item:=by
  intro X hP hw hK hc i pins s σ H E I hf st hg;subst hP hw hK;obtain⟨xs,x,hq,hx⟩:=hg;obtain⟨⟨old,he⟩,hit⟩:=st;obtain⟨its,rv,p,hz⟩:=I.list hq;obtain⟨u,hu,ru⟩:=rv.get hx;obtain⟨f0,f1,f2,f3,f4,f5⟩:=hf en (by simp);obtain⟨g0,g1,g2,g3,g4,g5⟩:=hf it (by simp);refine wpAny_pyNext_enum_item he hit p.isList (x:=u) (by simpa using hu) hne λh₁ heo hit₁ ht₁ hz₁ hk₁=> ?_;refine⟨_,rfl,wpAny_letOwnedTupleGo_enum heo λh₂ he₂ hs₂=> ?_⟩;replace hs₂:Heap.SameBut en h₁ h₂:=hs₂;have hen:en<s.heap.objs.size:=GG he;obtain⟨oi,hoi,hoc,hod⟩:=id hit;have hitl:it<s.heap.objs.size:=GG hoi;have hfr:H s.heap.objs.size=none:=I.fresh;have ht₂:h₂.get? s.heap.objs.size=some {cls:= .type "tuple",data:= .seq #[.int i s.toks,u]}:=(hs₂.2 _ (K6 hen)).trans ht₁;have kk:∀b o,b≠en->b≠it->s.heap.get? b=some o->h₂.get? b=some o:=λb o h1 h2 e=>(hs₂.2 b h1).trans (hk₁ b o h1 h2 e);have I1:Inv X pins σ H {s with heap:=h₂,gens:=s.gens,drawn:=s.drawn,toks:=s.toks+1}:=I.own [en,it] hf λb o hb e=>kk b o (λz=>hb (by simp[z])) (λz=>hb (by simp[z])) e;have hsz2:h₂.objs.size=s.heap.objs.size+1:=hs₂.1.trans hz₁;have I2:Inv X pins σ (upd H s.heap.objs.size (.tup [.int (i:Nat),x])) {s with heap:=h₂,toks:=s.toks+1}:=I.pairIn I1 ⟨_,rfl⟩ ru ht₂;refine⟨.ref s.heap.objs.size,_,I2,rfl,⟨_,rfl,hfr,x,λys hy=>by rw[I.list_inj hy hq];exact hx,rfl⟩,⟨⟨u,?_⟩,?_⟩,λb hb=> ?_⟩
  .have:((i+1:Nat):Int)=(i:Int)+1:=by lia
   rw[this];exact he₂
  .obtain⟨o,e,c,d⟩:=hit₁;exact⟨o,(hs₂.2 it (Ko hne)).trans e,c,d⟩
  .rcases Gh.mp hb with e|e
   .rw[e,av (GZ hen)];exact f0
   .have e:b=it:=by simpa using e
    rw[e,av (GZ hitl)];exact g0
 done:=by intro X hP hw hK hc i pins s σ H E I hf st hg;subst hP hw hK;obtain⟨xs,hq,hx⟩:=hg;obtain⟨⟨old,he⟩,hit⟩:=st;obtain⟨its,rv,p,hz⟩:=I.list hq;obtain⟨g0,g1,g2,g3,g4,g5⟩:=hf it (by simp);have hl:=rv.length;exact wpAny_pyNext_enum_end (I.ok.hd hc) he hit p.isList (by simp;lia) λh' eb=>⟨rfl,I.turned (t':=s.toks) (λb o hb e=>eb b o hb e) g0 g1 g3 g4 g5⟩
 self:=λ_ _ _ _ _ st h=>let⟨_,he⟩:=st.1;wpAny_pyIter_enum he h
section
variable{X:Cx}{elts:List Expr}{x1:Nat}{tp:Pos}
def DL(K:PySem.W.Frag)(ta:TA):TI:=λσ H R=>ta σ H λvs H1=>∃a,vs=[.ref a]/\(∃xs,H1 a=some (.lst xs))/\R (Ite K a) H1
theorem CI{a:Expr}{ta:TA}{p pos:Pos}(hg:Gl X "enumerate")(hm:X.mg "enumerate"=none)(ha:PA X [a] ta)(hs:starEach [a] X.env=[(false,eval a X.env)]:=by rfl):PI X (.Tuple elts x1 tp) (.Call (.Name "enumerate" p) [a] [] pos) (DL X.K ta):=by
 intro pins s σ H R I h;refine Call_ (gc I hg hm boot_enumerate (Iz (thn (ha pos pins s σ H _ I h) λus s1 ⟨vs,H1,I1,r1,q1⟩=> ?_) hs rfl));obtain⟨l,e,⟨xs,hx⟩,q⟩:=q1;subst e;obtain⟨u,rfl,ru⟩:=r1.one;cases ru;obtain⟨z,its,n,r,hl,e⟩:=I1.lstM hx;refine call_enumerate_1 e λh' he hi hsz hk=> ?_;refine wpAny_pyIter_enum he ⟨s1.heap.objs.size+1,[s1.heap.objs.size+1,s1.heap.objs.size],_,Ite X.K l,H1,rfl,I1.kept (t':=s1.toks) hk,xn l _ _ (Nat.succ_ne_self _),⟨⟨_,he⟩,hi⟩,λb hb=> ?_,q⟩;have hb':s1.heap.objs.size<=b:=by
  rcases Gh.mp hb with e|e
  .rw[e];exact Lj _
  .have e:b=s1.heap.objs.size:=by simpa using e
   rw[e];exact Gf _
 exact I1.fpOk hb' (I1.hok.fresh hb')
end
structure Cal(P:Program)(w:World)(K:PySem.W.Frag)(mg:Str->Option Value)(base:Heap)(k:Nat)(x:Str)(ps:List Str)(sp:Sp):Prop where
 ex:∃ (f:Addr) (fd:FuncData),gQ P w K mg base CX0 k f fd ps sp/\mg x=some (.ref f)/\keepIn K (.ref f)=true/\iK K fd ps []
structure aU(K:PySem.W.Frag)(mg:Str->Option Value)(x:Str)(st:Stmt)(ps:List Str):Prop where
 ex:∃ (f:Addr) (fd:FuncData),Fun K x x st f fd/\iK K fd ps []/\mg x=some (.ref f)
theorem EY{K:PySem.W.Frag}{h:Heap}{mg:Str->Option Value}{x:Str}{st:Stmt}{ps:List Str}{f:Addr}{oc:Value}{od an:Option Addr}{osl:Array (Option Value)}{kV doc pm cdv ct:Value}(X:K.In h)(G:h.Ns mainGlobals mg)
  (a:nsIn K mainGlobals x=some (some (.ref f))) (l:K.lookup f=some ⟨oc,od, .func (fnOf x x (cy st) (aR st) (ak st) .none kV doc pm an cdv ct),osl⟩)
  (c:codeIn K cdv x=true) (k:keepIn K (.ref f)=true)
  (b:∀ (kV doc pm:Value) (an:Option Addr) (cdv ct:Value) (us:List Value),us.length=ps.length->bindArgs (fnOf x x (cy st) (aR st) (ak st) .none kV doc pm an cdv ct) ⟨us,[]⟩=pure (ps.zip us)):aU K mg x st ps:=
 ⟨f,_,nS (st:=st) l c k,(nS (st:=st) l c k).binds b,IL X G a⟩
section
variable{P:Program}{w:World}{K:PySem.W.Frag}{mg:Str->Option Value}{base:Heap}
theorem aU.cal{x:Str}{st:Stmt}{N ps:List Str}{k:Nat}{sp:Sp}(D:aU K mg x st ps)(S:aB N ps (ak st))(len:∀vs H Q E,sp vs H Q E->vs.length=ps.length)
  (hbody:∀ (f:Addr) (cdv:Value) (A:Around) (outer:List Env) (s:Shared) (H:Hp) (vs:List V) (Q:VK) (E:XK),Room k (A.deeper (envOfC x (ak st) s.heap.objs.size f cdv))->sp vs H Q E->
   ∃t,PSs (rf CX0 P w K mg base N x (ak st) f cdv A outer s H E).nox (aR st) t/\t {nx:=λ_ H'=>Q .non H',rt:=Q} (start N vs) H):Cal P w K mg base (k+1) x ps sp:=by
 obtain⟨f,fd,F,b,m⟩:=D.ex;exact⟨f,fd,F.ok S len λcdv A outer s H vs Q E hr hsp=>hbody f cdv A outer s H vs Q E hr hsp,m,F.kp,b⟩
theorem Cal.mono(C:Cal P w K mg base j x ps sp)(h:j<=k):Cal P w K mg base k x ps sp:=by obtain⟨f,fd,F,m,kp,b⟩:=C.ex;exact⟨f,fd,F.mono h,m,kp,b⟩
end
section
variable{X:Cx}{x:Str}{ps:List Str}{j k:Nat}{sp:Sp}{e:Expr}{es:List Expr}{t:TA}{p pos:Pos}
theorem Ep(C:Cal X.prog X.w X.K X.mg X.base j x ps sp)(hr:Room k X.A)(hjk:j<=k)(hg:Gl X x)(ha:PA X (e::es) t)(hdb:(x==("__debug__":Str))=false:=by decide)
  (he:starEach (e::es) X.env=(false,eval e X.env)::starEach es X.env:=by rfl) (hpl:(backTo pos (starEach es X.env)).any (·.1)=false:=by rfl):PE X (.Call (.Name x p) (e::es) [] pos) (zX sp [] E0 t):=by
 obtain⟨f,fd,F,m,kp,b⟩:=C.ex;exact CN F (hr.mono hjk) hg m kp b .nil sL ha hdb he hpl
end
end L2
namespace L2
open PySem PySem.Spec PyProof.Rows
theorem Same.upd{H H1:Hp}{l:Addr}{o:HO}(e:Same H H1)(h:H l=none):Same H (upd H1 l o):=λb u q=>by rw[av (az q h)];exact e b u q
theorem Same.new(h:H l=none):Same H (L2.upd H l o):=(Same.refl H).upd h
theorem Same.at(e:Same H H1)(h:H l=some o):H1 l=some o:=e l o h
theorem BM{ts:List Int}{t:Int}(h0:0<=t):lM (ts.map V.int) none (some t)=(ts.take t.toNat).map V.int:=by
 obtain⟨k,rfl⟩:=IF h0;unfold lM;show((ts.map V.int).drop (HT.sIx _ 0 none)).take (HT.sIx _ _ (some (k:Int)) -HT.sIx _ 0 none)=_;rw[HT.qy,HT.mR,F3,List.drop_zero,Nat.sub_zero,<-List.map_take];show(ts.take (min k ts.length)).map V.int=(ts.take k).map V.int;by_cases hk:k<=ts.length
 .rw[J0 hk]
 .rw[Km (by lia),HN,Jf (by lia)]
def dB(p:Nat->Bool)(f:Nat->V)(i:Nat):List V:=((List.range i).filter p).map f
theorem uP(p:Nat->Bool)(f:Nat->V)(i:Nat):dB p f (i+1)=if p i=true then dB p f i++[f i]else dB p f i:=by unfold dB;rw[IC,Jb,GO];cases hp:p i<;>simp[hp]
theorem ya(p:Nat->Bool)(f:Nat->V)(i:Nat):(dB p f i).length<=i:=by unfold dB;rw[F3];exact Gd (Ie _ _) (by simp)
theorem cG{lo:Int}{n:Nat}{g:TG}{tc:TT}{te:TE}{nv:Nat}{fr:List Nat}{σ:St}{H:Hp}{Q:VK}(p:Nat->Bool)(f:Nat->V)(hn:n<=sizeLine)
  (hs:∀ (i:Nat) (vs:St) (H':Hp) (R:V->St->Hp->Prop) (S:St->Hp->Prop),i<n->vs.length=nv->Same H H'->
   (∀vs' H'',vs'.length=nv->Same H' H''->if p i=true then R (f i) (vs'++fr.map λj=>(σ[j]?).join) H'' else S (vs'++fr.map λj=>(σ[j]?).join) H'')->
   g (.int (lo+i)) (vs++fr.map λj=>(σ[j]?).join) H' λσ2 H3=>tc σ2 H3 λb H4=>if b=true then te σ2 H4 λy H5=>R y σ2 H5 else S σ2 H4)
  (hd:∀D H',H D=none->Same H H'->H' D=some (.lst (dB p f n))->Q (.ref D) H'):LCW (Itr lo n) g tc te nv fr σ H Q:=by
 intro D hD;refine⟨λi m σ' H'=>m=n-i/\i<=n/\∃vs:St,vs.length=nv/\σ'=vs++(fr.map λj=>(σ[j]?).join)/\Same H H'/\H' D=some (.lst (dB p f i)),⟨n,by simp,Hy _,List.replicate nv none,by simp,rfl,Same.new hD,aj⟩,?_⟩;rintro i m σ' H' ⟨rfl,hi,vs,hv,rfl,sm,hD'⟩;by_cases hlt:i<n
 .refine .inr ⟨hlt,λσ'' H''=>∃vs:St,vs.length=nv/\σ''=vs++(fr.map λj=>(σ[j]?).join)/\Same H H''/\H'' D=some (.lst (dB p f (i+1))),λσ'' H'' q=>⟨n- (i+1),Ip hlt (Ig _),rfl,hlt,q⟩,λx H2 y=> ?_⟩;obtain⟨e1,e2⟩:=y;subst e1 e2;refine hs i vs _ (λy σ2 H5=>∃xs,H5 D=some (.lst xs)/\xs.length<sizeLine/\∃vs:St,vs.length=nv/\σ2=vs++(fr.map λj=>(σ[j]?).join)/\Same H (upd H5 D (.lst (xs++[y])))/\upd H5 D (.lst (xs++[y])) D=some (.lst (dB p f (i+1)))) _ hlt hv sm λvs' H'' hv' sm'=> ?_;have e:=uP p f i;cases hp:p i with
  |true=>
   rw[hp,F7 rfl]at e;rw[F7 rfl];exact⟨_,sm' D _ hD',Gq (ya p f i) (F9 hlt hn),vs',hv',rfl,(sm.trans sm').upd hD,by rw[aj,e]⟩
  |false=>
   rw[hp,F8 Gj]at e;rw[F8 Gj];exact⟨vs',hv',rfl,sm.trans sm',by rw[e];exact sm' D _ hD'⟩
 .have e:i=n:=Ir hi (Ij hlt);subst e;exact .inl ⟨Gf _,hd D H' hD sm hD'⟩
def dC(p:V->Bool)(f:V->V)(xs:List V):List V:=(xs.filter p).map f
theorem mZ(p:V->Bool)(f:V->V)(xs:List V)(i:Nat)(x:V)(h:xs[i]?=some x):dC p f (xs.take (i+1))=if p x=true then dC p f (xs.take i)++[f x]else dC p f (xs.take i):=by unfold dC;rw[Hz,h,Jb,GO];cases hp:p x<;>simp[hp]
theorem pe(p:V->Bool)(f:V->V)(xs:List V):(dC p f xs).length<=xs.length:=by unfold dC;rw[F3];exact Ie _ _
theorem bo{K:PySem.W.Frag}{a:Addr}{xs:List V}{g:TG}{tc:TT}{te:TE}{nv:Nat}{fr:List Nat}{σ:St}{H:Hp}{Q:VK}(p:V->Bool)(f:V->V)(ha:SqL K H a xs)(hn:xs.length<=sizeLine)
  (hs:∀ (i:Nat) (x:V) (vs:St) (H':Hp) (R:V->St->Hp->Prop) (S:St->Hp->Prop),xs[i]?=some x->vs.length=nv->Same H H'->
   (∀vs' H'',vs'.length=nv->Same H' H''->if p x=true then R (f x) (vs'++fr.map λj=>(σ[j]?).join) H'' else S (vs'++fr.map λj=>(σ[j]?).join) H'')->
   g x (vs++fr.map λj=>(σ[j]?).join) H' λσ2 H3=>tc σ2 H3 λb H4=>if b=true then te σ2 H4 λy H5=>R y σ2 H5 else S σ2 H4)
  (hd:∀D H',H D=none->Same H H'->H' D=some (.lst (dC p f xs))->Q (.ref D) H'):LCW (Itl K a) g tc te nv fr σ H Q:=by
 intro D hD;refine⟨λi m σ' H'=>m=xs.length-i/\i<=xs.length/\∃vs:St,vs.length=nv/\σ'=vs++(fr.map λj=>(σ[j]?).join)/\Same H H'/\H' D=some (.lst (dC p f (xs.take i))),⟨xs.length,by simp,Hy _,List.replicate nv none,by simp,rfl,Same.new hD,aj⟩,?_⟩;rintro i m σ' H' ⟨rfl,hi,vs,hv,rfl,sm,hD'⟩;have ha':=sm.seq ha;by_cases hlt:i<xs.length
 .refine .inr ⟨⟨xs,xs[i],ha',by simp[hlt]⟩,λσ'' H''=>∃vs:St,vs.length=nv/\σ''=vs++(fr.map λj=>(σ[j]?).join)/\Same H H''/\H'' D=some (.lst (dC p f (xs.take (i+1)))),λσ'' H'' q=>⟨xs.length- (i+1),Ip hlt (Ig _),rfl,hlt,q⟩,λx H2 y=> ?_⟩;obtain⟨e1,e2⟩:=y;subst e1;have hx:=e2 xs ha';refine hs i x vs _ (λy σ2 H5=>∃xs',H5 D=some (.lst xs')/\xs'.length<sizeLine/\∃vs:St,vs.length=nv/\σ2=vs++(fr.map λj=>(σ[j]?).join)/\Same H (upd H5 D (.lst (xs'++[y])))/\upd H5 D (.lst (xs'++[y])) D=some (.lst (dC p f (xs.take (i+1))))) _ hx hv sm λvs' H'' hv' sm'=> ?_;have e:=mZ p f xs i x hx;cases hp:p x with
  |true=>
   rw[hp,F7 rfl]at e;rw[F7 rfl];refine⟨_,sm' D _ hD',Gq (pe p f _) ?_,vs',hv',rfl,(sm.trans sm').upd hD,by rw[aj,e]⟩;rw[GJ];lia
  |false=>
   rw[hp,F8 Gj]at e;rw[F8 Gj];exact⟨vs',hv',rfl,sm.trans sm',by rw[e];exact sm' D _ hD'⟩
 .have e:i=xs.length:=Ir hi (Ij hlt);subst e;refine .inl ⟨⟨xs,ha',Gf _⟩,hd D H' hD sm ?_⟩;rw[HN]at hD';exact hD'
def dD(p:Nat->V->Bool)(f:Nat->V->V):Nat->List V->List V
 |_,[]=>[]
 |i,x::r=>if p i x=true then f i x::dD p f (i+1) r else dD p f (i+1) r
theorem ng(p:Nat->V->Bool)(f:Nat->V->V):∀ (i:Nat) (xs:List V) (x:V),dD p f i (xs++[x])=if p (i+xs.length) x=true then dD p f i xs++[f (i+xs.length) x]else dD p f i xs
 |i,[],x=>by simp[dD]
 |i,y::r,x=>by
  have e:i+(y::r).length=i+1+r.length:=by simp;lia
  rw[K7,dD,ng p f (i+1) r x,e]
  conv=>rhs;rw[dD]
  by_cases h1:p i y=true<;>by_cases h2:p (i+1+r.length) x=true<;>simp[h1,h2]
theorem pf(p:Nat->V->Bool)(f:Nat->V->V):∀ (i:Nat) (xs:List V),(dD p f i xs).length<=xs.length
 |_,[]=>Gf _
 |i,x::r=>by have:=pf p f (i+1) r;rw[dD];split<;>simp<;>lia
theorem Bl{K:PySem.W.Frag}{a:Addr}{xs:List V}{g:TG}{tc:TT}{te:TE}{nv:Nat}{fr:List Nat}{σ:St}{H:Hp}{Q:VK}(p:Nat->V->Bool)(f:Nat->V->V)(ha:SqL K H a xs)(hn:xs.length<=sizeLine)
  (hs:∀ (i:Nat) (x:V) (t:Addr) (vs:St) (H':Hp) (R:V->St->Hp->Prop) (S:St->Hp->Prop),xs[i]?=some x->vs.length=nv->Same H H'->H' t=some (.tup [.int (i:Nat),x])->
   (∀vs' H'',vs'.length=nv->Same H' H''->if p i x=true then R (f i x) (vs'++fr.map λj=>(σ[j]?).join) H'' else S (vs'++fr.map λj=>(σ[j]?).join) H'')->
   g (.ref t) (vs++fr.map λj=>(σ[j]?).join) H' λσ2 H3=>tc σ2 H3 λb H4=>if b=true then te σ2 H4 λy H5=>R y σ2 H5 else S σ2 H4)
  (hd:∀D H',H D=none->Same H H'->H' D=some (.lst (dD p f 0 xs))->Q (.ref D) H'):LCW (Ite K a) g tc te nv fr σ H Q:=by
 intro D hD;refine⟨λi m σ' H'=>m=xs.length-i/\i<=xs.length/\∃vs:St,vs.length=nv/\σ'=vs++(fr.map λj=>(σ[j]?).join)/\Same H H'/\H' D=some (.lst (dD p f 0 (xs.take i))),⟨xs.length,by simp,Hy _,List.replicate nv none,by simp,rfl,Same.new hD,aj⟩,?_⟩;rintro i m σ' H' ⟨rfl,hi,vs,hv,rfl,sm,hD'⟩;have ha':=sm.seq ha;by_cases hlt:i<xs.length
 .refine .inr ⟨⟨xs,xs[i],ha',by simp[hlt]⟩,λσ'' H''=>∃vs:St,vs.length=nv/\σ''=vs++(fr.map λj=>(σ[j]?).join)/\Same H H''/\H'' D=some (.lst (dD p f 0 (xs.take (i+1)))),λσ'' H'' q=>⟨xs.length- (i+1),Ip hlt (Ig _),rfl,hlt,q⟩,λx H2 y=> ?_⟩;obtain⟨t,e1,ht,v,e2,e3⟩:=y;subst e1 e3;have hx:=e2 xs ha';have sm1:Same H' (upd H' t (.tup [.int (i:Nat),v])):=Same.new ht;refine hs i v t vs _ (λy σ2 H5=>∃xs',H5 D=some (.lst xs')/\xs'.length<sizeLine/\∃vs:St,vs.length=nv/\σ2=vs++(fr.map λj=>(σ[j]?).join)/\Same H (upd H5 D (.lst (xs'++[y])))/\upd H5 D (.lst (xs'++[y])) D=some (.lst (dD p f 0 (xs.take (i+1))))) _ hx hv (sm.trans sm1) aj λvs' H'' hv' sm'=> ?_;have e:dD p f 0 (xs.take (i+1))=if p i v=true then dD p f 0 (xs.take i)++[f i v]else dD p f 0 (xs.take i):=by rw[Hz,hx];show dD p f 0 (xs.take i++[v])=_;rw[ng,GJ,J0 hi,Jo]
  have hD'':=sm' D _ (sm1 D _ hD');cases hp:p i v with
  |true=>
   rw[hp,F7 rfl]at e;rw[F7 rfl];refine⟨_,hD'',Gq (pf p f _ _) ?_,vs',hv',rfl,((sm.trans sm1).trans sm').upd hD,by rw[aj,e]⟩;rw[GJ];lia
  |false=>
   rw[hp,F8 Gj]at e;rw[F8 Gj];exact⟨vs',hv',rfl,(sm.trans sm1).trans sm',by rw[e];exact hD''⟩
 .have e:i=xs.length:=Ir hi (Ij hlt);subst e;refine .inl ⟨⟨xs,ha',Gf _⟩,hd D H' hD sm ?_⟩;rw[HN]at hD';exact hD'
end L2
namespace L2
open PySem PySem.Spec PyProof.Rows
inductive RdN(K:PySem.W.Frag)(xs:List V)(H:Hp)(Q:VK):Prop
 |mk (p:Addr) (ys:List V) (e:xs=[.ref p]) (s:SqL K H p ys\/SqT K H p ys) (q:Q (.int ys.length) H):RdN K xs H Q
def DG(K:PySem.W.Frag):List V->Hp->VK->Prop:=λxs H Q=>RdN K xs H Q
def Cy(K:PySem.W.Frag):List V->Hp->VK->Prop:=λxs H Q=>∃p ys,xs=[.ref p]/\(SqL K H p ys\/SqT K H p ys)/\∀l,H l=none->Q (.ref l) (upd H l (.lst ys))
section
variable{X:Cx}{K:PySem.W.Frag}
theorem nL(h:X.K=K):IxR X (Av K):=by subst h;exact C9
theorem C8(h:X.K=K):IxR X (Eb K):=by subst h;exact EM
theorem uR(h:X.K=K):OpR X (compareOp .In) (rIn K false):=by subst h;exact yd
theorem i7(h:X.K=K):OpR X (compareOp .NotIn) (rIn K true):=by subst h;exact qL
theorem oW(h:X.K=K):cE X (.builtin "len") (DG K):=by subst h;intro pins s σ H xs us Q I r hq;obtain⟨p,ys,e,hs,q⟩:=hq;exact ro pins s σ H xs us Q I r ⟨p,ys,e,hs,q⟩
theorem ja(h:X.K=K):cE X (.type "list") (Cy K):=by subst h;exact rl
theorem c9(h:X.K=K):cE X (.builtin "isinstance") (Fj K):=by subst h;exact tZ
theorem hU(h:X.K=K):SlR X (Fi K):=by subst h;exact Cq
theorem CK{e st:Expr}{te ts:TE}{pos p2:Pos}(h:X.K=K)(he:PE X e te)(hs:PE X st ts):PE X (.Subscript e (.Slice none none (some st) p2) pos) (E4 K te ts):=by subst h;exact Ek he hs
theorem CO{o:Expr}{to:TE}{name:Str}{apos cpos:Pos}{T id:String}{r:V->List V->Hp->VK->Prop}(h:X.K=K)(pa:PlainAttrs T)(slot:Slot T name id)(hty:typeOf (.builtin id)=pure (.type "method_descriptor"))(hm:MtR X id r)(ho:PE X o to)
  (hbase:attributeBase o name X.env (eval o X.env)=eval o X.env:=by rfl) (hline:(apos.endLine==cpos.line)=true:=by rfl):PE X (.Call (.Attribute o name apos) [] [] cpos) (Fd K T r to):=by subst h;exact Er pa slot hty hm ho hbase hline
theorem dW{o e:Expr}{es:List Expr}{to:TE}{t:TA}{name:Str}{apos cpos:Pos}{T id:String}{r:V->List V->Hp->VK->Prop}(h:X.K=K)(pa:PlainAttrs T)(slot:Slot T name id)(hty:typeOf (.builtin id)=pure (.type "method_descriptor"))(hm:MtR X id r)(ho:PE X o to)(ha:PA X (e::es) t)
  (hbase:attributeBase o name X.env (eval o X.env)=eval o X.env:=by rfl)
  (hfew:((backTo cpos (starEach (e::es) X.env)).all (λx=> !x.1)&&(backToKw cpos (keywordEach [] X.env)).all (λx=>x.1.isSome)
   &&decide ((e::es).length+([]:List Keyword).length+(if([]:List Keyword).isEmpty then 0 else 1)<30))=true:=by rfl)
  (hline:(apos.endLine==cpos.line)=true:=by rfl) (hs:starEach (e::es) X.env=(false,eval e X.env)::starEach es X.env:=by rfl) (hplain:(backTo cpos (starEach es X.env)).any (·.1)=false:=by rfl):
  PE X (.Call (.Attribute o name apos) (e::es) [] cpos) (tBM K T r to t):=by subst h;exact Fm pa slot hty hm ho ha hbase hfew hline hs hplain
theorem AB(h:X.K=K)(hl:PE X l tl):PI X tg l (Bx K tl):=by subst h;exact CH hl
theorem CG(h:X.K=K)(hl:PE X l tl):PI X tg l (EN K tl):=by subst h;exact Eg hl
theorem mY{elts:List Expr}{x1:Nat}{tp:Pos}{a:Expr}{ta:TA}{p pos:Pos}(h:X.K=K)(hg:Gl X "enumerate")(hm:X.mg "enumerate"=none)(ha:PA X [a] ta)(hs:starEach [a] X.env=[(false,eval a X.env)]:=by rfl):
  PI X (.Tuple elts x1 tp) (.Call (.Name "enumerate" p) [a] [] pos) (DL K ta):=by subst h;exact CI hg hm ha hs
theorem iQ{es:List Expr}{k:Nat}{t:TGs}{n:Nat}{pos:Pos}(h:X.K=K)(hc:X.calm=true)(hp:PGs X es t)(hn:(assignEach es X.env).length=n:=by rfl)(hst:(assignEach es X.env).findIdx? (·.1)=none:=by rfl):
  PG X (.Tuple es k pos) (Fu K n t):=by subst h;exact Ei hc hp hn hst
end
end L2
namespace L2
open PySem PySem.Spec PyProof.Rows
def pM(H H':Hp):Prop:=∀b xs,H b=some (.tup xs)->H' b=some (.tup xs)
theorem Same.tups(e:Same H H'):pM H H':=λb xs h=>e b _ h
theorem pM.trans(a:pM H H1)(b:pM H1 H2):pM H H2:=λc o h=>b c o (a c o h)
def Tups(H:Hp)(xs:List V)(ps:List (Int×Int)):Prop:=Paired (λx (q:Int×Int)=>∃t,x=V.ref t/\H t=some (.tup [.int q.1, .int q.2])) xs ps
theorem Tups.same(h:Tups H xs ps)(e:pM H H'):Tups H' xs ps:=Paired.mapP h λ_ _ ⟨t,h1,h2⟩=>⟨t,h1,e t _ h2⟩
theorem Tups.len{xs:List V}{ps:List (Int×Int)}(h:Tups H xs ps):xs.length=ps.length:=JT h
theorem Paired.at:∀ {a:List α} {b:List β} {i:Nat} {x:α},Paired F a b->a[i]?=some x->∃y,b[i]?=some y/\F x y
 |_,_,_,_, .nil,h=>by simp at h
 |a::_,b::_,0,x, .cons r t,h=>by
  have e:a=x:=by simpa using h
  subst e;exact⟨b,rfl,r⟩
 |_,_,i+1,x, .cons r t,h=>by obtain⟨y,h1,h2⟩:=Paired.at (i:=i) t (by simpa using h);exact⟨y,by simpa using h1,h2⟩
end L2
namespace L2
open PySem PySem.Spec PyProof.Rows
structure eI(K:PySem.W.Frag)(m qual:Str)(st:Stmt)(ps:List Str)(f:Addr):Prop where
 ex:∃fd:FuncData,Fun K m qual st f fd/\iK K fd ps []
theorem EC{K:PySem.W.Frag}{m qual:Str}{st:Stmt}{ps:List Str}{f:Addr}{oc:Value}{od an:Option Addr}{osl:Array (Option Value)}{kV doc pm cdv ct:Value}
  (l:K.lookup f=some ⟨oc,od, .func (fnOf m qual (cy st) (aR st) (ak st) .none kV doc pm an cdv ct),osl⟩) (c:codeIn K cdv qual=true) (k:keepIn K (.ref f)=true)
  (b:∀ (kV doc pm:Value) (an:Option Addr) (cdv ct:Value) (us:List Value),us.length=ps.length->bindArgs (fnOf m qual (cy st) (aR st) (ak st) .none kV doc pm an cdv ct) ⟨us,[]⟩=pure (ps.zip us)):eI K m qual st ps f:=
 ⟨_,nS (st:=st) l c k,(nS (st:=st) l c k).binds b⟩
structure eU(P:Program)(w:World)(K:PySem.W.Frag)(mg:Str->Option Value)(base:Heap)(k:Nat)(f:Addr)(ps:List Str)(sp:Sp):Prop where
 ex:∃fd:FuncData,gQ P w K mg base CX0 k f fd ps sp/\iK K fd ps []
 kp:keepIn K (.ref f)=true
structure bV(P:Program)(w:World)(K:PySem.W.Frag)(mg:Str->Option Value)(base:Heap)(k:Nat)(C:Addr)(m:Str)(ps:List Str)(sp:Sp):Prop where
 cl:Cls K C
 ex:∃f,Meth K C m f/\eU P w K mg base k f ps sp
structure qg(P:Program)(w:World)(K:PySem.W.Frag)(mg:Str->Option Value)(base:Heap)(k:Nat)(x:Str)(C:Addr)(ps:List Str)(sp:Sp):Prop where
 ex:∃f,Mk K C f/\eU P w K mg base k f ps sp
 g:mg x=some (.ref C)
structure zA(P:Program)(w:World)(K:PySem.W.Frag)(mg:Str->Option Value)(base:Heap)(k:Nat)(C:Addr)(m:Str)(ps:List Str)(sp:Sp):Prop where
 ex:∃f,eU P w K mg base k f ps sp/\PySem.W.findCls K (.ref C) (.type "type") m=some (.val (.ref f))
 ga:specialIn K (.ref C) "__getattribute__"=some (some (.builtin "type.__getattribute__"))
 rd:PySem.W.readsIn K C (.type "type")=true
section
variable{P:Program}{w:World}{K:PySem.W.Frag}{mg:Str->Option Value}{base:Heap}
theorem eI.fn{m qual:Str}{st:Stmt}{N ps:List Str}{k:Nat}{sp:Sp}{f:Addr}(D:eI K m qual st ps f)(S:aB N ps (ak st))(len:∀vs H Q E,sp vs H Q E->vs.length=ps.length)
  (hbody:∀ (cdv:Value) (A:Around) (outer:List Env) (s:Shared) (H:Hp) (vs:List V) (Q:VK) (E:XK),Room k (A.deeper (envOfC qual (ak st) s.heap.objs.size f cdv))->sp vs H Q E->
   ∃t,PSs (rf CX0 P w K mg base N qual (ak st) f cdv A outer s H E).nox (aR st) t/\t {nx:=λ_ H'=>Q .non H',rt:=Q} (start N vs) H):eU P w K mg base (k+1) f ps sp:=by
 obtain⟨fd,F,b⟩:=D.ex;exact⟨⟨fd,F.ok S len hbody,b⟩,F.kp⟩
theorem eU.mono(C:eU P w K mg base j f ps sp)(h:j<=k):eU P w K mg base k f ps sp:=by obtain⟨⟨fd,F,b⟩,kp⟩:=C;exact⟨⟨fd,F.mono h,b⟩,kp⟩
end
inductive RdM(Dom:Addr->Prop)(m:Str)(spf:Addr->Sp)(t:TA)(σ:St)(Q:VK)(x:V)(H:Hp):Prop
 |mk (a C dx:Addr) (fs:List (Str×V)) (e:x= .ref a) (h:H a=some (.ins C dx fs)) (d:Dom C) (l:fs.lookup m=none) (q:t σ H λvs H2=>spf C (x::vs) H2 Q E0):RdM Dom m spf t σ Q x H
def zV(Dom:Addr->Prop)(m:Str)(spf:Addr->Sp)(ta:TE)(t:TA):TE:=λσ H Q=>ta σ H (RdM Dom m spf t σ Q)
def Fc(C:Addr)(sp:Sp)(ta:TE)(t:TA):TE:=λσ H Q=>ta σ H λx H1=>x= .ref C/\t σ H1 λvs H2=>sp vs H2 Q E0
section
variable{X:Cx}{j k:Nat}{C:Addr}{x m:Str}{ps:List Str}{sp:Sp}{Dom:Addr->Prop}{spf:Addr->Sp}{e o:Expr}{es:List Expr}{ta:TE}{t:TA}{p pos apos:Pos}
theorem dq{pl:Sem Bool}(M:∀C,Dom C->bV X.prog X.w X.K X.mg X.base j C m ps (spf C))(hr:Room k X.A)(hjk:j<=k)(he:PE X o ta)(ha:PA X (e::es) t)
  (hst:starEach (e::es) X.env=(false,eval e X.env)::starEach es X.env:=by rfl) (hpl:(backTo pos (starEach es X.env)).any (·.1)=false:=by rfl)
  (ht:eval (.Call (.Attribute o m apos) (e::es) [] pos) X.env=(do
   let ov<-eval o X.env
   standAt apos.atName
   let(f,first)<-holding [ov] (getMethod ov m pl)
   callWith pos f first (backTo pos (starEach (e::es) X.env)) (backToKw pos (keywordEach [] X.env))):=by rfl):
  PE X (.Call (.Attribute o m apos) (e::es) [] pos) (zV Dom m spf ta t):=by
 intro pins s σ H Q I h;refine Kq (pl:=pl) (thn (he pins s σ H _ I h) λu s1 hq_=> ?_) ht;obtain⟨x,H1,I1,rx,a,C,dx,fs,ex,ea,dm,l,q⟩:=hq_;subst ex;obtain rfl:u=Value.ref a:=rx;obtain⟨c,f,hm,⟨fd,F,hb⟩,kp⟩:=M C dm;refine nR I1 ea c hm l ?_;refine J4 (first:=[.ref a]) (h₀:=X.base) I.ok.mod.kin hm.kp (thn (ha pos pins s1 σ H1 _ I1 q) λus s2 ⟨vs,H2,I2,r,q2⟩=>⟨I2.kIn,?_⟩) hst hpl;exact qz (us:= .ref a::us) (vs:= .ref a::vs) (dvs:=[]) F (hr.mono hjk) hb .nil sL I2 (.cons rfl r) (by rw[Ic];exact q2)
theorem dk{pl:Sem Bool}(M:∀C,Dom C->bV X.prog X.w X.K X.mg X.base j C m ps (spf C))(hr:Room k X.A)(hjk:j<=k)(he:PE X o ta)
  (ht:eval (.Call (.Attribute o m apos) [] [] pos) X.env=(do
   let ov<-eval o X.env
   standAt apos.atName
   let(f,first)<-holding [ov] (getMethod ov m pl)
   callWith pos f first (backTo pos (starEach [] X.env)) (backToKw pos (keywordEach [] X.env))):=by rfl):
  PE X (.Call (.Attribute o m apos) [] [] pos) (zV Dom m spf ta Cj):=by
 intro pins s σ H Q I h;refine Kq (pl:=pl) (thn (he pins s σ H _ I h) λu s1 hq_=> ?_) ht;obtain⟨x,H1,I1,rx,a,C,dx,fs,ex,ea,dm,l,q⟩:=hq_;subst ex;obtain rfl:u=Value.ref a:=rx;obtain⟨c,f,hm,⟨fd,F,hb⟩,kp⟩:=M C dm;refine nR I1 ea c hm l ?_;exact PySem.W.callWith_K0 (first:=[.ref a]) I1.kIn hm.kp (qz (us:=[.ref a]) (vs:=[.ref a]) (dvs:=[]) F (hr.mono hjk) hb .nil sL I1 (.cons rfl .nil) q)
theorem ky(M:qg X.prog X.w X.K X.mg X.base j x C ps sp)(hr:Room k X.A)(hjk:j+1<=k)(hg:Gl X x)(ha:PA X (e::es) t)(hdb:(x==("__debug__":Str))=false:=by decide)
  (he:starEach (e::es) X.env=(false,eval e X.env)::starEach es X.env:=by rfl) (hpl:(backTo pos (starEach es X.env)).any (·.1)=false:=by rfl):PE X (.Call (.Name x p) (e::es) [] pos) (Dz C sp [] E0 t):=by
 obtain⟨⟨f,mk,⟨fd,F,b⟩,kp⟩,g⟩:=M;exact CL mk F (hr.mono hjk) hg g b .nil sL ha hdb he hpl
theorem jR{pl:Sem Bool}(M:zA X.prog X.w X.K X.mg X.base j C m ps sp)(hr:Room k X.A)(hjk:j<=k)(he:PE X o ta)(ha:PA X (e::es) t)
  (hst:starEach (e::es) X.env=(false,eval e X.env)::starEach es X.env:=by rfl) (hpl:(backTo pos (starEach es X.env)).any (·.1)=false:=by rfl)
  (ht:eval (.Call (.Attribute o m apos) (e::es) [] pos) X.env=(do
   let ov<-eval o X.env
   standAt apos.atName
   let(f,first)<-holding [ov] (getMethod ov m pl)
   callWith pos f first (backTo pos (starEach (e::es) X.env)) (backToKw pos (keywordEach [] X.env))):=by rfl):
  PE X (.Call (.Attribute o m apos) (e::es) [] pos) (Fc C sp ta t):=by
 intro pins s σ H Q I h;refine Kq (pl:=pl) (thn (he pins s σ H _ I h) λu s1 ⟨x,H1,I1,rx,ex,q⟩=> ?_) ht;subst ex;obtain rfl:u=Value.ref C:=rx;obtain⟨⟨f,⟨⟨fd,F,hb⟩,kp⟩,hf⟩,ga,rd⟩:=M;refine PySem.W.method_cls I1.kIn ga (PySem.W.cls_value I1.kIn rd hf rfl ?_);have I1':=I1.tok (s1.toks+1);refine J4 (first:=[]) (h₀:=X.base) I.ok.mod.kin kp (thn (ha pos pins _ σ H1 _ I1' q) λus s2 ⟨vs,H2,I2,r,q2⟩=>⟨I2.kIn,?_⟩) hst hpl;exact qz (us:=us) (vs:=vs) (dvs:=[]) F (hr.mono hjk) hb .nil sL I2 r (by rw[Ic];exact q2)
variable{K:PySem.W.Frag}{f:Str}{value:Expr}{tv:TE}{pos':Pos}
theorem CM(h:X.K=K)(he:PE X e ta)(hb:attributeBase e f X.env (eval e X.env)=eval e X.env):PE X (.Attribute e f pos) (DZ K ta f):=by subst h;exact Eo he hb
theorem CD(h:X.K=K)(ha:PE X o ta)(hv:PE X value tv)(hs:swapsWith value (some (.Attribute o f pos')) pos.line X.env=pure false):PS X (.Assign [.Attribute o f pos'] value pos) (D5 K ta tv f):=by subst h;exact Ee ha hv hs
def DF(K:PySem.W.Frag):List V->Hp->VK->Prop:=λxs H Q=>∃ (a:Addr) (ns:List Int),xs=[.ref a]/\SqL K H a (ns.map V.int)/\ns≠[]/\∀m∈ns,(∀z∈ns,z<=m)->Q (.int m) H
theorem zh(hc:X.calm=true):cE X (.builtin "max") (DF X.K):=by
 intro pins s σ H vs us Q I rv h;obtain⟨a,ns,rfl,ha,hne,q⟩:=h;obtain⟨u,rfl,ru⟩:=rv.one;cases ru;obtain⟨is,r1,p1,_⟩:=I.list ha;have hi:=nO r1;obtain⟨xs,ex⟩:=hi.allInts.items;have hl:=p1.isList;rw[ex]at hl;have en:numsOf (intItems xs).toList=ns:=by rw[<-ex];exact hi.numsOf
 rw[nums_intItems]at en;have hsz:xs.size=ns.length:=by rw[<-en];simp
 have hpos:0<ns.length:=by
  cases ns with
  |nil=>exact absurd rfl hne
  |cons _ _=>simp
 have num:∀i,i<ns.length->ns[i]?=some (numAt xs i):=λi hi'=>by
  unfold numAt;rw[<-en,Gs,JM];have:i<xs.size:=by lia
  rw[Array.getElem?_eq_getElem this];rfl
 refine max_intList (I.ok.hd hc) hl (by lia) λv h' tk hv hk=> ?_;obtain⟨t,rfl⟩:=intItems_at hv;obtain⟨b1,b2⟩:=argBest_gt (numAt xs) (xs.size-1);refine⟨.int (numAt xs (argBest (λi j=>decide (numAt xs i>numAt xs j)) (xs.size-1))),H,I.kept hk,⟨_,rfl⟩,q _ ?_ λz hz=> ?_⟩
 .exact Ge (num _ (by lia))
 .obtain⟨i,hi'⟩:=Hk hz;have hil:i<ns.length:=(Ga.mp hi').1;rw[num i hil]at hi';cases hi';exact b2 i (by lia)
theorem vA(h:X.K=K)(hc:X.calm=true):cE X (.builtin "max") (DF K):=by subst h;exact zh hc
variable{a b:Expr}{rest:List Expr}{tb:TE}
end
theorem C6{K:PySem.W.Frag}{a:Addr}{xs:List V}{g:TG}{tc:TT}{te:TE}{nv:Nat}{fr:List Nat}{σ:St}{H:Hp}{Q:VK}(p:V->Bool)(f:V->V)(ha:H a=some (.tup xs))(hn:xs.length<=sizeLine)
  (hs:∀ (i:Nat) (x:V) (vs:St) (H':Hp) (R:V->St->Hp->Prop) (S:St->Hp->Prop),xs[i]?=some x->vs.length=nv->Same H H'->
   (∀vs' H'',vs'.length=nv->Same H' H''->if p x=true then R (f x) (vs'++fr.map λj=>(σ[j]?).join) H'' else S (vs'++fr.map λj=>(σ[j]?).join) H'')->
   g x (vs++fr.map λj=>(σ[j]?).join) H' λσ2 H3=>tc σ2 H3 λb H4=>if b=true then te σ2 H4 λy H5=>R y σ2 H5 else S σ2 H4)
  (hd:∀D H',H D=none->Same H H'->H' D=some (.lst (dC p f xs))->Q (.ref D) H'):LCW (Itt K a) g tc te nv fr σ H Q:=by
 intro D hD;refine⟨λi m σ' H'=>m=xs.length-i/\i<=xs.length/\∃vs:St,vs.length=nv/\σ'=vs++(fr.map λj=>(σ[j]?).join)/\Same H H'/\H' D=some (.lst (dC p f (xs.take i))),⟨xs.length,by simp,Hy _,List.replicate nv none,by simp,rfl,Same.new hD,aj⟩,?_⟩;rintro i m σ' H' ⟨rfl,hi,vs,hv,rfl,sm,hD'⟩;have ha':SqT K H' a xs:=SqT.of (sm.at ha);by_cases hlt:i<xs.length
 .refine .inr ⟨⟨xs,xs[i],ha',by simp[hlt]⟩,λσ'' H''=>∃vs:St,vs.length=nv/\σ''=vs++(fr.map λj=>(σ[j]?).join)/\Same H H''/\H'' D=some (.lst (dC p f (xs.take (i+1)))),λσ'' H'' q=>⟨xs.length- (i+1),Ip hlt (Ig _),rfl,hlt,q⟩,λx H2 y=> ?_⟩;obtain⟨e1,e2⟩:=y;subst e1;have hx:=e2 xs ha';refine hs i x vs _ (λy σ2 H5=>∃xs',H5 D=some (.lst xs')/\xs'.length<sizeLine/\∃vs:St,vs.length=nv/\σ2=vs++(fr.map λj=>(σ[j]?).join)/\Same H (upd H5 D (.lst (xs'++[y])))/\upd H5 D (.lst (xs'++[y])) D=some (.lst (dC p f (xs.take (i+1))))) _ hx hv sm λvs' H'' hv' sm'=> ?_;have e:=mZ p f xs i x hx;cases hp:p x with
  |true=>
   rw[hp,F7 rfl]at e;rw[F7 rfl];refine⟨_,sm' D _ hD',Gq (pe p f _) ?_,vs',hv',rfl,(sm.trans sm').upd hD,by rw[aj,e]⟩;rw[GJ];lia
  |false=>
   rw[hp,F8 Gj]at e;rw[F8 Gj];exact⟨vs',hv',rfl,sm.trans sm',by rw[e];exact sm' D _ hD'⟩
 .have e:i=xs.length:=Ir hi (Ij hlt);subst e;refine .inl ⟨⟨xs,ha',Gf _⟩,hd D H' hD sm ?_⟩;rw[HN]at hD';exact hD'
theorem aG(f:Str)(v:V)(fs:List (Str×V)):(bc f v fs).lookup f=some v:=by rw[fT,F7 rfl]
theorem au(v:V)(fs:List (Str×V))(h:¬g=f):(bc f v fs).lookup g=fs.lookup g:=by rw[fT,F8 h]
end L2
namespace L2
open PySem PySem.Spec PyProof.Rows
def D8(K:PySem.W.Frag):List V->Hp->VK->Prop:=λxs H Q=>∃p ys,xs=[.ref p]/\((SqL K H p ys/\∀l,H l=none->Q (.ref l) (upd H l (.tup ys)))\/(SqT K H p ys/\Q (.ref p) H))
theorem fG{X:Cx}{K:PySem.W.Frag}(h:X.K=K):cE X (.type "tuple") (D8 K):=by subst h;exact oV
structure TyC(K:PySem.W.Frag)(C:Addr):Prop where
 ha:findIn K (.ref C) "__class__"=some (some (.builtin "object.__class__"))
 hn:specialIn K (.builtin "object.__class__") "__get__"=some (some (.builtin "getset_descriptor.__get__"))
 ht:takesIn K (.builtin "object.__class__")=some true
 hm:mroIn K C (.type "object")=some true
theorem TyC.ty{K:PySem.W.Frag}{C:Addr}{H:Hp}{a dx:Addr}{fs:List (Str×V)}(t:TyC K C)(c:Cls K C)(e:H a=some (.ins C dx fs)):kf K H (.ref a) (.ref C):= .ins e c t.ha t.hn t.ht t.hm
end L2
namespace L2
theorem ph{σ:St}(Pm:St->Hp->Prop)(hrest:∀σ' H',Pm σ' H'->u D σ' H')(h:(∀σ' H',Pm σ' H'->u D σ' H')->t {D with nx:=u D} (σ.set i (some v)) H):aS i v σ H (zT t u D):=h hrest
theorem Aj{σ:St}(Pm:St->Hp->Prop)(hrest:∀σ' H',Pm σ' H'->u D σ' H')(h:(∀σ' H',Pm σ' H'->u D σ' H')->t {D with nx:=u D} (σ.set i (some c)) H):zT (uG (tC c) (aS i)) (zT t u) D σ H:=h hrest
theorem eg(Pm:St->Hp->Prop)(hrest:∀σ' H',Pm σ' H'->u D σ' H')(h:(∀σ' H',Pm σ' H'->u D σ' H')->t {D with nx:=u D} σ H):zT t u D σ H:=h hrest
end L2
namespace L2
open PySem PySem.Spec PyProof.Rows
theorem lF:isSubtype (.type "range_iterator") (.type "reversed")=pure false:=by rw[isSubtype_type];kernel_rfl
section
variable{prog:Program}{w:World}{A:Around}{E:Value->Shared->Prop}{s:Shared}
theorem ic(r:Addr)(n:Int)(t u v:Tok)(h0:0<=n)(h1:n<2^62):
  Meets (Builtin.«range.__reversed__» ⟨[.ref r],[]⟩)
   (λ_ R s=>s.heap.get? r=some {cls:= .type "range",data:= .fields #[.int 0 t, .int n u, .int 1 v]}/\
    R (.ok (.ret (.ref s.heap.objs.size))) {s with heap:=s.heap.push {cls:= .type "range_iterator",data:= .fields #[rawInt (n-1),rawInt n,rawInt (-1)]}}):=
 .of_wp λprog w A R s h=>by
  obtain⟨hp,g,d,tk,os⟩:=s;obtain⟨hr,h⟩:=h;have en:Builtin.Range.rangeSize 0 n 1=n:=by
   unfold Builtin.Range.rangeSize;rw[F7 (by decide)];by_cases hn:(0:Int)<n
   .rw[F7 hn];lia
   .rw[F8 hn];lia
  have f1:Builtin.Range.rangeFitsLong 0=true:=by decide
  have f2:Builtin.Range.rangeFitsLong n=true:=by unfold Builtin.Range.rangeFitsLong;simp;lia
  have f3:Builtin.Range.rangeFitsLong 1=true:=by decide
  have f4:Builtin.Range.rangeFitsLong (-1)=true:=by decide
  have f5:Builtin.Range.rangeFitsLong (0-1)=true:=by decide
  have e2:(0:Int)+(n-1)*1=n-1:=by lia
  unfold Builtin.«range.__reversed__» Builtin.Range.rangeFields
  repeat (any_goals (first|assumption|wp_step))
  all_goals
   refine⟨_,rfl,?_⟩;rw[en,e2,f1,f2,f3,f4,f5];exact h
theorem i6(hp:s.heap.get? p=some {cls:= .type "range",data:= .fields #[.int 0 t, .int n u, .int 1 v]})(h0:0<=n)(h1:n<2^62)
  (h:Q (.ref s.heap.objs.size) {s with heap:=s.heap.push {cls:= .type "range_iterator",data:= .fields #[rawInt (n-1),rawInt n,rawInt (-1)]}}):wpAny (model prog w) A (call (.builtin "range.__reversed__") [.ref p]) Q E s:=
 call_meets Kr ⟨_,hp,rfl⟩ F.entry_range_reversed (F.args_range_reversed_1 _) (ic p n t u v h0 h1) ⟨hp,h⟩
theorem i4(hp:s.heap.get? p=some {cls:= .type "range",data:= .fields #[.int 0 t, .int n u, .int 1 v]})(h0:0<=n)(h1:n<2^62)
  (h:Q₁ (.ref s.heap.objs.size) {s with heap:=s.heap.push {cls:= .type "range_iterator",data:= .fields #[rawInt (n-1),rawInt n,rawInt (-1)]}}):
  codeAny (model prog w) A (.call (.builtin "reversed.__new__") ⟨[.type "reversed", .ref p],[]⟩) (wants Q₁ E) s:=by
 refine codeAny_of_tree ?_;show wpAny _ A.in1 (do checkBuiltinCall "reversed.__new__" ⟨[.type "reversed", .ref p],[]⟩;again (.builtin "reversed.__new__" ⟨[.type "reversed", .ref p],[]⟩)) _ _ s;refine GR (KP (F.newCall_reversed_1 _) (Hx ⟨plainId_quiet F.plain_reversed_new _,codeAny_builtin F.entry_reversed_new ?_⟩));rw[Around.under_plainId F.plain_reversed_new _];unfold Builtin.«reversed.__new__»;refine GR (KP (newClass_reversed _) ?_)
 try dsimp only
 refine GR (KP (a:=()) (by first|rfl|kernel_rfl) ?_);refine GR (KP (a:=()) (by first|rfl|kernel_rfl) ?_)
 try dsimp only
 refine GR (wpAny_specialOf (⟨_,hp,rfl⟩:s.TypeIs (.ref p) "range") Kr.lookup ?_)
 try dsimp only
 refine GR (KP (Kr.bind _) ?_)
 try dsimp only
 first
 |rw[F8 (show¬((Value.builtin "range.__reversed__"==Value.none)=true)from Gj)]
 |(show wpAny _ _ (if(Value.builtin "range.__reversed__"==Value.none)=true then _ else _) _ _ _;rw[F8 (show¬((Value.builtin "range.__reversed__"==Value.none)=true)from Gj)])
 refine GR (wpAny_rule ?_);refine GR (m:=runValue (.call (.builtin "range.__reversed__") ⟨[.ref p],[]⟩)) (show wpAny _ _ (call (.builtin "range.__reversed__") [.ref p]) _ _ _ from i6 hp h0 h1 ?_)
 first
 |exact Hx h
 |exact GR (Hx (Hx h))
theorem i5(hp:s.heap.get? p=some {cls:= .type "range",data:= .fields #[.int 0 t, .int n u, .int 1 v]})(h0:0<=n)(h1:n<2^62)
  (h:Q (.ref s.heap.objs.size) {s with heap:=s.heap.push {cls:= .type "range_iterator",data:= .fields #[rawInt (n-1),rawInt n,rawInt (-1)]}}):wpAny (model prog w) A (call (.type "reversed") [.ref p]) Q E s:=by
 refine callType_other (U:= "range_iterator") (Q₁:=λobj s₁=>obj= .ref s.heap.objs.size/\s₁={s with heap:=s.heap.push {cls:= .type "range_iterator",data:= .fields #[rawInt (n-1),rawInt n,rawInt (-1)]}}) (by decide+kernel) F.create_reversed ⟨_,_,F.mro_reversed⟩ F.made_reversed lF (F.typeCall_reversed_1 _) (i4 hp h0 h1 ⟨rfl,rfl⟩) ?_;rintro obj s₁ ⟨rfl,rfl⟩;exact⟨⟨_,HJ _ rfl,rfl⟩,h⟩
end
end L2
namespace L2
open PySem PySem.Spec PyProof.Rows
def zz(hi:Int)(n:Nat):It:=⟨λi _=>i<n,λi H x H'=>H'=H/\x= .int (hi+i*(-1)),λi _=>n<=i⟩
theorem rM{P:Program}{w:World}{K:PySem.W.Frag}{tg:Expr}(it:Addr)(hi:Int)(n:Nat):Turn P w K tg (zz hi n) [it] it (λi h=>IsRangeIter h it (hi+(i:Nat)*(-1)) ((n:Int) - (i:Nat)) (-1)) where
 mem:=by simp
 obj:=λi h st b hb=>by
  have e:b=it:=by simpa using hb
  subst e;exact⟨_,st,λv z=>by have z':Data.fields _=Data.cell v:=z;cases z'⟩
 keep:=λi h h' st k=>k it (by simp) _ st
 item:=by intro X hP hw hK hc i pins s σ H E I hf st hg;subst hP hw hK;obtain⟨f0,f1,f2,f3,f4,f5⟩:=hf it (by simp);have W:=Walks.range (prog:=X.prog) (w:=X.w) (I.ok.hd hc) it hi (-1) n;refine W.item i s _ _ hg st λv h' tk hv st' kk=> ?_;obtain⟨t,rfl⟩:=hv;have I1:Inv X pins σ H {s with heap:=h',toks:=tk}:=I.turned (λb o hb e=>kk b o (by simpa using hb) e) f0 f1 f3 f4 f5;exact⟨_,rfl,wJ (s:={s with heap:=h',toks:=tk}) (n:= "range_iterator") st' rfl rfl (by decide) ⟨.int (hi+i*(-1)),H,I1,⟨t,rfl⟩,⟨rfl,rfl⟩,st',λb hb=>(hf b hb).1⟩⟩
 done:=by intro X hP hw hK hc i pins s σ H E I hf st hg;subst hP hw hK;obtain⟨f0,f1,f2,f3,f4,f5⟩:=hf it (by simp);exact wpAny_pyNext_range_end (I.ok.hd hc) st (by have:n<=i:=hg;lia) λh' eb=>⟨rfl,I.turned (t':=s.toks) (λb o hb e=>eb b o hb e) f0 f1 f3 f4 f5⟩
 self:=λ_ _ _ _ _ st h=>Kg st h
theorem vq{hi:Int}{n:Nat}{g:TG}{tb:TS}{D:Ends}{σ:St}{H:Hp}(Pv:Nat->St->Hp->Prop)(h0:Pv 0 σ H)
  (hs:∀i σ H,i<n->Pv i σ H->g (.int (hi+i*(-1))) σ H λσ2 H2=>tb {D with nx:=Pv (i+1),ct:=Pv (i+1),bk:=D.nx} σ2 H2) (hd:∀σ H,Pv n σ H->D.nx σ H):
  ∃W:Nat->Nat->St->Hp->Prop,(∃m,W 0 m σ H)/\∀i m σ H,W i m σ H->
   ((zz hi n).stop i H/\D.nx σ H)\/((zz hi n).go i H/\∃N:St->Hp->Prop,(∀σ' H',N σ' H'->∃m',m'<m/\W (i+1) m' σ' H')/\∀x H',(zz hi n).yld i H x H'->g x σ H' λσ2 H2=>tb {D with nx:=N,ct:=N,bk:=D.nx} σ2 H2):=by
 refine⟨λi m σ H=>m=n-i/\i<=n/\Pv i σ H,⟨n,by simp,Hy _,h0⟩,?_⟩;rintro i m σ H ⟨rfl,hi',p⟩;by_cases hlt:i<n
 .refine .inr ⟨hlt,Pv (i+1),λσ' H' p'=>⟨n- (i+1),Ip hlt (Ig _),rfl,hlt,p'⟩,λx H' y=> ?_⟩;obtain⟨e,y⟩:=y;subst e y;exact hs i σ _ hlt p
 .have e:i=n:=Ir hi' (Ij hlt);subst e;exact .inl ⟨Gf _,hd σ H p⟩
section
variable{X:Cx}{tg:Expr}
def FL(ta:TA):TE:=λσ H Q=>ta σ H λvs H1=>∃j:Int,vs=[.int j]/\∀p,H1 p=none->Q (.ref p) (upd H1 p (.rng 0 j))
theorem AD{a:Expr}{ta:TA}{p pos:Pos}(hg:Gl X "range")(hm:X.mg "range"=none)(ha:PA X [a] ta)(hs:starEach [a] X.env=[(false,eval a X.env)]:=by rfl):PE X (.Call (.Name "range" p) [a] [] pos) (FL ta):=by
 intro pins s σ H Q I h;refine Call_ (gc I hg hm boot_range (Iz (thn (ha pos pins s σ H _ I h) λus s1 ⟨vs,H1,I1,r1,q1⟩=> ?_) hs rfl));obtain⟨j,e,q⟩:=q1;subst e;cases r1 with
 |cons r rr=>
  cases rr;obtain⟨t,rfl⟩:=r;refine call_range_1 ?_;exact⟨.ref s1.heap.objs.size,_,I1.laid (λb o e=>GK _ e) (Gf _) (show bC X.prog X.w _ _ _ (.rng 0 j)from⟨_,_,_,HJ _ rfl⟩),rfl,q _ (I1.hok.fresh (Gf _))⟩
def FU(ta:TA):TI:=λσ H R=>ta σ H λvs H1=>∃ (a:Addr) (j:Int),vs=[.ref a]/\H1 a=some (.rng 0 j)/\0<=j/\j<2^62/\R (zz (j-1) j.toNat) H1
theorem Eh{l:Expr}{ta:TA}{p pos:Pos}(hg:Gl X "reversed")(hm:X.mg "reversed"=none)(ha:PA X [l] ta)(hs:starEach [l] X.env=[(false,eval l X.env)]:=by rfl):PI X tg (.Call (.Name "reversed" p) [l] [] pos) (FU ta):=by
 intro pins s σ H R I h;refine Call_ (gc I hg hm boot_reversed (Iz (thn (ha pos pins s σ H _ I h) λus s1 ⟨vs,H1,I1,r1,q1⟩=> ?_) hs rfl));obtain⟨a,j,e,hr,j0,j1,q⟩:=q1;subst e;cases r1 with
 |cons r rr=>
  cases rr;cases r;obtain⟨t,u,v,er⟩:=(show bC X.prog X.w H1 s1.heap a (.rng 0 j)from I1.hok a _ hr);refine i5 er j0 j1 ?_;have st:IsRangeIter (s1.heap.push {cls:= .type "range_iterator",data:= .fields #[rawInt (j-1),rawInt j,rawInt (-1)]}) s1.heap.objs.size (j-1) j (-1):=HJ _ rfl;refine Kg st ⟨s1.heap.objs.size,[s1.heap.objs.size],_,zz (j-1) j.toNat,H1,rfl,I1.kept (t':=s1.toks) λb o e=>GK _ e,rM _ (j-1) j.toNat,?_,λb hb=> ?_,q⟩
  .have e1:j-1+((0:Nat):Int)*(-1)=j-1:=by simp
   have e2:(((j.toNat:Nat):Int) - ((0:Nat):Int))=j:=by lia
   show IsRangeIter _ _ (j-1+((0:Nat):Int)*(-1)) (((j.toNat:Nat):Int) - ((0:Nat):Int)) (-1);rw[e1,e2];exact st
  .have e:b=s1.heap.objs.size:=by simpa using hb
   subst e;exact I1.fpOk (Gf _) (I1.hok.fresh (Gf _))
end
end L2
namespace L2
open PySem PySem.Spec PyProof.Rows
theorem xM(bs:List Bool):(List.range bs.length).all (λi=>bs.getD i true)=bs.all id:=by
 rw[IS,GW,GW];constructor
 .intro h b hb;obtain⟨i,hi⟩:=Hk hb;have hil:i<bs.length:=(Ga.mp hi).1;have:=h i (Gk.mpr hil);rw[Gb,hi]at this;exact this
 .intro h i hi;have hil:=Gk.mp hi;rw[Gb,Gp hil];exact h _ (Ik hil)
section
variable{X:Cx}
theorem t7{bs:List Bool}{its:List Value}(r:Vals (bs.map V.bl) its):TruthOf prog w A (λi v=>its.toArray[i]?=some v) (λi=>bs.getD i true):=by
 intro i v s Q E hP hQ;have hv:its[i]?=some v:=by simpa using hP
 have hil:i<its.length:=(Ga.mp hv).1;have hl:=r.length;rw[F3]at hl;have hb:(bs.map V.bl)[i]?=some (V.bl (bs.getD i true)):=by rw[Gs,Gb,Gp (show i<bs.length by lia)];rfl
 obtain⟨u,hu,ru⟩:=r.get hb;rw[hv]at hu;cases hu;cases ru;exact Ju hQ
def DH(K:PySem.W.Frag):List V->Hp->VK->Prop:=λxs H Q=>∃ (a:Addr) (bs:List Bool),xs=[.ref a]/\SqL K H a (bs.map V.bl)/\Q (.bl (bs.all id)) H
theorem zo(hc:X.calm=true):cE X (.builtin "all") (DH X.K):=by
 intro pins s σ H vs us Q I rv h;obtain⟨a,bs,rfl,ha,q⟩:=h;obtain⟨u,rfl,ru⟩:=rv.one;cases ru;obtain⟨its,r1,p1,_⟩:=I.list ha;have hl:=p1.isList;have hlt:a<s.heap.objs.size:=by obtain⟨_,e,_⟩:=hl;exact GG e
 have len:=r1.length;rw[F3]at len;refine call_all_walk (wpAny_pyIter_list hl ⟨s.heap.objs.size,[s.heap.objs.size,a],[s.heap.objs.size],its.toArray.size,_,_,λi=>bs.getD i true,rfl,Walks.list (A:=X.A.in1) (I.ok.hd hc) _ a (GZ hlt) its.toArray,⟨⟨_,HJ _ rfl,rfl,rfl⟩,hl.push _⟩,t7 r1,λh' tk hk=> ?_⟩);refine⟨.bl (bs.all id),H,I.kept (old_kept hk),?_,q⟩;rw[GS,<-len,xM];rfl
theorem oq{K:PySem.W.Frag}(h:X.K=K)(hc:X.calm=true):cE X (.builtin "all") (DH K):=by subst h;exact zo hc
end
end L2
namespace L2
open PySem PySem.Spec PyProof.Rows
def iW:List Expr->Option (List Int)
 | []=>some []
 | .Constant (.int i) _ _::es=>(iW es).map (i:: ·)
 |_=>none
inductive kM:List Expr->List Int->Prop
 |nil:kM [] []
 |cons {i:Int} {j:Nat} {p:Pos} {es:List Expr} {zs:List Int} (h:kM es zs):kM (.Constant (.int i) j p::es) (i::zs)
theorem jZ:∀ {es:List Expr} {zs:List Int},iW es=some zs->kM es zs
 | [],zs,h=>by have e:zs=[]:=(GY h).symm;subst e;exact .nil
 |e::es,zs,h=>by
  unfold iW at h;split at h
  .rename_i hh;cases hh
  .rename_i hh;cases hh;cases hc:iW es with
   |none=>rw[hc]at h;cases h
   |some ys=>
    rw[hc]at h;have e:_::ys=zs:=GY h;subst e;exact .cons (jZ hc)
  .cases h
def DA(zs:List Int):TA:=λ_ H Q=>Q (zs.map V.int) H
theorem xZ(h:kM es zs):PA X es (DA zs):=by
 induction h with
 |nil=>exact af
 | @cons i j p es zs h ih=>exact aa (ae (i:=i) (j:=j) (pos:=p)) ih
def Ap:Stmt->Expr
 | .Assign _ e _=>e
 |_=> .Constant .none 0 ⟨0,0,0,0⟩
def vD:Expr->Expr
 | .Subscript e _ _=>e
 |_=> .Constant .none 0 ⟨0,0,0,0⟩
def vt:Expr->List Expr
 | .List es _=>es
 |_=>[]
structure PSp(X:Cx)(st:Stmt)(t:TS):Prop where
 h:PS X st t
end L2
namespace L2
open PySem PySem.Spec PyProof.Rows
theorem oh:∀ (names:List (Str×NameKind)) (n:Nat) (acc:List (Str×Addr)) {x:Str} {c:Addr},(x,c)∈cellsFrom n names acc->(x,c)∈acc\/n<=c
 | [],_,_,_,_,h=> .inl h
 |(name,kind)::r,n,acc,x,c,h=>by
  unfold cellsFrom at h;split at h
  .rcases oh r (n+1) _ h with h|h
   .rcases Gh.mp h with e|h
    .cases e;exact .inr (Gf _)
    .exact .inl h
   .exact .inr (by lia)
  .exact oh r n acc h
theorem rj:∀ (names:List (Str×NameKind)) (h:Heap) (acc:List (Str×Addr)) {x:Str} {c:Addr},(x,c)∈cellsFrom h.objs.size names acc->(x,c)∈acc\/(pushCells h names).IsCell c none
 | [],_,_,_,_,h=> .inl h
 |(name,kind)::r,h,acc,x,c,e=>by
  unfold cellsFrom at e;unfold pushCells;split at e
  .rename_i hk;rw[F7 hk];have e':(x,c)∈cellsFrom (h.push {cls:= .type "cell",data:= .cell none}).objs.size r ((name,h.objs.size)::acc):=by rw[Ji];exact e
   rcases rj r _ _ e' with e|e
   .rcases Gh.mp e with e|e
    .cases e;exact .inr ⟨_,J1 _ _ _ _ (HJ _ rfl),rfl⟩
    .exact .inl e
   .exact .inr e
  .rename_i hk;rw[F8 hk];exact rj r h acc e
theorem vz(n0:Nat):∀ (names:List (Str×NameKind)) (n:Nat) (acc:List (Str×Addr)),(∀p∈acc,p.2<n)->n0<=n->(∀x y c,(x,c)∈acc->(y,c)∈acc->n0<=c->x=y)->∀x y c,(x,c)∈cellsFrom n names acc->(y,c)∈cellsFrom n names acc->n0<=c->x=y
 | [],_,_,_,_,h=>h
 |(name,kind)::r,n,acc,hl,hn,h=>by
  unfold cellsFrom;split
  .refine vz n0 r (n+1) _ (λp hp=> ?_) (by lia) λx y c hx hy hc=> ?_
   .rcases Gh.mp hp with e|hp
    .subst e;exact Ig _
    .exact Kd (hl p hp)
   .rcases Gh.mp hx with ex|hx<;>rcases Gh.mp hy with ey|hy
    .cases ex;cases ey;rfl
    .cases ex;exact absurd (hl _ hy) (IA _)
    .cases ey;exact absurd (hl _ hx) (IA _)
    .exact h x y c hx hy hc
  .exact vz n0 r n acc hl hn h
theorem ri:∀ (names:List (Str×NameKind)) (n:Nat) (acc:List (Str×Addr)) (x:Str),((∃y∈names,y.1=x/\y.2= .cell)\/∃c,acc.lookup x=some c)->∃c,(cellsFrom n names acc).lookup x=some c
 | [],_,_,_,h=>by
  rcases h with ⟨y,hy,_⟩|h
  .cases hy
  .exact h
 |(name,kind)::r,n,acc,x,h=>by
  unfold cellsFrom;have lk:(∃c,acc.lookup x=some c)->∃c,((name,n)::acc).lookup x=some c:=λ⟨c,e⟩=>by
   rw[IW];cases hx:x==name with
   |true=>exact⟨_,rfl⟩
   |false=>exact⟨c,e⟩
  split
  .refine ri r (n+1) _ x ?_;rcases h with ⟨y,hy,h1,h2⟩|h
   .rcases Gh.mp hy with e|hy
    .subst e;refine .inr ⟨n,?_⟩;rw[IW,show(x==name)=true from by simpa using h1.symm]
    .exact .inl ⟨y,hy,h1,h2⟩
   .exact .inr (lk h)
  .rename_i hk;refine ri r n acc x ?_;rcases h with ⟨y,hy,h1,h2⟩|h
   .rcases Gh.mp hy with e|hy
    .subst e;exact absurd (by simpa using h2) hk
    .exact .inl ⟨y,hy,h1,h2⟩
   .exact .inr h
theorem vy(n0:Nat):∀ (names:List (Str×NameKind)) (n:Nat) (acc:List (Str×Addr)) (x:Str),n0<=n->((∃y∈names,y.1=x/\y.2= .cell)\/∀c,acc.lookup x=some c->n0<=c)->∀c,(cellsFrom n names acc).lookup x=some c->n0<=c
 | [],_,_,_,_,h,c,e=>by
  rcases h with ⟨y,hy,_⟩|h
  .cases hy
  .exact h c e
 |(name,kind)::r,n,acc,x,hn,h,c,e=>by
  unfold cellsFrom at e;split at e
  .refine vy n0 r (n+1) _ x (by lia) ?_ c e;by_cases hx:x=name
   .refine .inr λc e=> ?_;rw[IW,show(x==name)=true from by simpa using hx]at e;cases e;exact hn
   .rcases h with ⟨y,hy,h1,h2⟩|h
    .rcases Gh.mp hy with e|hy
     .subst e;exact absurd h1.symm hx
     .exact .inl ⟨y,hy,h1,h2⟩
    .refine .inr λc e=> ?_;rw[IW,show(x==name)=false from by simpa using hx]at e;exact h c e
  .rename_i hk;refine vy n0 r n acc x hn ?_ c e;rcases h with ⟨y,hy,h1,h2⟩|h
   .rcases Gh.mp hy with e|hy
    .subst e;exact absurd (by simpa using h2) hk
    .exact .inl ⟨y,hy,h1,h2⟩
   .exact .inr h
theorem jK{sc:Scope}(h:(relabel sc env).names.lookup x=some .cell\/(relabel sc env).names.lookup x=some .free):∃y∈sc.names,y.1=x/\(y.2= .cell\/y.2= .free):=by
 obtain⟨k,hk,m⟩:∃k,(k=NameKind.cell\/k=NameKind.free)/\(x,k)∈(relabel sc env).names:=by
  rcases h with h|h
  .exact⟨_, .inl rfl,Hg h⟩
  .exact⟨_, .inr rfl,Hg h⟩
 obtain⟨y,hy,e⟩:=Gz.mp (show(x,k)∈sc.names.map _ from m);obtain⟨n,k0⟩:=y;dsimp only at e;split at e
 .rename_i hc;have e1:n=x:=GQ Prod.fst e;refine⟨_,hy,e1, .inr ?_⟩;simp only[GL,Kv]at hc;exact hc.1.1
 .have e1:n=x:=GQ Prod.fst e;have e2:k0=k:=GQ Prod.snd e;refine⟨_,hy,e1,?_⟩;show k0=_\/k0=_;rw[e2];exact hk
theorem oF{M:Model}{A:Around}{E:Value->Shared->Prop}{s:Shared}{scope:Scope}{globals:Addr}{closure:List (Str×Addr)}{qual:Str}{func:Option Addr}{code:Value}{outer:Env}{Q:Env->Shared->Prop}
  (h:Q (newEnv scope s.heap.objs.size globals (cellsFrom (s.heap.objs.size+1) scope.names closure) qual func code (some outer) builtinsNs) {s with heap:=pushCells (s.heap.push {cls:= .type "dict",data:= .dict #[]}) scope.names}):
  wpAny M A (newFunctionEnv scope globals closure [] qual func code (some outer)) Q E s:=by
 simp only[newFunctionEnv,Option.isSome_some,Lp];refine GR (wpAny_alloc ?_);refine GR (wpAny_layCells _ (λname kind cells=>by cases hkc:kind==NameKind.cell<;>simp[hkc]) _ _ _ _ ?_);rw[show({s with heap:=s.heap.push {cls:= .type "dict",data:= .dict #[]}}:Shared).heap.objs.size=s.heap.objs.size+1 from Ji ..];refine GR ?_;rw[List.forIn_nil];exact Hx (Hx h)
theorem kL{env:Env}(h:∀y∈names,y.2= .free->∃c,env.cells.lookup y.1=some c)(e:(x,c)∈gL env names):env.cells.lookup x=some c:=by
 have go:∀ (names:List (Str×NameKind)) (acc:List (Str×Addr)),(∀y∈names,y.2= .free->∃c,env.cells.lookup y.1=some c)->(∀x c,(x,c)∈acc->env.cells.lookup x=some c)->∀x c,(x,c)∈names.foldl (eS env) acc->env.cells.lookup x=some c:=by
  intro names
  induction names with
  |nil=>intro acc _ ha x c e;exact ha x c e
  |cons y r ih=>
   intro acc h ha;refine ih _ (λz hz=>h z (Gm _ hz)) λx c e=> ?_;unfold eS at e;split at e
   .rename_i hk;obtain⟨a,ey⟩:=h y Gn (by simpa using hk);rcases Gh.mp e with e|e
    .have e1:x=y.1:=GQ Prod.fst e;have e2:c=(env.cells.lookup y.1).getD 0:=GQ Prod.snd e;rw[e1,e2,ey];rfl
    .exact ha x c e
   .exact ha x c e
 exact go names [] h (λ_ _ z=>by cases z) x c e
theorem rh:∀ (names:List (Str×NameKind)) (n:Nat) (acc:List (Str×Addr)) (x:Str),(∀y∈names,y.1=x->y.2≠ .cell)->(cellsFrom n names acc).lookup x=acc.lookup x
 | [],_,_,_,_=>rfl
 |(name,kind)::r,n,acc,x,h=>by
  unfold cellsFrom;split
  .rename_i hk;rw[rh r (n+1) _ x λy hy=>h y (Gm _ hy),IW];cases hx:x==name with
   |true=>
    have e:x=name:=by simpa using hx
    exact absurd (by simpa using hk) (h _ Gn e.symm)
   |false=>rfl
  .exact rh r n acc x λy hy=>h y (Gm _ hy)
def bx(X:Cx)(N':List Str)(sc:Scope)(s₃:Shared)(H₃:Hp)(fp:List Addr)(pins:List (Addr×Obj)):Cx where
 prog:=X.prog
 w:=X.w
 K:=X.K
 mg:=X.mg
 base:=X.base
 A:=X.A
 N:=N'
 s₀:=s₃
 H₀:=H₃
 env:=compEnvC sc (cellsFrom (s₃.heap.objs.size+1) sc.names (gL X.env sc.names)) s₃.heap.objs.size X.env
 outer:=X.stack
 stack:=X.stack
 ex:=fp
 fn:=λx=>sc.names.lookup x==some .cell
 calm:=X.calm
 pn:=X.pn++pins
 xe:=λ_ _=>False
section
variable{X:Cx}{elt target iter:Expr}{ifs:List Expr}{sc:Scope}{pos:Pos}{wi:TI}{g:TG}{tc:TT}{te:TE}{vars frn:List Str}{fr:List Nat}
theorem lj(hc:X.calm=true)(hfk:∀y∈sc.names,y.2= .free->X.env.kindOf y.1=some .cell\/X.env.kindOf y.1=some .free)(hno:sc.names.all (λy=> !(y.2== .cell)|| !(frn.contains y.1))=true)(hkind:sc.kind= .function)
  (hfr:lO X sc fr frn)
  (hg:∀s₃ H₃ fp pins,PG (bx X (vars++frn) sc s₃ H₃ fp pins) target g) (ht:∀s₃ H₃ fp pins,PTs (bx X (vars++frn) sc s₃ H₃ fp pins) ifs tc) (he:∀s₃ H₃ fp pins,PE (bx X (vars++frn) sc s₃ H₃ fp pins) elt te)
  {pins:List (Addr×Obj)} {s2:Shared} {σ:St} {H2:Hp} {Q:VK} {E:Value->Shared->Prop} {R:Value->Addr->Result->Shared->Prop} {it:Addr} {fp:List Addr} {tn:Nat->Heap->Prop} {J:It}
  (I2:Inv X pins σ H2 s2) (T:Turn X.prog X.w X.K target J fp it tn) (st2:tn 0 s2.heap) (f2:∀b∈fp,rF X pins H2 b)
  (h:LCW J g tc te vars.length fr σ H2 Q)
  (hR:∀D C s',Cc X pins σ Q D C s'->R (.ref D) C (.ok .next) s'):
  wpAny (model X.prog X.w) X.A (newList []) (λacc s₃=>wpAny (model X.prog X.w) X.A (newFunctionEnv sc X.env.globals (gL X.env sc.names) [] X.env.qual none .none (some X.env)) (λcenv s₄=>
   codeAny (model X.prog X.w) X.A (.compStart (.ListComp elt [⟨target,iter,ifs,0⟩] sc pos) 0 (.ref it) acc {cenv with scope:=relabel sc X.env}) (R acc cenv.locals) s₄) E s₃) E s2:=by
 have hfc:∀y∈sc.names,y.2= .free->∃c,X.env.cells.lookup y.1=some c:=λy hy hk=>I2.ok.has y.1 (hfk y hy hk);obtain⟨W,⟨m0,w0⟩,turn⟩:=h s2.heap.objs.size I2.fresh;refine wpAny_newObj_type (oF ?_);dsimp only;have I3:Inv X pins σ (upd H2 s2.heap.objs.size (.lst [])) {s2 with heap:=s2.heap.push {cls:= .type "list",data:= .seq ([]:List Value).toArray}}:=I2.lnew (t':=s2.toks) .nil (Hy _);generalize hs3:({s2 with heap:=s2.heap.push {cls:= .type "list",data:= .seq ([]:List Value).toArray}}:Shared)=s3 at I3;have hh3:s3.heap=s2.heap.push {cls:= .type "list",data:= .seq ([]:List Value).toArray}:=by rw[<-hs3]
 have hsz:s3.heap.objs.size=s2.heap.objs.size+1:=by rw[hh3,Ji]
 have k23:∀b o,s2.heap.get? b=some o->s3.heap.get? b=some o:=λb o e=>by rw[hh3];exact GK _ e
 generalize hD:s2.heap.objs.size=D at*;generalize hH3:upd H2 D (.lst [])=H3 at*;have hC:(s2.heap.push {cls:= .type "list",dict:=none,data:= .seq ([]:List Value).toArray}).objs.size=s3.heap.objs.size:=by rw[hh3]
 rw[hC];have h1e:pushCells ((s2.heap.push {cls:= .type "list",dict:=none,data:= .seq ([]:List Value).toArray}).push {cls:= .type "dict",data:= .dict #[]}) sc.names=pushCells (s3.heap.push {cls:= .type "dict",data:= .dict #[]}) sc.names:=by rw[hh3]
 rw[h1e];have hns₁:(pushCells (s3.heap.push {cls:= .type "dict",data:= .dict #[]}) sc.names).Ns s3.heap.objs.size (λ_=>none):=(Heap.Ns.new s3.heap (.type "dict")).keeps (J1 _ _);have k34:∀b o,s3.heap.get? b=some o->(pushCells (s3.heap.push {cls:= .type "dict",data:= .dict #[]}) sc.names).get? b=some o:=λb o e=>J1 _ _ _ _ (GK _ e);have hcf:∀ {x c},(x,c)∈cellsFrom (s3.heap.objs.size+1) sc.names (gL X.env sc.names)->(x,c)∈gL X.env sc.names\/(pushCells (s3.heap.push {cls:= .type "dict",data:= .dict #[]}) sc.names).IsCell c none:=λ{x c} e=>by refine rj sc.names (s3.heap.push {cls:= .type "dict",data:= .dict #[]}) _ (x:=x) ?_;rw[Ji];exact e
 generalize pushCells (s3.heap.push {cls:= .type "dict",data:= .dict #[]}) sc.names=h₁ at*;have fpl:∀b∈fp,b<s2.heap.objs.size:=λb hb=>by obtain⟨o,e,_⟩:=T.obj _ _ st2 b hb;exact GG e
 have fpD:∀b∈fp,b≠D:=λb hb=>by rw[<-hD];exact GZ (fpl b hb)
 have fpC:∀b∈fp,b≠s3.heap.objs.size:=λb hb=>by rw[hsz];exact GZ (Kd (hD▸fpl b hb))
 have fr3:∀b∈fp,H3 b=none:=λb hb=>by rw[<-hH3,av (fpD b hb)];exact(f2 b hb).1
 have fstk:∀b∈fp,b∉frs X.stack:=λb hb z=>by
  obtain⟨_,f1,f2',_⟩:=f2 b hb;rcases Gh.mp (I3.stkSub b z)with e|e
  .exact f1 e
  .exact f2' e
 have st4:tn 0 h₁:=T.keep _ _ _ st2 λb hb o e=>k34 b o (k23 b o e);have csub0:∀x c,(gL X.env sc.names).lookup x=some c->X.env.cells.lookup x=some c:=λx c e=>EZ hfc e;have cmem:∀x c,(x,c)∈gL X.env sc.names->∃y,X.env.cells.lookup y=some c:=λx c e=>⟨x,kL hfc e⟩;have csub:∀x c,(cellsFrom (s3.heap.objs.size+1) sc.names (gL X.env sc.names)).lookup x=some c->(∃y,X.env.cells.lookup y=some c)\/(s3.heap.objs.size+1<=c/\h₁.IsCell c none):=λx c e=>by
  have m:=Hg e;rcases oh _ _ _ m with h|h
  .exact .inl (cmem _ _ h)
  .rcases hcf m with h'|h'
   .exact .inl (cmem _ _ h')
   .exact .inr ⟨h,h'⟩
 have clt:∀y c,X.env.cells.lookup y=some c->c<s3.heap.objs.size:=λy c e=>by obtain⟨v,q⟩:=I3.cell y c e;exact q.lt
 have cinj:∀x y c,(cellsFrom (s3.heap.objs.size+1) sc.names (gL X.env sc.names)).lookup x=some c->(cellsFrom (s3.heap.objs.size+1) sc.names (gL X.env sc.names)).lookup y=some c->x=y:=λx y c e1 e2=>by
  have low:∀p∈gL X.env sc.names,p.2<s3.heap.objs.size+1:=λp hp=>by obtain⟨y,hy⟩:=cmem p.1 p.2 hp;exact Kd (clt y _ hy)
  by_cases hc:s3.heap.objs.size+1<=c
  .exact vz (s3.heap.objs.size+1) sc.names _ _ low (Gf _) (λx y c hx _ hc=>absurd (F9 (low _ hx) hc) (IA _)) x y c (Hg e1) (Hg e2) hc
  .have in1:(x,c)∈gL X.env sc.names:=by
    rcases oh _ _ _ (Hg e1)with h|h
    .exact h
    .exact absurd h hc
   have in2:(y,c)∈gL X.env sc.names:=by
    rcases oh _ _ _ (Hg e2)with h|h
    .exact h
    .exact absurd h hc
   exact I3.ok.inj x y c (kL hfc in1) (kL hfc in2)
 generalize hX:bx X (vars++frn) sc s3 H3 fp pins=X';have ok':X'.Ok:=by
  rw[<-hX];refine⟨I3.ok.mod,hkind,I3.ok.glob,I3.ok.blt,Gf _,cinj,λx hx=> ?_,(λx c z e=> ?_),I3.ok.hd,I3.ok.frames, .inl rfl,
   λb hb=>⟨fpC b hb,λx c e z=> ?_⟩,I3.bs,Gd I3.ok.bsz I3.sz,λb o e hb=> ?_,λb hb=>fstk b hb,I3.stack,I3.stkFree⟩
  .obtain⟨y,hy,h1,h2|h2⟩:=jK hx
   .exact ri _ _ _ x (.inl ⟨y,hy,h1,h2⟩)
   .exact ri _ _ _ x (.inr (BR ⟨y,hy,h1,h2⟩))
  .have hz:sc.names.lookup x=some .cell:=by simpa using (show(sc.names.lookup x==some NameKind.cell)=true from z)
   exact Jv (vy (s3.heap.objs.size+1) sc.names _ _ x (Gf _) (.inl ⟨_,Hg hz,rfl,rfl⟩) c e)
  .rcases csub x c e with ⟨y,hy⟩|⟨h,_⟩
   .exact(f2 b hb).2.2.2.2.1 y c hy z
   .subst z;have q:=fpl c hb;rw[hsz,<-hD]at h;exact IA _ (F9 q (Jv (Jv h)))
  rcases(f2 b hb).2.2.2.1 with z|z
  .exact I3.ok.noex b o e z
  .exact absurd (F9 (GG e) (Gd I3.ok.bsz z)) (IA _)
 have I4:Inv X' [] (inner vars.length fr σ) H3 {s2 with heap:=h₁}:=by
  have hos:s3.os=s2.os:=by rw[<-hs3]
  have hgn:s3.gens=s2.gens:=by rw[<-hs3]
  refine⟨ok',by rw[<-hX];exact hos.symm,by rw[<-hgn];exact I3.bare,by rw[<-hX];exact Un.kept k34,⟨λ_=>none,by rw[<-hX];exact hns₁,λi x v e1 e2 e3=> ?_⟩,λx c e=> ?_,?_,λx c e=> ?_,λp hp=> ?_,by rw[<-hX];exact I3.hok.kept k34,?_⟩
  .rw[<-hX]at e1 e3⊢;have e1':(vars++frn)[i]?=some x:=e1;unfold inner at e2;by_cases hi:i<vars.length
   .rw[GH (by simpa using hi),Ld]at e2;rw[F7 hi]at e2;cases e2
   .rw[GI (by simpa using Ij hi),Kp,Gs]at e2;rw[GI (Ij hi)]at e1';cases ej:fr[i-vars.length]? with
    |none=>rw[ej]at e2;cases e2
    |some j=>
     rw[ej]at e2;have e2':(σ[j]?).join=some v:=GY e2;have e2'':σ[j]?=some (some v):=by
      cases q:σ[j]? with
      |none=>rw[q]at e2';cases e2'
      |some o=>rw[q]at e2';exact GQ some e2'
     obtain⟨y,h1,h2,h3,h4⟩:=hfr.get ej;rw[h1]at e1';cases e1';obtain⟨m,hn,hl⟩:=I3.loc;obtain⟨u,r,l⟩:=hl j x v h2 e2'' (by rcases h3 with z|z;exact .inr (.inl z);exact .inr (.inr z));refine⟨u,r, .inr ⟨h4,?_⟩⟩;have hxn:∀y∈sc.names,y.1=x->y.2≠ .cell:=λy hy hyx hyc=>by have:=GW.mp hno y hy;rw[hyc,hyx]at this;have hm:frn.contains x=true:=List.contains_iff_mem.mpr (Ge h1);rw[hm]at this;cases this
     have hfree:∃y∈sc.names,y.1=x/\y.2= .free:=by
      obtain⟨y,hy,z1,z2|z2⟩:=jK h4
      .exact absurd z2 (hxn y hy z1)
      .exact⟨y,hy,z1,z2⟩
     obtain⟨c,hc0⟩:=BR (env:=X.env) hfree;have hc1:(cellsFrom (s3.heap.objs.size+1) sc.names (gL X.env sc.names)).lookup x=some c:=(rh sc.names _ _ x hxn).trans hc0;have hc2:=csub0 x c hc0;rcases l with ⟨k,_⟩|⟨_,c',hc',hcell⟩
     .rcases h3 with z|z
      .rw[z]at k;cases k
      .rw[z]at k;cases k
     .rw[hc2]at hc';cases hc';exact⟨c,hc1,hcell.keeps k34⟩
  .rw[<-hX]at e;rcases csub x c e with ⟨y,hy⟩|⟨_,h⟩
   .obtain⟨v,z⟩:=I3.cell y c hy;exact⟨v,z.keeps k34⟩
   .exact⟨_,h⟩
  .rw[<-hX];exact I3.fresh
  .rw[<-hX]at e;rcases csub x c e with ⟨y,hy⟩|⟨h,_⟩
   .exact I3.freeC y c hy
   .exact I3.hok.fresh (Jv h)
  .rw[<-hX]at hp⊢;rw[Ic]at hp;obtain⟨q1,q2,q3,q4,q5⟩:=I3.pin p hp;refine⟨k34 _ _ q1,q2,GZ (GG q1),λz=> ?_,q5⟩;rcases Gh.mp (I3.stkSub p.1 z)with e|e
   .exact q3 e
   .exact q4 e
  .rw[<-hX];show(inner vars.length fr σ).length=(vars++frn).length;unfold inner;rw[Gr,Kp,F3,Gr,hfr.len]
 have stat:∀ {H':Hp},(∀b∈fp,H' b=none)->∀b∈fp,rF X' [] H' b:=λhn b hb=>by
  rw[<-hX];obtain⟨_,f1,f2',f3,f4,f5⟩:=f2 b hb;refine⟨hn b hb,fpC b hb,fstk b hb, .inl hb,λx c e=> ?_,λp hp=> ?_⟩
  .rcases csub x c e with ⟨y,hy⟩|⟨h,_⟩
   .exact f4 y c hy
   .exact λz=>by subst z;have q:=fpl c hb;rw[hsz,<-hD]at h;exact IA _ (F9 q (Jv (Jv h)))
  exact f5 p (by simpa [bx]using hp)
 have back:∀ {σ7:St} {H7:Hp} {s7:Shared},Inv X' [] σ7 H7 s7->Inv X pins σ H7 s7:=λ{σ7 H7 s7} I7=>by
  have ho:s7.os=s3.os:=by have:=I7.os;rw[<-hX]at this;exact this
  have hu:Un (frs X.stack) fp H3 H7 s3.heap s7.heap:=by have:=I7.base;rw[<-hX]at this;exact this
  have hk:HOk X.prog X.w H7 s7.heap:=by have:=I7.hok;rw[<-hX]at this;exact this
  refine I3.call' ho hu hk I7.bare λb hb=> ?_;obtain⟨_,f1,_,f3,f4,f5⟩:=f2 b hb;exact⟨f3,f1,f4,f5⟩
 have hmod:X'.prog=X.prog/\X'.w=X.w/\X'.K=X.K/\X'.A=X.A/\X'.calm=true/\X'.env=compEnvC sc (cellsFrom (s3.heap.objs.size+1) sc.names (gL X.env sc.names)) s3.heap.objs.size X.env/\X'.xe=(λ_ _=>False)/\X'.env.locals=s3.heap.objs.size:=by rw[<-hX];exact⟨rfl,rfl,rfl,rfl,hc,rfl,rfl,rfl⟩
 obtain⟨eP,ew,eK,eA,ec,eE,ex,eL⟩:=hmod;have hg':=hg s3 H3 fp pins;have ht':=ht s3 H3 fp pins;have he':=he s3 H3 fp pins;rw[hX]at hg' ht' he';have loop:∀s4:Shared,s4={s2 with heap:=h₁}->
   codeAny (model X.prog X.w) X.A (.compLoop (.ListComp elt [⟨target,iter,ifs,0⟩] sc pos) 0 (.ref it) (.ref D) X'.env) (R (.ref D) s3.heap.objs.size) s4:=by
  rintro s4 rfl;refine codeAny_loop rfl (λn s'=>∃i σ' H',Inv X' [] σ' H' s'/\tn i s'.heap/\(∀b∈fp,H' b=none)/\W i n σ' H') (λn s5 hI=> ?_) m0 ⟨0,_,H3,I4,st4,fr3,w0⟩;obtain⟨i,σ5,H5,I5,st5,fr5,w5⟩:=hI;show wpAny _ X.A ((compTurn (.ListComp elt [⟨target,iter,ifs,0⟩] sc pos) 0 (.ref it) (.ref D) X'.env).onRaise (λx=>do noteFrame x X'.env;theTreesLotGoes x)) _ _ s5;refine wpAny_noted (wpAny_noRaise ?_);rw[compTurn_list];refine GR (wpAny_standAt (GR ?_));rcases turn i n σ5 H5 w5 with ⟨stop,q⟩|⟨go,N,hN,step⟩
  .have z:=T.done X' eP ew eK ec i [] s5 σ5 H5 (λ_ _=>False) I5 (stat fr5) st5 stop;rw[eA]at z;refine thn z λr s6 ⟨hr,I6⟩=> ?_;subst hr;refine Hx (hR _ _ _ ⟨H5,back I6,q,?_,?_,K6 I3.lt,I3.sz,λx c e z=> ?_,λp hp z=> ?_⟩)
   .obtain⟨m,hn,_⟩:=I6.loc;rw[eL]at hn;exact⟨m,hn⟩
   .have:=I6.free;rw[eL]at this;exact this
   .obtain⟨v,q⟩:=I3.cell x c e;exact absurd q.lt (by rw[z];exact IA _)
   .exact absurd (GG (I3.pin p hp).1) (by rw[z];exact IA _)
  .have z:=T.item X' eP ew eK ec i [] s5 σ5 H5 (λ_ _=>False) I5 (stat fr5) st5 go;rw[eA]at z;refine thn z λr s6 ⟨u,hr,h6⟩=> ?_;subst hr;refine GR (thn h6 λ_ s7 ⟨x,H7,I7,r7,y7,st7,fr7⟩=> ?_);have I7':=I7.pinned (stat fr7) (T.obj _ _ st7);have zg:=hg' _ s7 σ5 H7 x u _ I7' r7 (step x H7 y7);rw[eP,ew,eA,ex]at zg;refine GR (thn zg λ_ s8 ⟨σ8,H8,I8,q8⟩=> ?_);have zt:=ht' _ s8 σ8 H8 _ I8 q8;rw[eP,ew,eA,ex]at zt;refine GR (thn zt λok s9 ⟨H9,I9,q9⟩=> ?_);have again:∀ {σa:St} {Ha:Hp} {sa:Shared},Inv X' ([]++mX fp s7.heap) σa Ha sa->N σa Ha->∃m,m<n/\∃i σ' H',Inv X' [] σ' H' sa/\tn i sa.heap/\(∀b∈fp,H' b=none)/\W i m σ' H':=λ{σa Ha sa} Ia na=>by obtain⟨m',hm,wa⟩:=hN σa Ha na;refine⟨m',hm,i+1,σa,Ha,Ia.unpinned,T.keep _ _ _ st7 λb hb o e=>(Ia.pin (b,o) (Hm _ (Hm _ (gJ hb e)))).1,λb hb=> ?_,wa⟩;obtain⟨o,e,d⟩:=T.obj _ _ st7 b hb;exact(Ia.pin (b,o) (Hm _ (Hm _ (gJ hb e)))).2.1
   cases ok with
   |false=>
    rw[F8 Gj]at q9;exact Hx ⟨rfl,again I9 q9⟩
   |true=>
    rw[F7 rfl]at q9;have ze:=he' _ s9 σ8 H9 _ I9 q9;rw[eP,ew,eA,ex]at ze;refine GR (GR (thn ze λy sa ⟨yv,Ha,Ia,ra,xs,hxs,hlt,na⟩=>GR ?_));have zm:=bI (X:=X') _ sa σ8 Ha (.ref D) [yv] (.ref D) [y] (λ_ Hb=>N σ8 Hb) Ia rfl (.cons ra .nil) ⟨D,xs,yv,rfl,rfl,hxs,hlt,na⟩;rw[eP,ew,eA,ex]at zm;exact thn zm λ_ sb ⟨vb,Hb,Ib,_,nb⟩=>Hx (Hx ⟨rfl,again Ib nb⟩)
 have e:({(newEnv sc s3.heap.objs.size X.env.globals (cellsFrom (s3.heap.objs.size+1) sc.names (gL X.env sc.names)) X.env.qual none .none (some X.env) builtinsNs)with scope:=relabel sc X.env}:Env)=X'.env:=by rw[eE];rfl
 have fin:=codeAny_compStart_list (elt:=elt) (target:=target) (iter:=iter) (ifs:=ifs) (rest:=[]) (scope:=sc) (pos:=pos) (loop _ rfl) (T.self _ 0 _ _ _ st4 (loop _ rfl));rw[<-e]at fin;exact fin
theorem En(hc:X.calm=true)(hfk0:sc.names.all (λy=> !(y.2== .free)||(X.env.kindOf y.1==some .cell||X.env.kindOf y.1==some .free))=true)(hno:sc.names.all (λy=> !(y.2== .cell)|| !(frn.contains y.1))=true)(hkind:sc.kind= .function)
  (hnames0:sc.names.all (λy=> !(y.2== .local)||(sc.names.lookup y.1==some .local))=true) (hfr:lO X sc fr frn) (hi:PI X target iter wi)
  (hg:∀s₃ H₃ fp pins,PG (bx X (vars++frn) sc s₃ H₃ fp pins) target g) (ht:∀s₃ H₃ fp pins,PTs (bx X (vars++frn) sc s₃ H₃ fp pins) ifs tc) (he:∀s₃ H₃ fp pins,PE (bx X (vars++frn) sc s₃ H₃ fp pins) elt te)
  (hs:∀x,foldedSetIterable iter X.env x=pure x:=by intro _;rfl):PE X (.ListComp elt [⟨target,iter,ifs,0⟩] sc pos) (tLC wi g tc te vars.length fr):=by
 intro pins s σ H Q I h;have hfk:=DM hfk0;have hnames:=DJ hnames0;rw[eval_ListComp];have hfc:∀y∈sc.names,y.2= .free->∃c,X.env.cells.lookup y.1=some c:=λy hy hk=>I.ok.has y.1 (hfk y hy hk);refine wpAny_comprehension_free (use:=none) rfl hs (i9 hfc) hkind hnames (thn (hi pins s σ H _ I h) λv s1 h1=>thn h1 λitv s2 h2=> ?_);obtain⟨it,fp,tn,J,H2,e,I2,T,st2,f2,q⟩:=h2;subst e;refine lj (R:=λacc C=>compPost (model X.prog X.w) X.A X.xe none (EP X pins σ Q) acc C) hc hfk hno hkind hfr hg ht he I2 T st2 f2 q λD C s' hb=> ?_;obtain⟨H',I',q',⟨m,hn⟩,hCn,hCL,hCs,hCc,hCp⟩:=hb;refine⟨m,hn,λh' hs'=>⟨.ref D,H',?_,rfl,q'⟩⟩;exact I'.turned (t':=s'.toks) (λb o hb e=>(hs'.2 b hb).trans e) hCn hCL (.inr hCs) hCc hCp
theorem xN{i:Nat}{x:Str}{px spos:Pos}(hN:X.N.Nodup)(hi0:X.N[i]?=some x)(hx:X.env.kindOf x=some .local)(hc:X.calm=true)
  (hfk0:sc.names.all (λy=> !(y.2== .free)||(X.env.kindOf y.1==some .cell||X.env.kindOf y.1==some .free))=true) (hno:sc.names.all (λy=> !(y.2== .cell)|| !(frn.contains y.1))=true) (hkind:sc.kind= .function)
  (hnames0:sc.names.all (λy=> !(y.2== .local)||(sc.names.lookup y.1==some .local))=true) (hfr:lO X sc fr frn) (hi:PI X target iter wi)
  (hg:∀s₃ H₃ fp pins,PG (bx X (vars++frn) sc s₃ H₃ fp pins) target g) (ht:∀s₃ H₃ fp pins,PTs (bx X (vars++frn) sc s₃ H₃ fp pins) ifs tc) (he:∀s₃ H₃ fp pins,PE (bx X (vars++frn) sc s₃ H₃ fp pins) elt te)
  (hsw:swapsWith (.ListComp elt [⟨target,iter,ifs,0⟩] sc pos) (some (.Name x px)) spos.line X.env=pure true:=by rfl)
  (hs:∀x,foldedSetIterable iter X.env x=pure x:=by intro _;rfl):PS X (.Assign [.Name x px] (.ListComp elt [⟨target,iter,ifs,0⟩] sc pos) spos) (uG (tLC wi g tc te vars.length fr) (aS i)):=by
 intro pins s σ H Dn I h;have hfk:=DM hfk0;have hnames:=DJ hnames0;rw[exec_Assign_Name_used _ _ _ _ hsw];have hfc:∀y∈sc.names,y.2= .free->∃c,X.env.cells.lookup y.1=some c:=λy hy hk=>I.ok.has y.1 (hfk y hy hk);refine GR (wpAny_standAt (GR ?_));show wpAny _ X.A (do let _<-comprehension (.ListComp elt [⟨target,iter,ifs,0⟩] sc pos) sc X.env _ (newList []) false (eval iter X.env) (some (assign (.Name x px) X.env))) _ _ s;refine GR (thn (Q:=λ_ s'=>SP X pins Dn .next s') (wpAny_comprehension_free (use:=some (assign (.Name x px) X.env)) (Q:=λ_ s'=>SP X pins Dn .next s') rfl hs (i9 hfc) hkind hnames (thn (hi pins s σ H _ I h) λv s1 h1=>thn h1 λitv s2 h2=> ?_)) λ_ s' hq=>Hx (Hx hq));obtain⟨it,fp,tn,J,H2,e,I2,T,st2,f2,q⟩:=h2;subst e;refine lj (R:=λacc C=>compPost (model X.prog X.w) X.A X.xe (some (assign (.Name x px) X.env)) (λ_ s'=>SP X pins Dn .next s') acc C) hc hfk hno hkind hfr hg ht he I2 T st2 f2 q λD C s' hb=> ?_;obtain⟨H',I',q',⟨m,hn⟩,hCn,hCL,hCs,hCc,hCp⟩:=hb;show wpAny _ X.A (assign (.Name x px) X.env (.ref D)) _ _ s';refine wpAny_assign_Name (o4 I' hN hi0 (.inl hx) (v:= .ref D) rfl (λs3 I3 hsb=> ?_) (.inr hx));obtain⟨a,sb,ha⟩:=hsb;have haC:C≠a:=by
  rcases ha with e|e
  .rw[e];exact hCL
  .exact λz=>hCc x a e z.symm
 refine⟨m,hn.sameBut sb haC,λh' hs'=>⟨_,H',?_,q'⟩⟩;exact I3.turned (t':=s3.toks) (λb o hb e=>(hs'.2 b hb).trans e) hCn hCL (.inr hCs) hCc hCp
end
end L2
namespace L2
open PySem PySem.Spec PyProof.Rows
end L2
namespace L2
open PySem PySem.Spec PySem.W PyProof.Rows PySem.SeqAt
end L2
namespace L2
open PySem PySem.Spec PyProof.Rows
end L2
namespace L2
open PySem PySem.Spec PySem.W PyProof.Rows PySem.SeqAt
def gg(H H':Hp):Prop:=∀b xs,H b=some (.tup xs)->H' b=some (.tup xs)
theorem gg.of(h:Same H H'):gg H H':=λb xs e=>h b _ e
theorem gg.trans(a:gg H H1)(b:gg H1 H2):gg H H2:=λc xs e=>b c xs (a c xs e)
theorem gg.upd{H:Hp}{q:Addr}{ys:List V}{o:HO}(h:H q=some (.lst ys)):gg H (upd H q o):=λb xs e=>by rw[av (gr e h (by intro z;cases z))];exact e
theorem gg.new(h:H q=none):gg H (L2.upd H q o):=λb xs e=>by rw[av (az e h)];exact e
def bX(H:Hp)(xs:List V)(ts:List (Nat×Nat)):Prop:=xs.length=ts.length/\∀ (i:Nat) (t:Nat×Nat),ts[i]?=some t->∃a,xs[i]?=some (.ref a)/\H a=some (.tup [.int t.1, .int t.2])
theorem bX.ts{H H':Hp}{xs:List V}{ts:List (Nat×Nat)}(h:bX H xs ts)(e:gg H H'):bX H' xs ts:=
 ⟨h.1,λi t ht=>by obtain⟨a,h1,h2⟩:=h.2 i t ht;exact⟨a,h1,e _ _ h2⟩⟩
theorem bX.nil:bX H [] []:=⟨rfl,λi t h=>by simp at h⟩
theorem bX.snoc{H:Hp}{xs:List V}{ts:List (Nat×Nat)}{a:Addr}{t:Nat×Nat}(h:bX H xs ts)(ha:H a=some (.tup [.int t.1, .int t.2])):bX H (xs++[.ref a]) (ts++[t]):=by
 refine⟨by rw[Gr,Gr,h.1];rfl,λi u hu=> ?_⟩;by_cases hi:i<ts.length
 .rw[GH hi]at hu;obtain⟨b,h1,h2⟩:=h.2 i u hu;exact⟨b,by rw[GH (by rw[h.1];exact hi)];exact h1,h2⟩
 .rw[GI (by lia)]at hu;have hi2:i-ts.length=0:=by
   cases e:i-ts.length with
   |zero=>rfl
   |succ n=>rw[e]at hu;simp at hu
  rw[hi2]at hu;cases hu;refine⟨a,?_,ha⟩;rw[GI (by rw[h.1];lia),h.1,hi2];rfl
theorem bX.at{H:Hp}{xs:List V}{ts:List (Nat×Nat)}(h:bX H xs ts){i:Nat}{y:V}(hy:xs[i]?=some y):∃a t,ts[i]?=some t/\y= .ref a/\H a=some (.tup [.int t.1, .int t.2]):=by
 have hi:i<ts.length:=by rw[<-h.1];exact(Ga.mp hy).1
 obtain⟨a,h1,h2⟩:=h.2 i (ts[i]) (Gp hi);rw[hy]at h1;exact⟨a,ts[i],Gp hi,GY h1,h2⟩
def wu(K:PySem.W.Frag):List V->Hp->VK->Prop:=λxs H Q=>∃ (p:Addr) (ns:List Int),xs=[.ref p]/\SqL K H p (ns.map V.int)/\ns.length+1<4096/\
 ∀l,H l=none->Q (.ref l) (upd H l (.set (λk=>(firstMet (λi=>ns.getD i 0) ns.length).any (· ==k)) (firstMet (λi=>ns.getD i 0) ns.length).length))
theorem zf{X:Cx}(hc:X.calm=true):cE X (.type "set") (wu X.K):=by
 intro pins s σ H vs us Q I rv h;obtain⟨p,ns,rfl,ha,hn,q⟩:=h;obtain⟨u,rfl,ru⟩:=kN rv;cases ru;obtain⟨its,r1,p1,hz⟩:=I.list ha;have hi:=nO r1;have hlen:=r1.length;rw[F3]at hlen;refine call_set_list (ns:=ns) (I.ok.hd hc) p1.isList (by simpa using hi) (by rw[GS];show its.length+1<4096;lia) λh' tk hS hk=> ?_;have esz:its.toArray.size=ns.length:=by rw[GS,hlen]
 rw[esz]at hS;exact⟨.ref s.heap.objs.size,_,I.laid (t':=tk) (λb o e=>hk b o (GG e) e) (Gf _) (show bC X.prog X.w _ _ _ (.set _ _)from hS),rfl,q _ (I.hok.fresh (Gf _))⟩
theorem om{X:Cx}{K:PySem.W.Frag}(h:X.K=K)(hc:X.calm=true):cE X (.type "set") (wu K):=by subst h;exact zf hc
def Ea:List V->Hp->VK->Prop:=λxs H Q=>∃ (p:Addr) (S:Int->Bool) (n:Nat),xs=[.ref p]/\H p=some (.set S n)/\Q (.int n) H
theorem oo:cE X (.builtin "len") Ea:=by intro pins s σ H vs us Q I rv h;obtain⟨p,S,n,rfl,hp,q⟩:=h;obtain⟨u,rfl,ru⟩:=kN rv;cases ru;obtain⟨o,es,ep,t,ho,hex,hd,hel,hmem,hb,hf,hn⟩:=I.hok p _ hp;have hb4:es.size<4096:=hb;exact call_len_set ho hex hd hf (Int.lt_of_lt_of_le (show(es.size:Int)<4096 by lia) (by decide)) ⟨.int n,H,I.tok _,⟨_,by rw[hn]⟩,q⟩
def D9:List V->Hp->VK->Prop:=λxs H Q=>∃ (p:Addr) (n:Nat),xs=[.ref p]/\H p=some (.rng 0 n)/\n<=1000/\∀l,H l=none->Q (.ref l) (upd H l (.lst (((List.range n).map λi:Nat=>(i:Int)).map V.int)))
theorem jb:∀ (acc:List Value) (n k:Nat),acc.length=n->(∀ (i:Nat) (v:Value),acc[i]?=some v->∃t,v= .int (((k+i:Nat)):Int) t)->Vals (((List.range' k n).map λi:Nat=>(i:Int)).map V.int) acc
 | [],0,_,_,_=> .nil
 |v::r,n+1,k,hl,h=>by
  obtain⟨t,e⟩:=h 0 v rfl;subst e;exact .cons ⟨t,rfl⟩ (jb r n (k+1) (Nat.succ.inj hl) λi u hu=>by obtain⟨t',e'⟩:=h (i+1) u (by simpa using hu);exact⟨t',by rw[e',show k+(i+1)=k+1+i by lia]⟩)
theorem vB{X:Cx}(hc:X.calm=true):cE X (.type "list") D9:=by
 intro pins s σ H vs us Q I rv h;obtain⟨p,n,rfl,hp,hn,q⟩:=h;obtain⟨u,rfl,ru⟩:=kN rv;cases ru;obtain⟨t,u,v,e⟩:=I.hok p _ hp;have hr:IsRange s.heap p 0 (n:Int) 1 t u v:=e;refine call_list_range (n:=n) (I.ok.hd hc) hr (small_one (by decide) (by decide) (by lia) (by lia)) (by rw[rangeSize_nat];lia) (by lia) λh' tk acc' c' hk hD hI=> ?_;have hv:Vals (((List.range n).map λi:Nat=>(i:Int)).map V.int) acc'.toList:=by rw[Ky];refine jb acc'.toList n 0 (by rw[JB];exact hI.1) λi w hw=> ?_;obtain⟨t',e'⟩:=hI.2 i w (by rw[<-hw,JM]);exact⟨t',by rw[e'];congr 1;lia⟩
 refine⟨.ref s.heap.objs.size,_,I.laid (t':=tk) hk (Gf _) (show bC X.prog X.w _ _ _ (.lst _)from⟨?_,acc'.toList,c',hv,?_⟩),rfl,q _ (I.hok.fresh (Gf _))⟩
 .rw[F3,F3,Gy];exact Gd hn (by decide)
 .rw[Kz];exact hD
theorem Bk{K:PySem.W.Frag}{a:Addr}{xs:List V}{g:TG}{tc:TT}{te:TE}{nv:Nat}{fr:List Nat}{σ:St}{H:Hp}{Q:VK}(Rl:V->V->Hp->Prop)(hRl:∀x y H H',gg H H'->Rl x y H->Rl x y H')(ha:SqL K H a xs)(hn:xs.length<=sizeLine)
  (hs:∀ (i:Nat) (x:V) (vs:St) (H':Hp) (R:V->St->Hp->Prop) (S:St->Hp->Prop),xs[i]?=some x->vs.length=nv->Same H H'->
   (∀y vs' H'',Rl x y H''->vs'.length=nv->Same H' H''->R y (vs'++fr.map λj=>(σ[j]?).join) H'')->
   g x (vs++fr.map λj=>(σ[j]?).join) H' λσ2 H3=>tc σ2 H3 λb H4=>if b=true then te σ2 H4 λy H5=>R y σ2 H5 else S σ2 H4)
  (hd:∀D H' (ys:List V),H D=none->Same H H'->H' D=some (.lst ys)->ys.length=xs.length->(∀ (j:Nat) (x y:V),xs[j]?=some x->ys[j]?=some y->Rl x y H')->Q (.ref D) H'):LCW (Itl K a) g tc te nv fr σ H Q:=by
 intro D hD;refine⟨λi m σ' H'=>m=xs.length-i/\i<=xs.length/\∃ (vs:St) (ys:List V),vs.length=nv/\σ'=vs++(fr.map λj=>(σ[j]?).join)/\Same H H'/\H' D=some (.lst ys)/\ys.length=i/\(∀ (j:Nat) (x y:V),xs[j]?=some x->ys[j]?=some y->Rl x y H'),⟨xs.length,by simp,Hy _,List.replicate nv none,[],by simp,rfl,Same.new hD,aj,rfl,by simp⟩,?_⟩;rintro i m σ' H' ⟨rfl,hi,vs,ys,hv,rfl,sm,hD',hl,hz⟩;have ha':SqL K H' a xs:=sm.seq ha;by_cases hlt:i<xs.length
 .refine .inr ⟨⟨xs,xs[i],ha',by simp[hlt]⟩,λσ'' H''=>∃ (vs:St) (ys:List V),vs.length=nv/\σ''=vs++(fr.map λj=>(σ[j]?).join)/\Same H H''/\H'' D=some (.lst ys)/\ys.length=i+1/\(∀ (j:Nat) (x y:V),xs[j]?=some x->ys[j]?=some y->Rl x y H''),λσ'' H'' q=>⟨xs.length- (i+1),Ip hlt (Ig _),rfl,hlt,q⟩,λx H2 y=> ?_⟩;obtain⟨e1,e2⟩:=y;subst e1;have hx:=e2 xs ha';refine hs i x vs _ (λy σ2 H5=>∃xs',H5 D=some (.lst xs')/\xs'.length<sizeLine/\∃ (vs:St) (ys:List V),vs.length=nv/\σ2=vs++(fr.map λj=>(σ[j]?).join)/\Same H (upd H5 D (.lst (xs'++[y])))/\upd H5 D (.lst (xs'++[y])) D=some (.lst ys)/\ys.length=i+1/\(∀ (j:Nat) (x z:V),xs[j]?=some x->ys[j]?=some z->Rl x z (upd H5 D (.lst (xs'++[y]))))) _ hx hv sm (λy vs' H'' pz hv' sm'=> ?_);have hD2:=sm' D _ hD';refine⟨_,hD2,by rw[hl];exact F9 hlt hn,vs',ys++[y],hv',rfl,(sm.trans sm').upd hD,aj,by rw[Gr,hl];rfl,λj x' z hx' hz'=> ?_⟩;refine hRl _ _ _ _ (gg.upd hD2) ?_;by_cases hj:j<ys.length
  .rw[GH hj]at hz';exact hRl _ _ _ _ (gg.of sm') (hz j x' z hx' hz')
  .rw[GI (by lia)]at hz';have hj2:j-ys.length=0:=by
    cases e:j-ys.length with
    |zero=>rfl
    |succ n=>rw[e]at hz';simp at hz'
   rw[hj2]at hz';cases hz';have ej:j=i:=by lia
   subst ej;rw[hx]at hx';cases hx';exact pz
 .have e:i=xs.length:=Ir hi (Ij hlt);subst e;exact .inl ⟨⟨xs,ha',Gf _⟩,hd D H' ys hD sm hD' hl hz⟩
end L2
namespace L2
open PySem PySem.Spec PyProof.Rows
def Itz(K:PySem.W.Frag)(a b:Addr):It:=
 ⟨λi H=>∃xs ys x y,SqL K H a xs/\SqL K H b ys/\xs[i]?=some x/\ys[i]?=some y,
  λi H x H'=>∃t,x= .ref t/\H t=none/\∃v u,(∀xs,SqL K H a xs->xs[i]?=some v)/\(∀ys,SqL K H b ys->ys[i]?=some u)/\H'=upd H t (.tup [v,u]),
  λi H=>∃xs ys,SqL K H a xs/\SqL K H b ys/\(xs.length<=i\/ys.length<=i)⟩
theorem vL{z TI TO i1 i2 b:Addr}(h:b∈[z,TO,i1,i2]):b∈[z,TI,TO,i1,i2]:=by
 rcases Gh.mp h with h|h
 .exact Gh.mpr (.inl h)
 .exact Gm _ (Gm _ h)
theorem d8{z TO i1 i2 b:Addr}(hb:b∉ [z,TO,i1,i2]):b≠z/\b≠TO/\b≠i1/\b≠i2:=by simp only[Gh,Hv,JQ,not_or]at hb;exact hb
theorem zP{P:Program}{w:World}{K:PySem.W.Frag}{elts:List Expr}{x1:Nat}{tp:Pos}(l1 l2 z TI TO i1 i2:Addr)(D:ZipApart z TI TO i1 i2 l1 l2):
  Turn P w K (.Tuple elts x1 tp) (Itz K l1 l2) [z,TI,TO,i1,i2] z (λi h=>IsZip h z TI TO .none/\IsPair h TI (.ref i1) (.ref i2)/\(∃a b,IsPair h TO a b)/\h.IsListIter i1 l1 i/\h.IsListIter i2 l2 i) where
 mem:=by simp
 obj:=λi h st b hb=>by
  obtain⟨hz,hTI,⟨a',b',hTO⟩,h1,h2⟩:=st;simp only[Gh,Hv,JQ]at hb;rcases hb with rfl|rfl|rfl|rfl|rfl
  .exact⟨_,hz,λv q=>by have q':Data.fields _=Data.cell v:=q;cases q'⟩
  .exact⟨_,hTI,λv q=>by have q':Data.seq _ _=Data.cell v:=q;cases q'⟩
  .exact⟨_,hTO,λv q=>by have q':Data.seq _ _=Data.cell v:=q;cases q'⟩
  .obtain⟨o,e,c,d⟩:=h1;exact⟨o,e,λv q=>by rw[d]at q;cases q⟩
  .obtain⟨o,e,c,d⟩:=h2;exact⟨o,e,λv q=>by rw[d]at q;cases q⟩
 keep:=λi h h' st k=>by obtain⟨hz,hTI,⟨a',b',hTO⟩,h1,h2⟩:=st;exact⟨k z (by simp) _ hz,k TI (by simp) _ hTI,⟨a',b',k TO (by simp) _ hTO⟩,h1.at λo e=>k i1 (by simp) o e,h2.at λo e=>k i2 (by simp) o e⟩
 item:=by
  intro X hP hw hK hc i pins s σ H E I hf st hg;subst hP hw hK;obtain⟨xs,ys,x,y,hq1,hq2,hx,hy⟩:=hg;obtain⟨hz,hTI,⟨a',b',hTO⟩,h1,h2⟩:=st;obtain⟨its,rv,p1,hz1⟩:=I.list hq1;obtain⟨jts,rw',p2,hz2⟩:=I.list hq2;obtain⟨u,hu,ru⟩:=rv.get hx;obtain⟨v,hv,rv'⟩:=rw'.get hy;refine wpAny_pyNext_zip_item D hz hTI hTO h1 h2 p1.isList p2.isList (x:=u) (y:=v) (by simpa using hu) (by simpa using hv) λh₁ hzo hTO₁ h1₁ h2₁ ht₁ hsz₁ hk₁=> ?_;refine⟨_,rfl,wpAny_letOwnedTupleGo_zip hzo λh₂ hz₂ hs₂=> ?_⟩;replace hs₂:Heap.SameBut z h₁ h₂:=hs₂;have hzl:z<s.heap.objs.size:=GG hz;have hTIl:TI<s.heap.objs.size:=GG hTI;have hTOl:TO<s.heap.objs.size:=GG hTO;have h1l:i1<s.heap.objs.size:=by obtain⟨o,e,_⟩:=h1;exact GG e
  have h2l:i2<s.heap.objs.size:=by obtain⟨o,e,_⟩:=h2;exact GG e
  have hfr:H s.heap.objs.size=none:=I.fresh;have ht₂:h₂.get? s.heap.objs.size=some {cls:= .type "tuple",data:= .seq #[u,v]}:=(hs₂.2 _ (K6 hzl)).trans ht₁;have kk:∀c o,c≠z->c≠TO->c≠i1->c≠i2->s.heap.get? c=some o->h₂.get? c=some o:=λc o c1 c2 c3 c4 e=>(hs₂.2 c c1).trans (hk₁ c o c1 c2 c3 c4 e);have I1:Inv X pins σ H {s with heap:=h₂,gens:=s.gens,drawn:=s.drawn,toks:=s.toks}:=I.own [z,TO,i1,i2] (λb hb=>hf b (vL hb)) λb o hb e=>kk b o (d8 hb).1 (d8 hb).2.1 (d8 hb).2.2.1 (d8 hb).2.2.2 e;have I2:Inv X pins σ (upd H s.heap.objs.size (.tup [x,y])) {s with heap:=h₂}:=I.pairIn I1 ru rv' ht₂;refine⟨.ref s.heap.objs.size,_,I2,rfl,⟨_,rfl,hfr,x,y,λzs hy=>by rw[I.list_inj hy hq1];exact hx,λzs hz=>by rw[I.list_inj hz hq2];exact hy,rfl⟩,⟨hz₂,?_,⟨_,_,(hs₂.2 TO D.TOz).trans hTO₁⟩,?_,?_⟩,λb hb=> ?_⟩
  .exact kk TI _ D.TIz D.TITO D.TIi1 D.TIi2 hTI
  .obtain⟨o,e,c,d⟩:=h1₁;exact⟨o,(hs₂.2 i1 D.i1z).trans e,c,d⟩
  .obtain⟨o,e,c,d⟩:=h2₁;exact⟨o,(hs₂.2 i2 D.i2z).trans e,c,d⟩
  .have hb0:=(hf b hb).1;have hbl:b≠s.heap.objs.size:=by
    simp only[Gh,Hv,JQ]at hb;rcases hb with rfl|rfl|rfl|rfl|rfl
    .exact GZ hzl
    .exact GZ hTIl
    .exact GZ hTOl
    .exact GZ h1l
    .exact GZ h2l
   rw[av hbl];exact hb0
 done:=by
  intro X hP hw hK hc i pins s σ H E I hf st hg;subst hP hw hK;obtain⟨xs,ys,hq1,hq2,hle⟩:=hg;obtain⟨hz,hTI,⟨a',b',hTO⟩,h1,h2⟩:=st;obtain⟨its,rv,p1,hz1⟩:=I.list hq1;obtain⟨jts,rw',p2,hz2⟩:=I.list hq2;have e1:=rv.length;have e2:=rw'.length;refine wpAny_pyNext_zip_end (I.ok.hd hc) D hz hTI hTO h1 h2 p1.isList p2.isList (by
   rcases hle with h|h
   .exact .inl (by simp;lia)
   .exact .inr (by simp;lia)) λh₂ kk=>⟨rfl,?_⟩
  exact I.own [z,TO,i1,i2] (λb hb=>hf b (vL hb)) λb o hb e=>kk b o (d8 hb).1 (d8 hb).2.1 (d8 hb).2.2.1 (d8 hb).2.2.2 e
 self:=λ_ _ _ _ _ st h=>wpAny_pyIter_zip st.1 h
section
variable{X:Cx}{elts:List Expr}{x1:Nat}{tp:Pos}
def Fs(K:PySem.W.Frag)(ta:TA):TI:=λσ H R=>ta σ H λvs H1=>∃a b,vs=[.ref a, .ref b]/\(∃xs,SqL K H1 a xs)/\(∃ys,SqL K H1 b ys)/\R (Itz K a b) H1
theorem Ef{a b:Expr}{ta:TA}{p pos:Pos}(hg:Gl X "zip")(hm:X.mg "zip"=none)(ha:PA X [a,b] ta)(hs:starEach [a,b] X.env=(false,eval a X.env)::starEach [b] X.env:=by rfl)(hpl:(backTo pos (starEach [b] X.env)).any (·.1)=false:=by rfl):PI X (.Tuple elts x1 tp) (.Call (.Name "zip" p) [a,b] [] pos) (Fs X.K ta):=by
 intro pins s σ H R I h;refine JF (gc I hg hm boot_zip ?_);refine Iz (thn (ha pos pins s σ H _ I h) λus s1 ⟨vs,H1,I1,r1,q1⟩=> ?_) hs hpl;obtain⟨a,b,e,⟨xs,hx⟩,⟨ys,hy⟩,q⟩:=q1;subst e;obtain⟨u,v,rfl,ru,rv⟩:=Dx r1;cases ru;cases rv;obtain⟨its,r2,p2,hz2⟩:=I1.list hx;obtain⟨jts,r3,p3,hz3⟩:=I1.list hy;have la:a<s1.heap.objs.size:=by obtain⟨o,e,_⟩:=p2.isList;exact GG e
 have lb:b<s1.heap.objs.size:=by obtain⟨o,e,_⟩:=p3.isList;exact GG e
 refine call_zip_2 p2.isList p3.isList λh' hz hTI hTO h1 h2 hsz hk=> ?_;refine wpAny_pyIter_zip hz ⟨s1.heap.objs.size+4,[s1.heap.objs.size+4,s1.heap.objs.size+2,s1.heap.objs.size+3,s1.heap.objs.size,s1.heap.objs.size+1],_,Itz X.K a b,H1,rfl,I1.kept (t':=s1.toks) hk,zP a b _ _ _ _ _ (zipApart_new la lb),⟨hz,hTI,⟨_,_,hTO⟩,h1,h2⟩,λc hc=> ?_,q⟩;have hc':s1.heap.objs.size<=c:=by
  simp only[Gh,Hv,JQ]at hc;rcases hc with e|e|e|e|e<;>rw[e]
  .exact JR _ _
  .exact JR _ _
  .exact JR _ _
  .exact Gf _
  .exact JR _ _
 exact I1.fpOk hc' (I1.hok.fresh hc')
theorem CF{K:PySem.W.Frag}{a b:Expr}{ta:TA}{p pos:Pos}(h:X.K=K)(hg:Gl X "zip")(hm:X.mg "zip"=none)(ha:PA X [a,b] ta)(hs:starEach [a,b] X.env=(false,eval a X.env)::starEach [b] X.env:=by rfl)(hpl:(backTo pos (starEach [b] X.env)).any (·.1)=false:=by rfl):PI X (.Tuple elts x1 tp) (.Call (.Name "zip" p) [a,b] [] pos) (Fs K ta):=by subst h;exact Ef hg hm ha hs hpl
end
def hide(H:Hp)(D:Addr):Hp:=λb=>if b=D then none else H b
theorem c8(h:b≠D):hide H D b=H b:=by unfold hide;rw[F8 h]
theorem iw:hide (upd H D o) D=hide H D:=by
 funext b;unfold hide;split
 .rfl
 .rename_i h;exact av h
theorem dF:Same (hide H D) H:=λb o e=>by
 unfold hide at e;split at e
 .cases e
 .exact e
theorem gu(h:Same H H'):Same (hide H D) (hide H' D):=λb o e=>by
 unfold hide at e⊢;split at e
 .cases e
 .rename_i hb;rw[F8 hb];exact h b o e
theorem nH{K:PySem.W.Frag}{a:Addr}{xs:List V}{g:TG}{tc:TT}{te:TE}{nv:Nat}{fr:List Nat}{σ:St}{H:Hp}{Q:VK}(Rl:V->V->Hp->Prop)(hRl:∀x y H H',Same H H'->Rl x y H->Rl x y H')(ha:SqL K H a xs)(hn:xs.length<=sizeLine)
  (hs:∀ (i:Nat) (x:V) (vs:St) (D:Addr) (H':Hp) (R:V->St->Hp->Prop) (S:St->Hp->Prop),xs[i]?=some x->vs.length=nv->Same H H'->(∃l,H' D=some (.lst l))->
   (∀y vs' H'',Rl x y (hide H'' D)->vs'.length=nv->Same H' H''->R y (vs'++fr.map λj=>(σ[j]?).join) H'')->
    g x (vs++fr.map λj=>(σ[j]?).join) H' λσ2 H3=>tc σ2 H3 λb H4=>if b=true then te σ2 H4 λy H5=>R y σ2 H5 else S σ2 H4)
  (hd:∀D H' (ys:List V),H D=none->Same H H'->H' D=some (.lst ys)->ys.length=xs.length->(∀ (j:Nat) (x y:V),xs[j]?=some x->ys[j]?=some y->Rl x y (hide H' D))->Q (.ref D) H'):LCW (Itl K a) g tc te nv fr σ H Q:=by
 intro D hD;refine⟨λi m σ' H'=>m=xs.length-i/\i<=xs.length/\∃ (vs:St) (ys:List V),vs.length=nv/\σ'=vs++(fr.map λj=>(σ[j]?).join)/\Same H H'/\H' D=some (.lst ys)/\ys.length=i/\(∀ (j:Nat) (x y:V),xs[j]?=some x->ys[j]?=some y->Rl x y (hide H' D)),⟨xs.length,by simp,Hy _,List.replicate nv none,[],by simp,rfl,Same.new hD,aj,rfl,by simp⟩,?_⟩;rintro i m σ' H' ⟨rfl,hi,vs,ys,hv,rfl,sm,hD',hl,hz⟩;have ha':SqL K H' a xs:=sm.seq ha;by_cases hlt:i<xs.length
 .refine .inr ⟨⟨xs,xs[i],ha',by simp[hlt]⟩,λσ'' H''=>∃ (vs:St) (ys:List V),vs.length=nv/\σ''=vs++(fr.map λj=>(σ[j]?).join)/\Same H H''/\H'' D=some (.lst ys)/\ys.length=i+1/\(∀ (j:Nat) (x y:V),xs[j]?=some x->ys[j]?=some y->Rl x y (hide H'' D)),λσ'' H'' q=>⟨xs.length- (i+1),Ip hlt (Ig _),rfl,hlt,q⟩,λx H2 y=> ?_⟩;obtain⟨e1,e2⟩:=y;subst e1;have hx:=e2 xs ha';refine hs i x vs D _ (λy σ2 H5=>∃xs',H5 D=some (.lst xs')/\xs'.length<sizeLine/\∃ (vs:St) (ys:List V),vs.length=nv/\σ2=vs++(fr.map λj=>(σ[j]?).join)/\Same H (upd H5 D (.lst (xs'++[y])))/\upd H5 D (.lst (xs'++[y])) D=some (.lst ys)/\ys.length=i+1/\(∀ (j:Nat) (x z:V),xs[j]?=some x->ys[j]?=some z->Rl x z (hide (upd H5 D (.lst (xs'++[y]))) D))) _ hx hv sm ⟨_,hD'⟩ (λy vs' H'' pz hv' sm'=> ?_);have hD2:=sm' D _ hD';refine⟨_,hD2,by rw[hl];exact F9 hlt hn,vs',ys++[y],hv',rfl,(sm.trans sm').upd hD,aj,by rw[Gr,hl];rfl,λj x' z hx' hz'=> ?_⟩;rw[iw];by_cases hj:j<ys.length
  .rw[GH hj]at hz';exact hRl _ _ _ _ (gu sm') (hz j x' z hx' hz')
  .rw[GI (by lia)]at hz';have hj2:j-ys.length=0:=by
    cases e:j-ys.length with
    |zero=>rfl
    |succ n=>rw[e]at hz';simp at hz'
   rw[hj2]at hz';cases hz';have ej:j=i:=by lia
   subst ej;rw[hx]at hx';cases hx';exact pz
 .have e:i=xs.length:=Ir hi (Ij hlt);subst e;exact .inl ⟨⟨xs,ha',Gf _⟩,hd D H' ys hD sm hD' hl hz⟩
theorem yE{lo:Int}{n:Nat}{g:TG}{tc:TT}{te:TE}{nv:Nat}{fr:List Nat}{σ:St}{H:Hp}{Q:VK}(Rl:Nat->V->Hp->Prop)(hRl:∀i y H H',Same H H'->Rl i y H->Rl i y H')(hn:n<=sizeLine)
  (hs:∀ (i:Nat) (vs:St) (D:Addr) (H':Hp) (R:V->St->Hp->Prop) (S:St->Hp->Prop),i<n->vs.length=nv->Same H H'->(∃l,H' D=some (.lst l))->
   (∀y vs' H'',Rl i y (hide H'' D)->vs'.length=nv->Same H' H''->R y (vs'++fr.map λj=>(σ[j]?).join) H'')->
   g (.int (lo+i)) (vs++fr.map λj=>(σ[j]?).join) H' λσ2 H3=>tc σ2 H3 λb H4=>if b=true then te σ2 H4 λy H5=>R y σ2 H5 else S σ2 H4)
  (hd:∀D H' (ys:List V),H D=none->Same H H'->H' D=some (.lst ys)->ys.length=n->(∀ (j:Nat) (y:V),ys[j]?=some y->Rl j y (hide H' D))->Q (.ref D) H'):LCW (Itr lo n) g tc te nv fr σ H Q:=by
 intro D hD;refine⟨λi m σ' H'=>m=n-i/\i<=n/\∃ (vs:St) (ys:List V),vs.length=nv/\σ'=vs++(fr.map λj=>(σ[j]?).join)/\Same H H'/\H' D=some (.lst ys)/\ys.length=i/\(∀ (j:Nat) (y:V),ys[j]?=some y->Rl j y (hide H' D)),⟨n,by simp,Hy _,List.replicate nv none,[],by simp,rfl,Same.new hD,aj,rfl,by simp⟩,?_⟩;rintro i m σ' H' ⟨rfl,hi,vs,ys,hv,rfl,sm,hD',hl,hz⟩;by_cases hlt:i<n
 .refine .inr ⟨hlt,λσ'' H''=>∃ (vs:St) (ys:List V),vs.length=nv/\σ''=vs++(fr.map λj=>(σ[j]?).join)/\Same H H''/\H'' D=some (.lst ys)/\ys.length=i+1/\(∀ (j:Nat) (y:V),ys[j]?=some y->Rl j y (hide H'' D)),λσ'' H'' q=>⟨n- (i+1),Ip hlt (Ig _),rfl,hlt,q⟩,λx H2 y=> ?_⟩;obtain⟨e1,e2⟩:=y;subst e1 e2;refine hs i vs D _ (λy σ2 H5=>∃xs',H5 D=some (.lst xs')/\xs'.length<sizeLine/\∃ (vs:St) (ys:List V),vs.length=nv/\σ2=vs++(fr.map λj=>(σ[j]?).join)/\Same H (upd H5 D (.lst (xs'++[y])))/\upd H5 D (.lst (xs'++[y])) D=some (.lst ys)/\ys.length=i+1/\(∀ (j:Nat) (z:V),ys[j]?=some z->Rl j z (hide (upd H5 D (.lst (xs'++[y]))) D))) _ hlt hv sm ⟨_,hD'⟩ (λy vs' H'' pz hv' sm'=> ?_);have hD2:=sm' D _ hD';refine⟨_,hD2,by rw[hl];exact F9 hlt hn,vs',ys++[y],hv',rfl,(sm.trans sm').upd hD,aj,by rw[Gr,hl];rfl,λj z hz'=> ?_⟩;rw[iw];by_cases hj:j<ys.length
  .rw[GH hj]at hz';exact hRl _ _ _ _ (gu sm') (hz j z hz')
  .rw[GI (by lia)]at hz';have hj2:j-ys.length=0:=by
    cases e:j-ys.length with
    |zero=>rfl
    |succ n=>rw[e]at hz';simp at hz'
   rw[hj2]at hz';cases hz';have ej:j=i:=by lia
   subst ej;exact pz
 .have e:i=n:=Ir hi (Ij hlt);subst e;exact .inl ⟨Gf _,hd D H' ys hD sm hD' hl hz⟩
theorem C5{K:PySem.W.Frag}{a b:Addr}{xs ys:List V}{n:Nat}{g:TG}{tc:TT}{te:TE}{nv:Nat}{fr:List Nat}{σ:St}{H:Hp}{Q:VK}(f:Nat->V)(ha:SqL K H a xs)(hb:SqL K H b ys)(hxn:xs.length=n)(hyn:ys.length=n)(hn:n<=sizeLine)
  (hs:∀ (i:Nat) (x y:V) (vs:St) (H':Hp) (t:Addr) (R:V->St->Hp->Prop) (S:St->Hp->Prop),xs[i]?=some x->ys[i]?=some y->vs.length=nv->Same H H'->H' t=none->
   (∀vs' H'',vs'.length=nv->Same (upd H' t (.tup [x,y])) H''->R (f i) (vs'++fr.map λj=>(σ[j]?).join) H'')->
   g (.ref t) (vs++fr.map λj=>(σ[j]?).join) (upd H' t (.tup [x,y])) λσ2 H3=>tc σ2 H3 λb H4=>if b=true then te σ2 H4 λy H5=>R y σ2 H5 else S σ2 H4)
  (hd:∀D H',H D=none->Same H H'->H' D=some (.lst ((List.range n).map f))->Q (.ref D) H'):LCW (Itz K a b) g tc te nv fr σ H Q:=by
 intro D hD;refine⟨λi m σ' H'=>m=n-i/\i<=n/\∃vs:St,vs.length=nv/\σ'=vs++(fr.map λj=>(σ[j]?).join)/\Same H H'/\H' D=some (.lst ((List.range i).map f)),⟨n,by simp,Hy _,List.replicate nv none,by simp,rfl,Same.new hD,aj⟩,?_⟩;rintro i m σ' H' ⟨rfl,hi,vs,hv,rfl,sm,hD'⟩;have ha':SqL K H' a xs:=sm.seq ha;have hb':SqL K H' b ys:=sm.seq hb;by_cases hlt:i<n
 .have lx:i<xs.length:=by lia
  have ly:i<ys.length:=by lia
  refine .inr ⟨⟨xs,ys,xs[i],ys[i],ha',hb',by simp[lx],by simp[ly]⟩,λσ'' H''=>∃vs:St,vs.length=nv/\σ''=vs++(fr.map λj=>(σ[j]?).join)/\Same H H''/\H'' D=some (.lst ((List.range (i+1)).map f)),λσ'' H'' q=>⟨n- (i+1),Ip hlt (Ig _),rfl,hlt,q⟩,λx H2 y=> ?_⟩;obtain⟨t,e1,ht,v,u,e2,e3,e4⟩:=y;subst e1 e4;have hx:=e2 xs ha';have hy:=e3 ys hb';refine hs i v u vs H' t (λy σ2 H5=>∃xs',H5 D=some (.lst xs')/\xs'.length<sizeLine/\∃vs:St,vs.length=nv/\σ2=vs++(fr.map λj=>(σ[j]?).join)/\Same H (upd H5 D (.lst (xs'++[y])))/\upd H5 D (.lst (xs'++[y])) D=some (.lst ((List.range (i+1)).map f))) _ hx hy hv sm ht λvs' H'' hv' sm'=> ?_;have smt:Same H' (upd H' t (.tup [v,u])):=Same.new ht;refine⟨_,sm' D _ (smt D _ hD'),by rw[F3,Gy];exact F9 hlt hn,vs',hv',rfl,((sm.trans smt).trans sm').upd hD,?_⟩;rw[aj,IC,GO];rfl
 .have e:i=n:=Ir hi (Ij hlt);subst e;exact .inl ⟨⟨xs,ys,ha',hb', .inl (by lia)⟩,hd D H' hD sm hD'⟩
def aK(H:Hp)(xs:List V)(M:List (List Int)):Prop:=xs.length=M.length/\∀ (i:Nat) (r:List Int),M[i]?=some r->∃a,xs[i]?=some (.ref a)/\H a=some (.lst (r.map V.int))
theorem aK.same(h:aK H xs M)(e:Same H H'):aK H' xs M:=
 ⟨h.1,λi r hr=>by obtain⟨a,h1,h2⟩:=h.2 i r hr;exact⟨a,h1,e.at h2⟩⟩
theorem aK.at{H:Hp}{xs:List V}{M:List (List Int)}(h:aK H xs M){i:Nat}{y:V}(hy:xs[i]?=some y):∃a r,M[i]?=some r/\y= .ref a/\H a=some (.lst (r.map V.int)):=by
 have hi:i<M.length:=by rw[<-h.1];exact(Ga.mp hy).1
 obtain⟨a,h1,h2⟩:=h.2 i (M[i]) (Gp hi);rw[hy]at h1;exact⟨a,M[i],Gp hi,GY h1,h2⟩
theorem aK.of{ys:List V}{M:List (List Int)}(hl:ys.length=M.length)(h:∀ (j:Nat) (r:List Int) (y:V),M[j]?=some r->ys[j]?=some y->∃a,y= .ref a/\H a=some (.lst (r.map V.int))):aK H ys M:=by
 refine⟨hl,λi r hr=> ?_⟩;have hi:i<ys.length:=by rw[hl];exact(Ga.mp hr).1
 obtain⟨a,e,ha⟩:=h i r _ hr (Gp hi);exact⟨a,by rw[Gp hi,e],ha⟩
def ou(H:Hp)(xs:List V)(M:List (List Int)):Prop:=xs.length=M.length/\∀ (i:Nat) (r:List Int),M[i]?=some r->∃a,xs[i]?=some (.ref a)/\H a=some (.tup (r.map V.int))
theorem ou.ts(h:ou H xs M)(e:gg H H'):ou H' xs M:=
 ⟨h.1,λi r hr=>by obtain⟨a,h1,h2⟩:=h.2 i r hr;exact⟨a,h1,e _ _ h2⟩⟩
theorem ou.at{H:Hp}{xs:List V}{M:List (List Int)}(h:ou H xs M){i:Nat}{y:V}(hy:xs[i]?=some y):∃a r,M[i]?=some r/\y= .ref a/\H a=some (.tup (r.map V.int)):=by
 have hi:i<M.length:=by rw[<-h.1];exact(Ga.mp hy).1
 obtain⟨a,h1,h2⟩:=h.2 i (M[i]) (Gp hi);rw[hy]at h1;exact⟨a,M[i],Gp hi,GY h1,h2⟩
theorem tN{K:PySem.W.Frag}{a:Addr}{xs:List V}{g:TG}{tb:TS}{D:Ends}{σ:St}{H:Hp}(Pv:Nat->St->Hp->Prop)(h0:Pv 0 σ H)(hl:∀i σ H,i<=xs.length->Pv i σ H->SqL K H a xs)
  (hs:∀ (i:Nat) x t σ H,xs[i]?=some x->H t=none->Pv i σ H->g (.ref t) σ (upd H t (.tup [.int (i:Nat),x])) λσ2 H2=>tb {D with nx:=Pv (i+1),ct:=Pv (i+1),bk:=D.nx} σ2 H2) (hd:∀σ H,Pv xs.length σ H->D.nx σ H):
  ∃W:Nat->Nat->St->Hp->Prop,(∃m,W 0 m σ H)/\∀i m σ H,W i m σ H->
   ((Ite K a).stop i H/\D.nx σ H)\/((Ite K a).go i H/\∃N:St->Hp->Prop,(∀σ' H',N σ' H'->∃m',m'<m/\W (i+1) m' σ' H')/\∀x H',(Ite K a).yld i H x H'->g x σ H' λσ2 H2=>tb {D with nx:=N,ct:=N,bk:=D.nx} σ2 H2):=by
 refine⟨λi m σ H=>m=xs.length-i/\i<=xs.length/\Pv i σ H,⟨xs.length,by simp,Hy _,h0⟩,?_⟩;rintro i m σ H ⟨rfl,hi,p⟩;have q:=hl i σ H hi p;by_cases hlt:i<xs.length
 .refine .inr ⟨⟨xs,xs[i],q,by simp[hlt]⟩,Pv (i+1),λσ' H' p'=>⟨xs.length- (i+1),Ip hlt (Ig _),rfl,hlt,p'⟩,λx H' y=> ?_⟩;obtain⟨t,e1,ht,v,e2,e3⟩:=y;subst e1 e3;exact hs i v t σ H (e2 xs q) ht p
 .have e:i=xs.length:=Ir hi (Ij hlt);subst e;exact .inl ⟨⟨xs,q,Gf _⟩,hd σ H p⟩
theorem Dp(xs:List V)(i:Nat):lM xs none (some (i:Int))=xs.take i:=by
 unfold lM;show(xs.drop (HT.sIx _ 0 none)).take (HT.sIx _ _ (some (i:Int)) -HT.sIx _ 0 none)=_;rw[HT.qy,HT.mR,List.drop_zero,Nat.sub_zero];by_cases hk:i<=xs.length
 .rw[J0 hk]
 .rw[Km (by lia),HN,Jf (by lia)]
theorem yW(xs:List V)(i:Nat):lM xs (some (i:Int)) none=xs.drop i:=by
 unfold lM;show(xs.drop (HT.sIx _ 0 (some (i:Int)))).take (HT.sIx _ _ none-HT.sIx _ 0 (some (i:Int)))=_;rw[HT.qy,HT.mR,Jf (by rw[Ja];lia)];by_cases hk:i<=xs.length
 .rw[J0 hk]
 .rw[Km (by lia),List.drop_length,List.drop_of_length_le (by lia)]
theorem tH:∀ {a b:List Int},a.map V.int=b.map V.int->a=b
 | [],[],_=>rfl
 | [],_::_,h=>by simp at h
 |_::_,[],h=>by simp at h
 |x::a,y::b,h=>by
  rw[GP,GP]at h;injection h with h1 h2
  rw[V.int.inj h1,tH h2]
theorem qU{H:Hp}{a:Addr}{r s:List Int}(h:H a=some (.lst (r.map V.int)))(g:H a=some (.lst (s.map V.int))):r=s:=by
 rw[h]at g;injection g with g
 injection g with g
 exact tH g
theorem aK.cut{xs:List V}{M:List (List Int)}(h:aK H xs M)(i:Nat):aK H (xs.take i++xs.drop (i+1)) (M.take i++M.drop (i+1)):=by
 have hl:=h.1;refine⟨by rw[Gr,Gr,GJ,GJ,Ja,Ja,hl],λj r hr=> ?_⟩;by_cases hj:j<(M.take i).length
 .rw[GH hj]at hr;rw[GJ]at hj;rw[I0 (by lia)]at hr;obtain⟨a,h1,h2⟩:=h.2 j r hr;exact⟨a,by rw[GH (by rw[GJ,hl];exact hj),I0 (by lia)];exact h1,h2⟩
 .rw[GI (by lia)]at hr;have e:(xs.take i).length=(M.take i).length:=by rw[GJ,GJ,hl]
  rw[List.getElem?_drop]at hr;obtain⟨a,h1,h2⟩:=h.2 _ r hr;exact⟨a,by rw[GI (by lia),List.getElem?_drop,e];exact h1,h2⟩
section
variable{X:Cx}{e lo st:Expr}{te tl ts:TE}{pos p2:Pos}
end
end L2
namespace L2
open PySem PySem.Spec PyProof.Rows
section
variable{prog:Program}{w:World}{A:Around}{E:Value->Shared->Prop}{s:Shared}
end
section
variable{X:Cx}
end
end L2
namespace L2
open PySem PySem.Spec PySem.W PyProof.Rows
def fJ(i j:Int):Prop:=Builtin.Int.intBits i+Builtin.Int.intBits j<=2^26
theorem fJ.ok(h:fJ i j):IntMulOk i j:=by
 unfold IntMulOk;have h':Builtin.Int.intTooBig ((Builtin.Int.intBits i:Int)+(Builtin.Int.intBits j:Int))=false:=by unfold Builtin.Int.intTooBig;have hb:bitsLine=2^27:=rfl;unfold fJ at h;simp only[hb,decide_eq_false_iff_not];lia
 simp[h']
theorem md:OpR X (binaryOp .Mult) (rI fJ λi j=> .int (i*j)):=opI λ_ _ _ _ _ _ _ hc q=>mul_int q hc.ok
end L2
namespace L2
open PySem PySem.Spec PySem.W PyProof.Rows PySem.SeqAt
def df(H:Hp)(xs:List V)(ts:List (Nat×Nat×Int)):Prop:=xs.length=ts.length/\∀ (i:Nat) (t:Nat×Nat×Int),ts[i]?=some t->∃a,xs[i]?=some (.ref a)/\H a=some (.tup [.int t.1, .int t.2.1, .int t.2.2])
theorem df.ts{H H':Hp}{xs:List V}{ts:List (Nat×Nat×Int)}(h:df H xs ts)(e:gg H H'):df H' xs ts:=
 ⟨h.1,λi t ht=>by obtain⟨a,h1,h2⟩:=h.2 i t ht;exact⟨a,h1,e _ _ h2⟩⟩
theorem df.nil:df H [] []:=⟨rfl,λi t h=>by simp at h⟩
theorem df.append{H:Hp}{xs ys:List V}{ts us:List (Nat×Nat×Int)}(h:df H xs ts)(g:df H ys us):df H (xs++ys) (ts++us):=by
 refine⟨by rw[Gr,Gr,h.1,g.1],λi u hu=> ?_⟩;by_cases hi:i<ts.length
 .rw[GH hi]at hu;obtain⟨b,h1,h2⟩:=h.2 i u hu;exact⟨b,by rw[GH (by rw[h.1];exact hi)];exact h1,h2⟩
 .rw[GI (by lia)]at hu;obtain⟨b,h1,h2⟩:=g.2 _ u hu;exact⟨b,by rw[GI (by rw[h.1];lia),h.1];exact h1,h2⟩
theorem df.one(ha:H a=some (.tup [.int t.1, .int t.2.1, .int t.2.2])):df H [.ref a] [t]:=
 ⟨rfl,λi u hu=>by
  cases i with
  |zero=>cases hu;exact⟨a,rfl,ha⟩
  |succ n=>simp at hu⟩
theorem df.at{H:Hp}{xs:List V}{ts:List (Nat×Nat×Int)}(h:df H xs ts){i:Nat}{y:V}(hy:xs[i]?=some y):∃a t,ts[i]?=some t/\y= .ref a/\H a=some (.tup [.int t.1, .int t.2.1, .int t.2.2]):=by
 have hi:i<ts.length:=by rw[<-h.1];exact(Ga.mp hy).1
 obtain⟨a,h1,h2⟩:=h.2 i (ts[i]) (Gp hi);rw[hy]at h1;exact⟨a,ts[i],Gp hi,GY h1,h2⟩
theorem wV{z:Int}(h:z.natAbs<2^k):Builtin.Int.intBits z<=k:=by
 unfold Builtin.Int.intBits;by_cases h0:z=0
 .subst h0;exact Hy _
 .have e:(z==0)=false:=by simpa using h0
  rw[e];show z.natAbs.log2+1<=k;have:z.natAbs.log2<k:=(Nat.log2_lt (by lia)).mpr h;lia
theorem fJ.of{i j:Int}(hi:i.natAbs<2^k)(hj:j.natAbs<2^m)(h:k+m<=2^26):fJ i j:=by unfold fJ;have:=wV hi;have:=wV hj;lia
theorem rq{i j:Int}(hi:i.natAbs<2^k)(hj:j.natAbs<2^m):(i*j).natAbs<2^(k+m):=by rw[KN,Lk];exact Nat.mul_lt_mul'' hi hj
end L2
namespace L2
open PySem PySem.Spec PySem.W PyProof.Rows
end L2
namespace L2
open PySem PySem.Spec PySem.W PyProof.Rows
def Elt(N:Nat)(p:Array Nat):Prop:=0<N/\∀x∈p.toList,x<N
theorem Elt.at{p:Array Nat}(h:Elt N p)(i:Nat):p.getD i 0<N:=by
 by_cases hi:i<p.size
 .have:p.getD i 0=p[i]:=by simp[Array.getD,hi]
  rw[this];exact h.2 _ (by simp)
 .have:p.getD i 0=0:=by simp[Array.getD,hi]
  rw[this];exact h.1
theorem Elt.of{p q:Array Nat}(h:Elt N p)(e:q.Perm p):Elt N q:=⟨h.1,λx hx=>h.2 x (e.toList.mem_iff.mp hx)⟩
section
variable{P:Program}{w:World}{A:Around}{E:Value->Shared->Prop}{s:Shared}
end
end L2
namespace L2
open PySem PySem.Spec PySem.W PyProof.Rows
def wa(w:Nat->Nat)(p:Array Nat)(t:Nat):Nat:=w (p.getD t 0)
def Cd(w:Nat->Nat)(p:Array Nat)(m:Nat):Prop:=∀i j,i<j->j<m->wa w p i<wa w p j
def vK(w:Nat->Nat)(p:Array Nat)(m:Nat):Prop:=∀i j,i<j->j<m->wa w p j<wa w p i
section
variable{w:Nat->Nat}{N:Nat}
theorem Cd.step(h:Cd w p n)(hn:0<n)(hl:wa w p (n-1)<wa w p n):Cd w p (n+1):=λi j hij hj=>by
 by_cases e:j=n
 .subst e;by_cases e2:i=j-1
  .rw[e2];exact hl
  .exact J5 (h i (j-1) (by lia) (by lia)) hl
 .exact h i j hij (by lia)
theorem vK.step(h:vK w p n)(hn:0<n)(hl:wa w p n<wa w p (n-1)):vK w p (n+1):=λi j hij hj=>by
 by_cases e:j=n
 .subst e;by_cases e2:i=j-1
  .rw[e2];exact hl
  .exact J5 hl (h i (j-1) (by lia) (by lia))
 .exact h i j hij (by lia)
end
end L2
namespace L2
open PySem PySem.Spec PySem.W PyProof.Rows PySem.SeqAt
section
variable{P:Program}{w:World}{A:Around}{E:Value->Shared->Prop}{s:Shared}
end
end L2
namespace L2
section
variable{t u:TS}{σ:St}{H:Hp}{n:St->Hp->Prop}{r:VK}{b c:St->Hp->Prop}
end
theorem EI{α:Type}{p:List α->Prop}(h:p [])(us:List α)(e:us.length=0):p us:=by
 cases us with
 |nil=>exact h
 |cons a r=>cases e
theorem Bi{α:Type}{p:List α->Prop}{n:Nat}(h:∀ (a:α) (r:List α),r.length=n->p (a::r))(us:List α)(e:us.length=n+1):p us:=by
 cases us with
 |nil=>cases e
 |cons a r=>exact h a r (Nat.succ.inj e)
theorem EH{α:Type}{p:List α->Prop}(h:∀a,p [a])(us:List α)(e:us.length=1):p us:=Bi (p:=p) (λa r=>EI (p:=λr=>p (a::r)) (h a) r) us e
theorem EG{α:Type}{p:List α->Prop}(h:∀a b,p [a,b])(us:List α)(e:us.length=2):p us:=Bi (p:=p) (λa r=>EH (p:=λr=>p (a::r)) (h a) r) us e
theorem EF{α:Type}{p:List α->Prop}(h:∀a b c,p [a,b,c])(us:List α)(e:us.length=3):p us:=Bi (p:=p) (λa r=>EG (p:=λr=>p (a::r)) (h a) r) us e
theorem EE{α:Type}{p:List α->Prop}(h:∀a b c d,p [a,b,c,d])(us:List α)(e:us.length=4):p us:=Bi (p:=p) (λa r=>EF (p:=λr=>p (a::r)) (h a) r) us e
theorem Fq{α:Type}{p:List α->Prop}(h:∀a b c d f,p [a,b,c,d,f])(us:List α)(e:us.length=5):p us:=Bi (p:=p) (λa r=>EE (p:=λr=>p (a::r)) (h a) r) us e
end L2
namespace L2
open PySem PySem.Spec PyProof.Rows
section
variable{κ:Type}[DecidableEq κ]
def jw(kvs:List (κ×V))(k:κ):Option V:=(kvs.find? λkv=>decide (kv.1=k)).map (·.2)
def jN(kvs:List (κ×V))(k:κ)(v:V):List (κ×V):=
 if(kvs.any λkv=>decide (kv.1=k))=true then kvs.map (λkv=>if kv.1=k then(kv.1,v)else kv)else kvs++[(k,v)]
theorem mF{p:κ×V}{r:List (κ×V)}{k:κ}(e:p.1=k):jw (p::r) k=some p.2:=by simp[jw,Jt,e]
theorem mG{p:κ×V}{r:List (κ×V)}{k:κ}(e:¬p.1=k):jw (p::r) k=jw r k:=by simp[jw,Jt,e]
theorem rK(k:κ):∀kvs:List (κ×V),(kvs.any λkv=>decide (kv.1=k))=(jw kvs k).isSome
 | []=>rfl
 |p::r=>by
  rw[JU];by_cases e:p.1=k
  .simp only[mF e,F5 e,Bool.true_or,Option.isSome_some]
  .rw[mG e,F4 e,Bool.false_or];exact rK k r
theorem k7(kvs:List (κ×V))(k:κ)(v:V):(jN kvs k v).length<=kvs.length+1:=by
 unfold jN;split
 .rw[F3];lia
 .rw[Gr,GA,Lh];lia
theorem gU.isSome_eq{o:Option V}{u:Option Value}(r:gU o u):o.isSome=u.isSome:=by
 cases o with
 |none=>cases u with
  |none=>rfl
  |some _=>exact(show False from r).elim
 |some _=>cases u with
  |none=>exact(show False from r).elim
  |some _=>rfl
theorem gU.getD{o:Option V}{u:Option Value}(r:gU o u)(rd:a9 d d'):a9 (o.getD d) (u.getD d'):=by
 cases o with
 |none=>cases u with
  |none=>exact rd
  |some _=>exact(show False from r).elim
 |some _=>cases u with
  |none=>exact(show False from r).elim
  |some _=>exact r
theorem KV.val(r:KV kvs vs)(k:κ):gU (jw kvs k) (valueAt vs k):=by
 unfold KV at r
 induction r with
 |nil=>exact Jh
 | @cons p q ps qs h t ih=>
  obtain⟨h1,h2⟩:=h;by_cases e:p.1=k
  .have e':q.1=k:=h1.symm.trans e;have b:valueAt (q::qs) k=some q.2:=by simp[valueAt,Jt,e']
   rw[mF e,b];exact h2
  .have e':¬q.1=k:=λz=>e (h1.trans z);have b:valueAt (q::qs) k=valueAt qs k:=by simp[valueAt,Jt,e']
   rw[mG e,b];exact ih
theorem KV.any{kvs:List (κ×V)}{vs:List (κ×Value)}(r:KV kvs vs)(k:κ):(kvs.any λkv=>decide (kv.1=k))=vs.any λkv=>decide (kv.1=k):=by
 unfold KV at r
 induction r with
 |nil=>rfl
 |cons h t ih=>rw[JU,JU,ih,h.1]
theorem KV.repl{kvs:List (κ×V)}{vs:List (κ×Value)}(r:KV kvs vs)(k:κ)(ry:a9 y u):
  KV (kvs.map λkv=>if kv.1=k then(kv.1,y)else kv) (vs.map λkv=>if kv.1=k then(kv.1,u)else kv):=by
 unfold KV at r⊢
 induction r with
 |nil=>exact .nil
 | @cons p q ps qs h t ih=>
  rw[GP,GP];refine .cons ?_ ih;obtain⟨h1,h2⟩:=h;by_cases e:p.1=k
  .rw[F7 e,F7 (h1.symm.trans e)];exact⟨h1,ry⟩
  .rw[F8 e,F8 (λz=>e (h1.trans z))];exact⟨h1,h2⟩
theorem KV.put(r:KV kvs vs)(k:κ)(ry:a9 y u):KV (jN kvs k y) (stored vs k u):=by
 unfold jN stored;rw[r.any k];by_cases e:(vs.any λkv=>decide (kv.1=k))=true
 .rw[F7 e,F7 e];exact r.repl k ry
 .rw[F8 e,F8 e];exact Paired.snoc r ⟨rfl,ry⟩
theorem KV.keys{kvs:List (κ×V)}{vs:List (κ×Value)}(r:KV kvs vs):kvs.map (·.1)=vs.map (·.1):=by
 unfold KV at r
 induction r with
 |nil=>rfl
 |cons h t ih=>rw[GP,GP,ih,h.1]
theorem KV.length{kvs:List (κ×V)}{vs:List (κ×Value)}(r:KV kvs vs):kvs.length=vs.length:=JT r
end
theorem Bw(r:a9 (kV k) u):(cw P w).is k u=true:=by
 cases k with
 |inl i=>obtain⟨t,e⟩:=(show∃t,u=Value.int i t from r);subst e;exact tj P w i t
 |inr x=>obtain⟨t,e⟩:=(show∃t,u=Value.str x t from r);subst e;exact tf P w x t
theorem pw:∀ {ks:List Key} {us:List Value},Vals (ks.map kV) us->ItemsAre (cw P w) ks us
 | [],_,r=>by rw[Jx]at r;cases r;exact .nil
 |k::ks,_,r=>by
  rw[GP]at r;cases r with
  |cons h t=>exact .cons (Bw h) (pw t)
abbrev KT(H:Hp):List (List Key×V)->List (List Key×Addr×Value)->Prop:=Paired λp q=>p.1=q.1/\H q.2.1=some (.tup (p.1.map kV))/\a9 p.2 q.2.2
theorem KT.val(r:KT H kvs xs)(k:List Key):gU (jw kvs k) ((atKey xs k).map (·.2)):=by
 induction r with
 |nil=>exact Jh
 | @cons p q ps qs h t ih=>
  obtain⟨h1,_,h2⟩:=h;by_cases e:p.1=k
  .have e':q.1=k:=h1.symm.trans e;have b:atKey (q::qs) k=some q.2:=by simp[atKey,Jt,e']
   rw[mF e,b];exact h2
  .have e':¬q.1=k:=λz=>e (h1.trans z);have b:atKey (q::qs) k=atKey qs k:=by simp[atKey,Jt,e']
   rw[mG e,b];exact ih
theorem KT.repl{kvs:List (List Key×V)}{xs:List (List Key×Addr×Value)}(r:KT H kvs xs)(k:List Key)(ry:a9 y u):
  KT H (kvs.map λkv=>if kv.1=k then(kv.1,y)else kv) (xs.map (putAt k u)):=by
 induction r with
 |nil=>exact .nil
 | @cons p q ps qs h t ih=>
  rw[GP,GP];refine .cons ?_ ih;obtain⟨h1,h2,h3⟩:=h;unfold putAt;by_cases e:p.1=k
  .rw[F7 e,F7 (h1.symm.trans e)];exact⟨h1,h2,ry⟩
  .rw[F8 e,F8 (λz=>e (h1.trans z))];exact⟨h1,h2,h3⟩
theorem KT.put(r:KT H kvs xs)(k:List Key)(hb:H b=some (.tup (k.map kV)))(ry:a9 y u):
  KT H (jN kvs k y) (storedH xs k b u):=by
 have e:(kvs.any λkv=>decide (kv.1=k))=(atKey xs k).isSome:=by rw[rK,(r.val k).isSome_eq,Option.isSome_map]
 unfold jN storedH;rw[e];by_cases q:(atKey xs k).isSome=true
 .rw[F7 q,F7 q];exact r.repl k ry
 .rw[F8 q,F8 q];exact Paired.snoc r ⟨rfl,hb,ry⟩
theorem KT.keeps(r:KT H kvs xs)(ht:∀b ys,H b=some (.tup ys)->H' b=some (.tup ys)):KT H' kvs xs:=
 Paired.mapP r λ_ _ z=>⟨z.1,ht _ _ z.2.1,z.2.2⟩
section
variable{P:Program}{w:World}{H:Hp}{h:Heap}{a:Addr}
theorem DE(ok:HOk P w H h)(e:Rd H a u):bC P w H h a u:=e.ok ok
theorem BI{kvs:List (Key×V)}(ok:HOk P w H h)(e:Rd H a (.dK kvs)):kvs.length<=sizeLine/\(a==sysModules)=false/\∃vs,KV kvs vs/\h.DictOf (cw P w) a vs:=
 show bC P w H h a (.dK kvs)from DE ok e
theorem DN{kvs:List (Key×V)}(ok:HOk P w H h)(e:H a=some (.dK kvs)):kvs.length<=sizeLine/\(a==sysModules)=false/\∃vs,KV kvs vs/\h.DictOf (cw P w) a vs:=BI ok (.inl e)
theorem vh{ks:List Key}(ok:HOk P w H h)(e:H a=some (.tup (ks.map kV))):(tupleKind (cw P w)).is h ks a:=by obtain⟨_,its,r,o,h1,h2,n,h3⟩:=(show bC P w H h a (.tup (ks.map kV))from ok a _ e);exact⟨o,its.toArray,n,h1,h2,h3,by simpa using pw r⟩
theorem BH{kvs:List (List Key×V)}(ok:HOk P w H h)(e:Rd H a (.dT kvs)):kvs.length<=sizeLine/\(a==sysModules)=false/\
  ∃xs,KT H kvs xs/\h.DictOfH (tupleKind (cw P w)) a xs:=by
 obtain⟨z,y,xs,r,o,es,ep,h1,h2,h3,h4,h5⟩:=(show bC P w H h a (.dT kvs)from DE ok e);refine⟨z,y,xs,r,o,es,ep,h1,h2,h3,h4,λx hx=> ?_,h5⟩;have all:∀ {l:List (List Key×V)} {m:List (List Key×Addr×Value)},KT H l m->∀x∈m,(tupleKind (cw P w)).is h x.1 x.2.1:=by
  intro l m q
  induction q with
  |nil=>intro x hx;exact nomatch hx
  | @cons p q ps qs hq t ih=>
   intro x hx;rcases Gh.mp hx with e|hx
   .subst e;exact vh ok (by rw[<-hq.1];exact hq.2.1)
   .exact ih x hx
 exact all r x hx
theorem Fz{kvs:List (List Key×V)}(ok:HOk P w H h)(e:H a=some (.dT kvs)):kvs.length<=sizeLine/\(a==sysModules)=false/\
  ∃xs,KT H kvs xs/\h.DictOfH (tupleKind (cw P w)) a xs:=BH ok (.inl e)
end
def rG(H:Hp)(a:Addr)(y:V)(r:Option V):Prop:=
 (∃kvs k,Rd H a (.dK kvs)/\y=kV k/\r=jw kvs k)\/∃kvs k b,Rd H a (.dT kvs)/\y= .ref b/\H b=some (.tup (k.map kV))/\r=jw kvs k
def uB(H:Hp)(a:Addr)(y v:V)(H':Hp):Prop:=
 (∃kvs k,H a=some (.dK kvs)/\y=kV k/\kvs.length<sizeLine/\H'=upd H a (.dK (jN kvs k v)))\/
 ∃kvs k b,H a=some (.dT kvs)/\y= .ref b/\H b=some (.tup (k.map kV))/\kvs.length<sizeLine/\H'=upd H a (.dT (jN kvs k v))
theorem rG.k{H:Hp}{a:Addr}{kvs:List (Key×V)}{k:Key}(e:H a=some (.dK kvs)):rG H a (kV k) (jw kvs k):= .inl ⟨kvs,k, .inl e,rfl,rfl⟩
theorem rG.t{k:List Key}(e:H a=some (.dT kvs))(eb:H b=some (.tup (k.map kV))):rG H a (.ref b) (jw kvs k):= .inr ⟨kvs,k,b, .inl e,rfl,eb,rfl⟩
theorem uB.k{H:Hp}{a:Addr}{kvs:List (Key×V)}{k:Key}{v:V}(e:H a=some (.dK kvs))(hl:kvs.length<sizeLine):uB H a (kV k) v (upd H a (.dK (jN kvs k v))):= .inl ⟨kvs,k,e,rfl,hl,rfl⟩
theorem uB.t{kvs:List (List Key×V)}{k:List Key}(e:H a=some (.dT kvs))(eb:H b=some (.tup (k.map kV)))(hl:kvs.length<sizeLine):
  uB H a (.ref b) v (upd H a (.dT (jN kvs k v))):= .inr ⟨kvs,k,b,e,rfl,eb,hl,rfl⟩
section
variable{X:Cx}{pins:List (Addr×Obj)}{σ:St}{H:Hp}{s:Shared}{a:Addr}{y v:V}{u r:Value}{o:Option V}{A:Around}{E:Value->Shared->Prop}
theorem Inv.big(I:Inv X pins σ H s):sysModules<s.heap.objs.size:=by have h:mainGlobals<s.heap.objs.size:=(I.mod.glob.keeps I.bk).lt;exact J5 (by decide) h
theorem yV(hu:A.units+1<cLine)(I:Inv X pins σ H s)(g:rG H a y (some v))(ry:a9 y u)(h:∀w' s',Inv X pins σ H s'->a9 v w'->Q w' s'):
  wpAny (model X.prog X.w) A (getItem (.ref a) u) Q E s:=by
 rcases g with ⟨kvs,k,e,ey,l⟩|⟨kvs,k,b,e,ey,eb,l⟩
 .subst ey;obtain⟨z,hd,vs,rel,dd⟩:=BI I.hok e;obtain⟨w',hw,rw'⟩:=gU.some_of (v:=v) (o:=valueAt vs k) (by rw[l];exact rel.val k);exact wpAny_getItem_of (Bw ry) dd.mapOf hw (h w' _ (I.tok _) rw')
 .subst ey;cases (show u=Value.ref b from ry);obtain⟨z,hd,xs,rel,dd⟩:=BH I.hok e;obtain⟨w',hw,rw'⟩:=gU.some_of (v:=v) (o:=(atKey xs k).map (·.2)) (by rw[l];exact rel.val k);obtain⟨p,hp,hp2⟩:=Kh.mp hw;refine wpAny_getItem_heap (tupleKind_room_in1 hu) (vh I.hok eb) dd hp ?_;rw[hp2];exact h w' _ (I.tok _) rw'
theorem wU{h':Heap}(I:Inv X pins σ H s)(mu:Mut (H a))(hs:Heap.SameBut a s.heap h')(he:∃q,h'.get? a=some q)(new:bC X.prog X.w (upd H a ob) h' a ob):
  Inv X pins σ (upd H a ob) {s with heap:=h',toks:=t'}:=
 I.write (x:=a) (e:=a) mu (.inl rfl) (λb q hb z=>(hs.2 b hb).trans z) he new
theorem EX{h':Heap}{kvs:List (Key×V)}(z:kvs.length<=sizeLine)(hd:(a==sysModules)=false)(rel:KV kvs vs)(dd:h'.DictOf (cw P w) a vs):
  bC P w H' h' a (.dK kvs):=⟨z,hd,vs,rel,dd⟩
theorem yU(hu:A.units+1<cLine)(I:Inv X pins σ H s)(g:uB H a y v H')(ry:a9 y u)(rv:a9 v r)(h:∀s',Inv X pins σ H' s'->Q () s'):
  wpAny (model X.prog X.w) A (setItem (.ref a) u r) Q E s:=by
 rcases g with ⟨kvs,k,e,ey,l,eH⟩|⟨kvs,k,b,e,ey,eb,l,eH⟩
 .subst ey eH;obtain⟨z,hd,vs,rel,dd⟩:=DN I.hok e;have hz:vs.length<=sizeLine:=by rw[<-rel.length];exact z
  have hl:(jN kvs k v).length<=sizeLine:=by have:=k7 kvs k v;lia
  refine wpAny_setItem_pairs (hsz:=hz) (Bw ry) dd λh' dd' hs=>h _ ?_;have he:∃q,h'.get? a=some q:=let⟨q,_,_,hq,_⟩:=dd';⟨q,hq⟩;exact wU I (by rw[e];exact Jh) hs he (EX hl hd (rel.put k rv) dd')
 .subst ey eH;cases (show u=Value.ref b from ry);obtain⟨z,hd,xs,rel,dd⟩:=Fz I.hok e;have hz:xs.length<=sizeLine:=by rw[<-JT rel];exact z
  have hl:(jN kvs k v).length<=sizeLine:=by have:=k7 kvs k v;lia
  refine wpAny_setItem_heap (hsz:=hz) (tupleKind_room_in1 hu) (vh I.hok eb) dd λh' dd' hs=>h _ ?_;obtain⟨q,es,ep,hq,h2,h3,h4,_,h5⟩:=dd';refine wU I (by rw[e];exact Jh) hs ⟨q,hq⟩ ⟨hl,hd,_,(rel.put k eb rv).keeps λc ys ec=> ?_,q,es,ep,hq,h2,h3,h4,h5⟩;rw[av (gr ec e (λz=>nomatch z))];exact ec
end
section
variable{X:Cx}{pins:List (Addr×Obj)}{σ:St}{H:Hp}{s:Shared}{a:Addr}{kvs:List (Key×V)}{k:Key}{u:Value}{A:Around}{E:Value->Shared->Prop}
end
def FE(i:Expr):Prop:=∀ov iv,subscripted i false ov iv=operate [ov,iv] (getItem ov iv)
theorem Cn{prog:Program}{w:World}{A:Around}{E:Value->Shared->Prop}{s:Shared}{env:Env}{value slice:Expr}{pos:Pos}{T id:String}{Q:Value->Shared->Prop}
  (hl:typeLookup (.type T) "__getitem__"=pure (some (.builtin id))) (hs:FE slice)
  (h:wpAny (model prog w) A (eval value env) (λo s₁=>wpAny (model prog w) A (eval slice env) (λi s₂=>s₂.TypeIs o T/\wpAny (model prog w) A (getItem o i) Q E s₂) E s₁) E s):
  wpAny (model prog w) A (eval (.Subscript value slice pos) env) Q E s:=by
 refine Subscript_ (JP h (λo s₁ h₁=>JP h₁ (λi s₂ h₂=> ?_) λ_ _ x=>x) λ_ _ x=>x);obtain⟨hT,h₂⟩:=h₂;unfold subscriptTail;refine GR ?_;rw[getitemInPython_of_ne hT.not_modules];refine GR (wpAny_specialOf hT hl ?_);have fin:wpAny (model prog w) A (subscripted slice false o i) (λr s₃=>wpAny (model prog w) A (letTemporaryGo value o r>>=λ_=>pure r) Q E s₃) E s₂:=by rw[hs o i];exact wpAny_operating (JP h₂ (λr s₃ h₃=>GR (wpAny_letTemporaryGo (Hx h₃))) λ_ _ x=>x)
 first
  |exact Hx (GR fin)
  |exact GR (Hx (GR fin))
  |exact GR fin
theorem tQ{X:Cx}{pins:List (Addr×Obj)}{σ:St}{H:Hp}{s:Shared}{a:Addr}{y:V}{o:Option V}(I:Inv X pins σ H s)(g:rG H a y o):s.TypeIs (.ref a) "dict":=by
 rcases g with ⟨kvs,k,e,_,_⟩|⟨kvs,k,b,e,_,_,_⟩
 .obtain⟨_,_,vs,_,dd⟩:=BI I.hok e;exact dd.typeIs
 .obtain⟨_,_,xs,_,dd⟩:=BH I.hok e;exact dd.typeIs
def Fb(td ty:TE):TE:=λσ H Q=>td σ H λx H1=>ty σ H1 λy H2=>∃a v,x= .ref a/\rG H2 a y (some v)/\Q v H2
def Fh(td ty tv:TE):TS:=λD σ H=>tv σ H λv H1=>td σ H1 λx H2=>ty σ H2 λy H3=>∃a H4,x= .ref a/\uB H3 a y v H4/\D.nx σ H4
section
variable{X:Cx}{o i e value:Expr}{pos pos' tpos:Pos}{td ty tv:TE}
theorem wB(hu:X.A.units+1<cLine)(ho:PE X o td)(hi:PE X i ty)(hs:FE i):PE X (.Subscript o i pos) (Fb td ty):=by intro pins s σ H Q I h;refine Cn PySem.F.slot_dict_getitem.lookup hs (thn (ho pins s σ H _ I h) λu s1 ⟨x,H1,I1,rx,q1⟩=>thn (hi pins s1 σ H1 _ I1 q1) λiv s2 hq_=> ?_);obtain⟨y,H2,I2,ry,a,v,ex,g,q2⟩:=hq_;subst ex;obtain rfl:u=Value.ref a:=rx;exact⟨tQ I2 g,yV hu I2 g ry λw' s3 I3 rw'=>⟨v,H2,I3,rw',q2⟩⟩
theorem wx(hu:X.A.units+1<cLine)(ho:PE X o td)(hi:PE X i ty)(hv:PE X value tv)(hs:swapsWith value (some (.Subscript o i pos')) pos.line X.env=pure false):
  PS X (.Assign [.Subscript o i pos'] value pos) (Fh td ty tv):=by
 intro pins s σ H D I h;refine wpAny_Assign_Subscript (thn (hv pins s σ H _ I h) λr s1 ⟨v,H1,I1,rv,q1⟩=>thn (ho pins s1 σ H1 _ I1 q1) λu s2 ⟨x,H2,I2,rx,q2⟩=>thn (hi pins s2 σ H2 _ I2 q2) λiv s3 hq_=> ?_) hs;obtain⟨y,H3,I3,ry,a,H4,ex,g,q3⟩:=hq_;subst ex;obtain rfl:u=Value.ref a:=rx;exact yU hu I3 g ry rv λs4 I4=>⟨σ,H4,I4,q3⟩
end
theorem BJ(h:Heap)(hb:sysModules<h.objs.size):bC P w H (h.push {cls:= .type "dict",data:= .dict #[]}) h.objs.size (.dK []):=
 ⟨Hy _,JA.mpr (Ko (GZ hb)),[], .nil,Heap.DictOf.new h⟩
def D0:TE:=λ_ H Q=>∀p,H p=none->Q (.ref p) (upd H p (.dK []))
section
variable{X:Cx}{pos:Pos}
theorem AE:PE X (.Dict [] [] pos) D0:=λpins s σ H Q I h=>
 wpAny_Dict_empty ⟨.ref s.heap.objs.size,_,I.laid (a:=s.heap.objs.size) (o:= .dK []) (t':=s.toks) (λ_ _ q=>GK _ q) (Gf _) (BJ s.heap I.big),rfl,h _ (I.hok.fresh (Gf _))⟩
end
structure M1(X:Cx)(o:Expr)(m:Str)(apos:Pos)(e:Expr)(cpos:Pos):Prop where
 base:attributeBase o m X.env (eval o X.env)=eval o X.env
 few:((backTo cpos (starEach [e] X.env)).all (λx=> !x.1)&&(backToKw cpos (keywordEach [] X.env)).all (λx=>x.1.isSome)
  &&decide (([e]:List Expr).length+([]:List Keyword).length+(if([]:List Keyword).isEmpty then 0 else 1)<30))=true
 line:(apos.endLine==cpos.line)=true
 trees:backTo cpos (starEach [e] X.env)=[(false,eval e X.env)]
structure M2(X:Cx)(o:Expr)(m:Str)(apos:Pos)(e f:Expr)(cpos:Pos):Prop where
 base:attributeBase o m X.env (eval o X.env)=eval o X.env
 few:((backTo cpos (starEach [e,f] X.env)).all (λx=> !x.1)&&(backToKw cpos (keywordEach [] X.env)).all (λx=>x.1.isSome)
  &&decide (([e,f]:List Expr).length+([]:List Keyword).length+(if([]:List Keyword).isEmpty then 0 else 1)<30))=true
 line:(apos.endLine==cpos.line)=true
 trees:backTo cpos (starEach [e,f] X.env)=[(false,eval e X.env),(false,eval f X.env)]
section
variable{X:Cx}{pins:List (Addr×Obj)}{σ:St}{H:Hp}{s:Shared}{a:Addr}{y d:V}{u r:Value}{o:Option V}{A:Around}{E:Value->Shared->Prop}
end
section
variable{X:Cx}{o e f:Expr}{apos cpos:Pos}{td ty tx:TE}
end
section
variable{X:Cx}{pins:List (Addr×Obj)}{σ:St}{H:Hp}{s:Shared}{a:Addr}{kvs:List (Key×V)}{A:Around}{E:Value->Shared->Prop}
end
section
variable{X:Cx}{pins:List (Addr×Obj)}{σ:St}{H:Hp}{s:Shared}{a:Addr}{y:V}{u:Value}{A:Around}{E:Value->Shared->Prop}
end
section
variable{X:Cx}
end
section
variable{κ:Type}[DecidableEq κ]
end
end L2
namespace PySem
open Sem (wp)
end PySem
namespace L2
open PySem PySem.Spec PyProof.Rows
section
variable{X:Cx}{pins:List (Addr×Obj)}{σ:St}
end
end L2
namespace L2
open PySem PySem.Spec PyProof.Rows PySem.W
section
variable{prog:Program}{w:World}{A:Around}{E:Value->Shared->Prop}{s:Shared}{T:String}{r d:Addr}{n:Nat}{P:Nat->Value->Prop}{OK:Heap->Prop}
end
section
variable{X:Cx}{o:Expr}{apos cpos:Pos}{td:TE}
end
end L2
namespace L2
open PySem PySem.Spec PyProof.Rows PySem.W
section
variable{prog:Program}{w:World}{A:Around}{E:Value->Shared->Prop}{s:Shared}
end
theorem o9:∀ {l₁:List α} {l₂:List β},Paired F l₁ l₂->∀ {i:Nat} {a:α},l₁[i]?=some a->∃b,l₂[i]?=some b/\F a b
 |_,_, .nil,i,a,h=>by simp at h
 |_,_, .cons r t,0,a,h=>by simp only[List.getElem?_cons_zero,Option.some.injEq]at h;subst h;exact⟨_,rfl,r⟩
 |_,_, .cons r t,i+1,a,h=>by simp only[J9]at h⊢;exact o9 t h
end L2
namespace L2
open PySem PySem.Spec PyProof.Rows PySem.W
section
variable{X:Cx}{pins:List (Addr×Obj)}{σ:St}
end
end L2
namespace L2
open PySem PySem.Spec PyProof.Rows PySem.W
section
variable{X:Cx}
end
end L2
namespace L2
open PySem PySem.Spec PyProof.Rows PySem.W
end L2
namespace L2
open PySem PySem.Spec PyProof.Rows PySem.W
end L2
namespace L2
open PySem PySem.Spec PyProof.Rows
def FI(mg:Str->Option Value)(h:Heap):Prop:=∃bm o,mg "__builtins__"=some (.ref bm)/\bm≠builtinsNs/\h.get? bm=some o/\o.cls= .type "module"/\o.dict=some builtinsNs/\o.data= .plain
theorem FI.at{h:Heap}(x:FI mg h)(hg:h.Ns mainGlobals mg)(hP:∀o,h.get? P=some o->∃ps,o.data= .fields ps):h.BuiltinsAt mg P:=by
 obtain⟨bm,o,b1,b2,b3,b4,b5,b6⟩:=x;refine⟨bm,o,b1,b2,λq=> ?_,λq=> ?_,b3,b4,b5,b6⟩
 .obtain⟨o',es,ep,e,hd,_⟩:=hg;rw[q,e]at b3;cases b3;rw[hd]at b6;cases b6
 .obtain⟨ps,hd⟩:=hP o (by rw[<-q];exact b3);rw[hd]at b6;cases b6
end L2
namespace L2
open PySem PySem.Spec PySem.W PyProof.Rows
def uC(c:Addr)(q:Str):HO:= .ext λh=>h.CodeRec (.ref c) q
def lu(P:Addr)(H H':Hp):Prop:=∀b o,b≠P->H b=some o->H' b=some o
theorem lu.of(h:Same H H'):lu P H H':=λb o _ e=>h b o e
theorem lu.trans(a:lu P H H1)(b:lu P H1 H2):lu P H H2:=λc o n e=>b c o n (a c o n e)
def B2(H:Hp)(P:Addr)(pos:Pos)(q:Str):Prop:=H P=some (.tbl #[])\/∃c,H P=some (.tbl #[rawInt pos.line,rawInt pos.col, .ref c])/\H c=some (uC c q)
theorem B2.same(h:B2 H P pos q)(e:Same H H'):B2 H' P pos q:=by
 rcases h with h|⟨c,h1,h2⟩
 .exact .inl (e _ _ h)
 .exact .inr ⟨c,e _ _ h1,e _ _ h2⟩
theorem B2.tbl(h:B2 H P pos q):∃ps,H P=some (.tbl ps):=by
 rcases h with h|⟨c,h1,h2⟩
 .exact⟨_,h⟩
 .exact⟨_,h1⟩
section
variable{X:Cx}{pins:List (Addr×Obj)}{σ:St}{H:Hp}{s s':Shared}
theorem Inv.far(I:Inv X pins σ H s)(os:s'.os=s.os)(bare:AllBare s'.gens)(un:Un (frs X.stack) [] H H' s.heap s'.heap)(hok:HOk X.prog X.w H' s'.heap):Inv X pins σ H' s':=by obtain⟨hh,g,d,t,os'⟩:=s';obtain rfl:os'=s.os:=os;exact I.call (h':=hh) (g':=g) (d':=d) (t':=t) (ch:=[]) un hok bare (λb z=>absurd z (by simp))
def lh(X:Cx)(A:Around)(N:List Str)(q:Str)(scope:Scope)(f c:Addr)(clos:List (Str×Addr))(s:Shared)(H:Hp):Cx where
 prog:=X.prog
 w:=X.w
 K:=X.K
 mg:=X.mg
 base:=X.base
 A:=A.deeper (envX q scope s.heap.objs.size f (.ref c) clos)
 N:=N
 s₀:=s
 H₀:=H
 env:=envX q scope s.heap.objs.size f (.ref c) clos
 outer:=X.stack
 stack:=envX q scope s.heap.objs.size f (.ref c) clos::X.stack
 ex:=[]
 fn:=λ_=>false
 calm:=true
 pn:=[]
 xe:=λ_ _=>False
theorem Bo{A:Around}{scope:Scope}{clos:List (Str×Addr)}{binds:List (Str×Value)}{N:List Str}{σ':St}(I:Inv X pins σ H s)(hA:A.frames=some X.stack)(hr:Room k A)
  (ho:s.heap.get? f=some (kla_obj "<lambda>" q params body scope clos pm c ctv)) (hcd:H c=some (uC c q)) (hbind:bindArgs (kla_fn "<lambda>" q params body scope clos pm (.ref c) ctv) ⟨us,[]⟩=pure binds) (hloc:∀y∈binds,scope.names.lookup y.1=some .local)
  (hco:scope.isCoroutine=false) (hgen:scope.isGenerator=false) (hk:scope.kind= .function) (hcell:∀x∈scope.names,x.2≠ .cell)
  (hin:∀x c,clos.lookup x=some c->X.env.cells.lookup x=some c) (hfree:∀x,scope.names.lookup x=some .free->∃c,clos.lookup x=some c)
  (hnames:∀ (i:Nat) (x:Str) (v:V),N[i]?=some x->σ'[i]?=some (some v)->(scope.names.lookup x=some .local/\∃u,a9 v u/\binds.reverse.lookup x=some u)\/(scope.names.lookup x=some .free/\X.env.scope.names.lookup x=some .cell/\∃j:Nat,X.N[j]?=some x/\σ[j]?=some (some v)))
  (hlen:σ'.length=N.length) (hb:PE (lh X A N q scope f c clos s H) body t) (hq:t σ' H Q):
  wpAny (model X.prog X.w) A (call (.ref f) us) (CE X.stack X.prog X.w H s Q) (λ_ _=>False) s:=by
 obtain⟨hrec,_,_⟩:=I.hok c _ hcd;refine wpAny_call (J3 (R:=CR CX0 X.stack X.prog X.w H s Q E0) ?_ λr s' hq=> ?_)
 .refine kla_callFunE hr.depth ho rfl hco hgen rfl hrec ?_;rw[hbind];refine Hx (wpAny_newFunctionEnv hcell hloc (λh₁ hns hsb=> ?_) hk);have hk₁:∀b o,s.heap.get? b=some o->h₁.get? b=some o:=λb o e=>hsb.extBut b o (GZ (GG e)) (GK _ e);refine⟨I.nolimit.keeps hk₁,?_⟩;have noA:∀b:Addr,b∉ (lh X A N q scope f c clos s H).ex:=λb z=>absurd (show b∈([]:List Addr)from z) (by simp);have J:Inv (lh X A N q scope f c clos s H) [] σ' H {s with heap:=h₁,toks:=s.toks+binds.length}:=by
   refine⟨⟨I.mod,hk,rfl,rfl,Gf _,λx y d h1 h2=>I.ok.inj x y d (hin x d h1) (hin y d h2),λx hx=> ?_,λx d h _=>(Gj h).elim,λ_=>hr.hd,Kw hA, .inr ⟨rfl,rfl⟩,λb z=>absurd z (noA b),I.bs,Gd I.ok.bsz I.sz,λb _ _=>noA b,λb z=>absurd z (noA b),I.stack,I.stkFree⟩,
    rfl,I.bare,Un.kept hk₁,⟨_,hns,λi x v h1 h2 h3=> ?_⟩,λx d h=> ?_,I.hok.fresh (Gf _),λx d h=>I.freeC x d (hin x d h),λp hp=>absurd (show p∈([]:List (Addr×Obj))from hp) (by simp),I.hok.kept hk₁,hlen⟩
   .have hx':scope.names.lookup x=some .cell\/scope.names.lookup x=some .free:=hx;rcases hx' with hx|hx
    .exact absurd rfl (hcell _ (Hg hx))
    .exact hfree x hx
   .rcases hnames i x v h1 h2 with ⟨k1,u,ru,e⟩|⟨k1,k2,j,e1,e2⟩
    .exact⟨u,ru, .inl ⟨k1,e⟩⟩
    .obtain⟨m,hm,hl⟩:=I.loc;obtain⟨u,ru,lk⟩:=hl j x v e1 e2 (.inr (.inl k2));refine⟨u,ru, .inr ⟨.inr k1,?_⟩⟩;rcases lk with ⟨z,_⟩|⟨_,d,e,z⟩
     .have z':X.env.scope.names.lookup x=some .local:=z;rw[k2]at z';cases z'
     .obtain⟨d',hd'⟩:=hfree x k1;have:=hin x d' hd';rw[e]at this;cases this;obtain⟨o,z1,z2⟩:=z;exact⟨d,hd',o,hk₁ _ _ z1,z2⟩
   .obtain⟨v,o,z1,z2⟩:=I.cell x d (hin x d h);exact⟨v,o,hk₁ _ _ z1,z2⟩
  show codeAny _ _ (.expr body (envX q scope s.heap.objs.size f (.ref c) clos)) _ _;refine kla_codeExpr (JP (hb [] _ σ' H Q J hq) (λu s' hu=> ?_) λ_ _ z=>z.elim);obtain⟨v,H',J',rv,qv⟩:=hu;exact⟨v,H',J'.os,J'.bare,J'.base,J'.hok,rv,qv⟩
 .cases r with
  |error e=>exact False.elim hq
  |ok fl=>
   cases fl with
   |ret u=>exact hq
   |next=>exact False.elim hq
   |brk=>exact False.elim hq
   |cont=>exact False.elim hq
end
end L2
namespace L2
open PySem PySem.Spec PySem.W PyProof.Rows
theorem HOk.off{h h':Heap}(x:HOk P w H h)(n:H a=none)(k:∀b o,b≠a->h.get? b=some o->h'.get? b=some o):HOk P w H h':=λb u e=>by
 refine(x b u e).stay (λc v hc q=>k c v ?_ q) (λ_ q=>q) λ_ _ q=>q;rcases hc with rfl|hc
 .exact az e n
 .exact az hc n
theorem Un.off{fs:List Addr}{H H':Hp}{h h' h'':Heap}{a:Addr}(u:Un fs [] H H' h h')(ha:h.objs.size<=a)(k:∀b o,b≠a->h'.get? b=some o->h''.get? b=some o):Un fs [] H H' h h'':=by have ne:∀b o,h.get? b=some o->b≠a:=λb o e=>GZ (F9 (GG e) ha);exact⟨λb o e n hb hx=>k b o (ne b o e) (u.keep b o e n hb hx),λb o e n hb hx=>by obtain⟨sl,q⟩:=u.slot b o e n hb hx;exact⟨sl,k b _ (ne b o e) q⟩,u.free,λb o e hx=>by obtain⟨o',q⟩:=u.there b o e hx;exact⟨o',k b _ (ne b o e) q⟩,u.tups,u.frzs,u.tbls⟩
section
variable{prog:Program}{w:World}{A:Around}{E:Value->Shared->Prop}{s:Shared}
end
end L2
namespace L2
open PySem PySem.Spec PySem.W PyProof.Rows
section
variable{prog:Program}{w:World}{A:Around}{E:Value->Shared->Prop}{s:Shared}
end
section
variable{X:Cx}{pins:List (Addr×Obj)}{σ:St}{H:Hp}{s:Shared}
end
end L2
namespace L2
open PySem PySem.Spec PySem.W PyProof.Rows
section
variable{X:Cx}{pins:List (Addr×Obj)}{σ:St}{H:Hp}{s:Shared}
end
end L2
namespace L2
open PySem PySem.Spec PySem.W PyProof.Rows
structure DQ(X:Cx)(params:Arguments)(body:Expr)(scope:Scope)(q x:Str)(fr:List Str)(idx:List Nat)(clos:List (Str×Addr)):Prop where
 dflt:defaultsOf params X.env=([],[])
 cl:closureFor scope X.env=pure clos
 loc:scope.names.lookup x=some .local
 fre:∀y∈fr,scope.names.lookup y=some .free/\X.env.scope.names.lookup y=some .cell
 ix:idx.map (λj=>X.N[j]?)=fr.map some
 bind:∀ (c:Addr) (pm ctv u:Value),bindArgs (kla_fn "<lambda>" q params body scope clos pm (.ref c) ctv) ⟨[u],[]⟩=pure [(x,u)]
 co:scope.isCoroutine=false
 gen:scope.isGenerator=false
 kind:scope.kind= .function
 cell:∀x∈scope.names,x.2≠ .cell
 inn:∀p∈clos,X.env.cells.lookup p.1=some p.2
 has:∀y∈scope.names,y.2= .free->∃c,clos.lookup y.1=some c
theorem DQ.call{X:Cx}{params:Arguments}{body:Expr}{scope:Scope}{q x:Str}{fr:List Str}{idx:List Nat}{clos:List (Str×Addr)}{pins:List (Addr×Obj)}{σ:St}{H:Hp}{s:Shared}{A:Around}{k:Nat}{f c:Addr}{pm ctv u:Value}{v:V}{tb:TE}{Q:VK}(L:DQ X params body scope q x fr idx clos)
  (I:Inv X pins σ H s) (hA:A.frames=some X.stack) (hr:Room k A) (ho:s.heap.get? f=some (kla_obj "<lambda>" q params body scope clos pm c ctv)) (hcd:H c=some (uC c q)) (rv:a9 v u)
  (hb:PE (lh X A (x::fr) q scope f c clos s H) body tb) (hq:tb (some v::idx.map λi=>σ.getD i none) H Q):
  wpAny (model X.prog X.w) A (call (.ref f) [u]) (CE X.stack X.prog X.w H s Q) (λ_ _=>False) s:=by
 have hl:idx.length=fr.length:=by have:=GQ List.length L.ix;simpa using this
 refine Bo I hA hr ho hcd (L.bind c pm ctv u) (λy hy=> ?_) L.co L.gen L.kind L.cell (λy d h=>L.inn _ (Hg h)) (λy h=>L.has _ (Hg h) rfl) (λi y w h1 h2=> ?_) ?_ hb hq
 .rw[Gw.mp hy];exact L.loc
 .cases i with
  |zero=>
   have e1:x=y:=by simpa using h1
   have e2:v=w:=by simpa using h2
   subst e1;subst e2;refine .inl ⟨L.loc,u,rv,?_⟩;show List.lookup x [(x,u)]=some u;simp[List.lookup]
  |succ i=>
   have h1':fr[i]?=some y:=by simpa using h1
   have h2':(idx.map λi=>σ.getD i none)[i]?=some (some w):=by simpa using h2
   obtain⟨k1,k2⟩:=L.fre y (Ge h1');refine .inr ⟨k1,k2,?_⟩;have hi:i<idx.length:=by rw[hl];exact(Ga.mp h1').1
   have e3:(idx.map λj=>X.N[j]?)[i]?=(fr.map some)[i]?:=by rw[L.ix]
   rw[Gs,Gs,h1',Gp hi]at e3;rw[Gs,Gp hi]at h2';refine⟨idx[i],GY e3,?_⟩;have e4:σ.getD idx[i] none=some w:=GY h2';rw[Gb]at e4;cases z:σ[idx[i]]? with
   |none=>rw[z]at e4;cases e4
   |some w'=>rw[z]at e4;exact GQ some e4
 .simp[hl]
end L2
namespace L2
open PySem PySem.Spec PySem.W PyProof.Rows
def eF(H H':Hp):Prop:=∀b o,(∀ps,o≠ .tbl ps)->H b=some o->H' b=some o
theorem eF.of(h:Same H H'):eF H H':=λb o _ e=>h b o e
theorem eF.trans(a:eF H H1)(b:eF H1 H2):eF H H2:=λc o n e=>b c o n (a c o n e)
theorem lu.n(h:lu P H H')(e:H P=some (.tbl ps)):eF H H':=λb o n q=>h b o (λz=>by rw[z,e]at q;cases q;exact n _ rfl) q
theorem eF.ins(h:eF H H')(e:H b=some (.ins C dx fs)):H' b=some (.ins C dx fs):=h b _ (λ_ z=>by cases z) e
theorem eF.lst(h:eF H H')(e:H b=some (.lst xs)):H' b=some (.lst xs):=h b _ (λ_ z=>by cases z) e
theorem eF.tup(h:eF H H')(e:H b=some (.tup xs)):H' b=some (.tup xs):=h b _ (λ_ z=>by cases z) e
theorem eF.tups(h:eF H H'):gg H H':=λb xs e=>h.tup e
theorem eF.seq{K:PySem.W.Frag}{H H':Hp}{a:Addr}{xs:List V}(e:eF H H')(h:SqL K H a xs):SqL K H' a xs:=by
 rcases h with (h|⟨o,h⟩)|h
 .exact .inl (.inl (e.lst h))
 .exact .inl (.inr ⟨o,e a _ (λ_ z=>by cases z) h⟩)
 .exact .inr h
end L2
namespace L2
open PySem PySem.Spec PySem.W PyProof.Rows
section
variable{X:Cx}{pins:List (Addr×Obj)}{σ:St}{H:Hp}{s:Shared}
end
end L2
namespace L2
open PySem PySem.Spec PySem.W PyProof.Rows
end L2
namespace L2
open PySem PySem.Spec PySem.W PyProof.Rows
theorem uZ{M:Model}{A:Around}{E:Value->Shared->Prop}{s:Shared}{scope:Scope}{globals:Addr}{clos:List (Str×Addr)}{x:Str}{u:Value}{qual:Str}{func:Option Addr}{code:Value}{builtins:Addr}{Q:Env->Shared->Prop}(hk:scope.kind= .function)(hx:scope.names.lookup x=some .cell)
  (hc:cellsFrom (s.heap.objs.size+1) scope.names clos=(x,s.heap.objs.size+1)::clos) (hc0:cellsFrom (s.heap.objs.size+1) scope.names []=[(x,s.heap.objs.size+1)])
  (hQ:∀h',h'.Ns s.heap.objs.size (λ_=>none)->h'.IsCell (s.heap.objs.size+1) (some u)->(∀b o,s.heap.get? b=some o->h'.get? b=some o)->Q (newEnv scope s.heap.objs.size globals ((x,s.heap.objs.size+1)::clos) qual func code none builtins) {s with heap:=h'}):
  wpAny M A (newFunctionEnv scope globals clos [(x,u)] qual func code none builtins) Q E s:=by
 simp only[newFunctionEnv,Option.isSome_none,Bool.false_eq_true,if_false];refine GR (wpAny_alloc ?_);refine GR (wpAny_layCells _ (λname kind cells=>by cases hkc:kind==NameKind.cell<;>simp[hkc]) _ _ _ _ ?_);have ok:=cellsFrom_ok scope.names (s.heap.push {cls:= .type "frame",data:= .dict #[]}) (s.heap.objs.size+1) [] ⟨λ_ _ hm=>(nomatch hm),List.Pairwise.nil⟩ (by rw[Ji];exact Gf _);rw[Ji,hc0]at ok;rw[show({s with heap:=s.heap.push {cls:= .type "frame",data:= .dict #[]}}:Shared).heap.objs.size=s.heap.objs.size+1 from Ji ..,hc];have hce:=(ok.empty x (s.heap.objs.size+1) Gn).1;have hns:(pushCells (s.heap.push {cls:= .type "frame",data:= .dict #[]}) scope.names).Ns s.heap.objs.size (λ_=>none):=(Heap.Ns.new s.heap (.type "frame")).keeps (J1 _ _);have kp:∀b o,s.heap.get? b=some o->(pushCells (s.heap.push {cls:= .type "frame",data:= .dict #[]}) scope.names).get? b=some o:=λb o e=>J1 _ _ b o (GK _ e);refine GR ?_;rw[List.forIn_cons];refine GR (GR (wpAny_storeName_cell (env:=newEnv scope s.heap.objs.size globals ((x,s.heap.objs.size+1)::clos) qual func code none builtins) hk hx (by show List.lookup x ((x,s.heap.objs.size+1)::clos)=some _;simp[List.lookup]) hce λh' hc' hs'=>Hx ?_));dsimp only;rw[List.forIn_nil];refine Hx (Hx (hQ h' (hns.sameBut hs' (GZ (Ig _))) hc' λb o e=>hs'.extBut b o (GZ (Kd (GG e))) (kp b o e)))
section
variable{X:Cx}{pins:List (Addr×Obj)}{σ:St}{H:Hp}{s:Shared}
theorem yF{A:Around}{scope:Scope}{clos:List (Str×Addr)}{N:List Str}{σ':St}(I:Inv X pins σ H s)(hA:A.frames=some X.stack)(hr:Room k A)
  (ho:s.heap.get? f=some (kla_obj "<lambda>" q params body scope clos pm c ctv)) (hcd:H c=some (uC c q)) (hbind:bindArgs (kla_fn "<lambda>" q params body scope clos pm (.ref c) ctv) ⟨[u],[]⟩=pure [(x,u)]) (hx:scope.names.lookup x=some .cell) (rv:a9 v0 u)
  (hc:∀m,cellsFrom m scope.names clos=(x,m)::clos) (hc0:∀m,cellsFrom m scope.names []=[(x,m)])
  (hco:scope.isCoroutine=false) (hgen:scope.isGenerator=false) (hk:scope.kind= .function) (hcell:∀y∈scope.names,y.2= .cell->y.1=x) (hxc:clos.lookup x=none)
  (hin:∀x c,clos.lookup x=some c->X.env.cells.lookup x=some c) (hfree:∀x,scope.names.lookup x=some .free->∃c,clos.lookup x=some c)
  (hnames:∀ (i:Nat) (y:Str) (v:V),N[i]?=some y->σ'[i]?=some (some v)->(y=x/\v=v0)\/(scope.names.lookup y=some .free/\X.env.scope.names.lookup y=some .cell/\∃j:Nat,X.N[j]?=some y/\σ[j]?=some (some v)))
  (hlen:σ'.length=N.length) (hb:PE (lh X A N q scope f c ((x,s.heap.objs.size+1)::clos) s H) body t) (hq:t σ' H Q):
  wpAny (model X.prog X.w) A (call (.ref f) [u]) (CE X.stack X.prog X.w H s Q) (λ_ _=>False) s:=by
 obtain⟨hrec,_,_⟩:=I.hok c _ hcd;have lx:List.lookup x ((x,s.heap.objs.size+1)::clos)=some (s.heap.objs.size+1):=by simp[List.lookup]
 have ly:∀y d,List.lookup y ((x,s.heap.objs.size+1)::clos)=some d->(y=x/\d=s.heap.objs.size+1)\/(y≠x/\clos.lookup y=some d):=λy d h=>by
  rw[IW]at h;cases hyx:y==x with
  |true=>rw[hyx]at h;cases h;exact .inl ⟨eq_of_beq hyx,rfl⟩
  |false=>rw[hyx]at h;exact .inr ⟨λz=>by rw[z]at hyx;simp at hyx,h⟩
 have lt:∀y d,clos.lookup y=some d->d<s.heap.objs.size:=λy d h=>by obtain⟨v,o,z1,_⟩:=I.cell y d (hin y d h);exact GG z1
 have lo:∀y d,clos.lookup y=some d->List.lookup y ((x,s.heap.objs.size+1)::clos)=some d:=λy d h=>by
  rw[IW];cases hyx:y==x with
  |true=>rw[eq_of_beq hyx,hxc]at h;cases h
  |false=>exact h
 refine wpAny_call (J3 (R:=CR CX0 X.stack X.prog X.w H s Q E0) ?_ λr s' hq=> ?_)
 .refine kla_callFunE hr.depth ho rfl hco hgen rfl hrec ?_;rw[hbind];refine Hx (uZ hk hx (hc _) (hc0 _) λh₁ hns hcx hk₁=> ?_);refine⟨I.nolimit.keeps hk₁,?_⟩;have noA:∀b:Addr,b∉ (lh X A N q scope f c ((x,s.heap.objs.size+1)::clos) s H).ex:=λb z=>absurd (show b∈([]:List Addr)from z) (by simp);have J:Inv (lh X A N q scope f c ((x,s.heap.objs.size+1)::clos) s H) [] σ' H {s with heap:=h₁}:=by
   refine⟨⟨I.mod,hk,rfl,rfl,Gf _,λy z d h1 h2=> ?_,λy hy=> ?_,λx d h _=>(Gj h).elim,λ_=>hr.hd,Kw hA, .inr ⟨rfl,rfl⟩,λb z=>absurd z (noA b),I.bs,Gd I.ok.bsz I.sz,λb _ _=>noA b,λb z=>absurd z (noA b),I.stack,I.stkFree⟩,
    rfl,I.bare,Un.kept hk₁,⟨_,hns,λi y v h1 h2 h3=> ?_⟩,λy d h=> ?_,I.hok.fresh (Gf _),λy d h=> ?_,λp hp=>absurd (show p∈([]:List (Addr×Obj))from hp) (by simp),I.hok.kept hk₁,hlen⟩
   .rcases ly y d h1 with ⟨e1,e2⟩|⟨e1,e2⟩<;>rcases ly z d h2 with ⟨e3,e4⟩|⟨e3,e4⟩
    .rw[e1,e3]
    .have:=lt z d e4;rw[e2]at this;exact absurd (Nat.lt_of_succ_lt this) (IA _)
    .have:=lt y d e2;rw[e4]at this;exact absurd (Nat.lt_of_succ_lt this) (IA _)
    .exact I.ok.inj y z d (hin y d e2) (hin z d e4)
   .have hy':scope.names.lookup y=some .cell\/scope.names.lookup y=some .free:=hy;rcases hy' with hy|hy
    .have:y=x:=hcell _ (Hg hy) rfl;subst this;exact⟨_,lx⟩
    .obtain⟨d,hd⟩:=hfree y hy;exact⟨d,lo y d hd⟩
   .rcases hnames i y v h1 h2 with ⟨rfl,rfl⟩|⟨k1,k2,j,e1,e2⟩
    .exact⟨u,rv, .inr ⟨.inl hx,_,lx,hcx⟩⟩
    .obtain⟨m,hm,hl⟩:=I.loc;obtain⟨u',ru,lk⟩:=hl j y v e1 e2 (.inr (.inl k2));refine⟨u',ru, .inr ⟨.inr k1,?_⟩⟩;rcases lk with ⟨z,_⟩|⟨_,d,e,z⟩
     .have z':X.env.scope.names.lookup y=some .local:=z;rw[k2]at z';cases z'
     .obtain⟨d',hd'⟩:=hfree y k1;have:=hin y d' hd';rw[e]at this;cases this;obtain⟨o,z1,z2⟩:=z;exact⟨d,lo y d hd',o,hk₁ _ _ z1,z2⟩
   .rcases ly y d h with ⟨e1,e2⟩|⟨e1,e2⟩
    .rw[e2];exact⟨_,hcx⟩
    .obtain⟨v,o,z1,z2⟩:=I.cell y d (hin y d e2);exact⟨v,o,hk₁ _ _ z1,z2⟩
   .rcases ly y d h with ⟨e1,e2⟩|⟨e1,e2⟩
    .rw[e2];exact I.hok.fresh (Lj _)
    .exact I.freeC y d (hin y d e2)
  show codeAny _ _ (.expr body (envX q scope s.heap.objs.size f (.ref c) ((x,s.heap.objs.size+1)::clos))) _ _;refine kla_codeExpr (JP (hb [] _ σ' H Q J hq) (λu s' hu=> ?_) λ_ _ z=>z.elim);obtain⟨v,H',J',rv,qv⟩:=hu;exact⟨v,H',J'.os,J'.bare,J'.base,J'.hok,rv,qv⟩
 .cases r with
  |error e=>exact False.elim hq
  |ok fl=>
   cases fl with
   |ret u=>exact hq
   |next=>exact False.elim hq
   |brk=>exact False.elim hq
   |cont=>exact False.elim hq
end
structure DR(X:Cx)(params:Arguments)(body:Expr)(scope:Scope)(q x:Str)(fr:List Str)(idx:List Nat)(clos:List (Str×Addr)):Prop where
 dflt:defaultsOf params X.env=([],[])
 cl:closureFor scope X.env=pure clos
 loc:scope.names.lookup x=some .cell
 fre:∀y∈fr,scope.names.lookup y=some .free/\X.env.scope.names.lookup y=some .cell
 ix:idx.map (λj=>X.N[j]?)=fr.map some
 bind:∀ (c:Addr) (pm ctv u:Value),bindArgs (kla_fn "<lambda>" q params body scope clos pm (.ref c) ctv) ⟨[u],[]⟩=pure [(x,u)]
 co:scope.isCoroutine=false
 gen:scope.isGenerator=false
 kind:scope.kind= .function
 cell:∀y∈scope.names,y.2= .cell->y.1=x
 xc:clos.lookup x=none
 from1:∀m,cellsFrom m scope.names clos=(x,m)::clos
 from0:∀m,cellsFrom m scope.names []=[(x,m)]
 inn:∀p∈clos,X.env.cells.lookup p.1=some p.2
 has:∀y∈scope.names,y.2= .free->∃c,clos.lookup y.1=some c
theorem DR.call{X:Cx}{params:Arguments}{body:Expr}{scope:Scope}{q x:Str}{fr:List Str}{idx:List Nat}{clos:List (Str×Addr)}{pins:List (Addr×Obj)}{σ:St}{H:Hp}{s:Shared}{A:Around}{k:Nat}{f c:Addr}{pm ctv u:Value}{v:V}{tb:TE}{Q:VK}(L:DR X params body scope q x fr idx clos)
  (I:Inv X pins σ H s) (hA:A.frames=some X.stack) (hr:Room k A) (ho:s.heap.get? f=some (kla_obj "<lambda>" q params body scope clos pm c ctv)) (hcd:H c=some (uC c q)) (rv:a9 v u)
  (hb:PE (lh X A (x::fr) q scope f c ((x,s.heap.objs.size+1)::clos) s H) body tb) (hq:tb (some v::idx.map λi=>σ.getD i none) H Q):
  wpAny (model X.prog X.w) A (call (.ref f) [u]) (CE X.stack X.prog X.w H s Q) (λ_ _=>False) s:=by
 have hl:idx.length=fr.length:=by have:=GQ List.length L.ix;simpa using this
 refine yF (v0:=v) I hA hr ho hcd (L.bind c pm ctv u) L.loc rv L.from1 L.from0 L.co L.gen L.kind L.cell L.xc (λy d h=>L.inn _ (Hg h)) (λy h=>L.has _ (Hg h) rfl) (λi y w h1 h2=> ?_) ?_ hb hq
 .cases i with
  |zero=>
   have e1:x=y:=by simpa using h1
   have e2:v=w:=by simpa using h2
   exact .inl ⟨e1.symm,e2.symm⟩
  |succ i=>
   have h1':fr[i]?=some y:=by simpa using h1
   have h2':(idx.map λi=>σ.getD i none)[i]?=some (some w):=by simpa using h2
   obtain⟨k1,k2⟩:=L.fre y (Ge h1');refine .inr ⟨k1,k2,?_⟩;have hi:i<idx.length:=by rw[hl];exact(Ga.mp h1').1
   have e3:(idx.map λj=>X.N[j]?)[i]?=(fr.map some)[i]?:=by rw[L.ix]
   rw[Gs,Gs,h1',Gp hi]at e3;rw[Gs,Gp hi]at h2';refine⟨idx[i],GY e3,?_⟩;have e4:σ.getD idx[i] none=some w:=GY h2';rw[Gb]at e4;cases z:σ[idx[i]]? with
   |none=>rw[z]at e4;cases e4
   |some w'=>rw[z]at e4;exact GQ some e4
 .simp[hl]
end L2
namespace L2
open PySem PySem.Spec PyProof.Rows PySem.W
def i0(ps:List (Int×V)):List (Key×V):=ps.map λp=>(Sum.inl p.1,p.2)
def Cz:List V->Hp->VK->Prop:=λxs H Q=>∃ (d:Addr) (ps:List (Int×V)),xs=[.ref d]/\H d=some (.dK (i0 ps))/\∀l,H l=none->Q (.ref l) (upd H l (.lst ((ps.map (·.1)).map V.int)))
theorem tY{X:Cx}(hc:X.calm=true):cE X (.type "list") Cz:=by
 intro pins s σ H xs us Q I rv h;obtain⟨d,ps,rfl,hd,q⟩:=h;obtain⟨u,rfl,ru⟩:=kN rv;cases ru;obtain⟨z,hds,vs,rel,dd⟩:=DN I.hok hd;obtain⟨ep,hat⟩:=dd.dictAt;have hlen:(i0 ps).length=vs.length:=JT rel;have hps:(i0 ps).length=ps.length:=by unfold i0;rw[F3]
 refine kdl_call (kdl_dict (knd:=cw X.prog X.w) (kvs:=vs) (ep:=ep) hds) (I.ok.hd hc) hat (by lia) λh' tk acc c hk hD hacc=> ?_;have hv:Vals ((ps.map (·.1)).map V.int) acc.toList:=by
  have go:∀ (l:List Int) (us:List Value),l.length=us.length->(∀ (i:Nat) (z:Int) (u:Value),l[i]?=some z->us[i]?=some u->∃t,u= .int z t)->Vals (l.map V.int) us:=λl=>by
   induction l with
   |nil=>intro us hl _;have:us=[]:=JK hl.symm;subst this;exact .nil
   |cons z l ih=>
    intro us hl hu;cases us with
    |nil=>cases hl
    |cons u us=>
     obtain⟨t,e⟩:=hu 0 z u rfl rfl;exact .cons ⟨t,e⟩ (ih us (Nat.succ.inj hl) λi z' u' h1 h2=>hu (i+1) z' u' (by simpa using h1) (by simpa using h2))
  refine go _ _ (by have h1:acc.toList.length=acc.size:=JB;rw[F3,h1,hacc.1];lia) λi z u h1 h2=> ?_;obtain⟨k,x,g1,g2⟩:=hacc.2 i u (by rw[<-JM];exact h2);rw[Gs]at h1;cases hp:ps[i]? with
  |none=>rw[hp]at h1;cases h1
  |some p=>
   rw[hp]at h1;cases h1;have hkv:(i0 ps)[i]?=some (Sum.inl p.1,p.2):=by unfold i0;rw[Gs,hp];rfl
   obtain⟨kv',g3,g4⟩:=o9 rel hkv;rw[g1]at g3;cases g3;have g5:nK k u=true:=g2;have g6:(Sum.inl p.1:Key)=k:=g4.1;rw[<-g6]at g5;rcases bG g5 with ⟨j,t,e1,e2⟩|⟨j,t,e1,e2⟩
   .cases e1;exact⟨t,e2⟩
   .cases e1
 refine⟨.ref s.heap.objs.size,_,I.laid (t':=tk) hk (Gf _) (show bC X.prog X.w _ _ _ (.lst _)from⟨?_,acc.toList,c,hv,?_⟩),rfl,q _ (I.hok.fresh (Gf _))⟩
 .rw[F3,F3];lia
 .rw[Kz];exact hD
theorem DT(ps:List (Int×V))(z:Int):jw (i0 ps) (Sum.inl z)=(ps.find? λp=>decide (p.1=z)).map (·.2):=by
 unfold jw i0;rw[List.find?_map];have:(λkv:Key×V=>decide (kv.1=Sum.inl z))∘(λp:Int×V=>((Sum.inl p.1:Key),p.2))=λp=>decide (p.1=z):=by funext p;show decide ((Sum.inl p.1:Key)=Sum.inl z)=_;rw[vi];by_cases e:p.1=z<;>simp[e]
 rw[this];cases ps.find? λp=>decide (p.1=z)<;>rfl
def CC(ps:List (Int×V))(z:Int)(v:V):List (Int×V):=if(ps.any λp=>decide (p.1=z))=true then ps.map (λp=>if p.1=z then(p.1,v)else p)else ps++[(z,v)]
theorem Ec(ps:List (Int×V))(z:Int)(v:V):jN (i0 ps) (Sum.inl z) v=i0 (CC ps z v):=by
 unfold jN CC;have e1:((i0 ps).any λkv=>decide (kv.1=Sum.inl z))=ps.any λp=>decide (p.1=z):=by unfold i0;rw[List.any_map];congr 1;funext p;show decide ((Sum.inl p.1:Key)=Sum.inl z)=_;rw[vi];by_cases e:p.1=z<;>simp[e]
 rw[e1];split
 .unfold i0;rw[Hc,Hc];refine HP λp _=> ?_;show(if(Sum.inl p.1:Key)=Sum.inl z then((Sum.inl p.1:Key),v)else(Sum.inl p.1,p.2))=((Sum.inl (if p.1=z then(p.1,v)else p).1:Key),(if p.1=z then(p.1,v)else p).2);by_cases e:p.1=z
  .rw[F7 e,F7 (by rw[e])]
  .rw[F8 e,F8 λq=>e (Sum.inl.inj q)]
 .unfold i0;rw[GO];rfl
end L2
namespace L2
open PySem PySem.Spec PyProof.Rows PySem.W
theorem Bj{K:PySem.W.Frag}{a:Addr}{xs:List V}{g:TG}{tc:TT}{te:TE}{nv:Nat}{fr:List Nat}{σ:St}{H:Hp}{Q:VK}(Rl:Nat->V->Hp->Prop)(hRl:∀i y H H',Same H H'->Rl i y H->Rl i y H')(ha:SqL K H a xs)(hn:xs.length<=sizeLine)
  (hs:∀ (i:Nat) (x:V) (vs:St) (D:Addr) (H':Hp) (R:V->St->Hp->Prop) (S:St->Hp->Prop),xs[i]?=some x->vs.length=nv->Same H H'->(∃l,H' D=some (.lst l))->
   (∀y vs' H'',Rl i y (hide H'' D)->vs'.length=nv->Same H' H''->R y (vs'++fr.map λj=>(σ[j]?).join) H'')->
    g x (vs++fr.map λj=>(σ[j]?).join) H' λσ2 H3=>tc σ2 H3 λb H4=>if b=true then te σ2 H4 λy H5=>R y σ2 H5 else S σ2 H4)
  (hd:∀D H' (ys:List V),H D=none->Same H H'->H' D=some (.lst ys)->ys.length=xs.length->(∀ (j:Nat) (y:V),ys[j]?=some y->Rl j y (hide H' D))->Q (.ref D) H'):LCW (Itl K a) g tc te nv fr σ H Q:=by
 intro D hD;refine⟨λi m σ' H'=>m=xs.length-i/\i<=xs.length/\∃ (vs:St) (ys:List V),vs.length=nv/\σ'=vs++(fr.map λj=>(σ[j]?).join)/\Same H H'/\H' D=some (.lst ys)/\ys.length=i/\(∀ (j:Nat) (y:V),ys[j]?=some y->Rl j y (hide H' D)),⟨xs.length,by simp,Hy _,List.replicate nv none,[],by simp,rfl,Same.new hD,aj,rfl,by simp⟩,?_⟩;rintro i m σ' H' ⟨rfl,hi,vs,ys,hv,rfl,sm,hD',hl,hz⟩;have ha':SqL K H' a xs:=sm.seq ha;by_cases hlt:i<xs.length
 .refine .inr ⟨⟨xs,xs[i],ha',by simp[hlt]⟩,λσ'' H''=>∃ (vs:St) (ys:List V),vs.length=nv/\σ''=vs++(fr.map λj=>(σ[j]?).join)/\Same H H''/\H'' D=some (.lst ys)/\ys.length=i+1/\(∀ (j:Nat) (y:V),ys[j]?=some y->Rl j y (hide H'' D)),λσ'' H'' q=>⟨xs.length- (i+1),Ip hlt (Ig _),rfl,hlt,q⟩,λx H2 y=> ?_⟩;obtain⟨e1,e2⟩:=y;subst e1;have hx:=e2 xs ha';refine hs i x vs D _ (λy σ2 H5=>∃xs',H5 D=some (.lst xs')/\xs'.length<sizeLine/\∃ (vs:St) (ys:List V),vs.length=nv/\σ2=vs++(fr.map λj=>(σ[j]?).join)/\Same H (upd H5 D (.lst (xs'++[y])))/\upd H5 D (.lst (xs'++[y])) D=some (.lst ys)/\ys.length=i+1/\(∀ (j:Nat) (z:V),ys[j]?=some z->Rl j z (hide (upd H5 D (.lst (xs'++[y]))) D))) _ hx hv sm ⟨_,hD'⟩ (λy vs' H'' pz hv' sm'=> ?_);have hD2:=sm' D _ hD';refine⟨_,hD2,by rw[hl];exact F9 hlt hn,vs',ys++[y],hv',rfl,(sm.trans sm').upd hD,aj,by rw[Gr,hl];rfl,λj z hz'=> ?_⟩;rw[iw];by_cases hj:j<ys.length
  .rw[GH hj]at hz';exact hRl _ _ _ _ (gu sm') (hz j z hz')
  .rw[GI (by lia)]at hz';have hj2:j-ys.length=0:=by
    cases e:j-ys.length with
    |zero=>rfl
    |succ n=>rw[e]at hz';simp at hz'
   rw[hj2]at hz';cases hz';have ej:j=i:=by lia
   subst ej;exact pz
 .have e:i=xs.length:=Ir hi (Ij hlt);subst e;exact .inl ⟨⟨xs,ha',Gf _⟩,hd D H' ys hD sm hD' hl hz⟩
end L2
namespace L2
open PySem PySem.Spec PySem.W PyProof.Rows PySem.SeqAt
def CFd(_ j:Int):Prop:=j≠0/\j.natAbs.log2<9000
theorem AM:OpR X (binaryOp .FloorDiv) (rI CFd λi j=> .int (i.fdiv j)):=opI λ_ _ _ _ _ _ _ hc q=>floordiv_int hc.1 q (.inl (PyProof.noPylong_of_log2 hc.2))
end L2
namespace L2
open PySem PySem.Spec PyProof.Rows
theorem sc_of{N P:List Str}{sc:Scope}(a:sc.kind= .function:=by rfl)(b:sc.isCoroutine=false:=by rfl)(c:sc.isGenerator=false:=by rfl)(d:N.Nodup:=by decide+kernel)(e:N.take P.length=P:=by rfl)(f:∀x∈P,sc.names.lookup x=some .local\/sc.names.lookup x=some .cell:=by decide+kernel)(g:∀y∈sc.names,y.2≠ .free:=by decide+kernel):aB N P sc:=⟨a,b,c,d,e,f,g⟩
section
variable{X:Cx}{x:Str}{ps:List Str}{j k:Nat}{sp:Sp}{e a b tg:Expr}{es:List Expr}{t:TA}{p pos:Pos}{ta tb te:TE}
theorem wcal(C:Cal X.prog X.w X.K X.mg X.base j x ps sp)(hr:Room k X.A)(ha:PA X (e::es) t)(hjk:j<=k:=by first|decide|lia)(hg:Gl X x:=by rfl)(hdb:(x==("__debug__":Str))=false:=by decide)
  (he:starEach (e::es) X.env=(false,eval e X.env)::starEach es X.env:=by rfl) (hpl:(backTo pos (starEach es X.env)).any (·.1)=false:=by rfl):PE X (.Call (.Name x p) (e::es) [] pos) (zX sp [] E0 t):=Ep C hr hjk hg ha hdb he hpl
theorem wset(i:Nat){pos':Pos}(hN:X.N.Nodup)(he:PE X e te)(hi:X.N[i]?=some x:=by rfl)(hx:Loc X.env.scope x:=by first|exact Kx rfl|exact Or.inr rfl)(hs:swapsWith e (some (.Name x pos')) pos.line X.env=pure false:=by rfl)(hf:X.fn x=true\/X.env.scope.names.lookup x=some .local:=by first|exact .inl rfl|exact .inr rfl|assumption):PS X (.Assign [.Name x pos'] e pos) (uG te (aS i)):=Ay hN hi hx he hs hf
theorem wname(i:Nat)(hN:X.N.Nodup)(hi:X.N[i]?=some x:=by rfl)(hx:Loc X.env.scope x:=by first|exact Kx rfl|exact Or.inr rfl)(hf:X.fn x=true\/X.env.scope.names.lookup x=some .local:=by first|exact .inl rfl|exact .inr rfl|assumption):PG X (.Name x pos) (aS i):=wz hN hi hx hf
theorem bS(K:PySem.W.Frag)(ha:PE X a ta)(hb:PE X b tb)(h:X.K=K:=by rfl)(hs:rD b:=by intro _ _;rfl):PE X (.Subscript a b pos) (tOp (Av K) ta tb):=wA (nL h) ha hb hs
theorem fh(K:PySem.W.Frag)(ha:PE X a ta)(hb:PE X b tb)(h:X.K=K:=by rfl)(hs:rD b:=by intro _ _;rfl):PE X (.Subscript a b pos) (tOp (Eb K) ta tb):=wA (C8 h) ha hb hs
theorem wlen(K:PySem.W.Frag)(hm:X.mg "len"=none)(ha:PE X e te)(h:X.K=K:=by rfl)(hg:Gl X "len":=by rfl)(he:starEach [e] X.env=(false,eval e X.env)::starEach [] X.env:=by rfl)(hpl:(backTo pos (starEach [] X.env)).any (·.1)=false:=by rfl):PE X (.Call (.Name "len" p) [e] [] pos) (tCB (DG K) (zW te Cj)):=
 cj (oW h) hg hm Lq (aa ha af he) (by decide) (by decide) he hpl
theorem wrng(hm:X.mg "range"=none)(ha:PE X a ta)(hg:Gl X "range":=by rfl)(hs:starEach [a] X.env=[(false,eval a X.env)]:=by rfl)(he:starEach [a] X.env=(false,eval a X.env)::starEach [] X.env:=by rfl):PI X tg (.Call (.Name "range" p) [a] [] pos) (DK (zW ta Cj)):=xU hg hm (aa ha af he) hs
theorem wil(K:PySem.W.Frag)(hl:PE X e te)(h:X.K=K:=by rfl):PI X tg e (Bx K te):=AB h hl
theorem wit(K:PySem.W.Frag)(hl:PE X e te)(h:X.K=K:=by rfl):PI X tg e (EN K te):=CG h hl
theorem wfor{body:List Stmt}{wi:TI}{g:TG}{tb:TS}(hi:PI X tg e wi)(hg:PG X tg g)(hb:PSs X body tb)(hp:PassesOwn (model X.prog X.w) X.A X.env X.xe:=by exact PassesOwn.never)(hc:X.calm=true:=by rfl)(hs:∀x,foldedSetIterable e X.env x=pure x:=by intro _;rfl):PS X (.For tg e body [] pos) (E8 wi g tb):=Ed hp hc hi hg hb hs
theorem wpt{op:CmpOp}{r:R2}(ho:OpR X (compareOp op) r)(ha:PE X a ta)(hb:PE X b tb)(hm:behindInMarks op b=false:=by exact nomark _):PT X (.Compare a [op] [b] pos) (Dy (tOp r ta tb)):=qF ho ha hb hm
theorem wpe{op:CmpOp}{r:R2}(ho:OpR X (compareOp op) r)(ha:PE X a ta)(hb:PE X b tb)(hm:behindInMarks op b=false:=by exact nomark _):PE X (.Compare a [op] [b] pos) (tOp r ta tb):=wC ho ha hb hm
theorem wfld(K:PySem.W.Frag){f:Str}(he:PE X e ta)(h:X.K=K:=by rfl)(hb:attributeBase e f X.env (eval e X.env)=eval e X.env:=by rfl):PE X (.Attribute e f pos) (DZ K ta f):=CM h he hb
theorem wsf(K:PySem.W.Frag){f:Str}{pos':Pos}(ha:PE X a ta)(hv:PE X b tb)(h:X.K=K:=by rfl)(hs:swapsWith b (some (.Attribute a f pos')) pos.line X.env=pure false:=by rfl):PS X (.Assign [.Attribute a f pos'] b pos) (D5 K ta tb f):=CD h ha hv hs
end
section
variable{X:Cx}{elt target iter:Expr}{ifs:List Expr}{sc:Scope}{pos:Pos}{wi:TI}{g:TG}{tc:TT}{te:TE}
theorem wnC(i:Nat){x:Str}{N N':List Str}{s₃:Shared}{H₃:Hp}{fp:List Addr}{pins:List (Addr×Obj)}(hN:(N++N').Nodup:=by decide+kernel)(hi:(N++N')[i]?=some x:=by rfl)(hx:Loc (bx X (N++N') sc s₃ H₃ fp pins).env.scope x:=by first|exact Kx rfl|exact Or.inr rfl)(hf:(bx X (N++N') sc s₃ H₃ fp pins).fn x=true\/(bx X (N++N') sc s₃ H₃ fp pins).env.scope.names.lookup x=some .local:=by first|exact .inl rfl|exact .inr rfl|assumption):PG (bx X (N++N') sc s₃ H₃ fp pins) (.Name x pos) (aS i):=wz hN hi hx hf
theorem wlc(vars frn:List Str)(fr:List Nat)(hi:PI X target iter wi)(hg:∀ {s₃ H₃ fp pins},PG (bx X (vars++frn) sc s₃ H₃ fp pins) target g)(ht:∀ {s₃ H₃ fp pins},PTs (bx X (vars++frn) sc s₃ H₃ fp pins) ifs tc)(he:∀ {s₃ H₃ fp pins},PE (bx X (vars++frn) sc s₃ H₃ fp pins) elt te)(hc:X.calm=true:=by rfl)
  (hfk0:sc.names.all (λy=> !(y.2== .free)||(X.env.kindOf y.1==some .cell||X.env.kindOf y.1==some .free))=true:=by rfl) (hno:sc.names.all (λy=> !(y.2== .cell)|| !(frn.contains y.1))=true:=by rfl) (hkind:sc.kind= .function:=by rfl) (hnames0:sc.names.all (λy=> !(y.2== .local)||(sc.names.lookup y.1==some .local))=true:=by rfl)
  (hfr:lO X sc fr frn:=by repeat (first|exact Jh|refine⟨⟨by rfl,Kx (by rfl),Kx (by rfl)⟩,?_⟩)) (hs:∀x,foldedSetIterable iter X.env x=pure x:=by intro _;rfl):PE X (.ListComp elt [⟨target,iter,ifs,0⟩] sc pos) (tLC wi g tc te vars.length fr):=En hc hfk0 hno hkind hnames0 hfr hi (λ_ _ _ _=>hg) (λ_ _ _ _=>ht) (λ_ _ _ _=>he) hs
theorem wls(i:Nat){x:Str}{px spos:Pos}(hN:X.N.Nodup)(vars frn:List Str)(fr:List Nat)(hi:PI X target iter wi)(hg:∀ {s₃ H₃ fp pins},PG (bx X (vars++frn) sc s₃ H₃ fp pins) target g)(ht:∀ {s₃ H₃ fp pins},PTs (bx X (vars++frn) sc s₃ H₃ fp pins) ifs tc)(he:∀ {s₃ H₃ fp pins},PE (bx X (vars++frn) sc s₃ H₃ fp pins) elt te)(hi0:X.N[i]?=some x:=by rfl)(hx:X.env.kindOf x=some .local:=by rfl)(hc:X.calm=true:=by rfl)
  (hfk0:sc.names.all (λy=> !(y.2== .free)||(X.env.kindOf y.1==some .cell||X.env.kindOf y.1==some .free))=true:=by rfl) (hno:sc.names.all (λy=> !(y.2== .cell)|| !(frn.contains y.1))=true:=by rfl) (hkind:sc.kind= .function:=by rfl) (hnames0:sc.names.all (λy=> !(y.2== .local)||(sc.names.lookup y.1==some .local))=true:=by rfl)
  (hfr:lO X sc fr frn:=by repeat (first|exact Jh|refine⟨⟨by rfl,Kx (by rfl),Kx (by rfl)⟩,?_⟩)) (hsw:swapsWith (.ListComp elt [⟨target,iter,ifs,0⟩] sc pos) (some (.Name x px)) spos.line X.env=pure true:=by rfl)
  (hs:∀x,foldedSetIterable iter X.env x=pure x:=by intro _;rfl):PS X (.Assign [.Name x px] (.ListComp elt [⟨target,iter,ifs,0⟩] sc pos) spos) (uG (tLC wi g tc te vars.length fr) (aS i)):=xN hN hi0 hx hc hfk0 hno hkind hnames0 hfr hi (λ_ _ _ _=>hg) (λ_ _ _ _=>ht) (λ_ _ _ _=>he) hsw hs
end
end L2
namespace L2
open PySem PyProof PyProof.Rows
section
variable{X:Cx}{tg:Expr}
def E3(ta:TA):TE:=λσ H Q=>ta σ H λvs H1=>∃i j:Int,vs=[.int i, .int j]/\∀p,H1 p=none->Q (.ref p) (upd H1 p (.rng i j))
theorem CJ{a b:Expr}{ta:TA}{p pos:Pos}(hg:Gl X "range")(hm:X.mg "range"=none)(ha:PA X [a,b] ta)(hs:starEach [a,b] X.env=[(false,eval a X.env),(false,eval b X.env)]:=by rfl)(hs2:starEach [b] X.env=[(false,eval b X.env)]:=by rfl):
  PE X (.Call (.Name "range" p) [a,b] [] pos) (E3 ta):=by
 intro pins s σ H Q I h;refine Call_ (gc I hg hm boot_range (Iz (thn (ha pos pins s σ H _ I h) λus s1 ⟨vs,H1,I1,r1,q1⟩=> ?_) (by rw[hs,hs2]) (by rw[hs2];rfl)));obtain⟨i,j,e,q⟩:=q1;subst e;cases r1 with
 |cons r rr=>
  cases rr with
  |cons r' rr=>
   cases rr;obtain⟨t,rfl⟩:=r;obtain⟨t',rfl⟩:=r';refine call_range_2 ?_;exact⟨.ref s1.heap.objs.size,_,I1.laid (λb o e=>GK _ e) (Gf _) (show bC X.prog X.w _ _ _ (.rng i j)from⟨_,_,_,HJ _ rfl⟩),rfl,q _ (I1.hok.fresh (Gf _))⟩
end
def Cw:List V->Hp->VK->Prop:=λxs H Q=>∃ (p:Addr) (n:Nat),xs=[.ref p]/\H p=some (.rng 1 ((n+1:Nat):Int))/\n<=1000/\∀l,H l=none->Q (.ref l) (upd H l (.lst (((List.range' 1 n).map λi:Nat=>(i:Int)).map V.int)))
theorem tX{X:Cx}(hc:X.calm=true):cE X (.type "list") Cw:=by
 intro pins s σ H vs us Q I rv h;obtain⟨p,n,rfl,hp,hn,q⟩:=h;obtain⟨u,rfl,ru⟩:=kN rv;cases ru;obtain⟨t,u,v,e⟩:=I.hok p _ hp;have hr:IsRange s.heap p 1 ((n+1:Nat):Int) 1 t u v:=e;refine call_list_range (n:=n) (I.ok.hd hc) hr (small_one (by decide) (by decide) (by lia) (by lia)) (by rw[rangeSize_one];split<;>lia) (by lia) λh' tk acc' c' hk hD hI=> ?_;have hv:Vals (((List.range' 1 n).map λi:Nat=>(i:Int)).map V.int) acc'.toList:=by refine jb acc'.toList n 1 (by rw[JB];exact hI.1) λi w hw=> ?_;obtain⟨t',e'⟩:=hI.2 i w (by rw[<-hw,JM]);exact⟨t',by rw[e'];congr 1;lia⟩
 refine⟨.ref s.heap.objs.size,_,I.laid (t':=tk) hk (Gf _) (show bC X.prog X.w _ _ _ (.lst _)from⟨?_,acc'.toList,c',hv,?_⟩),rfl,q _ (I.hok.fresh (Gf _))⟩
 .rw[F3,F3,List.length_range'];exact Gd hn (by decide)
 .rw[Kz];exact hD
end L2
namespace Bh
def bits(n:Nat):List Int:=((List.range 8).filter n.testBit).map λ(k:Nat)=>(k:Int)
theorem bO{n:Nat}:z∈bits n↔∃k:Nat,k<8/\n.testBit k=true/\z=k:=by
 unfold bits;simp only[Gz,GN,Gk];constructor
 .rintro⟨k,⟨h1,h2⟩,rfl⟩;exact⟨k,h1,h2,rfl⟩
 .rintro⟨k,h1,h2,rfl⟩;exact⟨k,⟨h1,h2⟩,rfl⟩
theorem jY{n k:Nat}(h:k<8):(k:Int)∈bits n↔n.testBit k=true:=by
 rw[bO];constructor
 .rintro⟨j,_,h2,e⟩;have:k=j:=by lia
  rw[this];exact h2
 .intro h2;exact⟨k,h,h2,rfl⟩
theorem gM(h:z∈bits n):0<=z/\z<8:=by obtain⟨k,h1,_,rfl⟩:=bO.mp h;lia
theorem aN(n:Nat):(bits n).length<=8:=by unfold bits;rw[F3];exact Gd (Ie _ _) (by simp)
theorem Fn(hn:n<256)(hm:m<256):n|||m<256:=Iw (n:=8) hn hm
theorem BZ(hn:n<256):n&&&m<256:=Gq Nat.and_le_left hn
def qx(ns:List Int):Nat:=ns.foldl (λs t=>s|||2^t.toNat) 0
theorem lY:∀ (ns:List Int) (s k:Nat),(∀z∈ns,0<=z)->((ns.foldl (λs (t:Int)=>s|||2^t.toNat) s).testBit k=true↔s.testBit k=true\/(k:Int)∈ns)
 | [],s,k,_=>by simp
 |z::r,s,k,h=>by
  rw[II,lY r _ k (λy hy=>h y (Gm _ hy)),GC,Im,Gg,Gh,decide_eq_true_eq];have hz:=h z Gn;have:z.toNat=k↔(k:Int)=z:=by lia
  rw[this,or_assoc]
theorem nY{n m:Nat}(hn:n<256)(hm:m<256)(h:∀k,k<8->(n.testBit k=true↔m.testBit k=true)):n=m:=by
 refine Gi λk=> ?_;by_cases hk:k<8
 .have:=h k hk;cases e1:n.testBit k with
  |true=>exact(this.mp e1).symm
  |false=>
   cases e2:m.testBit k with
   |true=>exact absurd (this.mpr e2) (by rw[e1];simp)
   |false=>rfl
 .have hp:2^8<=2^k:=Gv (by lia) (by lia);rw[GX (by lia),GX (by lia)]
theorem wk:∀ (ns:List Int) (s:Nat),s<256->(∀z∈ns,0<=z/\z<8)->ns.foldl (λs (t:Int)=>s|||2^t.toNat) s<256
 | [],s,hs,_=>hs
 |z::r,s,hs,h=>by rw[II];refine wk r _ (Fn hs ?_) λy hy=>h y (Gm _ hy);have hz:=h z Gn;exact F9 (Je (by lia) (show z.toNat<8 by lia)) (by lia)
theorem Cs(hn:n<256)(hr:∀z∈ns,0<=z/\z<8)(h:∀z,z∈ns↔z∈bits n):qx ns=n:=by refine nY (wk ns 0 (by lia) hr) hn λk hk=> ?_;unfold qx;rw[lY ns 0 k (λz hz=>(hr z hz).1),h,jY hk,HS];simp
theorem dA{n k:Nat}:n.testBit k=decide (n/2^k % 2=1):=Kn
theorem BU:∀n:Nat,n<256->(List.range (if n=0 then 0 else n.log2+1)).filter n.testBit=(List.range 8).filter n.testBit:=by decide+kernel
end Bh
namespace Bh
theorem ot(n:Nat):(bits n).Nodup:=by unfold bits;refine List.Pairwise.map _ (λa b h=> ?_) (List.Pairwise.filter _ Jc);intro e;exact h (by lia)
def idxs(p:Nat->Int->Bool):Nat->List Int->List Int
 |_,[]=>[]
 |i,z::r=>if p i z=true then(i:Int)::idxs p (i+1) r else idxs p (i+1) r
def picks(p:Nat->Int->Bool):Nat->List Int->List Int
 |_,[]=>[]
 |i,z::r=>if p i z=true then z::picks p (i+1) r else picks p (i+1) r
theorem ir{p:Nat->Int->Bool}:∀ {hs:List Int} {i:Nat} {y:Int},y∈idxs p i hs↔∃ (j:Nat) (z:Int),hs[j]?=some z/\p (i+j) z=true/\y=(i+j:Nat)
 | [],i,y=>by simp[idxs]
 |x::r,i,y=>by
  have ih:= @ir p r (i+1) y;have key:(∃ (j:Nat) (z:Int),(x::r)[j]?=some z/\p (i+j) z=true/\y=(i+j:Nat))↔(p i x=true/\y=(i:Nat))\/∃ (j:Nat) (z:Int),r[j]?=some z/\p (i+1+j) z=true/\y=(i+1+j:Nat):=by
   constructor
   .rintro⟨j,z,h1,h2,h3⟩;cases j with
    |zero=>
     have:x=z:=by simpa using h1
     subst this;exact .inl ⟨h2,h3⟩
    |succ j=>exact .inr ⟨j,z,by simpa using h1,by rw[show i+1+j=i+(j+1) by lia];exact h2,by rw[h3];lia⟩
   .rintro(⟨h1,h2⟩|⟨j,z,h1,h2,h3⟩)
    .exact⟨0,x,rfl,h1,h2⟩
    .exact⟨j+1,z,by simpa using h1,by rw[show i+(j+1)=i+1+j by lia];exact h2,by rw[h3];lia⟩
  rw[key,idxs];split
  .rename_i hp;rw[Gh,ih];constructor
   .rintro(h|h)
    .exact .inl ⟨hp,h⟩
    .exact .inr h
   .rintro(⟨_,h⟩|h)
    .exact .inl h
    .exact .inr h
  .rename_i hp;rw[ih];constructor
   .intro h;exact .inr h
   .rintro(⟨h,_⟩|h)
    .exact absurd h hp
    .exact h
theorem iT{p:Nat->Int->Bool}:∀ {hs:List Int} {i:Nat} {y:Int},y∈picks p i hs↔∃ (j:Nat),hs[j]?=some y/\p (i+j) y=true
 | [],i,y=>by simp[picks]
 |x::r,i,y=>by
  have ih:= @iT p r (i+1) y;have key:(∃ (j:Nat),(x::r)[j]?=some y/\p (i+j) y=true)↔(p i x=true/\y=x)\/∃ (j:Nat),r[j]?=some y/\p (i+1+j) y=true:=by
   constructor
   .rintro⟨j,h1,h2⟩;cases j with
    |zero=>
     have:x=y:=by simpa using h1
     subst this;exact .inl ⟨h2,rfl⟩
    |succ j=>exact .inr ⟨j,by simpa using h1,by rw[show i+1+j=i+(j+1) by lia];exact h2⟩
   .rintro(⟨h1,h2⟩|⟨j,h1,h2⟩)
    .subst h2;exact⟨0,rfl,h1⟩
    .exact⟨j+1,by simpa using h1,by rw[show i+(j+1)=i+1+j by lia];exact h2⟩
  rw[key,picks];split
  .rename_i hp;rw[Gh,ih];constructor
   .rintro(h|h)
    .exact .inl ⟨hp,h⟩
    .exact .inr h
   .rintro(⟨_,h⟩|h)
    .exact .inl h
    .exact .inr h
  .rename_i hp;rw[ih];constructor
   .intro h;exact .inr h
   .rintro(⟨h,_⟩|h)
    .exact absurd h hp
    .exact h
theorem kx:∀ (hs:List Int) (i:Nat),(picks p i hs).Sublist hs
 | [],_=>List.Sublist.slnil
 |x::r,i=>by
  rw[picks];split
  .exact(kx r (i+1)).cons_cons x
  .exact(kx r (i+1)).cons x
theorem jk{hs:List Int}(hl:hs.length<=8):∀z∈idxs p 0 hs,0<=z/\z<8:=λz hz=>by obtain⟨j,y,h1,_,e⟩:=ir.mp hz;have:=(Ga.mp h1).1;lia
def dM(s h:Nat):Nat:=qx (idxs (λ_ z=>s.testBit z.toNat) 0 (bits h))
def aT(s h:Nat):Nat:=qx (picks (λi _=>s.testBit i) 0 (bits h))
theorem fR:∀z∈picks p 0 (bits h),0<=z/\z<8:=λz hz=>gM ((kx _ _).mem hz)
theorem ia(h:∀z∈ns,0<=z)(k:Nat):(qx ns).testBit k=true↔(k:Int)∈ns:=by unfold qx;rw[lY ns 0 k h,HS];simp
theorem t9{h i j:Nat}{z:Int}(hi:(bits h)[i]?=some z)(hj:(bits h)[j]?=some z):i=j:=by obtain⟨h1,e1⟩:=Ga.mp hi;obtain⟨h2,e2⟩:=Ga.mp hj;exact(List.getElem_inj (ot h)).mp (e1.trans e2.symm)
theorem qG(hs:s<2^(bits h).length):dM (aT s h) h=s:=by
 have h8:(bits h).length<=8:=aN h;have hs2:s<256:=F9 hs (Gv (by lia) h8);refine Cs hs2 (jk h8) λz=> ?_;rw[ir,bO];constructor
 .rintro⟨j,y,h1,h2,rfl⟩;have hy:=gM (Ge h1);have hj:=(Ga.mp h1).1;have h3:(aT s h).testBit y.toNat=true:=h2;unfold aT at h3;rw[ia (λz hz=>(fR z hz).1),iT]at h3;obtain⟨i,h4,h5⟩:=h3;have ey:((y.toNat:Nat):Int)=y:=by lia
  rw[ey]at h4;have:=t9 h1 h4;subst this;exact⟨0+j,by lia,h5,rfl⟩
 .rintro⟨k,h1,h2,rfl⟩;have hk:k<(bits h).length:=by
   by_cases hk:k<(bits h).length
   .exact hk
   .have hp:2^(bits h).length<=2^k:=Gv (by lia) (by lia);rw[GX (by lia)]at h2;cases h2
  have g:(bits h)[k]?=some ((bits h)[k]'hk):=by simp
  have hy:=gM (Ge g);refine⟨k,_,g,?_,by simp⟩;show(aT s h).testBit _=true;unfold aT;rw[ia (λz hz=>(fR z hz).1),iT];have ey:((((bits h)[k]'hk).toNat:Nat):Int)=(bits h)[k]'hk:=by lia
  rw[ey];exact⟨k,g,by simpa using h2⟩
theorem xQ{s h j:Nat}{z:Int}(hz:(bits h)[j]?=some z):(dM s h).testBit j=s.testBit z.toNat:=by
 have hb:(dM s h).testBit j=true↔s.testBit z.toNat=true:=by
  unfold dM;rw[ia (λz hz=>(jk (aN h) z hz).1),ir];constructor
  .rintro⟨i,y,h1,h2,e⟩;have:i=j:=by lia
   subst this;rw[hz]at h1;cases h1;exact h2
  .intro q;exact⟨j,z,hz,q,by simp⟩
 cases e1:(dM s h).testBit j<;>cases e2:s.testBit z.toNat<;>simp_all
theorem tK{hs:List Int}{q:Int->Bool}:∀ (i:Nat),idxs (λ_ z=>q z) i hs=((List.range hs.length).filter λj=>q (hs.getD j 0)).map λ(j:Nat)=>((i+j:Nat):Int):=by
 induction hs with
 |nil=>intro i;rfl
 |cons x r ih=>
  intro i;rw[idxs,ih (i+1),GA,List.range_succ_eq_map,Il];have e:List.map (λ(j:Nat)=>((i+j:Nat):Int)) (List.filter (λj=>q ((x::r).getD j 0)) (List.map Nat.succ (List.range r.length)))=List.map (λ(j:Nat)=>((i+1+j:Nat):Int)) (List.filter (λj=>q (r.getD j 0)) (List.range r.length)):=by
   rw[JG,Hc];have e2:((λj=>q ((x::r).getD j 0))∘Nat.succ)=λj=>q (r.getD j 0):=by funext j;simp
   rw[e2];refine HP λj _=> ?_;show((i+(j+1):Nat):Int)=_;rw[show i+(j+1)=i+1+j by lia]
  by_cases hq:q x=true
  .rw[F7 hq,F7 (by simpa using hq),GP,e];rfl
  .rw[F8 hq,F8 (by simpa using hq),e]
end Bh
namespace Bh
def fN(f:List Int)(t:Int):List Int:=f++f.map λp=>((p.toNat|||2^t.toNat:Nat):Int)
def fZ(n:Nat):List Int:=(bits n).foldl fN [0]
def cZ(n:Nat)(k:Int):List Int:=(fZ n).filter λp=>decide ((((bits p.toNat).length:Nat):Int)=k)
def Bd(n:Nat)(made:List (Int×Int))(k:Nat):List (Int×Int):=if n.testBit k=true then made++made.map λq=>(q.1+2^k,q.2+1)else made
def qT(n i:Nat):List (Int×Int):=(List.range i).foldl (Bd n) [(0,0)]
def jn(n:Nat):Bool:=decide ((qT n 8).map Prod.fst=fZ n)&&(qT n 8).all (λq=>decide (0<=q.1/\q.1<256/\q.2=(((bits q.1.toNat).length:Nat):Int)))
theorem iI:∀n:Nat,n<256->jn n=true:=by decide+kernel
theorem sN(h:n<256):(qT n 8).map Prod.fst=fZ n:=by have:=iI n h;unfold jn at this;rw[GL]at this;exact Gx this.1
theorem nC(h:n<256):∀q∈qT n 8,0<=q.1/\q.1<256/\q.2=(((bits q.1.toNat).length:Nat):Int):=λq hq=>by have:=iI n h;unfold jn at this;rw[GL]at this;exact Gx (GW.mp this.2 q hq)
theorem sM(h:n<256):∀p∈fZ n,0<=p/\p<256:=λp hp=>by rw[<-sN h]at hp;obtain⟨q,hq,rfl⟩:=Gz.mp hp;exact⟨(nC h q hq).1,(nC h q hq).2.1⟩
theorem xw(f:List Int)(t:Int):(fN f t).length=2*f.length:=by unfold fN;rw[Gr,F3];lia
theorem kF:∀ (ts:List Int) (f:List Int),(ts.foldl fN f).length=2^ts.length*f.length
 | [],f=>by simp
 |t::r,f=>by rw[II,kF r,xw,GA,JN,Ls]
theorem xW(n:Nat):(fZ n).length<=256:=by unfold fZ;rw[kF];have:=aN n;have h2:2^(bits n).length<=2^8:=Gv (by lia) this;simp;lia
theorem Aa(h:∀p∈f,0<=p):∀p∈fN f t,0<=p:=λp hp=>by
 rcases Gu.mp hp with q|q
 .exact h p q
 .obtain⟨x,_,rfl⟩:=Gz.mp q;lia
theorem tO:∀ (ts:List Int) (f:List Int),(∀p∈f,0<=p)->∀p∈ts.foldl fN f,0<=p
 | [],_,h=>h
 |t::r,f,h=>by rw[II];exact tO r _ (Aa h)
end Bh
namespace Bh
end Bh
namespace Bh
theorem xB:∀n:Nat,n<256->(bits n).length=n % 2+(bits (n/2)).length:=by decide+kernel
theorem jg(h:n<=8):2^n<=256:=Gv (n:=2) (by lia) h
end Bh
namespace Bh
abbrev sz(n:Nat):Nat:=(bits n).length
theorem fi(n:Nat):sz n=((List.range 8).filter n.testBit).length:=by show(bits n).length=_;unfold bits;rw[F3]
theorem kG:∀ (l:List Nat),(∀x∈l,p x=true->q x=true)->(l.filter p).length<=(l.filter q).length
 | [],_=>Gf _
 |x::l,h=>by
  have ih:=kG l λy hy=>h y (Gm _ hy);have hx:=h x Gn;cases hp:p x<;>cases hq:q x
  .simp only[Il,hp,hq];exact ih
  .simp only[Il,hp,hq,F7,GA];exact Nat.le_succ_of_le ih
  .rw[hp]at hx;rw[hx rfl]at hq;cases hq
  .simp only[Il,hp,hq,F7,GA];lia
theorem kH:∀ (l:List Nat),(∀x∈l,p x=true->q x=true)->(l.filter p).length=(l.filter q).length->∀x∈l,p x=q x
 | [],_,_=>λx hx=>by cases hx
 |x::l,h,e=>λy hy=>by
  have h':∀z∈l,p z=true->q z=true:=λz hz=>h z (Gm _ hz);have le:=kG l h';have hx:=h x Gn;cases hp:p x<;>cases hq:q x
  .simp only[Il,hp,hq]at e;rcases Gh.mp hy with rfl|hy
   .rw[hp,hq]
   .exact kH l h' e y hy
  .simp only[Il,hp,hq,F7,GA]at e;have e':(l.filter p).length=(l.filter q).length+1:=e;lia
  .rw[hp]at hx;rw[hx rfl]at hq;cases hq
  .simp only[Il,hp,hq,F7,GA]at e;rcases Gh.mp hy with rfl|hy
   .rw[hp,hq]
   .exact kH l h' (by lia) y hy
theorem lV{a b:Nat}(h:∀k,k<8->a.testBit k=true->b.testBit k=true):sz a<=sz b:=by rw[fi,fi];exact kG _ λk hk=>h k (Gk.mp hk)
theorem z6{a b:Nat}(ha:a<256)(hb:b<256)(h:∀k,k<8->a.testBit k=true->b.testBit k=true)(e:sz a=sz b):a=b:=by rw[fi,fi]at e;refine nY ha hb λk hk=> ?_;rw[kH _ (λk hk=>h k (Gk.mp hk)) e k (Gk.mpr hk)]
theorem xr(a b:Nat):sz (a&&&b)<=sz a:=lV λk _ h=>by rw[Hw,GL]at h;exact h.1
def bF(ms:List Int)(s:Nat):Nat:=ms.foldl (λr m=>max r (sz (s&&&m.toNat))) 0
theorem qE:∀ (ms:List Int) (s r:Nat),r<=ms.foldl (λr (m:Int)=>max r (sz (s&&&m.toNat))) r/\(∀m∈ms,sz (s&&&m.toNat)<=ms.foldl (λr (m:Int)=>max r (sz (s&&&m.toNat))) r)/\
  (ms.foldl (λr (m:Int)=>max r (sz (s&&&m.toNat))) r=r\/∃m∈ms,sz (s&&&m.toNat)=ms.foldl (λr (m:Int)=>max r (sz (s&&&m.toNat))) r)
 | [],s,r=>⟨Gf _,λm hm=>(by cases hm), .inl rfl⟩
 |x::ms,s,r=>by
  obtain⟨h1,h2,h3⟩:=qE ms s (max r (sz (s&&&x.toNat)));rw[II];refine⟨Gd (Nat.le_max_left _ _) h1,λm hm=> ?_,?_⟩
  .rcases Gh.mp hm with rfl|hm
   .exact Gd (Nat.le_max_right _ _) h1
   .exact h2 m hm
  .rcases h3 with h3|⟨m,hm,e⟩
   .rw[h3];rcases Nat.le_total r (sz (s&&&x.toNat))with h|h
    .rw[Nat.max_eq_right h];exact .inr ⟨x,Gn,rfl⟩
    .rw[Nat.max_eq_left h];exact .inl rfl
   .exact .inr ⟨m,Gm _ hm,e⟩
theorem jL{m:Int}(h:m∈ms):sz (s&&&m.toNat)<=bF ms s:=(qE ms s 0).2.1 m h
theorem wt(h:ms≠[]):∃m∈ms,sz (s&&&m.toNat)=bF ms s:=by
 rcases(qE ms s 0).2.2 with e|e
 .cases ms with
  |nil=>exact absurd rfl h
  |cons m r=>
   have:=jL (s:=s) (m:=m) (ms:=m::r) Gn;have e':bF (m::r) s=0:=e;exact⟨m,Gn,by lia⟩
 .exact e
theorem qD(h:ms≠[])(hb:∀m∈ms,sz (s&&&m.toNat)<=b):bF ms s<=b:=by obtain⟨m,hm,e⟩:=wt (s:=s) h;rw[<-e];exact hb m hm
theorem kR(h1:∃m∈ms,sz (s&&&m.toNat)=r)(h2:∀m∈ms,sz (s&&&m.toNat)<=r):bF ms s=r:=by obtain⟨m,hm,e⟩:=h1;have a:=jL (s:=s) hm;have b:=qD (s:=s) (ms:=ms) (by rintro rfl;cases hm) h2;lia
theorem xJ(ms:List Int)(s:Nat):bF ms s<=sz s:=by
 cases ms with
 |nil=>exact Hy _
 |cons m r=>exact qD (by simp) λm _=>xr _ _
theorem fF{s k j:Nat}(hk:s.testBit k=true):(s^^^2^k).testBit j=(s.testBit j&& !decide (k=j)):=by
 rw[Ho,Gg];by_cases e:k=j
 .subst e;simp[hk]
 .simp[e]
theorem e7:∀s:Nat,s<256->∀k:Nat,k<8->s.testBit k=true->s^^^2^k<s:=by decide+kernel
theorem xK{s:Nat}(hne:ms≠[])(hs:s<256)(hno:∀m∈ms,¬(m.toNat&&&s=s)):
  (∃k,k<8/\s.testBit k=true/\bF ms (s^^^2^k)=bF ms s)/\∀k,s.testBit k=true->bF ms (s^^^2^k)<=bF ms s:=by
 have mono:∀k,s.testBit k=true->bF ms (s^^^2^k)<=bF ms s:=λk hk=>qD hne λm hm=>by refine Gd (lV λj _ hj=> ?_) (jL hm);rw[Hw,fF hk,GL,GL]at hj;rw[Hw,GL];exact⟨hj.1.1,hj.2⟩
 refine⟨?_,mono⟩;obtain⟨m,hm,e⟩:=wt (s:=s) hne;have hx:∃k,k<8/\s.testBit k=true/\m.toNat.testBit k=false:=by
  refine Hq λhc=>hno m hm ?_;refine Gi λj=> ?_;rw[Hw];cases hj:s.testBit j with
  |false=>simp
  |true=>
   have hj8:j<8:=by refine Jd λh=> ?_;rw[GX (F9 hs (Gv (by lia) h:2^8<=2^j))]at hj;cases hj
   cases hmj:m.toNat.testBit j with
   |true=>rfl
   |false=>exact absurd ⟨j,hj8,hj,hmj⟩ hc
 obtain⟨k,hk8,hk,hmk⟩:=hx;refine⟨k,hk8,hk,Ir (mono k hk) ?_⟩;rw[<-e];refine Gd (lV λj _ hj=> ?_) (jL hm);rw[Hw,GL]at hj;rw[Hw,fF hk,GL,GL];refine⟨⟨hj.1,?_⟩,hj.2⟩;by_cases ej:k=j
 .subst ej;rw[hmk]at hj;exact absurd hj.2 Gj
 .simp[ej]
theorem Cv{m:Int}(hm:m∈ms)(h:m.toNat&&&s=s):bF ms s=sz s:=by refine Ir (xJ ms s) ?_;have:=jL (s:=s) hm;rw[Nat.and_comm,h]at this;exact this
theorem kz:∀n:Nat,n<9->fZ (2^n-1)=(List.range (2^n)).map λk:Nat=>(k:Int):=by decide+kernel
end Bh
namespace Bh
def dP(lv:List Int)(s i:Nat):Int:=(List.range i).foldl (λr k=>if s.testBit k=true then(if lv.getD (s^^^2^k) 0>r then lv.getD (s^^^2^k) 0 else r)else r) 0
theorem kY(lv:List Int)(s i:Nat):dP lv s (i+1)=if s.testBit i=true then(if lv.getD (s^^^2^i) 0>dP lv s i then lv.getD (s^^^2^i) 0 else dP lv s i)else dP lv s i:=by unfold dP;rw[IC,IK];rfl
theorem kZ(lv:List Int)(s:Nat):∀i,0<=dP lv s i/\(∀k,k<i->s.testBit k=true->lv.getD (s^^^2^k) 0<=dP lv s i)/\(dP lv s i=0\/∃k,k<i/\s.testBit k=true/\dP lv s i=lv.getD (s^^^2^k) 0)
 |0=>⟨Int.le_refl 0,λk hk=>absurd hk (by lia), .inl rfl⟩
 |i+1=>by
  obtain⟨h0,h1,h2⟩:=kZ lv s i;rw[kY];have lift:dP lv s i=0\/∃k,k<i+1/\s.testBit k=true/\dP lv s i=lv.getD (s^^^2^k) 0:=by
   rcases h2 with h2|⟨k,hk,a,b⟩
   .exact .inl h2
   .exact .inr ⟨k,by lia,a,b⟩
  by_cases hb:s.testBit i=true
  .rw[F7 hb];by_cases hg:lv.getD (s^^^2^i) 0>dP lv s i
   .rw[F7 hg];refine⟨by lia,λk hk hkb=> ?_, .inr ⟨i,by lia,hb,rfl⟩⟩;by_cases e:k=i
    .subst e;exact Int.le_refl _
    .have:=h1 k (by lia) hkb;lia
   .rw[F8 hg];refine⟨h0,λk hk hkb=> ?_,lift⟩;by_cases e:k=i
    .subst e;lia
    .exact h1 k (by lia) hkb
  .rw[F8 hb];refine⟨h0,λk hk hkb=> ?_,lift⟩;by_cases e:k=i
   .subst e;exact absurd hkb hb
   .exact h1 k (by lia) hkb
theorem bU{s n k:Nat}(hs:s<2^n)(hk:s.testBit k=true):k<n:=by refine Jd λh=> ?_;rw[GX (F9 hs (Gv (by lia) h))]at hk;cases hk
theorem C3{lv:List Int}(hn:n<=8)(hs:s<2^n)(hne:ms≠[])(hno:∀m∈ms,¬(m.toNat&&&s=s))(hlv:∀t,t<s->lv.getD t 0=(bF ms t:Int)):dP lv s n=(bF ms s:Int):=by
 have h256:s<256:=F9 hs (jg hn);obtain⟨⟨k,hk8,hk,ek⟩,le⟩:=xK hne h256 hno;obtain⟨h0,h1,h2⟩:=kZ lv s n;have a:=h1 k (bU hs hk) hk;rw[hlv _ (e7 s h256 k hk8 hk),ek]at a;rcases h2 with h2|⟨j,hj,hjb,e⟩
 .lia
 .rw[hlv _ (e7 s h256 j (by lia) hjb)]at e;have:=le j hjb;lia
theorem Fp(h:∃m∈ms,m.toNat&&&s=s):(sz s:Int)=(bF ms s:Int):=by obtain⟨m,hm,e⟩:=h;rw[Cv hm e]
def Far(r:Int)(ps:List Int):Prop:=∀a∈ps,∀b∈ps,a≠b->(sz (a.toNat&&&b.toNat):Int)<=r-2
theorem Dh(r:Int):Far r []:=λa ha=>by cases ha
theorem BE{z:Int}(h:Far r ps)(hz:∀a∈ps,¬((sz (a.toNat&&&z.toNat):Int)>r-2)):Far r (ps++[z]):=by
 intro a ha b hb ne;rcases Gu.mp ha with ha1|ha1<;>rcases Gu.mp hb with hb1|hb1
 .exact h a ha1 b hb1 ne
 .have:b=z:=by simpa using hb1
  subst this;have:=hz a ha1;lia
 .have:a=z:=by simpa using ha1
  subst this;have:=hz b hb1;rw[Nat.and_comm];lia
 .have e1:a=z:=by simpa using ha1
  have e2:b=z:=by simpa using hb1
  exact absurd (e1.trans e2.symm) ne
theorem zJ:∀r:Nat,0<r->r<8->sz (2^r-1)=r/\sz (2^r-1-2^(r-1)+2^r)=r/\sz ((2^r-1)&&& (2^r-1-2^(r-1)+2^r))+1=r/\2^r-1≠2^r-1-2^(r-1)+2^r/\2^r-1-2^(r-1)+2^r<2^(r+1):=by
 intro r h0 h8
 match r,h0,h8 with
 |1,_,_=>decide+kernel
 |2,_,_=>decide+kernel
 |3,_,_=>decide+kernel
 |4,_,_=>decide+kernel
 |5,_,_=>decide+kernel
 |6,_,_=>decide+kernel
 |7,_,_=>decide+kernel
 |r+8,_,h8=>lia
theorem z5:∀r:Nat,r<9->sz (2^r-1)=r:=by decide+kernel
theorem Cg{n r:Nat}{ps:List Int}(hn:n<=8)(hr:r<=n)(hp:ps=[]\/(0<r/\r<n/\Far r ps)):∃s,s<2^n/\sz s=r/\(s:Int)∉ps:=by
 have lowlt:2^r-1<2^n:=by have h1:2^r<=2^n:=Gv (by lia) hr;have h2:0<2^r:=ID (by lia);lia
 rcases hp with rfl|⟨r0,r1,hf⟩
 .exact⟨2^r-1,lowlt,z5 r (by lia),by simp⟩
 .obtain⟨a1,a2,a3,a4,a5⟩:=zJ r r0 (by lia);by_cases hA:((2^r-1:Nat):Int)∈ps
  .refine⟨2^r-1-2^(r-1)+2^r,F9 a5 (Gv (by lia) (by lia)),a2,λhB=> ?_⟩;have:=hf _ hA _ hB (by lia);rw[F6,F6]at this;lia
  .exact⟨2^r-1,lowlt,a1,hA⟩
def mH(r:Nat)(ps:List Int)(s:Nat):Bool:=decide (sz s=r)&&decide ((s:Int)∉ps)
def dI(n r:Nat)(ps:List Int):List Int:=((List.range (2^n)).filter (mH r ps)).map λs:Nat=>(s:Int)
theorem yu:z∈dI n r ps↔∃s:Nat,s<2^n/\sz s=r/\(s:Int)∉ps/\z=s:=by
 unfold dI;rw[Gz];constructor
 .rintro⟨s,hs,rfl⟩;rw[GN,Gk]at hs;have h2:=hs.2;unfold mH at h2;rw[GL,GF,GF]at h2;exact⟨s,hs.1,h2.1,h2.2,rfl⟩
 .rintro⟨s,h1,h2,h3,rfl⟩;refine⟨s,GN.mpr ⟨Gk.mpr h1,?_⟩,rfl⟩;unfold mH;rw[F5 h2,F5 h3];rfl
section
variable{n r:Nat}{ps ms:List Int}
end
end Bh
namespace Bh
theorem kT:∀x:Nat,x<256->∀k:Nat,k<8->(x|||2^k) - (x&&&2^k)=x^^^2^k/\(x&&&2^k)<=(x|||2^k):=by decide+kernel
end Bh
namespace Bh
theorem lr:∀ (n x y:Nat),x<=n->(x&&&y)+(x^^^ (x&&&y))=x:=by
 intro n
 induction n with
 |zero=>
  intro x y h;have:x=0:=by lia
  subst this;simp
 |succ n ih=>
  intro x y h;by_cases h0:x=0
  .subst h0;simp
  have i:=ih (x/2) (y/2) (by lia);rw[<-Nat.and_div_two,<-Nat.xor_div_two]at i;have a2:(x&&&y) % 2=1↔x % 2=1/\y % 2=1:=Nat.and_mod_two_eq_one;have b2:(x^^^ (x&&&y)) % 2=1↔¬((x % 2=1)↔((x&&&y) % 2=1)):=Nat.xor_mod_two_eq_one;by_cases hx:x % 2=1<;>by_cases hy:y % 2=1
  .have a:=a2.mpr ⟨hx,hy⟩;have b:¬(x^^^ (x&&&y)) % 2=1:=λz=>(b2.mp z) ⟨λ_=>a,λ_=>hx⟩;lia
  .have a:¬(x&&&y) % 2=1:=λz=>hy (a2.mp z).2;have b:=b2.mpr λz=>a (z.mp hx);lia
  .have a:¬(x&&&y) % 2=1:=λz=>hx (a2.mp z).1;have b:¬(x^^^ (x&&&y)) % 2=1:=λz=>(b2.mp z) ⟨λq=>absurd q hx,λq=>absurd q a⟩;lia
  .have a:¬(x&&&y) % 2=1:=λz=>hx (a2.mp z).1;have b:¬(x^^^ (x&&&y)) % 2=1:=λz=>(b2.mp z) ⟨λq=>absurd q hx,λq=>absurd q a⟩;lia
def aC(s t:Nat):Nat:=s^^^ (s&&&t)
theorem C4(s t:Nat):(s||| (s&&&t)) - (s&&& (s&&&t))=aC s t:=by
 have h:=lr s s t (Gf _);have e1:s||| (s&&&t)=s:=Gi λj=>by rw[GC,Hw];cases s.testBit j<;>simp
 have e2:s&&& (s&&&t)=s&&&t:=Gi λj=>by rw[Hw,Hw];cases s.testBit j<;>simp
 rw[e1,e2];unfold aC;lia
theorem br(s t j:Nat):(aC s t).testBit j=(s.testBit j&& !t.testBit j):=by unfold aC;rw[Ho,Hw];cases s.testBit j<;>cases t.testBit j<;>rfl
theorem iV(s t:Nat):aC s t<=s:=by have:=lr s s t (Gf _);unfold aC;lia
theorem lW:∀s:Nat,s<256->∀k:Nat,k<8->s.testBit k=true->sz (s^^^2^k)+1=sz s:=by decide+kernel
end Bh
namespace Bh
end Bh
namespace Bh
def near(a b:Nat):Bool:=decide (sz a=sz (a&&&b)+1)&&decide (sz b=sz (a&&&b)+1)
def j6(s t y:Nat):Nat:=aC s (2^t)|||2^y
end Bh
namespace Bh
def mrg(ms:List Int)(x y:Nat):List Int:=ms.map λm=>if m=ms.getD x 0 then ms.getD y 0 else m
theorem fD(ms:List Int)(x y:Nat):(mrg ms x y).length=ms.length:=F3 ..
theorem fS{ms:List Int}(hz:z<ms.length):(mrg ms x y).getD z 0=if ms.getD z 0=ms.getD x 0 then ms.getD y 0 else ms.getD z 0:=by
 have e:ms.getD z 0=ms[z]:=by simp[hz]
 have e2:(mrg ms x y).getD z 0=(mrg ms x y)[z]'(by rw[fD];exact hz):=by simp[fD,hz]
 rw[e2,e];unfold mrg;rw[K8]
structure Mks(p:Nat)(ts:List (Nat×Nat))(S:Nat->Prop)(ms:List Int):Prop where
 len:ms.length=p
 eq:∀k t,ts[k]?=some t->S k->ms.getD t.1 0=ms.getD t.2 0
 cl:∀P:Nat->Prop,(∀k t,ts[k]?=some t->S k->(P t.1↔P t.2))->∀x y,x<p->y<p->ms.getD x 0=ms.getD y 0->(P x↔P y)
def start(p:Nat):List Int:=(List.range p).map λi:Nat=>(i:Int)
theorem Mks.start(p:Nat)(ts:List (Nat×Nat)):Mks p ts (λ_=>False) (start p):=by
 refine⟨by simp[Bh.start],λ_ _ _ h=>h.elim,λP _ x y hx hy e=> ?_⟩;have ex:(Bh.start p).getD x 0=(x:Int):=by simp[Bh.start,hx]
 have ey:(Bh.start p).getD y 0=(y:Int):=by simp[Bh.start,hy]
 rw[ex,ey]at e;have:x=y:=by lia
 rw[this]
theorem Mks.step(h:Mks p ts S ms)(hb:∀t∈ts,t.1<p/\t.2<p)(hk:ts[k]?=some t):
  Mks p ts (λj=>S j\/j=k) (mrg ms t.1 t.2):=by
 have b:=hb t (Ge hk);refine⟨by rw[fD];exact h.len,λj u hj hs=> ?_,λP hP x y hx hy e=> ?_⟩
 .have bu:=hb u (Ge hj);rw[fS (by rw[h.len];exact bu.1),fS (by rw[h.len];exact bu.2)];rcases hs with hs|rfl
  .rw[h.eq j u hj hs]
  .rw[hk]at hj;cases hj;rw[F7 rfl];split<;>rfl
 .have h1:=h.cl P λj u hj hs=>hP j u hj (.inl hs);have ht:=hP k t hk (.inr rfl);rw[fS (by rw[h.len];exact hx),fS (by rw[h.len];exact hy)]at e;by_cases c1:ms.getD x 0=ms.getD t.1 0
  .by_cases c2:ms.getD y 0=ms.getD t.1 0
   .exact h1 x y hx hy (c1.trans c2.symm)
   .rw[F7 c1,F8 c2]at e;exact(h1 x t.1 hx b.1 c1).trans (ht.trans (h1 t.2 y b.2 hy e))
  .by_cases c2:ms.getD y 0=ms.getD t.1 0
   .rw[F8 c1,F7 c2]at e;exact(h1 x t.2 hx b.2 e).trans (ht.symm.trans (h1 t.1 y b.1 hy c2.symm))
   .rw[F8 c1,F8 c2]at e;exact h1 x y hx hy e
theorem Mks.congr(h:Mks p ts S ms)(e:∀j t,ts[j]?=some t->(S j↔S' j)):Mks p ts S' ms:=
 ⟨h.len,λk t hk hs=>h.eq k t hk ((e k t hk).mpr hs),λP hP x y hx hy=>h.cl P (λk t hk hs=>hP k t hk ((e k t hk).mp hs)) x y hx hy⟩
structure Wk(p:Nat)(ts:List (Nat×Nat))(S:Nat->Prop)(ms:List Int)(pt:Nat)(seen row:List Nat)(here:Option (Nat×Nat)):Prop where
 self:pt∈seen
 sub:∀x∈row,x∈seen
 nd:seen.Nodup
 cls:∀x∈seen,x<p/\ms.getD x 0=ms.getD pt 0
 done:∀x∈seen,x∈row\/(∀k t,ts[k]?=some t->S k->(∀hi,here=some hi->x=hi.1->k<hi.2)->(t.1=x->t.2∈seen)/\(t.2=x->t.1∈seen))
theorem Wk.start(hp:pt<p):Wk p ts S ms pt [pt] [pt] none:=
 ⟨Gw.mpr rfl,λ_ h=>h,by simp,λx hx=>by rw[Gw.mp hx];exact⟨hp,rfl⟩,λx hx=> .inl hx⟩
theorem Wk.pop(w:Wk p ts S ms pt seen (row++[h]) none):Wk p ts S ms pt seen row (some (h,0)):=by
 refine⟨w.self,λx hx=>w.sub x (Ii _ hx),w.nd,w.cls,λx hx=> ?_⟩;rcases w.done x hx with hr|hd
 .rcases Gu.mp hr with hr|hr
  .exact .inl hr
  .refine .inr λk t hk hs hh=> ?_;have:=hh (h,0) rfl (Gw.mp hr);exact absurd this (J2 _)
 .exact .inr λk t hk hs _=>hd k t hk hs λ_ e=>nomatch e
theorem Wk.push{ms:List Int}(w:Wk p ts S ms pt seen row (some (h,i)))
  (hy:y∉seen) (hp:y<p) (hc:ms.getD y 0=ms.getD pt 0):Wk p ts S ms pt (seen++[y]) (row++[y]) (some (h,i)):=by
 refine⟨Ii _ w.self,λx hx=> ?_,?_,λx hx=> ?_,λx hx=> ?_⟩
 .rcases Gu.mp hx with hx|hx
  .exact Ii _ (w.sub x hx)
  .exact Hm _ hx
 .rw[JL];exact⟨w.nd,by simp,λa ha b hb e=>by rw[Gw.mp hb]at e;rw[e]at ha;exact hy ha⟩
 .rcases Gu.mp hx with hx|hx
  .exact w.cls x hx
  .rw[Gw.mp hx];exact⟨hp,hc⟩
 .rcases Gu.mp hx with hx|hx
  .rcases w.done x hx with hr|hd
   .exact .inl (Ii _ hr)
   .exact .inr λk t hk hs hh=>⟨λe=>Ii _ ((hd k t hk hs hh).1 e),λe=>Ii _ ((hd k t hk hs hh).2 e)⟩
  .exact .inl (Hm _ hx)
theorem Wk.over{ts:List (Nat×Nat)}(w:Wk p ts S ms pt seen row (some (h,n)))(hn:ts.length<=n):Wk p ts S ms pt seen row none:=by
 refine⟨w.self,w.sub,w.nd,w.cls,λx hx=> ?_⟩;rcases w.done x hx with hr|hd
 .exact .inl hr
 .refine .inr λk t hk hs _=>hd k t hk hs λz ez _=> ?_;cases ez;show k<n;exact F9 (Ga.mp hk).1 hn
theorem Wk.fin{ms:List Int}(m:Mks p ts S ms)(hpt:pt<p)(w:Wk p ts S ms pt seen [] none)(z:Nat)(hz:z<p):z∈seen↔ms.getD z 0=ms.getD pt 0:=by
 refine⟨λh=>(w.cls z h).2,λe=> ?_⟩;have:=m.cl (λx=>x∈seen) (λk t hk hs=> ?_) pt z hpt hz e.symm
 .exact this.mp w.self
 .refine⟨λh=> ?_,λh=> ?_⟩
  .rcases w.done _ h with hr|hd
   .cases hr
   .exact(hd k t hk hs λ_ ez=>nomatch ez).1 rfl
  .rcases w.done _ h with hr|hd
   .cases hr
   .exact(hd k t hk hs λ_ ez=>nomatch ez).2 rfl
def qS(p:Nat)(ts:List (Nat×Nat))(l:List Int):List Int:=l.foldl (λms k=>mrg ms (ts.getD k.toNat (0,0)).1 (ts.getD k.toNat (0,0)).2) (start p)
theorem pk(p:Nat)(ts:List (Nat×Nat))(l:List Int)(k:Int):qS p ts (l++[k])=mrg (qS p ts l) (ts.getD k.toNat (0,0)).1 (ts.getD k.toNat (0,0)).2:=by unfold qS;rw[IK];rfl
theorem iq(p:Nat)(ts:List (Nat×Nat)):∀l:List Int,(qS p ts l).length=p:=by
 intro l;unfold qS;have:∀ (l:List Int) (ms:List Int),ms.length=p->(l.foldl (λms k=>mrg ms (ts.getD k.toNat (0,0)).1 (ts.getD k.toNat (0,0)).2) ms).length=p:=by
  intro l
  induction l with
  |nil=>intro ms h;exact h
  |cons k r ih=>intro ms h;rw[II];exact ih _ (by rw[fD];exact h)
 exact this l _ (by simp[start])
def pj(p:Nat)(ts:List (Nat×Nat))(s:Nat):List Int:=qS p ts (bits s)
theorem jo(hs:s<2^n){k:Int}(h:k∈bits s):0<=k/\k.toNat<n:=by obtain⟨j,hj,hb,rfl⟩:=bO.mp h;refine⟨Hr _,?_⟩;rw[F6];refine Jd λhn=> ?_;have:s.testBit j=false:=GX (F9 hs (Gv (by lia) hn));rw[this]at hb;cases hb
def iG(val:Nat->Int):Nat->Nat
 |0=>0
 |i+1=>if(List.range i).any (λj=>val j==val i)=true then iG val i else iG val i+1
theorem tV(h:∃j,j<i/\val j=val i):iG val (i+1)=iG val i:=by obtain⟨j,hj,e⟩:=h;show(if _ then _ else _)=_;rw[F7];rw[JS];exact⟨j,Gk.mpr hj,by rw[e];simp⟩
theorem og(h:¬∃j,j<i/\val j=val i):iG val (i+1)=iG val i+1:=by show(if _ then _ else _)=_;rw[F8];rw[JS];rintro⟨j,hj,e⟩;exact h ⟨j,Gk.mp hj,by simpa using e⟩
def pcs(p:Nat)(ts:List (Nat×Nat))(s:Nat):Nat:=iG (λi=>(pj p ts s).getD i 0) p
end Bh
namespace Bh
theorem BO(i l:Nat):min i l+(l- (i+1))<=l:=by lia
def mn(l st:Nat):Nat:=if l^^^st<l then l^^^st else l
theorem nE{x y i:Nat}(hx:x.testBit i=false)(hy:y.testBit i=true)(h:∀j,i<j->x.testBit j=y.testBit j):x<y:=by
 have e:x/2^(i+1)=y/2^(i+1):=Gi λj=>by rw[IG,IG];exact h _ (by lia)
 rw[Kn]at hx hy;have hx':=J6 hx;have hy':=Gx hy;rw[JN,<-Nat.div_div_eq_div_mul,<-Nat.div_div_eq_div_mul]at e;refine Jd λhle=> ?_;have:=Nat.div_le_div_right (c:=2^i) hle;lia
theorem nG{st:Nat}(h:0<st):st.testBit st.log2=true:=Nat.testBit_log2 (by lia)
theorem pL{st j:Nat}(h:st.log2<j):st.testBit j=false:=
 GX (F9 (Nat.lt_log2_self (n:=st)) (Gv (by lia) h))
theorem wF{l st:Nat}(h:0<st):mn l st=if l.testBit st.log2=true then l^^^st else l:=by
 unfold mn;cases hb:l.testBit st.log2 with
 |true=>
  rw[F7 rfl,F7];refine nE (i:=st.log2) ?_ hb λj hj=> ?_
  .rw[Ho,hb,nG h];rfl
  .rw[Ho,pL hj,J8]
 |false=>
  rw[F8 Gj,F8];refine Nat.not_lt_of_le (Kt (nE (i:=st.log2) hb ?_ λj hj=> ?_))
  .rw[Ho,hb,nG h];rfl
  .rw[Ho,pL hj,J8]
theorem FJ(u v w:Nat):(u^^^w)^^^ (v^^^w)=u^^^v:=by rw[Jp v w,Hi,<-Hi w w v,IP,J7]
theorem Ez(h:0<st):mn (u^^^v) st=mn u st^^^mn v st:=by
 rw[wF h,wF h,wF h,Ho];cases u.testBit st.log2<;>cases v.testBit st.log2
 .rfl
 .show(u^^^v)^^^st=u^^^ (v^^^st);rw[Hi]
 .show(u^^^v)^^^st=(u^^^st)^^^v;rw[Hi,Jp v st,<-Hi]
 .show u^^^v=(u^^^st)^^^ (v^^^st);rw[FJ]
theorem wD(st:Nat):mn 0 st=0:=by unfold mn;rw[F8 (by lia)]
theorem C0(h:0<w):mn w w=0:=by rw[wF h,nG h,F7 rfl,IP]
def red(ss:List Nat)(v:Nat):Nat:=ss.foldl mn v
theorem Au(ss:List Nat)(w v:Nat):red (ss++[w]) v=mn (red ss v) w:=by unfold red;rw[IK];rfl
theorem As(ss:List Nat):red ss 0=0:=by
 induction ss with
 |nil=>rfl
 |cons s r ih=>show red r (mn 0 s)=0;rw[wD];exact ih
theorem wq(h:∀s∈ss,0<s)(u v:Nat):red ss (u^^^v)=red ss u^^^red ss v:=by
 induction ss generalizing u v with
 |nil=>rfl
 |cons s r ih=>
  show red r (mn (u^^^v) s)=red r (mn u s)^^^red r (mn v s);rw[Ez (h s Gn),ih λz hz=>h z (Gm _ hz)]
inductive bQ(vs:List Nat):Nat->Prop
 |zero:bQ vs 0
 |add {x v:Nat}:bQ vs x->v∈vs->bQ vs (x^^^v)
theorem bQ.of_mem(h:v∈vs):bQ vs v:=by
 have:=bQ.add bQ.zero h
 rwa [J7]at this
theorem bQ.xor(hx:bQ vs x)(hy:bQ vs y):bQ vs (x^^^y):=by
 induction hy with
 |zero=>rw[Jl];exact hx
 |add _ hv ih=>rw[<-Hi];exact ih.add hv
theorem bQ.sub(h:∀v∈vs,bQ ws v)(hx:bQ vs x):bQ ws x:=by
 induction hx with
 |zero=>exact .zero
 |add _ hv ih=>exact ih.xor (h _ hv)
theorem bQ.snoc:bQ (vs++[w]) x↔bQ vs x\/bQ vs (x^^^w):=by
 constructor
 .intro h
  induction h with
  |zero=>exact .inl .zero
  | @add x v _ hv ih=>
   rcases Gu.mp hv with hv|hv
   .rcases ih with ih|ih
    .exact .inl (ih.add hv)
    .refine .inr ?_;rw[Hi,Jp v w,<-Hi];exact ih.add hv
   .rw[Gw.mp hv];rcases ih with ih|ih
    .refine .inr ?_;rw[Hi,IP,Jl];exact ih
    .exact .inl ih
 .rintro(h|h)
  .exact h.sub λv hv=> .of_mem (Ii _ hv)
  .have h1:=(h.sub (ws:=vs++[w]) λv hv=> .of_mem (Ii _ hv)).add (v:=w) (Hm _ (Gw.mpr rfl));rw[Hi,IP,Jl]at h1;exact h1
theorem uL(v:Nat):bQ ss (red ss v^^^v):=by
 have gen:∀ (r ss:List Nat) (u v:Nat),(∀s∈r,s∈ss)->bQ ss (u^^^v)->bQ ss (red r u^^^v):=by
  intro r
  induction r with
  |nil=>intro ss u v _ h;exact h
  |cons s r ih=>
   intro ss u v hs h;show bQ ss (red r (mn u s)^^^v);refine ih ss _ v (λz hz=>hs z (Gm _ hz)) ?_;unfold mn;split
   .rw[Hi,Jp s v,<-Hi];exact h.add (hs s Gn)
   .exact h
 refine gen ss ss v v (λ_ h=>h) ?_;rw[IP];exact .zero
def stp(ss:List Nat)(v:Nat):List Nat:=if 0<red ss v then ss++[red ss v]else ss
def jE(vs:List Nat):List Nat:=vs.foldl stp []
theorem jD(vs:List Nat)(v:Nat):jE (vs++[v])=stp (jE vs) v:=by unfold jE;rw[IK];rfl
structure Ech(vs ss:List Nat):Prop where
 pos:∀s∈ss,0<s
 kill:∀s∈ss,red ss s=0
 span:∀x,bQ ss x↔bQ vs x
theorem sG(hp:∀s∈ss,0<s)(hk:∀s∈ss,red ss s=0)(h:bQ ss x):red ss x=0:=by
 induction h with
 |zero=>exact As ss
 |add _ hv ih=>rw[wq hp,ih,hk _ hv];rfl
theorem Ech.red{vs ss:List Nat}(h:Ech vs ss)(v:Nat):red ss v=0↔bQ vs v:=by
 rw[<-h.span v];constructor
 .intro e;have:=uL (ss:=ss) v;rw[e,J7]at this;exact this
 .exact sG h.pos h.kill
theorem Ech.step(h:Ech vs ss)(v:Nat):Ech (vs++[v]) (stp ss v):=by
 unfold stp;by_cases h0:0<Bh.red ss v
 .rw[F7 h0];have idem:Bh.red ss (Bh.red ss v)=Bh.red ss v:=by have e:=sG h.pos h.kill (uL (ss:=ss) v);rw[wq h.pos]at e;have:=GQ (· ^^^Bh.red ss v) e;simpa [Hi]using this
  refine⟨λs hs=> ?_,λs hs=> ?_,λx=> ?_⟩
  .rcases Gu.mp hs with hs|hs
   .exact h.pos s hs
   .rw[Gw.mp hs];exact h0
  .rw[Au];rcases Gu.mp hs with hs|hs
   .rw[h.kill s hs,wD]
   .rw[Gw.mp hs,idem,C0 h0]
  .have hv:=(h.span _).mp (uL (ss:=ss) v);rw[bQ.snoc,bQ.snoc,h.span,h.span];have key:∀y,bQ vs (y^^^Bh.red ss v)↔bQ vs (y^^^v):=λy=>by
    constructor
    .intro hy;have:=hy.xor hv;rw[Hi,<-Hi (Bh.red ss v),IP,J7]at this;exact this
    .intro hy;have:=hy.xor hv;rw[Jp (Bh.red ss v) v,Hi,<-Hi v,IP,J7]at this;exact this
   rw[key]
 .rw[F8 h0];have hin:bQ vs v:=(h.red v).mp (by lia);refine⟨h.pos,h.kill,λx=> ?_⟩;rw[h.span,bQ.snoc];constructor
  .exact λhx=> .inl hx
  .rintro(hx|hx)
   .exact hx
   .have:=hx.xor hin;rw[Hi,IP,Jl]at this;exact this
theorem pD(vs:List Nat):Ech vs (jE vs):=by
 have gen:∀ (r vs ss:List Nat),Ech vs ss->Ech (vs++r) (r.foldl stp ss):=by
  intro r
  induction r with
  |nil=>intro vs ss h;rw[Ic];exact h
  |cons v r ih=>
   intro vs ss h;have:=ih _ _ (h.step v);rw[IB]at this;exact this
 exact gen vs [] [] ⟨by simp,by simp,λx=>Iff.rfl⟩
def rkX(vs:List Nat):Nat:=(jE vs).length
theorem qA(h:bQ vs v):rkX (vs++[v])=rkX vs:=by unfold rkX;rw[jD,stp,F8];have:=((pD vs).red v).mpr h;lia
theorem jH(h:¬bQ vs v):rkX (vs++[v])=rkX vs+1:=by
 unfold rkX;rw[jD,stp,F7]
 .rw[Gr];rfl
 .refine KS λe=>h (((pD vs).red v).mp e)
def fq(vs:List Nat):List Nat:=vs.foldl (λacc v=>if v∈acc then acc else acc++acc.map (· ^^^v)) [0]
theorem mJ(vs:List Nat)(v:Nat):fq (vs++[v])=if v∈fq vs then fq vs else fq vs++(fq vs).map (· ^^^v):=by unfold fq;rw[IK];rfl
theorem lZ{α:Type}{P:List α->Prop}(h0:P [])(h1:∀l a,P l->P (l++[a])):∀l,P l:=by
 have:∀l:List α,P l.reverse:=by
  intro l
  induction l with
  |nil=>exact h0
  |cons a r ih=>rw[K3];exact h1 _ _ ih
 intro l;have:=this l.reverse
 rwa [List.reverse_reverse]at this
theorem fc(vs:List Nat):∀x,x∈fq vs↔bQ vs x:=by
 refine lZ (P:=λvs=>∀x,x∈fq vs↔bQ vs x) ?_ ?_ vs
 .intro x;constructor
  .intro h;rw[Gw.mp h];exact .zero
  .intro h;cases h with
   |zero=>exact Gw.mpr rfl
   |add _ hv=>cases hv
 .intro vs v ih x;rw[mJ,bQ.snoc];by_cases hv:v∈fq vs
  .rw[F7 hv,ih x];have hv':=(ih v).mp hv;constructor
   .exact λh=> .inl h
   .rintro(h|h)
    .exact h
    .have:=h.xor hv';rw[Hi,IP,Jl]at this;exact this
  .rw[F8 hv,Gu,ih x,Gz];constructor
   .rintro(h|⟨y,hy,rfl⟩)
    .exact .inl h
    .refine .inr ?_;rw[Hi,IP,Jl];exact(ih y).mp hy
   .rintro(h|h)
    .exact .inl h
    .refine .inr ⟨x^^^v,(ih _).mpr h,?_⟩;rw[Hi,IP,Jl]
theorem kX(vs:List Nat):(fq vs).Nodup/\(fq vs).length=2^rkX vs:=by
 refine lZ (P:=λvs=>(fq vs).Nodup/\(fq vs).length=2^rkX vs) ⟨by simp[fq],rfl⟩ ?_ vs;rintro vs v ⟨h1,h2⟩;rw[mJ];by_cases hv:v∈fq vs
 .rw[F7 hv,qA ((fc vs v).mp hv)];exact⟨h1,h2⟩
 .have hv':¬bQ vs v:=λh=>hv ((fc vs v).mpr h);rw[F8 hv,jH hv',Gr,F3,h2,JN,Nat.mul_two];refine⟨JL.mpr ⟨h1,?_,?_⟩,rfl⟩
  .rw[List.Nodup,List.pairwise_map];refine h1.imp λ{a b} hab e=>hab ?_;have:=GQ (· ^^^v) e;simpa [Hi]using this
  .intro a ha b hb e;obtain⟨y,hy,rfl⟩:=Gz.mp hb;subst e;have:=((fc vs _).mp ha).xor ((fc vs _).mp hy);rw[Jp y v,Hi,IP,Jl]at this;exact hv' this
theorem f9:∀ {a b:List Nat},a.Nodup->(∀x∈a,x∈b)->a.length<=b.length
 | [],_,_,_=>Hy _
 |x::r,b,nd,h=>by have hx:=h x Gn;rw[IZ]at nd;have ih:=f9 (a:=r) (b:=b.erase x) nd.2 λy hy=>(List.mem_erase_of_ne (λe=>by rw[e]at hy;exact nd.1 hy)).mpr (h y (Gm _ hy));rw[Jy hx]at ih;have:0<b.length:=Jn hx;rw[GA];lia
theorem AA(h:2^a<=2^b):a<=b:=(Nat.pow_le_pow_iff_right (by lia)).mp h
theorem Ao(h:∀v∈vs,bQ ws v):rkX vs<=rkX ws:=by have h1:=kX vs;have h2:=kX ws;have:=f9 h1.1 λx hx=>(fc ws x).mpr (((fc vs x).mp hx).sub h);rw[h1.2,h2.2]at this;exact AA this
end Bh
namespace Bh
def par(p:Nat)(ms:List Int)(c:Int)(z:Nat):Bool:=(List.range p).foldl (λb i=>b^^ (z.testBit i&&decide (ms.getD i 0=c))) false
theorem Es(ms:List Int)(c:Int):∀ (l:List Nat) (z w:Nat) (a b:Bool),
  l.foldl (λb i=>b^^ ((z^^^w).testBit i&&decide (ms.getD i 0=c))) (a^^b)=(l.foldl (λb i=>b^^ (z.testBit i&&decide (ms.getD i 0=c))) a^^l.foldl (λb i=>b^^ (w.testBit i&&decide (ms.getD i 0=c))) b):=by
 intro l
 induction l with
 |nil=>intros;rfl
 |cons i r ih=>
  intro z w a b;rw[II,II,II,<-ih,Ho];congr 1;cases a<;>cases b<;>cases z.testBit i<;>cases w.testBit i<;>cases decide (ms.getD i 0=c)<;>rfl
theorem qI(p:Nat)(ms:List Int)(c:Int)(z w:Nat):par p ms c (z^^^w)=(par p ms c z^^par p ms c w):=Es ms c (List.range p) z w false false
theorem AG(p:Nat)(ms:List Int)(c:Int):par p ms c 0=false:=by
 unfold par
 induction (List.range p)with
 |nil=>rfl
 |cons i r ih=>rw[II,HS];exact ih
theorem ma(ms:List Int)(c:Int)(hx:x<p):par p ms c (2^x)=decide (ms.getD x 0=c):=by
 unfold par;have gen:∀n,(List.range n).foldl (λb i=>b^^ ((2^x).testBit i&&decide (ms.getD i 0=c))) false=(decide (x<n)&&decide (ms.getD x 0=c)):=by
  intro n
  induction n with
  |zero=>rfl
  |succ n ih=>
   rw[IC,IK,ih];show((decide (x<n)&&decide (ms.getD x 0=c))^^ ((2^x).testBit n&&decide (ms.getD n 0=c)))=_;rw[Gg];by_cases e:x=n
   .subst e;simp
   .have h1:decide (x=n)=false:=F4 e;have h2:decide (x<n+1)=decide (x<n):=by
     by_cases h:x<n
     .rw[F5 h,F5 (by lia)]
     .rw[F4 h,F4 (by lia)]
    rw[h1,h2];simp
 rw[gen,F5 hx,Hl]
def cz(t:Nat×Nat):Nat:=2^t.1^^^2^t.2
theorem tI{ts:List (Nat×Nat)}{ms:List Int}(h:Mks p ts (λ_=>True) ms)(hb:∀t∈ts,t.1<p/\t.2<p)(hx:x<p)(hy:y<p):bQ (ts.map cz) (2^x^^^2^y)↔ms.getD x 0=ms.getD y 0:=by
 constructor
 .intro hs;have hz:∀c z,bQ (ts.map cz) z->par p ms c z=false:=by
   intro c z hz
   induction hz with
   |zero=>exact AG p ms c
   |add _ hv ih=>
    obtain⟨t,ht,rfl⟩:=Gz.mp hv;obtain⟨k,hk⟩:=Hk ht;have e:=h.eq k t hk trivial;have bt:=hb t ht;rw[qI,ih,cz,qI,ma ms c bt.1,ma ms c bt.2,e];simp
  have h1:=hz (ms.getD x 0) _ hs;rw[qI,ma _ _ hx,ma _ _ hy,F5 rfl]at h1;have:decide (ms.getD y 0=ms.getD x 0)=true:=by simpa using h1
  exact(Gx this).symm
 .intro e;have:=h.cl (λz=>bQ (ts.map cz) (2^x^^^2^z)) (λk t hk _=> ?_) x y hx hy e
  .refine this.mp ?_;rw[IP];exact .zero
  .have hm:cz t∈ts.map cz:=Gz.mpr ⟨t,Ge hk,rfl⟩;have e1:∀a b c:Nat,a^^^b^^^ (b^^^c)=a^^^c:=λa b c=>by rw[Hi,<-Hi b b c,IP,J7]
   constructor
   .intro h1;have:=h1.add hm;rw[cz,e1]at this;exact this
   .intro h1;have:=h1.add hm;rw[cz,Jp (2^t.1),e1]at this;exact this
theorem fE:∀ {a b:List Int},a.Nodup->(∀x∈a,x∈b)->a.length<=b.length
 | [],_,_,_=>Hy _
 |x::r,b,nd,h=>by have hx:=h x Gn;rw[IZ]at nd;have ih:=fE (a:=r) (b:=b.erase x) nd.2 λy hy=>(List.mem_erase_of_ne (λe=>by rw[e]at hy;exact nd.1 hy)).mpr (h y (Gm _ hy));rw[Jy hx]at ih;have:0<b.length:=Jn hx;rw[GA];lia
theorem kK(val:Nat->Int):∀p,∃L:List Int,L.Nodup/\(∀v,v∈L↔∃i,i<p/\val i=v)/\L.length=iG val p
 |0=>⟨[],by simp,λv=>by simp,rfl⟩
 |p+1=>by
  obtain⟨L,nd,hm,hl⟩:=kK val p;by_cases h:∃j,j<p/\val j=val p
  .refine⟨L,nd,λv=> ?_,by rw[tV h];exact hl⟩;rw[hm v];obtain⟨j,hj,e⟩:=h;constructor
   .rintro⟨i,hi,e'⟩;exact⟨i,by lia,e'⟩
   .rintro⟨i,hi,e'⟩;by_cases hip:i=p
    .subst hip;exact⟨j,hj,e.trans e'⟩
    .exact⟨i,by lia,e'⟩
  .refine⟨L++[val p],?_,λv=> ?_,by rw[og h,Gr,hl];rfl⟩
   .rw[JL];refine⟨nd,by simp,λa ha b hb e=> ?_⟩;rw[Gw.mp hb]at e;rw[e]at ha;exact h ((hm _).mp ha)
   .rw[Gu,hm v,Gw];constructor
    .rintro(⟨i,hi,e⟩|e)
     .exact⟨i,by lia,e⟩
     .exact⟨p,by lia,e.symm⟩
    .rintro⟨i,hi,e⟩;by_cases hip:i=p
     .subst hip;exact .inr e.symm
     .exact .inl ⟨i,by lia,e⟩
theorem za{ms:List Int}(hl:ms.length=p)(hx:x<p)(hy:y<p)(hne:¬ms.getD x 0=ms.getD y 0):iG (λi=>(mrg ms x y).getD i 0) p+1=iG (λi=>ms.getD i 0) p:=by
 obtain⟨L,nd,hm,hL⟩:=kK (λi=>ms.getD i 0) p;obtain⟨L',nd',hm',hL'⟩:=kK (λi=>(mrg ms x y).getD i 0) p;have hxL:ms.getD x 0∈L:=(hm _).mpr ⟨x,hx,rfl⟩;have key:∀v,v∈L'↔v∈L.erase (ms.getD x 0):=by
  intro v;rw[nd.mem_erase_iff,hm' v,hm v];constructor
  .rintro⟨i,hi,e⟩;have e2:(mrg ms x y).getD i 0=v:=e;rw[fS (by rw[hl];exact hi)]at e2;split at e2
   .rw[<-e2];exact⟨λe3=>hne e3.symm,y,hy,rfl⟩
   .rename_i hc;rw[<-e2];exact⟨hc,i,hi,rfl⟩
  .rintro⟨hv,i,hi,e⟩;refine⟨i,hi,?_⟩;show(mrg ms x y).getD i 0=v;have e2:ms.getD i 0=v:=e;rw[fS (by rw[hl];exact hi),F8 (by rw[e2];exact hv)];exact e2
 have h1:=fE nd' λv hv=>(key v).mp hv;have h2:=fE (nd.erase _) λv hv=>(key v).mpr hv;rw[Jy hxL]at h1 h2;have:0<L.length:=Jn hxL;lia
theorem A3{ms:List Int}(hl:ms.length=p)(e:ms.getD x 0=ms.getD y 0):mrg ms x y=ms:=by
 unfold mrg;rw[<-e]
 conv=>rhs;rw[<-Jk ms]
 refine HP λm _=> ?_;show(if m=_ then _ else m)=m;split
 .rename_i h;exact h.symm
 .rfl
def mkA(p:Nat)(ts:List (Nat×Nat)):List Int:=ts.foldl (λms t=>mrg ms t.1 t.2) (start p)
theorem sZ(p:Nat)(ts:List (Nat×Nat))(t:Nat×Nat):mkA p (ts++[t])=mrg (mkA p ts) t.1 t.2:=by unfold mkA;rw[IK];rfl
theorem EA(ts:List (Nat×Nat))(hb:∀t∈ts,t.1<p/\t.2<p):Mks p ts (λ_=>True) (mkA p ts):=by
 revert hb
 refine lZ (P:=λts=>(∀t∈ts,t.1<p/\t.2<p)->Mks p ts (λ_=>True) (mkA p ts)) ?_ ?_ ts
 .intro _;exact⟨by simp[mkA,start],λk t hk=>by simp at hk,λP _=>(Mks.start p []).cl P λk t hk=>by simp at hk⟩
 .intro ts t ih hb;have h:=ih λu hu=>hb u (Ii _ hu);have hbt:=hb t (Hm _ (Gw.mpr rfl));rw[sZ];have hk:(ts++[t])[ts.length]?=some t:=by simp
  have h':Mks p (ts++[t]) (λj=>j<ts.length) (mkA p ts):=by refine⟨h.len,λk u hku hs=>h.eq k u (by rw[GH hs]at hku;exact hku) trivial,λP hP=>h.cl P λk u hku _=> ?_⟩;have hkl:k<ts.length:=(Ga.mp hku).1;exact hP k u (by rw[GH hkl];exact hku) hkl
  refine(h'.step hb hk).congr λj u hj=> ?_;have:=(Ga.mp hj).1;rw[Gr]at this;have:j<ts.length+1:=this;constructor
  .intro _;trivial
  .intro _;lia
theorem yZ(p:Nat):iG (λi=>(start p).getD i 0) p=p:=by
 have gen:∀n,n<=p->iG (λi=>(start p).getD i 0) n=n:=by
  intro n
  induction n with
  |zero=>intro _;rfl
  |succ n ih=>
   intro hn;rw[og,ih (by lia)];rintro⟨j,hj,e⟩;have e2:(start p).getD j 0=(start p).getD n 0:=e;have e3:(start p).getD j 0=(j:Int):=by
    have:j<p:=by lia
    simp[start,this]
   have e4:(start p).getD n 0=(n:Int):=by
    have:n<p:=by lia
    simp[start,this]
   rw[e3,e4]at e2;lia
 exact gen p (Gf _)
theorem AZ(ts:List (Nat×Nat))(hb:∀t∈ts,t.1<p/\t.2<p):iG (λi=>(mkA p ts).getD i 0) p+rkX (ts.map cz)=p:=by
 revert hb
 refine lZ (P:=λts=>(∀t∈ts,t.1<p/\t.2<p)->iG (λi=>(mkA p ts).getD i 0) p+rkX (ts.map cz)=p) ?_ ?_ ts
 .intro _;exact yZ p
 .intro ts t ih hb;have hb0:∀u∈ts,u.1<p/\u.2<p:=λu hu=>hb u (Ii _ hu);have h:=ih hb0;have hM:=EA ts hb0;have hbt:=hb t (Hm _ (Gw.mpr rfl));have hi:bQ (ts.map cz) (cz t)↔_:=tI hM hb0 hbt.1 hbt.2;rw[sZ,GO];show _+rkX (ts.map cz++[cz t])=p;by_cases e:(mkA p ts).getD t.1 0=(mkA p ts).getD t.2 0
  .rw[A3 hM.len e,qA (hi.mpr e)];exact h
  .rw[jH λz=>e (hi.mp z)];have:=za hM.len hbt.1 hbt.2 e;lia
end Bh
namespace Bh
def dot(n:Nat)(r:List Int)(x:Nat):Bool:=par n r 1 x
def Bin(n:Nat)(r:List Int):Prop:=r.length=n/\∀z∈r,z=0\/z=1
theorem Bin.at{r:List Int}(h:Bin n r)(hj:j<n):r.getD j 0=0\/r.getD j 0=1:=by
 have:j<r.length:=by rw[h.1];exact hj
 have e:r.getD j 0=r[j]:=by simp[this]
 rw[e];exact h.2 _ (Ik this)
def El(n:Nat)(M L:List (List Int))(c:Nat):Prop:=∀x,(∀j,j<c->x.testBit j=false)->((∀r∈L,dot n r x=false)↔∃y,y<2^c/\∀r∈M,dot n r (x^^^y)=false)
theorem El.start(n:Nat)(M:List (List Int)):El n M M 0:=by
 intro x _;constructor
 .intro h;exact⟨0,by decide,by rw[Jl];exact h⟩
 .rintro⟨y,hy,h⟩;have:y=0:=by have:(2:Nat)^0=1:=rfl;lia
  rw[this,Jl]at h;exact h
end Bh
namespace Bh
structure Mat(n:Nat)(r:Nat->Nat):Prop where
 n8:n<=8
 zero:r 0=0
 step:∀s k,s<2^n->k<n->r s<=r (s|||2^k)/\r (s|||2^k)<=r s+1
 sub:∀s j k,s<2^n->j<n->k<n->r (s|||2^j)=r s->r (s|||2^k)=r s->r (s|||2^j|||2^k)=r s
def Sub(a b:Nat):Prop:=∀k,a.testBit k=true->b.testBit k=true
theorem Sub.refl(a:Nat):Sub a a:=λ_ h=>h
theorem Sub.trans(h:Sub a b)(g:Sub b c):Sub a c:=λk hk=>g k (h k hk)
theorem Sub.lt(h:Sub a b)(hb:b<2^n):a<2^n:=Jj _ λi hi=>by
 cases e:a.testBit i with
 |false=>rfl
 |true=>
  have:=h i e;rw[GX (F9 hb (Gv (by lia) hi))]at this;cases this
theorem aQ(hs:s<2^n)(hk:k<n):s|||2^k<2^n:=Iw hs (Je (by lia) hk)
theorem a7(s k j:Nat):(s|||2^k).testBit j=(s.testBit j||decide (k=j)):=by rw[GC,Gg]
theorem dn{s k:Nat}(h:s.testBit k=true):s|||2^k=s:=Gi λj=>by
 rw[a7];by_cases e:k=j
 .subst e;rw[h];rfl
 .rw[F4 e,IM]
def upto(s t:Nat):Nat->Nat
 |0=>s
 |i+1=>if t.testBit i=true then upto s t i|||2^i else upto s t i
theorem dR(s t i:Nat):upto s t (i+1)=if t.testBit i=true then upto s t i|||2^i else upto s t i:=rfl
theorem gX(s t j:Nat):∀i,(upto s t i).testBit j=(s.testBit j||(decide (j<i)&&t.testBit j))
 |0=>by simp[upto]
 |i+1=>by
  rw[dR];by_cases hb:t.testBit i=true
  .rw[F7 hb,a7,gX s t j i];by_cases e:i=j
   .subst e;simp[hb]
   .have h2:decide (j<i+1)=decide (j<i):=by
     by_cases h:j<i
     .rw[F5 h,F5 (by lia)]
     .rw[F4 h,F4 (by lia)]
    rw[F4 e,h2,IM]
  .rw[F8 hb,gX s t j i];by_cases e:i=j
   .subst e;simp[hb]
   .have h2:decide (j<i+1)=decide (j<i):=by
     by_cases h:j<i
     .rw[F5 h,F5 (by lia)]
     .rw[F4 h,F4 (by lia)]
    rw[h2]
theorem gY(ht:t<2^n):upto s t n=s|||t:=Gi λj=>by
 rw[gX,GC];by_cases h:j<n
 .rw[F5 h,Hl]
 .rw[GX (F9 ht (Gv (by lia) (by lia))),Hu]
theorem gB(hs:s<2^n):∀i,i<=n->upto s t i<2^n
 |0,_=>hs
 |i+1,hi=>by
  rw[dR];split
  .exact aQ (gB hs i (by lia)) (by lia)
  .exact gB hs i (by lia)
theorem qJ(h:Sub s t):s|||t=t:=Gi λj=>by
 rw[GC];cases e:s.testBit j with
 |false=>rfl
 |true=>rw[h j e];rfl
namespace Mat
variable{n:Nat}{r:Nat->Nat}(M:Mat n r)
include M
theorem mono(h:Sub s t)(ht:t<2^n):r s<=r t:=by
 have hs:=h.lt ht;have gen:∀i,i<=n->r s<=r (upto s t i):=by
  intro i
  induction i with
  |zero=>intro _;exact Gf _
  |succ i ih=>
   intro hi;rw[dR];split
   .exact Gd (ih (by lia)) (M.step _ i (gB hs i (by lia)) (by lia)).1
   .exact ih (by lia)
 have:=gen n (Gf _);rw[gY ht,qJ h]at this;exact this
theorem keep(h:Sub s t)(ht:t<2^n)(hk:k<n)(e:r (s|||2^k)=r s):r (t|||2^k)=r t:=by
 have hs:=h.lt ht;have gen:∀i,i<=n->r (upto s t i|||2^k)=r (upto s t i):=by
  intro i
  induction i with
  |zero=>intro _;exact e
  |succ i ih=>
   intro hi;have ih:=ih (by lia);rw[dR];split
   .have hl:=gB (t:=t) hs i (by lia);generalize upto s t i=u at*;have s1:=M.step u i hl (by lia);have s2:=M.step (u|||2^i) k (aQ hl (by lia)) hk;have s3:=M.step (u|||2^k) i (aQ hl hk) (by lia);have ec:u|||2^k|||2^i=u|||2^i|||2^k:=by rw[Jq,Ki (2^k),<-Jq]
    rw[ec]at s3;by_cases e1:r (u|||2^i)=r u
    .have:=M.sub u i k hl (by lia) hk e1 ih;lia
    .lia
   .exact ih
 have:=gen n (Gf _);rw[gY ht,qJ h]at this;exact this
theorem closed{s t:Nat}(hs:s<2^n)(ht:t<2^n)(h:∀k,t.testBit k=true->r (s|||2^k)=r s):r (s|||t)=r s:=by
 have gen:∀i,i<=n->r (upto s t i)=r s:=by
  intro i
  induction i with
  |zero=>intro _;rfl
  |succ i ih=>
   intro hi;have ih:=ih (by lia);rw[dR];split
   .rename_i hb;have hsu:Sub s (upto s t i):=λj hj=>by rw[gX,hj];rfl
    rw[M.keep hsu (gB hs i (by lia)) (by lia) (h i hb)];exact ih
   .exact ih
 have:=gen n (Gf _)
 rwa [gY ht]at this
end Mat
def grow(r:Nat->Nat)(s t:Nat):Nat->Nat
 |0=>s
 |i+1=>if t.testBit i=true/\r (grow r s t i)<r (grow r s t i|||2^i)then grow r s t i|||2^i else grow r s t i
theorem yO(r:Nat->Nat)(s t i:Nat):grow r s t (i+1)=if t.testBit i=true/\r (grow r s t i)<r (grow r s t i|||2^i)then grow r s t i|||2^i else grow r s t i:=rfl
theorem c5:∀s:Nat,s<256->∀k:Nat,k<8->s.testBit k=false->sz (s|||2^k)=sz s+1:=by decide+kernel
theorem DI(h:n<=8):2^n<=256:=Gv (n:=2) (by lia) h
namespace Mat
variable{n:Nat}{r:Nat->Nat}(M:Mat n r)
include M
theorem eC(hs:s<2^n):s<256:=F9 hs (DI M.n8)
theorem k9:∀s,s<2^n->r s<=sz s:=by
 intro s hs;have gen:∀i,i<=n->r (upto 0 s i)<=sz (upto 0 s i):=by
  intro i
  induction i with
  |zero=>intro _;show r 0<=_;rw[M.zero];exact Hy _
  |succ i ih=>
   intro hi;have ih:=ih (by lia);rw[dR];have hl:upto 0 s i<2^n:=gB (ID (by lia)) i (by lia);split
   .have hb:(upto 0 s i).testBit i=false:=by rw[gX];simp
    rw[c5 _ (M.eC hl) i (by have:=M.n8;lia) hb];have:=(M.step _ i hl (by lia)).2;lia
   .exact ih
 have:=gen n (Gf _);rw[gY hs,Lm]at this;exact this
theorem vm{s t:Nat}(hst:Sub s t)(ht:t<2^n)(hf:r s=sz s):∀i,i<=n->Sub s (grow r s t i)/\Sub (grow r s t i) t/\r (grow r s t i)=sz (grow r s t i)/\
  ∀k,k<i->t.testBit k=true->r (grow r s t i|||2^k)=r (grow r s t i):=by
 intro i
 induction i with
 |zero=>intro _;exact⟨Sub.refl _,hst,hf,λk hk=>absurd hk (J2 _)⟩
 |succ i ih=>
  intro hi;obtain⟨h1,h2,h3,h4⟩:=ih (by lia);rw[yO];have hl:=h2.lt ht;generalize grow r s t i=g at*;have n8:=M.n8;by_cases c:t.testBit i=true/\r g<r (g|||2^i)
  .rw[F7 c];have hb:g.testBit i=false:=by
    cases e:g.testBit i with
    |false=>rfl
    |true=>rw[dn e]at c;exact absurd c.2 (IA _)
   have st:=M.step g i hl (by lia);have hl2:=aQ (k:=i) hl (by lia);have hsub:Sub g (g|||2^i):=λj hj=>by rw[a7,hj];rfl
   refine⟨h1.trans hsub,λj hj=> ?_,?_,λk hk hk2=> ?_⟩
   .rw[a7]at hj;by_cases e:i=j
    .subst e;exact c.1
    .rw[F4 e,IM]at hj;exact h2 j hj
   .rw[c5 g (M.eC hl) i (by lia) hb];lia
   .by_cases e:k=i
    .subst e;rw[dn];rw[a7];simp
    .exact M.keep hsub hl2 (by lia) (h4 k (by lia) hk2)
  .rw[F8 c];refine⟨h1,h2,h3,λk hk hk2=> ?_⟩;by_cases e:k=i
   .subst e;have st:=M.step g k hl (by lia);have:¬r g<r (g|||2^k):=λz=>c ⟨hk2,z⟩;lia
   .exact h4 k (by lia) hk2
theorem extend(hst:Sub s t)(ht:t<2^n)(hf:r s=sz s):∃g,Sub s g/\Sub g t/\r g=sz g/\r g=r t:=by
 obtain⟨h1,h2,h3,h4⟩:=M.vm hst ht hf n (Gf _);refine⟨grow r s t n,h1,h2,h3,?_⟩;have hl:=h2.lt ht;have:=M.closed hl ht λk hk=>h4 k (by
  refine Jd λhn=> ?_;rw[GX (F9 ht (Gv (by lia) hn))]at hk;cases hk) hk
 rw[qJ h2]at this;exact this.symm
end Mat
end Bh
namespace Bh
theorem xu(a b:Nat):Sub (a&&&b) a:=λk h=>by rw[Hw,GL]at h;exact h.1
theorem xt(a b:Nat):Sub (a&&&b) b:=λk h=>by rw[Hw,GL]at h;exact h.2
theorem jC(h:Sub a b)(g:Sub a c):Sub a (b&&&c):=λk hk=>by rw[Hw,h k hk,g k hk];rfl
theorem jB(hs:s<2^n):Sub s (2^n-1):=λk hk=>by rw[GD];refine F5 (Jd λh=> ?_);rw[GX (F9 hs (Gv (by lia) h))]at hk;cases hk
theorem cQ(n:Nat):2^n-1<2^n:=by have:0<2^n:=ID (by lia);lia
theorem gC:sz 0=0:=by decide
namespace Mat
variable{n:Nat}{r:Nat->Nat}(M:Mat n r)
include M
theorem wI(h:Sub x b)(hb:b<2^n):r b+sz x<=r x+sz b:=by
 have hx:=h.lt hb;have gen:∀i,i<=n->r (upto x b i)+sz x<=r x+sz (upto x b i):=by
  intro i
  induction i with
  |zero=>intro _;exact Gf _
  |succ i ih=>
   intro hi;have ih:=ih (by lia);rw[dR];have hl:=gB (t:=b) hx i (by lia);split
   .generalize upto x b i=u at*;cases e:u.testBit i with
    |true=>rw[dn e];exact ih
    |false=>
     rw[c5 u (M.eC hl) i (by have:=M.n8;lia) e];have:=(M.step u i hl (by lia)).2;lia
   .exact ih
 have:=gen n (Gf _);rw[gY hb,qJ h]at this;exact this
theorem j3(h:Sub x b)(hb:b<2^n)(hf:r b=sz b):r x=sz x:=by have h1:=M.wI h hb;have h2:=M.k9 x (h.lt hb);lia
theorem t6(hm:∀z,z∈ms↔∃b:Nat,b<2^n/\z=(b:Int)/\r b=sz b/\r b=r (2^n-1))(hs:s<2^n):bF ms s=r s:=by
 obtain⟨g,_,hgs,hgf,hgr⟩:=M.extend (s:=0) (t:=s) (λk h=>by rw[HS]at h;cases h) hs (by rw[M.zero,gC]);obtain⟨b,hgb,hbf,hbz,hbr⟩:=M.extend (t:=2^n-1) (jB (hgs.lt hs)) (cQ n) hgf;have hbl:b<2^n:=hbf.lt (cQ n);have key:∀b:Nat,b<2^n->r b=sz b->sz (s&&&b)<=r s:=λb hb hf=>by rw[<-M.j3 (xt s b) hb hf];exact M.mono (xu s b) hs
 refine kR ⟨(b:Int),(hm _).mpr ⟨b,hbl,rfl,hbz,hbr⟩,?_⟩ λm hmm=> ?_
 .rw[F6];have h1:=key b hbl hbz;have h2:sz g<=sz (s&&&b):=lV λk _ hk=>jC hgs hgb k hk;lia
 .obtain⟨b',hb',rfl,hf',_⟩:=(hm m).mp hmm;rw[F6];exact key b' hb' hf'
end Mat
def ao(cols:List Nat)(s:Nat):List Nat:=(bits s).map λz:Int=>cols.getD z.toNat 0
theorem dz{cols:List Nat}{s v:Nat}:v∈ao cols s↔∃k,k<8/\s.testBit k=true/\v=cols.getD k 0:=by
 unfold ao;rw[Gz];constructor
 .rintro⟨z,hz,rfl⟩;obtain⟨k,hk,hb,rfl⟩:=bO.mp hz;exact⟨k,hk,hb,by rw[F6]⟩
 .rintro⟨k,hk,hb,rfl⟩;exact⟨(k:Int),bO.mpr ⟨k,hk,hb,rfl⟩,by rw[F6]⟩
def rkC(cols:List Nat)(s:Nat):Nat:=rkX (ao cols s)
theorem uK(cols:List Nat)(hk:k<8):rkC cols (s|||2^k)=rkX (ao cols s++[cols.getD k 0]):=by
 refine Ir (Ao λv hv=> ?_) (Ao λv hv=> ?_)
 .obtain⟨j,hj,hb,rfl⟩:=dz.mp hv;rw[a7]at hb;by_cases e:k=j
  .subst e;exact .of_mem (Hm _ (Gw.mpr rfl))
  .rw[F4 e,IM]at hb;exact .of_mem (Ii _ (dz.mpr ⟨j,hj,hb,rfl⟩))
 .rcases Gu.mp hv with hv|hv
  .obtain⟨j,hj,hb,rfl⟩:=dz.mp hv;exact .of_mem (dz.mpr ⟨j,hj,by rw[a7,hb];rfl,rfl⟩)
  .rw[Gw.mp hv];exact .of_mem (dz.mpr ⟨k,hk,by rw[a7];simp,rfl⟩)
theorem Bb(cols:List Nat)(h8:n<=8):Mat n (rkC cols):=by
 refine⟨h8,?_,λs k hs hk=> ?_,λs j k hs hj hk e1 e2=> ?_⟩
 .show rkX (ao cols 0)=0;have:bits 0=[]:=by decide
  have:ao cols 0=[]:=by unfold ao;rw[this];rfl
  rw[this];rfl
 .rw[uK cols (by lia)];show rkX _<=_/\_<=rkX _+1;by_cases h:bQ (ao cols s) (cols.getD k 0)
  .rw[qA h];lia
  .rw[jH h];lia
 .rw[uK cols (by lia)]at e1 e2⊢;have in1:bQ (ao cols s) (cols.getD j 0):=by refine Hq λh=> ?_;rw[jH h]at e1;have:rkX (ao cols s)+1=rkX (ao cols s):=e1;lia
  have in2:bQ (ao cols s) (cols.getD k 0):=by refine Hq λh=> ?_;rw[jH h]at e2;have:rkX (ao cols s)+1=rkX (ao cols s):=e2;lia
  have sub:∀v∈ao cols s,v∈ao cols (s|||2^j):=λv hv=>by obtain⟨i,hi,hb,rfl⟩:=dz.mp hv;exact dz.mpr ⟨i,hi,by rw[a7,hb];rfl,rfl⟩
  rw[qA (in2.sub λv hv=> .of_mem (sub v hv))];show rkC cols (s|||2^j)=_;rw[uK cols (by lia)];exact e1
def rkG(m:Nat)(gone:List Int)(s:Nat):Nat:=min (sz s) m- (if(s:Int)∈gone then 1 else 0)
structure oE(n m:Nat)(gone:List Int):Prop where
 size:∀z∈gone,∃s:Nat,s<2^n/\z=(s:Int)/\sz s=m
 far:Far (m:Int) gone
 mid:gone=[]\/(0<m/\m<n)
theorem oE.not(h:oE n m gone)(hs:¬sz s=m):¬(s:Int)∈gone:=λhm=>by
 obtain⟨t,_,e,ht⟩:=h.size _ hm;have:s=t:=by lia
 rw[this]at hs;exact hs ht
theorem vF{s j k:Nat}(hj:s.testBit j=false)(hk:s.testBit k=false)(hjk:j≠k):(s|||2^j)&&& (s|||2^k)=s:=Gi λi=>by
 rw[Hw,a7,a7];by_cases e1:j=i
 .subst e1;rw[hj,F4 (Ko hjk)];simp
 .by_cases e2:k=i
  .subst e2;rw[hk,F4 e1];simp
  .rw[F4 e1,F4 e2];simp
theorem Ba(h8:n<=8)(h:oE n m gone):Mat n (rkG m gone):=by
 have b256:∀ {s},s<2^n->s<256:=λhs=>F9 hs (DI h8);have one:∀ (s:Nat),(if(s:Int)∈gone then 1 else 0)<=1:=λs=>by split<;>lia
 have off:∀ {s:Nat},¬sz s=m->rkG m gone s=min (sz s) m:=λhs=>by unfold rkG;rw[F8 (h.not hs)];rfl
 have low:∀ (s:Nat),rkG m gone s<=min (sz s) m/\min (sz s) m<=rkG m gone s+1:=λs=>by unfold rkG;have:=one s;lia
 refine⟨h8,?_,λs k hs hk=> ?_,λs j k hs hj hk e1 e2=> ?_⟩
 .unfold rkG;rw[gC];lia
 .cases e:s.testBit k with
  |true=>rw[dn e];lia
  |false=>
   have hz:=c5 s (b256 hs) k (by lia) e;have l1:=low s;have l2:=low (s|||2^k);by_cases c1:sz s=m
   .have o2:=off (s:=s|||2^k) (by lia);lia
   .have o1:=off c1;by_cases c2:sz (s|||2^k)=m
    .lia
    .have o2:=off c2;lia
 .cases ej:s.testBit j with
  |true=>rw[dn ej];exact e2
  |false=>
   cases ek:s.testBit k with
   |true=>
    have hk2:(s|||2^j).testBit k=true:=by rw[a7,ek];rfl
    rw[dn hk2];exact e1
   |false=>
    by_cases hjk:j=k
    .subst hjk;rw[dn (by rw[a7];simp)];exact e1
    .have zj:=c5 s (b256 hs) j (by lia) ej;have zk:=c5 s (b256 hs) k (by lia) ek;have ek2:(s|||2^j).testBit k=false:=by rw[a7,ek,F4 hjk];rfl
     have zjk:=c5 (s|||2^j) (b256 (aQ hs hj)) k (by lia) ek2;by_cases c1:sz s=m
     .have oj:=off (s:=s|||2^j) (by lia);have ojk:=off (s:=s|||2^j|||2^k) (by lia);lia
     .have o1:=off c1;by_cases c2:sz (s|||2^j)=m
      .exfalso;have gj:((s|||2^j:Nat):Int)∈gone:=by
        refine Hq λhn=> ?_;have:rkG m gone (s|||2^j)=min (sz (s|||2^j)) m:=by unfold rkG;rw[F8 hn];rfl
        lia
       have gk:((s|||2^k:Nat):Int)∈gone:=by
        refine Hq λhn=> ?_;have:rkG m gone (s|||2^k)=min (sz (s|||2^k)) m:=by unfold rkG;rw[F8 hn];rfl
        lia
       have hne:((s|||2^j:Nat):Int)≠((s|||2^k:Nat):Int):=λe=>by
        have e':s|||2^j=s|||2^k:=by lia
        have:(s|||2^j).testBit k=(s|||2^k).testBit k:=by rw[e']
        rw[ek2,a7]at this;simp at this
       have:=h.far _ gj _ gk hne;rw[F6,F6,vF ej ek hjk]at this;lia
      .have oj:=off c2;have ok:=off (s:=s|||2^k) (by lia);by_cases c3:sz (s|||2^j|||2^k)=m
       .lia
       .have:=off c3;lia
end Bh
namespace Bh
theorem j5(p q:Nat->Bool):∀l:List Nat,(l.filter λk=>p k&&q k).length+(l.filter λk=>p k&& !q k).length=(l.filter p).length
 | []=>rfl
 |k::l=>by have ih:=j5 p q l;rw[Il,Il,Il];cases hp:p k<;>cases hq:q k<;>simp[hp,hq]<;>lia
theorem z4{s a b:Nat}(q:Nat->Bool)(ha:∀k,k<8->a.testBit k=(s.testBit k&&q k))(hb:∀k,k<8->b.testBit k=(s.testBit k&& !q k)):sz a+sz b=sz s:=by rw[fi,fi,fi,<-j5 s.testBit q (List.range 8)];have e1:(List.range 8).filter a.testBit=(List.range 8).filter λk=>s.testBit k&&q k:=Ih λk hk=>ha k (Gk.mp hk);have e2:(List.range 8).filter b.testBit=(List.range 8).filter λk=>s.testBit k&& !q k:=Ih λk hk=>hb k (Gk.mp hk);rw[e1,e2]
theorem d6{n s:Nat}(k:Nat):(aC (2^n-1) s).testBit k=(decide (k<n)&& !s.testBit k):=by rw[br,GD]
theorem da{n s k:Nat}(hs:s<2^n)(h:s.testBit k=true):k<n:=by refine Jd λhn=> ?_;rw[GX (F9 hs (Gv (by lia) hn))]at h;cases h
theorem vP(hn:n<=8)(hs:s<2^n):sz s+sz (aC (2^n-1) s)=n:=by
 have h:=z4 (s:=2^n-1) (a:=s) (b:=aC (2^n-1) s) s.testBit (λk _=> ?_) λk _=> ?_
 .rw[h];exact z5 n (by lia)
 .rw[GD];cases hb:s.testBit k with
  |false=>rw[Hu]
  |true=>rw[F5 (da hs hb)];rfl
 .rw[d6,GD]
namespace Mat
variable{n:Nat}{r:Nat->Nat}(M:Mat n r)
include M
end Mat
end Bh
namespace Bh
theorem cT{s h t:Nat}:(aT s h).testBit t=true↔∃j,(bits h)[j]?=some (t:Int)/\s.testBit j=true:=by
 unfold aT;rw[ia λz hz=>(fR z hz).1,iT];constructor
 .rintro⟨j,h1,h2⟩;exact⟨j,h1,by rw[Jo]at h2;exact h2⟩
 .rintro⟨j,h1,h2⟩;exact⟨j,h1,by rw[Jo];exact h2⟩
theorem Du{h t:Nat}(h8:h<256)(ht:h.testBit t=true):∃j:Nat,(bits h)[j]?=some (t:Int):=by
 have t8:t<8:=by refine Jd λhn=> ?_;rw[GX (F9 (show h<2^8 from h8) (Gv (by lia) hn))]at ht;cases ht
 exact Hk (bO.mpr ⟨t,t8,ht,rfl⟩)
theorem BV{h j t:Nat}(hj:(bits h)[j]?=some (t:Int)):h.testBit t=true:=by
 obtain⟨k,_,hb,e⟩:=bO.mp (Ge hj);have:t=k:=by lia
 rw[this];exact hb
theorem fo(s h:Nat):Sub (aT s h) h:=λt ht=>by obtain⟨j,hj,_⟩:=cT.mp ht;exact BV hj
theorem BS{k s:Nat}(h:Sub k s):bits k=(bits s).filter λz=>k.testBit z.toNat:=by
 unfold bits;rw[JG,Jr];congr 1;refine Ih λt _=> ?_;show k.testBit t=(k.testBit ((t:Nat):Int).toNat&&s.testBit t);rw[F6];cases hk:k.testBit t with
 |false=>rfl
 |true=>rw[h t hk];rfl
theorem tF(s:Nat):(bits s).length=sz s:=rfl
theorem xP(hj:(bits h).length<=j):(dM s h).testBit j=false:=by
 cases e:(dM s h).testBit j with
 |false=>rfl
 |true=>
  unfold dM at e;rw[ia (λz hz=>(jk (aN h) z hz).1),ir]at e;obtain⟨i,y,h1,_,e2⟩:=e;have:=(Ga.mp h1).1;lia
theorem vC(k s:Nat):bits (dM k s)=idxs (λ_ z=>k.testBit z.toNat) 0 (bits s):=by
 rw[tK (q:=λz=>k.testBit z.toNat) 0];have hl:(bits s).length<=8:=aN s;unfold bits;have e:(List.range 8).filter (dM k s).testBit=(List.range (bits s).length).filter λj=>k.testBit ((bits s).getD j 0).toNat:=by
  have gen:∀d,(bits s).length+d<=8->(List.range ((bits s).length+d)).filter (dM k s).testBit=(List.range (bits s).length).filter (dM k s).testBit:=by
   intro d
   induction d with
   |zero=>intro _;rfl
   |succ d ih=>
    intro hd;rw[show(bits s).length+(d+1)=(bits s).length+d+1 from rfl,IC,Jb,ih (by lia),Ka (by rw[xP (by lia)];exact Gj)];simp
  have g:=gen (8- (bits s).length) (by lia);rw[show(bits s).length+(8- (bits s).length)=8 by lia]at g;rw[g];refine Ih λj hj=> ?_;have hjl:=Gk.mp hj;have hz:(bits s)[j]?=some ((bits s).getD j 0):=by simp[hjl]
  exact xQ hz
 show((List.range 8).filter (dM k s).testBit).map _=_;rw[e];refine HP λj _=> ?_;show(j:Int)=((0+j:Nat):Int);rw[Jo]
theorem nP:∀ (hs:List Int) (i:Nat),(idxs (λ_ z=>q z) i hs).length=(hs.filter q).length
 | [],_=>rfl
 |x::r,i=>by
  rw[idxs,Il];split
  .rw[GA,GA,nP r (i+1)]
  .exact nP r (i+1)
theorem zY(h:Sub k s):sz (dM k s)=sz k:=by rw[<-tF,vC,nP,<-tF,BS h]
theorem zq:∀n:Nat,n<9->bits (2^n-1)=(List.range n).map λj:Nat=>(j:Int):=by decide+kernel
def eo(r:Nat->Nat)(k w:Nat)(s:Nat):Nat:=r (aT s k|||w) -r w
theorem Mat.min_int(M:Mat n r)(hk:k<2^n)(hw:w<2^n)(s:Nat):((eo r k w s:Nat):Int)=(r (aT s k|||w):Nat) - (r w:Nat):=by
 have h1:aT s k|||w<2^n:=Iw ((fo s k).lt hk) hw;have h2:Sub w (aT s k|||w):=λt h=>by rw[GC,h,KA]
 have:=M.mono h2 h1;unfold eo;lia
end Bh
namespace Bh
theorem yC(n:Nat):aC (2^n-1) 0=2^n-1:=Gi λj=>by rw[d6,HS,GD];simp
theorem jd{s k:Nat}(hs:s<256)(hk:k<8)(h:s.testBit k=false):sz (s|||2^k)=sz s+1:=c5 s hs k hk h
theorem kq{k i:Nat}(hi:i<sz k):∃t,k.testBit t=true/\∀s,aT (s|||2^i) k=aT s k|||2^t:=by
 have hil:i<(bits k).length:=hi;have hz:(bits k)[i]?=some (bits k)[i]:=Gp hil;generalize (bits k)[i]=z at hz;obtain⟨t,_,hb,rfl⟩:=bO.mp (Ge hz);refine⟨t,hb,λs=>Gi λj=> ?_⟩;rw[IS,cT,a7,Im,cT];constructor
 .rintro⟨m,h1,h2⟩;rw[a7,Im]at h2;rcases h2 with h2|h2
  .exact .inl ⟨m,h1,h2⟩
  .have e:=Gx h2;subst e;rw[hz]at h1;have:=GY h1;exact .inr (F5 (by lia))
 .rintro(⟨m,h1,h2⟩|h)
  .exact⟨m,h1,by rw[a7,h2];rfl⟩
  .have e:=Gx h;subst e;exact⟨i,hz,by rw[a7,F5 rfl,KA]⟩
theorem kO(k:Nat):aT 0 k=0:=Gi λt=>by
 rw[HS];cases h:(aT 0 k).testBit t with
 |false=>rfl
 |true=>
  obtain⟨j,_,h2⟩:=cT.mp h;rw[HS]at h2;cases h2
theorem nh(a b w:Nat):a|||b|||w=a|||w|||b:=by rw[Jq,Ki b w,<-Jq]
theorem Mat.minor(M:Mat n r)(hk:k<2^n)(hw:w<2^n):Mat (sz k) (eo r k w):=by
 have xl:∀s,aT s k|||w<2^n:=λs=>Iw ((fo s k).lt hk) hw;refine⟨aN k,?_,λs i hs hi=> ?_,λs i j hs hi hj h1 h2=> ?_⟩
 .unfold eo;rw[kO,Lm];lia
 .obtain⟨t,ht,e⟩:=kq hi;have tn:=da hk ht;have a1:=M.min_int hk hw s;have a2:=M.min_int hk hw (s|||2^i);rw[e,nh]at a2;have:=M.step _ t (xl s) tn;lia
 .obtain⟨t,ht,e⟩:=kq hi;obtain⟨u,hu,e2⟩:=kq hj;have tn:=da hk ht;have un:=da hk hu;have a0:=M.min_int hk hw s;have a1:=M.min_int hk hw (s|||2^i);have a2:=M.min_int hk hw (s|||2^j);have a3:=M.min_int hk hw (s|||2^i|||2^j);rw[e,nh]at a1;rw[e2,nh]at a2;have e5:aT (s|||2^i|||2^j) k|||w=aT s k|||w|||2^t|||2^u:=by rw[e2,e,nh _ (2^u) w,nh _ (2^t) w]
  rw[e5]at a3;have:=M.sub _ t u (xl s) tn un (by lia) (by lia);lia
theorem mf{n s j:Nat}:(s % 2^n).testBit j=(decide (j<n)&&s.testBit j):=by rw[JC]
theorem jh(hk:k<n):(s|||2^k) % 2^n=s % 2^n|||2^k/\(s|||2^k) /2^n=s/2^n:=by
 refine⟨Gi λj=> ?_,Gi λj=> ?_⟩
 .rw[mf,a7,a7,mf];by_cases e:k=j
  .subst e;simp[hk]
  .simp[e]
 .rw[IG,IG,a7,F4 (by lia),IM]
theorem gG(hk:n<=k):(s|||2^k) % 2^n=s % 2^n/\(s|||2^k) /2^n=s/2^n|||2^(k-n):=by
 refine⟨Gi λj=> ?_,Gi λj=> ?_⟩
 .rw[mf,a7,mf];by_cases hj:j<n
  .rw[F4 (show¬k=j by lia),IM]
  .rw[F4 hj];rfl
 .rw[IG,a7,a7,IG];congr 1;exact Iu.mpr ⟨λh=>by lia,λh=>by lia⟩
def wj(n1:Nat)(r1 r2:Nat->Nat)(s:Nat):Nat:=r1 (s % 2^n1)+r2 (s/2^n1)
theorem Mat.side(M1:Mat n1 r1)(M2:Mat n2 r2)(h8:n1+n2<=8):Mat (n1+n2) (wj n1 r1 r2):=by
 have p1:0<2^n1:=ID (by lia);have lo:∀s,s % 2^n1<2^n1:=λs=>Lr _ p1;have hi:∀s,s<2^(n1+n2)->s/2^n1<2^n2:=λs hs=>by rw[Nat.div_lt_iff_lt_mul p1,<-Lk,Nat.add_comm n2 n1];exact hs
 refine⟨h8,?_,λs k hs hk=> ?_,λs j k hs hj hk e1 e2=> ?_⟩
 .unfold wj;rw[Nat.zero_mod,Nat.zero_div,M1.zero,M2.zero]
 .unfold wj;by_cases h:k<n1
  .obtain⟨a,b⟩:=jh (s:=s) h;rw[a,b];have:=M1.step _ k (lo s) h;lia
  .obtain⟨a,b⟩:=gG (n:=n1) (s:=s) (k:=k) (by lia);rw[a,b];have:=M2.step _ (k-n1) (hi s hs) (by lia);lia
 .unfold wj at*;by_cases hjn:j<n1<;>by_cases hkn:k<n1
  .obtain⟨a,b⟩:=jh (s:=s) hjn;obtain⟨c,d⟩:=jh (s:=s) hkn;obtain⟨e,f⟩:=jh (s:=s|||2^j) hkn;rw[a,b]at e1;rw[c,d]at e2;rw[e,f,a,b];have:=M1.sub _ j k (lo s) hjn hkn (by lia) (by lia);lia
  .obtain⟨a,b⟩:=jh (s:=s) hjn;obtain⟨c,d⟩:=gG (n:=n1) (s:=s) (k:=k) (by lia);obtain⟨e,f⟩:=gG (n:=n1) (s:=s|||2^j) (k:=k) (by lia);rw[a,b]at e1;rw[c,d]at e2;rw[e,f,a,b];lia
  .obtain⟨a,b⟩:=gG (n:=n1) (s:=s) (k:=j) (by lia);obtain⟨c,d⟩:=jh (s:=s) hkn;obtain⟨e,f⟩:=jh (s:=s|||2^j) hkn;rw[a,b]at e1;rw[c,d]at e2;rw[e,f,a,b];lia
  .obtain⟨a,b⟩:=gG (n:=n1) (s:=s) (k:=j) (by lia);obtain⟨c,d⟩:=gG (n:=n1) (s:=s) (k:=k) (by lia);obtain⟨e,f⟩:=gG (n:=n1) (s:=s|||2^j) (k:=k) (by lia);rw[a,b]at e1;rw[c,d]at e2;rw[e,f,a,b];have:=M2.sub _ (j-n1) (k-n1) (hi s hs) (by lia) (by lia) (by lia) (by lia);lia
theorem rX(hk:k<256):aT (aC (2^sz k-1) s) k=aC k (aT s k):=Gi λt=>by
 rw[IS,cT,br,GL,K4];constructor
 .rintro⟨j,h1,h2⟩;rw[d6,GL,K4]at h2;refine⟨BV h1,?_⟩;cases h:(aT s k).testBit t with
  |false=>rfl
  |true=>
   obtain⟨m,h3,h4⟩:=cT.mp h;rw[t9 h3 h1,h2.2]at h4;cases h4
 .rintro⟨h1,h2⟩;obtain⟨j,hj⟩:=Du hk h1;refine⟨j,hj,?_⟩;have hjl:j<sz k:=(Ga.mp hj).1;rw[d6,F5 hjl,Hl,K4];cases h:s.testBit j with
  |false=>rfl
  |true=>rw[cT.mpr ⟨j,hj,h⟩]at h2;cases h2
theorem uI(hk:k<256):aT (2^sz k-1) k=k:=by have h:=rX (k:=k) (s:=0) hk;rw[yC,kO]at h;rw[h];exact Gi λt=>by rw[br,HS];simp
theorem xq(hs:s<2^sz k):sz (aT s k)=sz s:=by have h:=qG (s:=s) (h:=k) hs;have h2:=zY (fo s k);rw[h]at h2;exact h2.symm
end Bh
namespace Bh
theorem gx{s k:Nat}(h:s.testBit k=true):Sub (s^^^2^k) s:=λj hj=>by rw[fF h,GL]at hj;exact hj.1
theorem kI{s k:Nat}(h:s.testBit k=true):(s^^^2^k)|||2^k=s:=Gi λj=>by
 rw[a7,fF h];by_cases e:k=j
 .subst e;rw[h];simp
 .rw[F4 e];simp
theorem z9(s t:Nat):Sub t (s|||t):=λj h=>by rw[GC,h,KA]
def xh(n:Nat)(r:Nat->Nat)(b:Nat):Prop:=b<2^n/\r b=sz b/\r b=r (2^n-1)
namespace Mat
variable{n:Nat}{r:Nat->Nat}(M:Mat n r)
include M
theorem e7{s k:Nat}(hs:s<2^n)(hk:s.testBit k=true):s^^^2^k<2^n:=(gx hk).lt hs
theorem gm{s k:Nat}(hs:s<2^n)(hk:s.testBit k=true):sz (s^^^2^k)+1=sz s:=
 lW s (M.eC hs) k (F9 (da hs hk) M.n8) hk
theorem exch{b c k:Nat}(hb:xh n r b)(hc:xh n r c)(hk:b.testBit k=true)(hkc:c.testBit k=false):
  ∃y,c.testBit y=true/\b.testBit y=false/\xh n r ((b^^^2^k)|||2^y):=by
 have hd:=M.e7 hb.1 hk;have hf:r (b^^^2^k)=sz (b^^^2^k):=M.j3 (gx hk) hb.1 hb.2.1;have hz:=M.gm hb.1 hk;refine Hq λhn=> ?_;have all:∀y,c.testBit y=true->r ((b^^^2^k)|||2^y)=r (b^^^2^k):=λy hy=>by
  refine Hq λhne=>hn ⟨y,hy,?_,?_⟩
  .cases e:b.testBit y with
   |false=>rfl
   |true=>
    refine absurd ?_ hne;rw[dn];rw[fF hk,e];by_cases e2:k=y
    .subst e2;rw[hy]at hkc;cases hkc
    .rw[F4 e2];rfl
  .have yn:=da hc.1 hy;have st:=M.step _ y hd yn;have hb':(b^^^2^k).testBit y=false:=by
    cases e:(b^^^2^k).testBit y with
    |false=>rfl
    |true=>rw[dn e]at hne;exact absurd rfl hne
   have s1:=c5 _ (M.eC hd) y (F9 yn M.n8) hb';have e1:=hb.2.1;have e2:=hb.2.2;exact⟨aQ hd yn,by lia,by lia⟩
 have h1:=M.closed hd hc.1 all;have h2:=M.mono (z9 (b^^^2^k) c) (Iw hd hc.1);have e1:=hb.2.1;have e2:=hb.2.2;have e3:=hc.2.2;lia
end Mat
end Bh
namespace Bh
end Bh
namespace Bh
end Bh
namespace Bh
def cA(n k:Nat):List Nat:=(List.range (2^n)).filter λs=>decide (sz s=k)
def fW(n:Nat)(r:Nat->Nat)(m k:Nat):Bool:=decide (n=m)&&decide (r (2^n-1)=k)&&(cA n k).all λs=>decide (r s=k)
def dZ(n:Nat)(r:Nat->Nat):List Nat:=(cA n 3).filter λs=>decide (r s<sz s)
def bT(n:Nat)(r:Nat->Nat):Bool:=decide (n=7)&&decide (r (2^n-1)=3)&&(cA n 2).all λp=>decide (((dZ n r).filter λt=>decide (p&&&t=p)).length=1)
def eY(n:Nat)(r:Nat->Nat)(s:Nat):Nat:=sz s+r (aC (2^n-1) s) -r (2^n-1)
def bj(n:Nat)(r:Nat->Nat):List Nat:=(List.range (2^n)).filter λs=>decide (r s=sz s)&&decide (r s=r (2^n-1))
def eO(told:List Nat):List Nat:=(List.range 128).filter λs=>decide (sz s=3)&& !decide (s∈told)
def cU(told:List Nat):Bool:=decide (told.length=28)&&(decide ((eO told).length=7)&&(List.range 7).all λj=>(List.range j).all λk=>decide (((eO told).filter λt=>t.testBit j&&t.testBit k).length=1))
structure vG(n:Nat)(r:Nat->Nat):Prop where
 le:∀s,s<2^n->r s<=sz s
 mono:∀s t,s<2^n->t<2^n->s&&&t=s->r s<=r t
 unit:∀s,s<2^n->r (2^n-1)<=r (aC (2^n-1) s)+sz s
theorem iA{α:Type}{p:α->Bool}:∀l:List α,(l.filter p).length=l.length↔l.all p=true
 | []=>by simp
 |a::l=>by
  have ih:=iA (p:=p) l;have hl:=Ie p l;rw[Il,K1];by_cases h:p a=true
  .rw[F7 h,GA,GA,h,Hl,<-ih];lia
  .rw[F8 h,GA,IE.mpr h,Hj];constructor
   .intro e;lia
   .intro e;cases e
theorem kh(h:r (2^n-1)=k):bj n r=(cA n k).filter λs=>decide (r s=k):=by
 unfold bj cA;rw[Jr];refine Ih λs _=> ?_;rw[h];by_cases h1:r s=k
 .rw[h1];simp only[decide_true,Bool.and_true,Hl];exact Iu.mpr ⟨λe=>e.symm,λe=>e.symm⟩
 .rw[F4 h1,Hu,Hj]
theorem qY(r:Nat->Nat):fW n r m k=(decide (n=m)&&(decide (r (2^n-1)=k)&&decide ((bj n r).length=(cA m k).length))):=by
 unfold fW;rw[Bool.and_assoc];by_cases h1:n=m
 .subst h1;by_cases h2:r (2^n-1)=k
  .rw[kh h2];congr 2;have:=iA (p:=λs=>decide (r s=k)) (cA n k);by_cases h3:(cA n k).all (λs=>decide (r s=k))=true
   .rw[h3,F5 (this.mpr h3)]
   .rw[IE.mpr h3,F4 λe=>h3 (this.mp e)]
  .rw[F4 h2,Hj,Hj]
 .rw[F4 h1,Hj,Hj]
theorem pG(R:Nat->Bool):∀L:List Nat,(L.map λl=>if R l=true then 1 else 0).sum=(L.filter R).length
 | []=>rfl
 |a::L=>by
  rw[GP,JE,pG R L,Il];by_cases h:R a=true
  .rw[F7 h,F7 h,GA];lia
  .rw[F8 h,F8 h];lia
theorem vQ(f g:Nat->Nat):∀L:List Nat,(L.map λl=>f l+g l).sum=(L.map f).sum+(L.map g).sum
 | []=>rfl
 |a::L=>by rw[GP,JE,GP,JE,GP,JE,vQ f g L];lia
theorem rP(R:Nat->Nat->Bool)(L:List Nat):∀P:List Nat,(P.map λp=>(L.filter (R p)).length).sum=(L.map λl=>(P.filter λp=>R p l).length).sum
 | []=>by
  have:∀L:List Nat,(L.map λl=>(([]:List Nat).filter λp=>R p l).length).sum=0:=λL=>by
   induction L with
   |nil=>rfl
   |cons a L ih=>rw[GP,JE,ih];rfl
  rw[this];rfl
 |p::P=>by
  rw[GP,JE,rP R L P,<-pG (R p) L,<-vQ];congr 1;refine HP λl _=> ?_;rw[Il];by_cases h:R p l=true
  .rw[F7 h,F7 h,GA];lia
  .rw[F8 h,F8 h];lia
theorem km(f:Nat->Nat):∀L:List Nat,(∀l∈L,f l=c)->(L.map f).sum=c*L.length
 | [],_=>rfl
 |a::L,h=>by rw[GP,JE,h a Gn,km f L (λl hl=>h l (Gm _ hl)),GA,Nat.mul_succ];lia
theorem xY:((List.range 128).all λp=> !(decide (sz p=2))||(List.range 7).any λj=>(List.range j).any λk=>decide (p=2^j|||2^k))=true:=by decide+kernel
theorem CP:((List.range 7).all λj=>(List.range j).all λk=>decide (2^j|||2^k<128)&&decide (sz (2^j|||2^k)=2))=true:=by decide+kernel
theorem sO:((List.range 7).all λj=>(List.range j).all λk=>(List.range 128).all λt=>decide ((2^j|||2^k)&&&t=2^j|||2^k)==(t.testBit j&&t.testBit k))=true:=by decide+kernel
theorem vf:((List.range 128).all λt=> !(decide (sz t=3))||decide (((cA 7 2).filter λp=>decide (p&&&t=p)).length=3))=true:=by decide+kernel
theorem iF:(cA 4 2).length=6/\(cA 5 2).length=10/\(cA 5 3).length=10/\(cA 7 3).length=35/\(cA 7 2).length=21:=by decide+kernel
theorem d5:s∈cA n k↔s<2^n/\sz s=k:=by unfold cA;rw[GN,Gk,GF]
theorem iz{α:Type}(p:α->Bool):∀l:List α,(l.filter p).length+(l.filter λx=> !p x).length=l.length
 | []=>rfl
 |a::l=>by
  have ih:=iz p l;rw[Il,Il,GA];by_cases h:p a=true
  .rw[F7 h,F8 (by rw[h];decide),GA];lia
  .rw[F8 h,F7 (by rw[IE.mpr h];rfl),GA];lia
theorem sy{told:List Nat}(hm:∀s,s<128->(s∈told↔sz s=3/\f s=true))(hl:told.length=((cA 7 3).filter f).length):
  cU told=(cA 7 2).all λp=>decide (((((cA 7 3).filter λs=> !f s)).filter λt=>decide (p&&&t=p)).length=1):=by
 have eL:eO told=(cA 7 3).filter λs=> !f s:=by
  unfold eO cA;rw[Jr];refine Ih λs hs=> ?_;have hs':=Gk.mp hs;by_cases h3:sz s=3
  .rw[F5 h3,Hl,Bool.and_true];by_cases hf:f s=true
   .rw[hf,F5 ((hm s hs').mpr ⟨h3,hf⟩)]
   .rw[IE.mpr hf,F4 λz=>hf ((hm s hs').mp z).2]
  .rw[F4 h3,Hj,Hu]
 unfold cU;rw[eL];generalize hL:((cA 7 3).filter λs=> !f s)=L;have mL:∀t∈L,t<128/\sz t=3:=λt ht=>by rw[<-hL]at ht;exact d5.mp (GN.mp ht).1
 have hsum:told.length+L.length=35:=by rw[hl,<-hL,iz,iF.2.2.2.1]
 have sw:=rP (λp t=>decide (p&&&t=p)) L (cA 7 2);have s3:(L.map λl=>((cA 7 2).filter λp=>decide (p&&&l=p)).length).sum=3*L.length:=km _ L λt ht=>by obtain⟨h1,h2⟩:=mL t ht;have:=GW.mp vf t (Gk.mpr h1);rw[F5 h2]at this;simpa using this
 have flt:∀j,j<7->∀k,k<j->(L.filter λt=>t.testBit j&&t.testBit k)=L.filter λt=>decide ((2^j|||2^k)&&&t=2^j|||2^k):=λj hj k hk=>Ih λt ht=>by have:=GW.mp (GW.mp (GW.mp sO j (Gk.mpr hj)) k (Gk.mpr hk)) t (Gk.mpr (mL t ht).1);exact(by simpa using this:decide ((2^j|||2^k)&&&t=2^j|||2^k)=(t.testBit j&&t.testBit k)).symm
 rw[IS];constructor
 .intro h;rw[GL,GL]at h;refine GW.mpr λp hp=> ?_;obtain⟨p1,p2⟩:=d5.mp hp;have:=GW.mp xY p (Gk.mpr p1);rw[F5 p2]at this;obtain⟨j,hj,hj2⟩:=JS.mp (by simpa using this:((List.range 7).any λj=>(List.range j).any λk=>decide (p=2^j|||2^k))=true);obtain⟨k,hk,hk2⟩:=JS.mp hj2;have e:=Gx hk2;have hj':=Gk.mp hj;have hk':=Gk.mp hk;have:=GW.mp (GW.mp h.2.2 j hj) k hk;rw[flt j hj' k hk',<-e]at this;exact this
 .intro h;have one:((cA 7 2).map λp=>(L.filter λt=>decide (p&&&t=p)).length).sum=1*(cA 7 2).length:=km _ _ λp hp=>Gx (GW.mp h p hp);rw[iF.2.2.2.2]at one;have h7:L.length=7:=by lia
  rw[F5 (show told.length=28 by lia),F5 h7,Hl,Hl];refine GW.mpr λj hj=>GW.mpr λk hk=> ?_;have hj':=Gk.mp hj;have hk':=Gk.mp hk;have:=GW.mp (GW.mp CP j hj) k hk;rw[GL,GF,GF]at this;rw[flt j hj' k hk'];exact GW.mp h _ (d5.mpr this)
theorem xE(h:vG 7 r)(h3:r 127=3):cU (bj 7 r)=bT 7 r:=by
 have e:=kh (n:=7) (r:=r) (k:=3) h3;rw[sy (f:=λs=>decide (r s=3)) (λs hs=> ?_) (by rw[e])]
 .unfold bT;rw[F5 rfl,F5 (show r (2^7-1)=3 from h3),Hl,Hl];have el:((cA 7 3).filter λs=> !decide (r s=3))=dZ 7 r:=by
   unfold dZ;refine Ih λs hs=> ?_;obtain⟨h1,h2⟩:=d5.mp hs;have:=h.le s h1;rw[h2]at this⊢;by_cases hc:r s=3
   .rw[hc];rfl
   .rw[F4 hc,F5 (show r s<3 by lia)];rfl
  rw[el]
 .rw[e,GN,d5,GF];exact⟨λz=>⟨z.1.2,z.2⟩,λz=>⟨⟨hs,z.1⟩,z.2⟩⟩
theorem mh:∀s:Nat,s<128->aC 127 s=127-s/\sz (127-s)+sz s=7:=by decide+kernel
theorem D7:(List.range 128).map (127- ·)=(List.range 128).reverse:=by decide+kernel
theorem xC(h:vG 7 r)(h4:r 127=4):cU ((bj 7 r).map (127- ·))=bT 7 (eY 7 r):=by
 have e:=kh (n:=7) (r:=r) (k:=4) h4;have hmem:∀s,s<128->(s∈(bj 7 r).map (127- ·)↔sz s=3/\decide (r (127-s)=4)=true):=λs hs=>by
  rw[Gz,GF];have l1:=(mh s hs).2;constructor
  .rintro⟨t,ht,rfl⟩;rw[e,GN,d5,GF]at ht;have ht1:t<128:=ht.1.1;have l2:=(mh t ht1).2;rw[show 127- (127-t)=t by lia];exact⟨by lia,ht.2⟩
  .rintro⟨h1,h2⟩;refine⟨127-s,?_,by lia⟩;rw[e,GN,d5,GF];exact⟨⟨by show 127-s<128;lia,by lia⟩,h2⟩
 have hlen:((bj 7 r).map (127- ·)).length=((cA 7 3).filter λs=>decide (r (127-s)=4)).length:=by
  have e1:bj 7 r=(List.range 128).filter ((λs=>decide (sz s=3)&&decide (r (127-s)=4))∘(127- ·)):=by rw[e];unfold cA;rw[Jr];refine Ih λs hs=> ?_;have hs':s<128:=Gk.mp hs;have l2:=(mh s hs').2;show _=(decide (sz (127-s)=3)&&decide (r (127- (127-s))=4));rw[show 127- (127-s)=s by lia,Lu];congr 1;exact Iu.mpr ⟨λz=>by lia,λz=>by lia⟩
  rw[e1,<-JG,D7,List.filter_reverse,JW];unfold cA;rw[Jr];congr 1;exact Ih λs _=>Lu _ _
 rw[sy (f:=λs=>decide (r (127-s)=4)) hmem hlen];unfold bT;have z0:aC 127 127=0:=by decide
 have r0:r 0=0:=by have:=h.le 0 (by decide);have e0:sz 0=0:=(by decide);lia
 have d7:eY 7 r (2^7-1)=3:=by
  unfold eY;show sz 127+r (aC 127 127) -r 127=3;have:sz 127=7:=by decide
  rw[z0,r0,this,h4]
 rw[F5 rfl,F5 d7,Hl,Hl];have el:((cA 7 3).filter λs=> !decide (r (127-s)=4))=dZ 7 (eY 7 r):=by
  unfold dZ;refine Ih λs hs=> ?_;obtain⟨h1,h2⟩:=d5.mp hs;have h1':s<128:=h1;have hl:=mh s h1';have hm:=h.mono (127-s) 127 (by show 127-s<128;lia) (by decide) (by
   have:∀t:Nat,t<128->t&&&127=t:=by decide+kernel
   exact this _ (by lia))
  have ed:eY 7 r s=sz s+r (127-s) -r 127:=by unfold eY;show sz s+r (aC 127 s) -r 127=_;rw[hl.1]
  rw[ed,h2,h4];rw[h4]at hm;by_cases hc:r (127-s)=4
  .rw[hc];rfl
  .rw[F4 hc,F5 (show 3+r (127-s) -4<3 by lia)];rfl
 rw[el]
theorem xD(h:vG 7 r):bT 7 (eY 7 r)=true->r 127=4:=λe=>by
 unfold bT at e;rw[GL,GL,GF,GF]at e;have d7:=e.1.2;unfold eY at d7;have d7':sz 127+r (aC 127 127) -r 127=3:=d7;have z0:aC 127 127=0:=by decide
 have r0:r 0=0:=by have:=h.le 0 (by decide);have e0:sz 0=0:=(by decide);lia
 have s7:sz 127=7:=by decide
 have:=h.le 127 (by decide);rw[z0,r0,s7]at d7';lia
def kinds(n:Nat)(r:Nat->Nat):List Bool:=[decide (n=4)&&(decide (r (2^n-1)=2)&&decide ((bj n r).length=6)),decide (n=5)&&(decide (r (2^n-1)=2)&&decide ((bj n r).length=10)),decide (n=5)&&(decide (r (2^n-1)=3)&&decide ((bj n r).length=10)),
 decide (n=7)&&(decide (r (2^n-1)=3)&&cU (bj n r)),decide (n=7)&&(decide (r (2^n-1)=4)&&cU ((bj n r).map (127- ·)))]
theorem Bu(h:vG n r):kinds n r=[fW n r 4 2,fW n r 5 2,fW n r 5 3,bT n r,bT n (eY n r)]:=by
 unfold kinds;rw[qY,qY,qY,iF.1,iF.2.1,iF.2.2.1];by_cases h7:n=7
 .subst h7;have e1:(decide (7=7)&&(decide (r (2^7-1)=3)&&cU (bj 7 r)))=bT 7 r:=by
   by_cases h3:r (2^7-1)=3
   .rw[xE h h3,F5 h3];simp
   .unfold bT;rw[F4 h3];simp
  have e2:(decide (7=7)&&(decide (r (2^7-1)=4)&&cU ((bj 7 r).map (127- ·))))=bT 7 (eY 7 r):=by
   by_cases h4:r (2^7-1)=4
   .rw[xC h h4,F5 h4];simp
   .rw[F4 h4];have:bT 7 (eY 7 r)=false:=IE.mpr λz=>h4 (xD h z);rw[this];simp
  rw[e1,e2]
 .have e1:bT n r=false:=by unfold bT;rw[F4 h7];simp
  have e2:bT n (eY n r)=false:=by unfold bT;rw[F4 h7];simp
  rw[e1,e2,F4 h7];simp
theorem mW(hn:n<=8):decide (2^n=16)=decide (n=4)/\decide (2^n=32)=decide (n=5)/\decide (2^n=128)=decide (n=7):=by
 have:∀n:Nat,n<9->decide (2^n=16)=decide (n=4)/\decide (2^n=32)=decide (n=5)/\decide (2^n=128)=decide (n=7):=by decide
 exact this n (by lia)
end Bh
namespace Bh
abbrev Row:=Nat->Int
def sgn(i:Nat):Int:=if i % 2=0 then 1 else-1
theorem h9(i:Nat):sgn (i+1)= -sgn i:=by
 unfold sgn;rcases Nat.mod_two_eq_zero_or_one i with h|h
 .rw[F8 (by lia),F7 h]
 .rw[F7 (by lia),F8 (by lia)];rfl
theorem D4(i:Nat):sgn i*sgn i=1:=by unfold sgn;split<;>rfl
def aP:Nat->(Nat->Int)->Int
 |0,_=>0
 |n+1,f=>aP n f+f n
theorem aM:∀ {n:Nat},(∀i,i<n->f i=g i)->aP n f=aP n g
 |0,_=>rfl
 |n+1,h=>by rw[aP,aP,aM λi hi=>h i (by lia),h n (by lia)]
theorem gZ(f g:Nat->Int):∀n,aP n (λi=>f i+g i)=aP n f+aP n g
 |0=>rfl
 |n+1=>by rw[aP,aP,aP,gZ f g n];lia
theorem cC(a:Int)(f:Nat->Int):∀n,aP n (λi=>a*f i)=a*aP n f
 |0=>by show(0:Int)=a*0;lia
 |n+1=>by rw[aP,aP,cC a f n,KQ]
theorem kn:∀ {n:Nat},(∀i,i<n->f i=0)->aP n f=0
 |0,_=>rfl
 |n+1,h=>by rw[aP,kn λi hi=>h i (by lia),h n (by lia)];rfl
theorem je(f:Nat->Int)(m:Nat):∀n,aP (m+n) f=aP m f+aP n λk=>f (m+k)
 |0=>by show aP m f=aP m f+0;lia
 |n+1=>by rw[<-Nat.add_assoc,aP,aP,je f m n];lia
theorem gD(f:Nat->Int)(n:Nat):aP (n+1) f=f 0+aP n λk=>f (k+1):=by
 rw[Nat.add_comm,je];have h1:aP 1 f=f 0:=by show 0+f 0=f 0;lia
 rw[h1];refine GQ (f 0+ ·) (aM λi _=>by rw[Nat.add_comm])
theorem ko(f:Nat->Nat->Int)(n:Nat):∀m,aP m (λi=>aP n (f i))=aP n λj=>aP m λi=>f i j
 |0=>(kn λ_ _=>rfl).symm
 |m+1=>by rw[aP,ko f n m,<-gZ];rfl
def rw0:Row:=λ_=>0
def aE:List Row->List Nat->Int
 |_,[]=>1
 |R,c::cs=>aP R.length λi=>sgn i*(R.getD i rw0 c*aE (R.eraseIdx i) cs)
theorem gf{α:Type}{A B:List α}{d:α}{i:Nat}(h:i<A.length):(A++B).getD i d=A.getD i d:=by rw[Gb,Gb,GH h]
theorem cW{α:Type}{A B:List α}{d:α}(k:Nat):(A++B).getD (A.length+k) d=B.getD k d:=by rw[Gb,Gb,GI (by lia),Le]
theorem nX{α:Type}{A B:List α}{i:Nat}(h:i<A.length):(A++B).eraseIdx i=A.eraseIdx i++B:=List.eraseIdx_append_of_lt_length h B
theorem eQ{α:Type}{A B:List α}(k:Nat):(A++B).eraseIdx (A.length+k)=A++B.eraseIdx k:=by rw[List.eraseIdx_append_of_length_le (by lia),Le]
theorem dG(A:List Row)(x:Row)(B:List Row)(c:Nat)(cs:List Nat):aE (A++x::B) (c::cs)=aP A.length (λi=>sgn i*(A.getD i rw0 c*aE (A.eraseIdx i++x::B) cs))+sgn A.length*(x c*aE (A++B) cs)+
  aP B.length λk=>sgn (A.length+1+k)*(B.getD k rw0 c*aE (A++x::B.eraseIdx k) cs):=by
 show aP (A++x::B).length _=_;rw[Gr,GA,je,gD,<-Int.add_assoc];refine congr (GQ _ (congr (GQ _ (aM λi hi=> ?_)) ?_)) (aM λk hk=> ?_)
 .rw[gf hi,nX hi]
 .show sgn (A.length+0)*((A++x::B).getD (A.length+0) rw0 c*aE ((A++x::B).eraseIdx (A.length+0)) cs)=_;rw[cW,eQ];rfl
 .rw[cW,eQ,show A.length+1+k=A.length+(k+1) by lia];rfl
theorem j9(a b:Int)(r p:Row):∀ (cols:List Nat) (A B:List Row),cols≠[]->A.length+1+B.length=cols.length->aE (A++(λj=>a*r j+b*p j)::B) cols=a*aE (A++r::B) cols+b*aE (A++p::B) cols
 | [],_,_,h,_=>absurd rfl h
 |c::cs,A,B,_,hl=>by
  rw[dG,dG,dG];have e1:aP A.length (λi=>sgn i*(A.getD i rw0 c*aE (A.eraseIdx i++(λj=>a*r j+b*p j)::B) cs))=a*aP A.length (λi=>sgn i*(A.getD i rw0 c*aE (A.eraseIdx i++r::B) cs))+b*aP A.length (λi=>sgn i*(A.getD i rw0 c*aE (A.eraseIdx i++p::B) cs)):=by
   rw[<-cC,<-cC,<-gZ];refine aM λi hi=> ?_;have hl2:(A.eraseIdx i).length+1+B.length=cs.length:=by rw[He hi];simp at hl;lia
   rw[j9 a b r p cs (A.eraseIdx i) B (λz=>by rw[z]at hl2;simp at hl2) hl2];generalize aE (A.eraseIdx i++r::B) cs=u;generalize aE (A.eraseIdx i++p::B) cs=v;generalize A.getD i rw0 c=w;generalize sgn i=s;simp only[KQ,Jw]
  have e2:aP B.length (λk=>sgn (A.length+1+k)*(B.getD k rw0 c*aE (A++(λj=>a*r j+b*p j)::B.eraseIdx k) cs))=a*aP B.length (λk=>sgn (A.length+1+k)*(B.getD k rw0 c*aE (A++r::B.eraseIdx k) cs))+b*aP B.length (λk=>sgn (A.length+1+k)*(B.getD k rw0 c*aE (A++p::B.eraseIdx k) cs)):=by
   rw[<-cC,<-cC,<-gZ];refine aM λk hk=> ?_;have hl2:A.length+1+(B.eraseIdx k).length=cs.length:=by rw[He hk];simp at hl;lia
   rw[j9 a b r p cs A (B.eraseIdx k) (λz=>by rw[z]at hl2;simp at hl2) hl2];generalize aE (A++r::B.eraseIdx k) cs=u;generalize aE (A++p::B.eraseIdx k) cs=v;generalize B.getD k rw0 c=w;generalize sgn (A.length+1+k)=s;simp only[KQ,Jw]
  have e3:sgn A.length*((λj=>a*r j+b*p j) c*aE (A++B) cs)=a*(sgn A.length*(r c*aE (A++B) cs))+b*(sgn A.length*(p c*aE (A++B) cs)):=by show sgn A.length*((a*r c+b*p c)*aE (A++B) cs)=_;generalize aE (A++B) cs=u;generalize sgn A.length=s;rw[Int.add_mul,KQ];simp only[IH,Jw]
  rw[e1,e2,e3];simp only[KQ];lia
theorem pE(a:Int)(r:Row)(cols:List Nat)(A B:List Row)(hl:A.length+1+B.length=cols.length):aE (A++(λj=>a*r j)::B) cols=a*aE (A++r::B) cols:=by have h:=j9 a 0 r r cols A B (λz=>by rw[z]at hl;simp at hl) hl;rw[KC,KD]at h;rw[<-h];refine GQ (λz=>aE (A++z::B) cols) (funext λj=> ?_);rw[KC,KD]
theorem j7(x y:Row):∀ (cols:List Nat) (A B:List Row),A.length+2+B.length=cols.length->aE (A++x::y::B) cols= -aE (A++y::x::B) cols
 | [],A,B,hl=>by simp at hl
 |c::cs,A,B,hl=>by
  rw[dG A x (y::B),dG A y (x::B)];have e1:aP A.length (λi=>sgn i*(A.getD i rw0 c*aE (A.eraseIdx i++x::y::B) cs))= -aP A.length (λi=>sgn i*(A.getD i rw0 c*aE (A.eraseIdx i++y::x::B) cs)):=by
   have:∀z:Int,-z=(-1)*z:=λz=>by lia
   rw[this,<-cC];refine aM λi hi=> ?_;have hl2:(A.eraseIdx i).length+2+B.length=cs.length:=by rw[He hi];simp at hl;lia
   rw[j7 x y cs (A.eraseIdx i) B hl2,Kj,Kj,<-this]
  have e2:∀u v:Row,aP (v::B).length (λk=>sgn (A.length+1+k)*((v::B).getD k rw0 c*aE (A++u::(v::B).eraseIdx k) cs))=sgn (A.length+1)*(v c*aE (A++u::B) cs)+aP B.length (λk=>sgn (A.length+2+k)*(B.getD k rw0 c*aE (A++u::v::B.eraseIdx k) cs)):=λu v=>by rw[GA,gD];refine GQ (λz=>sgn (A.length+1)*(v c*aE (A++u::B) cs)+z) (aM λk _=> ?_);rw[show A.length+1+(k+1)=A.length+2+k by lia];rfl
  have e3:aP B.length (λk=>sgn (A.length+2+k)*(B.getD k rw0 c*aE (A++x::y::B.eraseIdx k) cs))= -aP B.length (λk=>sgn (A.length+2+k)*(B.getD k rw0 c*aE (A++y::x::B.eraseIdx k) cs)):=by
   have:∀z:Int,-z=(-1)*z:=λz=>by lia
   rw[this,<-cC];refine aM λi hi=> ?_;have hl2:A.length+2+(B.eraseIdx i).length=cs.length:=by rw[He hi];simp at hl;lia
   rw[j7 x y cs A (B.eraseIdx i) hl2,Kj,Kj,<-this]
  rw[e1,e2,e2,e3,h9,JV,JV];lia
theorem iB(x:Row)(cols:List Nat):∀ (A pre B:List Row),pre.length+A.length+1+B.length=cols.length->aE (pre++(A++x::B)) cols=sgn A.length*aE (pre++x::(A++B)) cols
 | [],pre,B,_=>by show _=1*_;rw[Jg];rfl
 |a::A,pre,B,hl=>by have h:=iB x cols A (pre++[a]) B (by simp at hl⊢;lia);rw[IB,IB]at h;have h2:=j7 a x cols pre (A++B) (by simp at hl⊢;lia);show aE (pre++([a]++(A++x::B))) cols=_;rw[h];show sgn A.length*aE (pre++a::x::(A++B)) cols=_;rw[h2,GA,h9,Kj,JV];rfl
theorem tS(p:Row)(cols:List Nat)(A B:List Row)(hl:A.length+2+B.length=cols.length):aE (p::(A++p::B)) cols=0:=by
 have h:=iB p cols A [p] B (by simp;lia);have h2:=j7 p p cols [] (A++B) (by simp;lia);have h3:aE (p::p::(A++B)) cols=0:=by have:aE (p::p::(A++B)) cols= -aE (p::p::(A++B)) cols:=h2;lia
 have h4:aE (p::(A++p::B)) cols=sgn A.length*aE (p::p::(A++B)) cols:=h;rw[h4,h3,K9]
theorem pF(p:Row)(a:Int)(b:Row->Int)(cols:List Nat):∀ (S pre:List Row),pre.length+1+S.length=cols.length->
  aE (p::(pre++S.map λr j=>a*r j+b r*p j)) cols=a^S.length*aE (p::(pre++S)) cols
 | [],pre,_=>by rw[Jx,Lh,La,Jg]
 |r::S,pre,hl=>by have h:=pF p a b cols S (pre++[λj=>a*r j+b r*p j]) (by simp at hl⊢;lia);rw[IB,IB]at h;rw[GP];show aE (p::(pre++([λj=>a*r j+b r*p j]++S.map λr j=>a*r j+b r*p j))) cols=_;rw[h];show a^S.length*aE ((p::pre)++(λj=>a*r j+b r*p j)::S) cols=_;rw[j9 a (b r) r p cols (p::pre) S (λz=>by rw[z]at hl;simp at hl) (by simp at hl⊢;lia)];have h0:aE ((p::pre)++p::S) cols=0:=tS p cols pre S (by simp at hl;lia);rw[h0,K9,KD,GA,KG,IH];rfl
theorem nZ(p:Row)(d:Int)(g:Row->Row)(cols:List Nat):∀ (S pre:List Row),pre.length+1+S.length=cols.length->
  aE (p::(pre++S.map λr j=>d*g r j)) cols=d^S.length*aE (p::(pre++S.map g)) cols
 | [],pre,_=>by rw[Jx,Jx,Lh,La,Jg]
 |r::S,pre,hl=>by have h:=nZ p d g cols S (pre++[λj=>d*g r j]) (by simp at hl⊢;lia);rw[IB,IB]at h;rw[GP,GP];show aE (p::(pre++([λj=>d*g r j]++S.map λr j=>d*g r j))) cols=_;rw[h];show d^S.length*aE ((p::pre)++(λj=>d*g r j)::S.map g) cols=_;rw[pE d (g r) cols (p::pre) (S.map g) (by simp at hl⊢;lia),GA,KG,IH];rfl
theorem yT(p:Row)(B:List Row)(c:Nat)(cs:List Nat)(h:∀r∈B,r c=0):aE (p::B) (c::cs)=p c*aE B cs:=by
 have e:=dG [] p B c cs;have e2:aP B.length (λk=>sgn (([]:List Row).length+1+k)*(B.getD k rw0 c*aE ([]++p::B.eraseIdx k) cs))=0:=kn λk hk=>by
  have:B.getD k rw0 c=0:=by
   have e3:B.getD k rw0=B[k]:=by simp[hk]
   rw[e3];exact h _ (Ik hk)
  rw[this,KC,K9]
 rw[e2]at e;show aE ([]++p::B) (c::cs)=_;rw[e];show(0:Int)+1*(p c*aE B cs)+0=_;lia
theorem fg:∀ (cols:List Nat) (R R':List Row),R.length=R'.length->(∀i j,j∈cols->R.getD i rw0 j=R'.getD i rw0 j)->aE R cols=aE R' cols
 | [],_,_,_,_=>rfl
 |c::cs,R,R',hl,h=>by
  show aP R.length _=aP R'.length _;rw[<-hl];refine aM λi hi=> ?_;rw[h i c Gn,fg cs (R.eraseIdx i) (R'.eraseIdx i) (by rw[He hi,He (by lia),hl]) λk j hj=> ?_];rw[Gb,Gb,JJ,JJ];by_cases hk:k<i
  .rw[F7 hk,F7 hk,<-Gb,<-Gb];exact h k j (Gm _ hj)
  .rw[F8 hk,F8 hk,<-Gb,<-Gb];exact h (k+1) j (Gm _ hj)
theorem oU(p:Row)(g h:Row->Row)(cols:List Nat)(S:List Row)(e:∀r∈S,∀j∈cols,g r j=h r j):aE (p::S.map g) cols=aE (p::S.map h) cols:=by
 refine fg cols _ _ (by simp) λi j hj=> ?_;cases i with
 |zero=>rfl
 |succ i=>
  rw[Gb,Gb,J9,J9,Gs,Gs];cases hr:S[i]? with
  |none=>rfl
  |some r=>exact e r (Ge hr) j hj
theorem mr(p r:Row)(c j:Nat):aE [p,r] [c,j]=p c*r j-r c*p j:=by simp[aE,aP,sgn];lia
def lE(d:Int)(R:List Row)(cs:List Nat):Prop:=∀ (S:List Row) (T:List Nat) (k:Nat),(∀r∈S,r∈R)->(∀t∈T,t∈cs)->S.length=k+1->T.length=k+1->d^k∣aE S T
theorem gv(R:List Row)(cs:List Nat):lE 1 R cs:=λS T k _ _ _ _=>by rw[Int.one_pow];exact Int.one_dvd _
def bB(d:Int)(p:Row)(c:Nat)(r:Row):Row:=λj=>(r j*p c-p j*r c).fdiv d
section
variable{d:Int}{R:List Row}{c:Nat}{cs:List Nat}{p:Row}
theorem fj(h:lE d R (c::cs))(hd:d≠0)(hp:p∈R)(hr:r∈R)(hj:j∈c::cs):d*bB d p c r j=r j*p c-p j*r c:=by
 have h2:=h [p,r] [c,j] 1 (λx hx=>by
  rcases Gh.mp hx with rfl|hx
  .exact hp
  .rw[Gw.mp hx];exact hr) (λx hx=>by
  rcases Gh.mp hx with rfl|hx
  .exact Gn
  .rw[Gw.mp hx];exact hj) rfl rfl
 rw[mr,KG,La,Jg]at h2;obtain⟨q,hq⟩:=h2;have e:r j*p c-p j*r c=d*q:=by rw[<-hq,IX (r j),IX (p j)]
 unfold bB;rw[e,Int.mul_fdiv_cancel_left _ hd]
theorem rV(h:lE d R (c::cs))(hd:d≠0)(hp:p∈R){S:List Row}{T:List Nat}(hS:∀r∈S,r∈R)(hT:∀t∈T,t∈cs)(hl:S.length=T.length):d^S.length*(p c*aE (S.map (bB d p c)) T)=p c^S.length*aE (p::S) (c::T):=by
 have cl:=pF p (p c) (λr=> -r c) (c::T) S [] (by simp;lia);have sc:=nZ p d (bB d p c) (c::T) S [] (by simp;lia);have cg:=oU p (λr j=>d*bB d p c r j) (λr j=>p c*r j+(-r c)*p j) (c::T) S λr hr j hj=>by
  have hj':j∈c::cs:=by
   rcases Gh.mp hj with rfl|hj
   .exact Gn
   .exact Gm _ (hT j hj)
  rw[fj h hd hp (hS r hr) hj',JV,IX (r j),IX (p j)];lia
 have z:∀r∈S.map (bB d p c),r c=0:=λx hx=>by
  obtain⟨r,hr,rfl⟩:=Gz.mp hx;have e:=fj h hd hp (hS r hr) Gn;rw[IX (p c),JO]at e;rcases Li.mp e with e|e
  .exact absurd e hd
  .exact e
 have f:=yT p (S.map (bB d p c)) c T z;rw[IU]at cl sc;rw[IU]at cl sc;rw[<-f,<-sc,cg,cl]
theorem unmap{α β:Type}(f:α->β)(L:List α):∀S:List β,(∀x∈S,x∈L.map f)->∃S0:List α,(∀x∈S0,x∈L)/\S=S0.map f
 | [],_=>⟨[],(λ_ hx=>nomatch hx),rfl⟩
 |y::S,h=>by
  obtain⟨a,ha,e⟩:=Gz.mp (h y Gn);obtain⟨S0,h0,e0⟩:=unmap f L S λx hx=>h x (Gm _ hx);refine⟨a::S0,λx hx=> ?_,by rw[GP,e,e0]⟩;rcases Gh.mp hx with rfl|hx
  .exact ha
  .exact h0 x hx
theorem yP(h:lE d R (c::cs))(hd:d≠0)(hp:p∈R)(ha:p c≠0){L:List Row}(hL:∀r∈L,r∈R):lE (p c) (L.map (bB d p c)) cs:=by
 intro S T k hS hT hs ht;obtain⟨S0,h0,rfl⟩:=unmap _ L S hS;rw[F3]at hs;have rel:=rV h hd hp (λr hr=>hL r (h0 r hr)) hT (show S0.length=T.length by lia);obtain⟨q,hq⟩:=h (p::S0) (c::T) (k+1) (λx hx=>by
  rcases Gh.mp hx with rfl|hx
  .exact hp
  .exact hL x (h0 x hx)) (λx hx=>by
  rcases Gh.mp hx with rfl|hx
  .exact Gn
  .exact Gm _ (hT x hx)) (by simp;lia) (by simp;lia)
 rw[hq,hs]at rel;refine⟨q,?_⟩;have dp:d^(k+1)≠0:=Int.pow_ne_zero hd;have e1:d^(k+1)*(p c*aE (S0.map (bB d p c)) T)=d^(k+1)*(p c*(p c^k*q)):=by rw[rel,KG (p c)];generalize p c^k=u;generalize d^(k+1)=v;simp only[IH,Jw,IX]
 exact K5 ha (K5 dp e1)
end
theorem tT(r:Row):∀ (cols:List Nat) (R:List Row),R.length+1=cols.length->aE (R++[r]) cols=aP cols.length λj=>sgn (cols.length-1-j)*(r (cols.getD j 0)*aE R (cols.eraseIdx j))
 | [],R,hl=>by simp at hl
 |c::cs,R,hl=>by
  have hn:R.length=cs.length:=by simpa using hl
  rw[dG R r [] c cs,GA,gD,Ic];have e0:aP ([]:List Row).length (λk=>sgn (R.length+1+k)*(([]:List Row).getD k rw0 c*aE (R++r::([]:List Row).eraseIdx k) cs))=0:=rfl;rw[e0,KD,Int.add_comm];refine congr (GQ _ ?_) ?_
  .rw[hn];rfl
  .have e1:∀j,j<cs.length->sgn (cs.length+1-1- (j+1))*(r ((c::cs).getD (j+1) 0)*aE R ((c::cs).eraseIdx (j+1)))=aP R.length λi=>sgn i*(R.getD i rw0 c*(sgn (cs.length-1-j)*(r (cs.getD j 0)*aE (R.eraseIdx i) (cs.eraseIdx j)))):=λj hj=>by show sgn (cs.length+1-1- (j+1))*(r (cs.getD j 0)*aP R.length λi=>sgn i*(R.getD i rw0 c*aE (R.eraseIdx i) (cs.eraseIdx j)))=_;rw[show cs.length+1-1- (j+1)=cs.length-1-j by lia,<-IH,<-cC];refine aM λi _=> ?_;simp only[IH,Jw]
   rw[aM e1,<-ko (λi j=>sgn i*(R.getD i rw0 c*(sgn (cs.length-1-j)*(r (cs.getD j 0)*aE (R.eraseIdx i) (cs.eraseIdx j))))) cs.length R.length];refine aM λi hi=> ?_;rw[tT r cs (R.eraseIdx i) (by rw[He hi];lia),<-IH,<-cC];refine aM λj _=> ?_;rw[IH]
theorem mw(r:Row):∀ (cols:List Nat) (R:List Row),R.length+1=cols.length->aE (r::R) cols=aP cols.length λj=>sgn j*(r (cols.getD j 0)*aE R (cols.eraseIdx j))
 | [],R,hl=>by simp at hl
 |c::cs,R,hl=>by
  have hn:R.length=cs.length:=by simpa using hl
  have sp:=dG [] r R c cs;rw[IU]at sp;rw[sp,GA,gD];have e0:aP ([]:List Row).length (λi=>sgn i*(([]:List Row).getD i rw0 c*aE (([]:List Row).eraseIdx i++r::R) cs))=0:=rfl;rw[e0,Io];refine congr (GQ _ rfl) ?_;have e1:∀j,j<cs.length->sgn (j+1)*(r ((c::cs).getD (j+1) 0)*aE R ((c::cs).eraseIdx (j+1)))=aP R.length λi=>sgn (i+1)*(R.getD i rw0 c*(sgn j*(r (cs.getD j 0)*aE (R.eraseIdx i) (cs.eraseIdx j)))):=λj hj=>by show sgn (j+1)*(r (cs.getD j 0)*aP R.length λi=>sgn i*(R.getD i rw0 c*aE (R.eraseIdx i) (cs.eraseIdx j)))=_;rw[<-IH,<-cC];refine aM λi _=> ?_;rw[h9,h9,JV,JV,JV];refine GQ (λz:Int=> -z) ?_;generalize aE (R.eraseIdx i) (cs.eraseIdx j)=z;generalize R.getD i rw0 c=y;generalize sgn i=b;generalize sgn j=a;simp only[IH,Jw,IX]
  rw[aM e1,<-ko (λi j=>sgn (i+1)*(R.getD i rw0 c*(sgn j*(r (cs.getD j 0)*aE (R.eraseIdx i) (cs.eraseIdx j))))) cs.length R.length];refine aM λi hi=> ?_;show sgn (([]:List Row).length+1+i)*(R.getD i rw0 c*aE ([]++r::R.eraseIdx i) cs)=_;rw[IU,mw r cs (R.eraseIdx i) (by rw[He hi];lia),<-IH,<-cC,show([]:List Row).length+1+i=i+1 by simp;lia];refine aM λj _=> ?_;rw[IH]
theorem nW{α β:Type}(f:α->β)(l:List α)(j:Nat):(l.map f).eraseIdx j=(l.eraseIdx j).map f:=by
 induction l generalizing j with
 |nil=>rfl
 |cons a l ih=>
  cases j with
  |zero=>rfl
  |succ j=>show f a::(l.map f).eraseIdx j=f a::(l.eraseIdx j).map f;rw[ih]
theorem tR(M:Nat->Nat->Int):∀ (J I:List Nat),I.length=J.length->aE (I.map λi j=>M i j) J=aE (J.map λj i=>M i j) I
 | [],I,hl=>by have:I=[]:=Kb.mp hl;subst this;rfl
 |c::cs,I,hl=>by
  rw[GP,mw (λi=>M i c) I (cs.map λj i=>M i j) (by rw[F3];simpa using hl.symm)];show aP (I.map _).length _=_;rw[F3];refine aM λk hk=> ?_;rw[nW,tR M cs (I.eraseIdx k) (by rw[He hk];simp at hl;lia)];have e:(I.map λi j=>M i j).getD k rw0 c=M (I.getD k 0) c:=by rw[Gb,Gb,Gs,Gp hk];rfl
  rw[e]
end Bh
namespace Bh
theorem gw:∀ {n:Nat},(∀i,i<n->m∣f i)->m∣aP n f
 |0,_=>Jz m
 |n+1,h=>Ln (gw λi hi=>h i (by lia)) (h n (by lia))
def Van(m:Int)(k:Nat)(R:List Row)(cs:List Nat):Prop:=∀ (S:List Row) (T:List Nat),(∀r∈S,r∈R)->(∀t∈T,t∈cs)->S.length=k->T.length=k->m∣aE S T
def Mnr(m:Int)(k:Nat)(R:List Row)(cs:List Nat):Prop:=∃ (S:List Row) (T:List Nat),S.Sublist R/\T.Sublist cs/\S.length=k/\T.length=k/\¬m∣aE S T
theorem f7{α:Type}{l:List α}{i:Nat}{x:α}(h:x∈l.eraseIdx i):x∈l:=(List.eraseIdx_sublist l i).subset h
theorem Van.up(h:Van m k R cs):Van m (k+1) R cs:=by
 intro S T hS hT ls lt
 match T,lt with
 |t::T,lt=>
  refine gw λi hi=> ?_;refine GU (GU (h (S.eraseIdx i) T (λr hr=>hS r (f7 hr)) (λt ht=>hT t (Gm _ ht)) ?_ ?_))
  .rw[He hi];lia
  .simpa using lt
theorem Van.le(h:Van m k R cs):∀ {l:Nat},k<=l->Van m l R cs
 |0,hl=>by rw[show 0=k by lia];exact h
 |l+1,hl=>by
  by_cases e:k=l+1
  .rw[<-e];exact h
  .exact(Van.le h (by lia)).up
theorem Mnr.not_van(h:Mnr m k R cs):¬Van m k R cs:=by obtain⟨S,T,hS,hT,ls,lt,n⟩:=h;exact λv=>n (v S T (λr hr=>hS.subset hr) (λt ht=>hT.subset ht) ls lt)
theorem ju(h:¬Van m k R cs)(v:Van m (l+1) R cs):k<=l:=by
 by_cases e:k<=l
 .exact e
 .exact absurd (v.le (show l+1<=k by lia)) h
theorem xi(h:¬Van m k R cs)(v:Van m (k+1) R cs)(h':¬Van m l R cs)(v':Van m (l+1) R cs):k=l:=by have:=ju h v';have:=ju h' v;lia
theorem qo(hm:¬m∣1)(R:List Row)(cs:List Nat):Mnr m 0 R cs:=⟨[],[],List.nil_sublist _,List.nil_sublist _,rfl,rfl,hm⟩
theorem qk(m:Int)(R:List Row):Van m 1 R []:=λS T _ hT _ lt=>by
 match T,lt with
 |t::T,_=>exact absurd (hT t Gn) (λh=>nomatch h)
theorem wL:∀ (T:List Nat) (S:List Row),c∈T->(∀r∈S,m∣r c)->m∣aE S T
 |t::T,S,hc,h=>by
  refine gw λi hi=> ?_;by_cases e:t=c
  .subst e;have e3:S.getD i rw0=S[i]:=by simp[hi]
   rw[e3];exact GU (Kc (h _ (Ik hi)))
  .have:c∈T:=by
    rcases Gh.mp hc with rfl|h
    .exact absurd rfl e
    .exact h
   exact GU (GU (wL T (S.eraseIdx i) this λr hr=>h r (f7 hr)))
theorem Dl{S:List Row}{T:List Nat}(hr:r∈S)(hl:S.length=T.length)(h:∀t∈T,m∣r t):m∣aE S T:=by
 obtain⟨A,B,rfl⟩:=KU hr;have mv:=iB r T A [] B (by simp at hl⊢;lia);rw[IU,IU]at mv;rw[mv,mw r T (A++B) (by simp at hl⊢;lia)];refine GU (gw λj hj=>GU (Kc ?_));have e:T.getD j 0=T[j]:=by simp[hj]
 rw[e];exact h _ (Ik hj)
theorem jv(hc:∀r∈R,m∣r c)(h:Van m k R cs):Van m k R (c::cs):=by
 intro S T hS hT ls lt;by_cases e:c∈T
 .exact wL T S e λr hr=>hc r (hS r hr)
 .refine h S T hS (λt ht=> ?_) ls lt;rcases Gh.mp (hT t ht)with rfl|h
  .exact absurd ht e
  .exact h
theorem rS(h:Mnr m k R cs):Mnr m k R (c::cs):=by obtain⟨S,T,hS,hT,ls,lt,n⟩:=h;exact⟨S,T,hS,hT.trans (List.sublist_cons_self c cs),ls,lt,n⟩
theorem wm{T:List Nat}{A B:List Row}(hl:A.length+1+B.length=T.length)(h:∀j∈T,a*r j=d*s j+b*p j):a*aE (A++r::B) T=d*aE (A++s::B) T+b*aE (A++p::B) T:=by
 rw[<-pE a r T A B hl,<-j9 d b s p T A B (λz=>by rw[z]at hl;simp at hl) hl];refine fg T _ _ (by simp) λi j hj=> ?_;by_cases h1:i<A.length
 .rw[gf h1,gf h1]
 .obtain⟨k,rfl⟩:∃k,i=A.length+k:=⟨i-A.length,by lia⟩;rw[cW,cW];cases k with
  |zero=>exact h j hj
  |succ k=>rfl
theorem kW(hm:∀x y:Int,m∣x*y->m∣x\/m∣y)(h1:¬m∣1)(ha:¬m∣a):∀k:Nat,¬m∣a^k
 |0=>by rw[La];exact h1
 |k+1=>λh=>by
  rw[KG]at h;rcases hm _ _ h with h|h
  .exact kW hm h1 ha k h
  .exact ha h
section
variable{m d:Int}{R:List Row}{c:Nat}{cs:List Nat}{p:Row}
theorem mE(hm:∀x y:Int,m∣x*y->m∣x\/m∣y)(h:lE d R (c::cs))(hd:d≠0)(hR:R=A++p::B)(ha:¬m∣p c)(v:Van m k ((A++B).map (bB d p c)) cs):Van m (k+1) R (c::cs):=by
 have hp:p∈R:=by rw[hR];simp
 have ex:∀r∈R,∀j∈c::cs,p c*r j=d*bB d p c r j+r c*p j:=λr hr j hj=>by rw[fj h hd hp hr hj,IX (r c),IX (r j)];lia
 have zc:∀r∈R,bB d p c r c=0:=λr hr=>by
  have e:=fj h hd hp hr Gn;rw[IX (p c),JO]at e;rcases Li.mp e with e|e
  .exact absurd e hd
  .exact e
 have zp:∀j∈c::cs,bB d p c p j=0:=λj hj=>by
  have e:=fj h hd hp hp hj;rw[JO]at e;rcases Li.mp e with e|e
  .exact absurd e hd
  .exact e
 have v2:Van m k (R.map (bB d p c)) (c::cs):=by
  refine jv (λr hr=> ?_) λS T hS hT ls lt=> ?_
  .obtain⟨x,hx,rfl⟩:=Gz.mp hr;rw[zc x hx];exact Jz m
  .by_cases z:∃s∈S,∀j∈T,m∣s j
   .obtain⟨s,hs,hz⟩:=z;exact Dl hs (by lia) hz
   .refine v S T (λs hs=> ?_) hT ls lt;obtain⟨x,hx,rfl⟩:=Gz.mp (hS s hs);refine Gz.mpr ⟨x,?_,rfl⟩;have hx2:=hx;rw[hR]at hx2;rcases Gu.mp hx2 with h1|h1
    .exact Gu.mpr (.inl h1)
    .rcases Gh.mp h1 with e|h1
     .refine absurd ⟨_,hs,λj hj=> ?_⟩ z;rw[e,zp j (Gm _ (hT j hj))];exact Jz m
     .exact Gu.mpr (.inr h1)
 have pull:∀x:Int,m∣p c*x->m∣x:=λx hx=>(hm _ _ hx).resolve_left ha;have exT:∀ {r:Row} {T:List Nat},r∈R->(∀t∈T,t∈c::cs)->∀j∈T,p c*r j=d*bB d p c r j+r c*p j:=λhr hT j hj=>ex _ hr j (hT j hj);have cl2:∀ (S pre:List Row) (T:List Nat),(∀r∈pre,r∈R.map (bB d p c))->(∀r∈S,r∈R)->(∀t∈T,t∈c::cs)->pre.length+S.length=k->T.length=k+1->m∣aE (p::(pre++S)) T:=by
  intro S
  induction S with
  |nil=>
   intro pre T hp' _ hT hl lt;rw[Ic,mw p T pre (by simp at hl;lia)];refine gw λj hj=>GU (GU (v2 pre (T.eraseIdx j) hp' (λt ht=>hT t (f7 ht)) (by simpa using hl) ?_));rw[He hj];lia
  |cons r S ih=>
   intro pre T hp' hS hT hl lt;simp only[GA]at hl;have e:=wm (A:=p::pre) (B:=S) (by simp only[GA];lia) (exT (hS r Gn) hT);have e0:aE ((p::pre)++p::S) T=0:=tS p T pre S (by lia);rw[e0,K9,KD]at e;refine pull _ ?_;show m∣p c*aE ((p::pre)++r::S) T;rw[e];refine GU ?_;have:=ih (pre++[bB d p c r]) T (λx hx=>by
    rcases Gu.mp hx with hx|hx
    .exact hp' x hx
    .rw[Gw.mp hx];exact JX (hS r Gn)) (λx hx=>hS x (Gm _ hx)) hT (by simp;lia) lt
   rw[IB]at this;exact this
 have cl1:∀ (S pre:List Row) (T:List Nat),(∀r∈pre,r∈R.map (bB d p c))->(∀r∈S,r∈R)->(∀t∈T,t∈c::cs)->pre.length+S.length=k+1->T.length=k+1->m∣aE (pre++S) T:=by
  intro S
  induction S with
  |nil=>
   intro pre T hp' _ hT hl lt;rw[Ic];exact v2.up pre T hp' hT (by simpa using hl) lt
  |cons r S ih=>
   intro pre T hp' hS hT hl lt;simp only[GA]at hl;have e:=wm (A:=pre) (B:=S) (by lia) (exT (hS r Gn) hT);refine pull _ ?_;rw[e];refine Ln (GU ?_) (GU ?_)
   .have:=ih (pre++[bB d p c r]) T (λx hx=>by
     rcases Gu.mp hx with hx|hx
     .exact hp' x hx
     .rw[Gw.mp hx];exact JX (hS r Gn)) (λx hx=>hS x (Gm _ hx)) hT (by simp;lia) lt
    rw[IB]at this;exact this
   .have mv:=iB p T pre [] S (by simp;lia);rw[IU,IU]at mv;rw[mv];exact GU (cl2 S pre T hp' (λx hx=>hS x (Gm _ hx)) hT (by lia) lt)
 intro S T hS hT ls lt;have:=cl1 S [] T (λx hx=>nomatch hx) hS hT (by simpa using ls) lt
 rwa [IU]at this
theorem mI(hm:∀x y:Int,m∣x*y->m∣x\/m∣y)(h1:¬m∣1)(h:lE d R (c::cs))(hd:d≠0)(hd':¬m∣d)(hR:R=A++p::B)(ha:¬m∣p c)(v:Mnr m k ((A++B).map (bB d p c)) cs):Mnr m (k+1) R (c::cs):=by
 have hp:p∈R:=by rw[hR];simp
 obtain⟨S,T,hS,hT,ls,lt,n⟩:=v;obtain⟨S0,hS0,rfl⟩:=List.sublist_map_iff.mp hS;obtain⟨A',B',rfl,hA,hB⟩:=List.sublist_append_iff.mp hS0;rw[F3]at ls;have hSR:∀r∈A'++B',r∈R:=λr hr=>by
  rw[hR];rcases Gu.mp hr with hr|hr
  .exact Gu.mpr (.inl (hA.subset hr))
  .exact Gu.mpr (.inr (Gm _ (hB.subset hr)))
 have rel:=rV h hd hp hSR (λt ht=>hT.subset ht) (show(A'++B').length=T.length by lia);refine⟨A'++p::B',c::T,?_,hT.cons_cons c,by simp at ls⊢;lia,by simp;lia,λz=> ?_⟩
 .rw[hR];exact hA.append (hB.cons_cons p)
 .have mv:=iB p (c::T) A' [] B' (by simp at ls⊢;lia);rw[IU,IU]at mv;rw[mv]at z;have z2:m∣aE (p::(A'++B')) (c::T):=by
   have:m∣sgn A'.length*(sgn A'.length*aE (p::(A'++B')) (c::T)):=GU z
   rwa [<-IH,D4,Jg]at this
  have z3:m∣d^(A'++B').length*(p c*aE ((A'++B').map (bB d p c)) T):=by rw[rel];exact GU z2
  rcases hm _ _ z3 with q|q
  .exact kW hm h1 hd' _ q
  .rcases hm _ _ q with q|q
   .exact ha q
   .exact n q
end
theorem qZ:∀ (cols:List Nat) (R R':List Row),R.length=R'.length->(∀i j,j∈cols->m∣R.getD i rw0 j-R'.getD i rw0 j)->m∣aE R cols-aE R' cols
 | [],_,_,_,_=>by show m∣(1:Int) -1;exact Jz m
 |c::cs,R,R',hl,h=>by
  show m∣aP R.length _-aP R'.length _;rw[<-hl];have e:∀f g:Nat->Int,aP R.length f-aP R.length g=aP R.length λi=>f i+(-1)*g i:=λf g=>by rw[gZ,cC];lia
  rw[e];refine gw λi hi=> ?_;have h1:=h i c Gn;have h2:m∣aE (R.eraseIdx i) cs-aE (R'.eraseIdx i) cs:=qZ cs (R.eraseIdx i) (R'.eraseIdx i) (by rw[He hi,He (by lia),hl]) λk j hj=>by
   rw[Gb,Gb,JJ,JJ];by_cases hk:k<i
   .rw[F7 hk,F7 hk,<-Gb,<-Gb];exact h k j (Gm _ hj)
   .rw[F8 hk,F8 hk,<-Gb,<-Gb];exact h (k+1) j (Gm _ hj)
  generalize R.getD i rw0 c=x at*;generalize R'.getD i rw0 c=x' at*;generalize aE (R.eraseIdx i) cs=y at*;generalize aE (R'.eraseIdx i) cs=y' at*;have:sgn i*(x*y)+ -1*(sgn i*(x'*y'))=sgn i*((x-x')*y+x'*(y-y')):=by rw[KR,Lo,show x*y-x'*y+(x'*y-x'*y')=x*y-x'*y' by lia,Lo];lia
  rw[this];exact GU (Ln (Kc h1) (GU h2))
theorem tu{S:List Row}(h:∀r∈S,m∣f r j-r j):m∣(S.map f).getD i rw0 j-S.getD i rw0 j:=by
 rw[Gb,Gb,Gs];cases e:S[i]? with
 |none=>show m∣rw0 j-rw0 j;rw[JO];exact Jz m
 |some r=>exact h r (Ge e)
theorem vv{m a b:Int}(h:m∣a-b)(hb:m∣b):m∣a:=by
 have:=Ln h hb
 rwa [Int.sub_add_cancel]at this
theorem tP{m a b:Int}(h:m∣a-b)(ha:m∣a):m∣b:=by
 have:=Int.dvd_sub ha h
 rwa [show a- (a-b)=b by lia]at this
section
variable{m:Int}{k:Nat}{R:List Row}{cs:List Nat}{f:Row->Row}
theorem Ce(h:∀r∈R,∀j∈cs,m∣f r j-r j)(v:Van m k (R.map f) cs):Van m k R cs:=by
 intro S T hS hT ls lt;have:=v (S.map f) T (λr hr=>by obtain⟨x,hx,rfl⟩:=Gz.mp hr;exact JX (hS x hx)) hT (by rw[F3];exact ls) lt
 exact tP (qZ T (S.map f) S (F3 _) λi j hj=>tu λr hr=>h r (hS r hr) j (hT j hj)) this
theorem Ck(h:∀r∈R,∀j∈cs,m∣f r j-r j)(v:Mnr m k (R.map f) cs):Mnr m k R cs:=by obtain⟨S,T,hS,hT,ls,lt,n⟩:=v;obtain⟨S0,hS0,rfl⟩:=List.sublist_map_iff.mp hS;rw[F3]at ls;refine⟨S0,T,hS0,hT,ls,lt,λz=>n ?_⟩;exact vv (qZ T (S0.map f) S0 (F3 _) λi j hj=>tu λr hr=>h r (hS0.subset hr) j (hT.subset hj)) z
end
theorem n9(f:Nat->Nat):∀ (T:List Nat) (S:List Row),aE (S.map λr j=>r (f j)) T=aE S (T.map f)
 | [],_=>rfl
 |t::T,S=>by
  show aP (S.map _).length _=aP S.length _;rw[F3];refine aM λi hi=> ?_;rw[nW,n9 f T];have e:(S.map λr j=>r (f j)).getD i rw0 t=S.getD i rw0 (f t):=by rw[Gb,Gb,Gs,Gp hi];rfl
  rw[e]
theorem o8{R R':List Row}{f:Nat->Nat}{T:List Nat}:∀ (S:List Row),(∀r∈S,r∈R')->(∀r∈R',∃r0∈R,∀j∈T,r j=r0 (f j))->∃S0:List Row,(∀r∈S0,r∈R)/\S0.length=S.length/\∀i j,j∈T->S.getD i rw0 j=(S0.map λr j=>r (f j)).getD i rw0 j
 | [],_,_=>⟨[],(λ_ h=>nomatch h),rfl,λ_ _ _=>rfl⟩
 |r::S,hS,h=>by
  obtain⟨S0,h1,h2,h3⟩:=o8 S (λx hx=>hS x (Gm _ hx)) h;obtain⟨r0,g1,g2⟩:=h r (hS r Gn);refine⟨r0::S0,λx hx=> ?_,by simp[h2],λi j hj=> ?_⟩
  .rcases Gh.mp hx with rfl|hx
   .exact g1
   .exact h1 x hx
  .cases i with
   |zero=>exact g2 j hj
   |succ i=>exact h3 i j hj
theorem zG{m:Int}{k:Nat}{R R':List Row}{cs cs':List Nat}{f:Nat->Nat}(hc:∀j∈cs',f j∈cs)(hr:∀r∈R',∃r0∈R,∀j∈cs',r j=r0 (f j))(v:Van m k R cs):Van m k R' cs':=by
 intro S T hS hT ls lt;obtain⟨S0,h1,h2,h3⟩:=o8 (T:=T) S hS λr h=>by obtain⟨r0,g1,g2⟩:=hr r h;exact⟨r0,g1,λj hj=>g2 j (hT j hj)⟩
 rw[fg T S (S0.map λr j=>r (f j)) (by rw[F3,h2]) h3,n9];refine v S0 (T.map f) h1 (λt ht=> ?_) (by lia) (by rw[F3];exact lt);obtain⟨j,hj,rfl⟩:=Gz.mp ht;exact hc j (hT j hj)
section
variable{l u:Nat->Nat->Int}{r:Nat}
end
end Bh
namespace Bh
structure bP(m:Int):Prop where
 nn:0<=m
 lt:m<128
 one:¬m∣1
 mul:∀x y:Int,m∣x*y->m∣x\/m∣y
theorem xO{p:Nat}(h2:2<=p)(hl:p<128)(hp:∀d,d<p+1->d∣p->d=1\/d=p):bP (p:Int):=⟨by lia,by lia,λh=>by
 have:=Int.le_of_dvd (by decide) h;lia,λx y h=>by
 have h3:p∣x.natAbs*y.natAbs:=by rw[<-KN];exact KW.mp h
 by_cases e:p∣x.natAbs
 .exact .inl (KW.mpr e)
 .refine .inr (KW.mpr ?_);have g:Nat.gcd p x.natAbs=1:=by
   rcases hp _ (Nat.lt_succ_of_le (Nat.le_of_dvd (by lia) (Nat.gcd_dvd_left p x.natAbs))) (Nat.gcd_dvd_left p x.natAbs)with g|g
   .exact g
   .exact absurd (g▸Nat.gcd_dvd_right p x.natAbs) e
  exact Nat.Coprime.dvd_of_dvd_mul_left g h3⟩
def wy:List Nat:=[2,3,5,7,11,13,17,19,23,29,31,37,41,43,47,53,59,61,67,71,73,79,83,89,97]
theorem uN:∀p∈wy,bP (p:Int):=by
 have h:∀p∈wy,2<=p/\p<128/\∀d,d<p+1->d∣p->d=1\/d=p:=by decide+kernel
 exact λp hp=>xO (h p hp).1 (h p hp).2.1 (h p hp).2.2
end Bh
namespace Bh
end Bh
namespace Bh
def RkV(m:Int)(R:List Row)(cs:List Nat)(r:Nat):Prop:=Van m (r+1) R cs/\¬Van m r R cs
theorem lP(h:∀j∈cs',j∈cs)(v:Van m k R cs):Van m k R cs':=
 zG (f:=id) h (λr hr=>⟨r,hr,λ_ _=>rfl⟩) v
theorem RkV.mem(h:∀j,j∈cs↔j∈cs')(v:RkV m R cs r):RkV m R cs' r:=
 ⟨lP (λj hj=>(h j).mpr hj) v.1,λz=>v.2 (lP (λj hj=>(h j).mp hj) z)⟩
theorem RkV.one(h:RkV m R cs r)(h':RkV m R cs r'):r=r':=xi h.2 h.1 h'.2 h'.1
theorem RkV.zeroC(hc:∀x∈R,m∣x c)(h:RkV m R cs r):RkV m R (c::cs) r:=
 ⟨jv hc h.1,λz=>h.2 (lP (λj hj=>Gm _ hj) z)⟩
theorem kJ(m:Int)(c:Nat)(R:List Row):(∀x∈R,m∣x c)\/∃p A B,R=A++p::B/\¬m∣p c:=by
 by_cases h:∀x∈R,m∣x c
 .exact .inl h
 .obtain⟨p,hp⟩:=Classical.not_forall.mp h;obtain⟨hp,hn⟩:=Classical.not_imp.mp hp;obtain⟨A,B,e⟩:=KU hp;exact .inr ⟨p,A,B,e,hn⟩
theorem gh(hm:bP m):∀ (cs:List Nat) (R:List Row),∃r,Van m (r+1) R cs/\Mnr m r R cs
 | [],R=>⟨0,qk m R,qo hm.one R []⟩
 |c::cs,R=>by
  rcases kJ m c R with h|⟨p,A,B,e,hn⟩
  .obtain⟨r,h1,h2⟩:=gh hm cs R;exact⟨r,jv h h1,rS h2⟩
  .obtain⟨r,h1,h2⟩:=gh hm cs ((A++B).map (bB 1 p c));exact⟨r+1,mE hm.mul (gv R (c::cs)) (by decide) e hn h1,mI hm.mul hm.one (gv R (c::cs)) (by decide) hm.one e hn h2⟩
theorem RkV.pivot(hm:bP m)(e:R=A++p::B)(hn:¬m∣p c)(h:RkV m ((A++B).map (bB 1 p c)) cs r):RkV m R (c::cs) (r+1):=by obtain⟨r',h1,h2⟩:=gh hm cs ((A++B).map (bB 1 p c));have:r=r':=h.one ⟨h1,h2.not_van⟩;subst this;exact⟨mE hm.mul (gv R (c::cs)) (by decide) e hn h1,(mI hm.mul hm.one (gv R (c::cs)) (by decide) hm.one e hn h2).not_van⟩
open Classical in
noncomputable def rho(m:Int)(R:List Row)(cs:List Nat):Nat:=if h:∃r,RkV m R cs r then Classical.choose h else 0
theorem gE(hm:bP m)(R:List Row)(cs:List Nat):RkV m R cs (rho m R cs):=by
 have h:∃r,RkV m R cs r:=by obtain⟨r,h1,h2⟩:=gh hm cs R;exact⟨r,h1,h2.not_van⟩
 unfold rho;rw[dif_pos h];exact Classical.choose_spec h
theorem fX(hm:bP m)(h:RkV m R cs r):rho m R cs=r:=(gE hm R cs).one h
theorem fP(hm:bP m)(h:∀j,j∈cs↔j∈cs'):rho m R cs=rho m R cs':=fX hm ((gE hm R cs').mem λj=>(h j).symm)
theorem Aq(hm:bP m)(h:∀j∈cs,j∈cs'):rho m R cs<=rho m R cs':=
 ju (λz=>(gE hm R cs).2 (lP h z)) (gE hm R cs').1
theorem jJ(hm:bP m)(c:Nat)(R:List Row):(∀cs,rho m R (c::cs)=rho m R cs)\/∃R',∀cs,rho m R (c::cs)=rho m R' cs+1:=by
 rcases kJ m c R with h|⟨p,A,B,e,hn⟩
 .exact .inl λcs=>fX hm ((gE hm R cs).zeroC h)
 .exact .inr ⟨(A++B).map (bB 1 p c),λcs=>fX hm ((gE hm _ cs).pivot hm e hn)⟩
theorem eZ(hm:bP m)(R:List Row):rho m R []=0:=fX hm ⟨qk m R,λz=>hm.one (z [] [] (by simp) (by simp) rfl rfl)⟩
theorem sD(hm:bP m)(R:List Row)(j c:Nat)(cs:List Nat):rho m R (j::c::cs)=rho m R (c::j::cs):=fP hm λx=>by rw[Gh,Gh,Gh,Gh];exact⟨λh=>by rcases h with h|h|h;exact .inr (.inl h);exact .inl h;exact .inr (.inr h),λh=>by rcases h with h|h|h;exact .inr (.inl h);exact .inl h;exact .inr (.inr h)⟩
theorem jI(hm:bP m)(k:Nat):∀ (cs:List Nat) (R:List Row),rho m R (k::cs)<=rho m R cs+1
 | [],R=>by
  rcases jJ hm k R with h|⟨R',h⟩
  .rw[h];lia
  .rw[h,eZ hm,eZ hm];lia
 |c::cs,R=>by
  rw[sD hm];rcases jJ hm c R with h|⟨R',h⟩
  .rw[h,h];exact jI hm k cs R
  .rw[h,h];have:=jI hm k cs R';lia
theorem qB(hm:bP m)(j k:Nat):∀ (cs:List Nat) (R:List Row),rho m R (j::cs)=rho m R cs->rho m R (k::cs)=rho m R cs->rho m R (k::j::cs)=rho m R cs
 | [],R,h1,h2=>by
  rcases jJ hm k R with h|⟨R',h⟩
  .rw[h];exact h1
  .rw[h,eZ hm,eZ hm]at h2;cases h2
 |c::cs,R,h1,h2=>by
  rw[sD hm]at h1 h2;have e:rho m R (k::j::c::cs)=rho m R (c::k::j::cs):=fP hm λx=>by rw[Gh,Gh,Gh,Gh,Gh,Gh];exact⟨λh=>by rcases h with h|h|h|h;exact .inr (.inl h);exact .inr (.inr (.inl h));exact .inl h;exact .inr (.inr (.inr h)),λh=>by rcases h with h|h|h|h;exact .inr (.inr (.inl h));exact .inl h;exact .inr (.inl h);exact .inr (.inr (.inr h))⟩
  rw[e];rcases jJ hm c R with h|⟨R',h⟩
  .rw[h,h]at h1 h2;rw[h,h];exact qB hm j k cs R h1 h2
  .rw[h,h]at h1 h2;rw[h,h,qB hm j k cs R' (by lia) (by lia)]
def aD(s:Nat):List Nat:=(List.range 8).filter s.testBit
theorem ba{s k:Nat}:k∈aD s↔k<8/\s.testBit k=true:=by unfold aD;rw[GN,Gk]
theorem iC(hk:k<8)(j:Nat):j∈aD (s|||2^k)↔j∈k::aD s:=by
 rw[Gh,ba,ba,GC,Gg,Im,GF];constructor
 .rintro⟨h1,h2|h2⟩
  .exact .inr ⟨h1,h2⟩
  .exact .inl h2.symm
 .rintro(rfl|⟨h1,h2⟩)
  .exact⟨hk, .inr rfl⟩
  .exact⟨h1, .inl h2⟩
noncomputable def dU(m:Int)(R:List Row)(s:Nat):Nat:=rho m R (aD s)
theorem qC(hm:bP m)(hk:k<8):dU m R (s|||2^k)=rho m R (k::aD s):=fP hm (iC hk)
theorem Ar{m:Int}(hm:bP m)(R:List Row){n:Nat}(n8:n<=8):Mat n (dU m R) where
 n8:=n8
 zero:=by
  have e:aD 0=[]:=List.filter_eq_nil_iff.mpr λk _=>by rw[HS];exact Gj
  unfold dU;rw[e];exact eZ hm R
 step:=λs k _ hk=>by rw[qC hm (by lia)];exact⟨Aq hm λj hj=>Gm _ hj,jI hm k _ R⟩
 sub:=λs j k _ hj hk h1 h2=>by
  rw[qC hm (by lia)]at h1 h2;have e:dU m R (s|||2^j|||2^k)=rho m R (k::j::aD s):=(qC hm (by lia)).trans (fP hm λx=>by rw[Gh,iC (by lia),Gh,Gh,Gh])
  rw[e];exact qB hm j k _ R h1 h2
end Bh
namespace Bh
def A6(a b:Int):Int:=if b<a then b else a
def yp(hs:List Int)(x y:Nat):List Int:=hs.map λh=>if h=hs.getD x 0\/h=hs.getD y 0 then A6 (hs.getD x 0) (hs.getD y 0)else h
theorem ik(hs:List Int)(x y:Nat):(yp hs x y).length=hs.length:=F3 ..
theorem ip{hs:List Int}(hz:z<hs.length):(yp hs x y).getD z 0=if hs.getD z 0=hs.getD x 0\/hs.getD z 0=hs.getD y 0 then A6 (hs.getD x 0) (hs.getD y 0)else hs.getD z 0:=by
 have e:hs.getD z 0=hs[z]:=by simp[hz]
 have e2:(yp hs x y).getD z 0=(yp hs x y)[z]'(by rw[ik];exact hz):=by simp[ik,hz]
 rw[e2,e];unfold yp;rw[K8]
structure Hds(p:Nat)(ms hs:List Int):Prop where
 len:hs.length=p
 lenM:ms.length=p
 ker:∀i j,i<p->j<p->(ms.getD i 0=ms.getD j 0↔hs.getD i 0=hs.getD j 0)
 low:∀i,i<p->∃k:Nat,hs.getD i 0=(k:Int)/\k<=i/\hs.getD k 0=(k:Int)
theorem Hds.start(p:Nat):Hds p (start p) (start p):=by
 have l:(Bh.start p).length=p:=by simp[Bh.start]
 have g:∀i,i<p->(Bh.start p).getD i 0=(i:Int):=λi hi=>by simp[Bh.start,hi]
 exact⟨l,l,λi j _ _=>Iff.rfl,λi hi=>⟨i,g i hi,Gf _,g i hi⟩⟩
theorem Hds.step(h:Hds p ms hs)(hx:x<p)(hy:y<p):Hds p (mrg ms x y) (yp hs x y):=by
 refine⟨by rw[ik];exact h.len,by rw[fD];exact h.lenM,λi j hi hj=> ?_,λi hi=> ?_⟩
 .rw[fS (by rw[h.lenM];exact hi),fS (by rw[h.lenM];exact hj),ip (by rw[h.len];exact hi),ip (by rw[h.len];exact hj)];have k1:=h.ker i x hi hx;have k2:=h.ker i y hi hy;have k3:=h.ker j x hj hx;have k4:=h.ker j y hj hy;have k5:=h.ker i j hi hj;have k6:=h.ker x y hx hy;generalize ms.getD i 0=mi at*;generalize ms.getD j 0=mj at*;generalize ms.getD x 0=mx at*;generalize ms.getD y 0=my at*;generalize hs.getD i 0=hi' at*;generalize hs.getD j 0=hj' at*;generalize hs.getD x 0=hx' at*;generalize hs.getD y 0=hy' at*;unfold A6;by_cases c1:mi=mx<;>by_cases c2:mj=mx<;>by_cases c3:hi'=hx'\/hi'=hy'<;>by_cases c4:hj'=hx'\/hj'=hy'<;>(first|rw[F7 c1]|rw[F8 c1])<;>(first|rw[F7 c2]|rw[F8 c2])<;>(first|rw[F7 c3]|rw[F8 c3])<;>(first|rw[F7 c4]|rw[F8 c4])<;>(try split)<;>lia
 .obtain⟨k,e1,e2,e3⟩:=h.low i hi;obtain⟨a,a1,a2,a3⟩:=h.low x hx;obtain⟨b,b1,b2,b3⟩:=h.low y hy;have em:A6 (hs.getD x 0) (hs.getD y 0)=((min a b:Nat):Int):=by rw[a1,b1];unfold A6;split<;>lia
  rw[ip (by rw[h.len];exact hi),em,a1,b1,e1];by_cases c:(k:Int)=(a:Int)\/(k:Int)=(b:Int)
  .refine⟨min a b,by rw[F7 c],by lia,?_⟩;rw[ip (by rw[h.len];lia),em,a1,b1,F7];rcases Nat.le_total a b with l|l
   .rw[J0 l];exact .inl a3
   .rw[Km l];exact .inr b3
  .refine⟨k,by rw[F8 c],e2,?_⟩;rw[ip (by rw[h.len];lia),a1,b1,e3,F8 c]
def CQ(hs:List Int)(i:Nat):Nat:=((List.range i).filter λk=>decide (hs.getD k 0=(k:Int))).length
theorem Hds.own{ms hs:List Int}(h:Hds p ms hs):∀i,i<=p->iG (λk=>hs.getD k 0) i=CQ hs i
 |0,_=>rfl
 |i+1,hi=>by
  have ih:=h.own i (by lia);have e:CQ hs (i+1)=CQ hs i+if hs.getD i 0=(i:Int)then 1 else 0:=by
   unfold CQ;rw[IC,Jb,Gr];by_cases c:hs.getD i 0=(i:Int)
   .rw[F7 c,Lf (p:=λk:Nat=>decide (hs.getD k 0=(k:Int))) (F5 c)];rfl
   .rw[F8 c,Ka (p:=λk:Nat=>decide (hs.getD k 0=(k:Int))) λz=>c (Gx z)];rfl
  rw[e];obtain⟨k,e1,e2,e3⟩:=h.low i (by lia);by_cases c:hs.getD i 0=(i:Int)
  .refine(og λ⟨j,hj,ej⟩=> ?_).trans (by rw[F7 c,ih]);obtain⟨k',f1,f2,_⟩:=h.low j (by lia);have:(k':Int)=(i:Int):=by rw[<-f1,<-c];exact ej
   lia
  .refine(tV ⟨k,?_,?_⟩).trans (by rw[F8 c,ih];rfl)
   .have:k≠i:=λz=>c (by rw[e1,z]);lia
   .show hs.getD k 0=hs.getD i 0;rw[e3,e1]
def nA(p:Nat)(ts:List (Nat×Nat))(s i:Nat):List Int:=qS p ts (((List.range i).filter s.testBit).map λk:Nat=>(k:Int))
theorem yq(p:Nat)(ts:List (Nat×Nat))(s i:Nat):nA p ts s (i+1)=if s.testBit i=true then mrg (nA p ts s i) (ts.getD i (0,0)).1 (ts.getD i (0,0)).2 else nA p ts s i:=by
 unfold nA;rw[IC,Jb,GO];by_cases c:s.testBit i=true
 .rw[F7 c,Lf c,List.filter_nil];exact(pk p ts _ _).trans (by rw[F6])
 .rw[F8 c,Ka c,List.filter_nil,Jx,Ic]
theorem mV{s n:Nat}(h8:n<=8)(hs:s<2^n):(List.range n).filter s.testBit=(List.range 8).filter s.testBit:=by
 have e:List.range 8=List.range n++(List.range (8-n)).map (n+ ·):=by rw[<-List.range_add,Nat.add_sub_cancel' h8]
 rw[e,Jb];have z:((List.range (8-n)).map (n+ ·)).filter s.testBit=[]:=List.filter_eq_nil_iff.mpr λk hk=>by obtain⟨j,_,rfl⟩:=Gz.mp hk;rw[GX (F9 hs (Gv (by lia) (JR n j)))];exact Gj
 rw[z,Ic]
theorem A5{ts:List (Nat×Nat)}(h8:ts.length<=8)(hs:s<2^ts.length):nA p ts s ts.length=pj p ts s:=by unfold nA pj;rw[mV h8 hs];rfl
def gA(m:Int)(R:List Row)(cs:List Nat):Prop:=∃S,S.Sublist R/\S.length=cs.length/\¬m∣aE S cs
theorem gp(hm:bP m)(R:List Row)(cs:List Nat):rho m R cs=cs.length↔gA m R cs:=by
 obtain⟨r,h1,S,T,h2,h3,h4,h5,h6⟩:=gh hm cs R;have e:rho m R cs=r:=fX hm ⟨h1,Mnr.not_van ⟨S,T,h2,h3,h4,h5,h6⟩⟩;have lt:=h3.length_le;rw[e];constructor
 .intro z;have:T=cs:=h3.eq_of_length (by lia);rw[this]at h6;exact⟨S,h2,by lia,h6⟩
 .rintro⟨S',g1,g2,g3⟩;have:=ju (m:=m) (k:=cs.length) (R:=R) (cs:=cs) (λv=>g3 (v S' cs (λx hx=>g1.subset hx) (λt ht=>ht) g2 rfl)) h1;lia
theorem cq(s:Nat):(aD s).length=sz s:=by unfold sz bits;rw[F3];rfl
theorem gA.few{R:List Row}{cs:List Nat}(h:gA m R cs):cs.length<=R.length:=by obtain⟨S,h1,h2,_⟩:=h;rw[<-h2];exact h1.length_le
theorem nV:gA m R [j]↔∃x∈R,¬m∣x j:=by
 have e:∀x:Row,aE [x] [j]=x j:=λx=>by simp[aE,aP,sgn]
 constructor
 .rintro⟨S,h1,h2,h3⟩
  match S,h2 with
  | [x],_=>exact⟨x,h1.subset (by simp),by rw[<-e x];exact h3⟩
 .rintro⟨x,h1,h2⟩;exact⟨[x],Kk.mpr h1,rfl,by rw[e x];exact h2⟩
theorem lQ{α:Type}{x y:α}:∀ {l:List α},[x,y].Sublist l↔∃p q:Nat,p<q/\l[p]?=some x/\l[q]?=some y
 | []=>⟨λh=>(nomatch h),λ⟨p,q,_,h,_⟩=>by simp at h⟩
 |z::l=>by
  constructor
  .intro h;cases h with
   |cons _ h=>
    obtain⟨p,q,h1,h2,h3⟩:=lQ.mp h;exact⟨p+1,q+1,by lia,by simpa using h2,by simpa using h3⟩
   |cons_cons _ h=>
    obtain⟨q,hq⟩:=Hk (Kk.mp h);exact⟨0,q+1,by lia,rfl,by simpa using hq⟩
  .rintro⟨p,q,h1,h2,h3⟩;cases p with
   |zero=>
    cases q with
    |zero=>lia
    |succ q=>
     cases h2;exact .cons_cons _ (Kk.mpr (Ge (i:=q) (by simpa using h3)))
   |succ p=>
    cases q with
    |zero=>lia
    |succ q=>exact .cons _ (lQ.mpr ⟨p,q,by lia,by simpa using h2,by simpa using h3⟩)
theorem nU:gA m R [j,k]↔∃ (p q:Nat) (x y:Row),p<q/\R[p]?=some x/\R[q]?=some y/\¬m∣aE [x,y] [j,k]:=by
 constructor
 .rintro⟨S,h1,h2,h3⟩
  match S,h2 with
  | [x,y],_=>
   obtain⟨p,q,g1,g2,g3⟩:=lQ.mp h1;exact⟨p,q,x,y,g1,g2,g3,h3⟩
 .rintro⟨p,q,x,y,g1,g2,g3,g4⟩;exact⟨[x,y],lQ.mpr ⟨p,q,g1,g2,g3⟩,rfl,g4⟩
end Bh
namespace Bh
def exB(b x y:Nat):Nat:=(b^^^2^x)|||2^y
theorem cx(b x y j:Nat):(exB b x y).testBit j=((b.testBit j^^decide (x=j))||decide (y=j)):=by unfold exB;rw[GC,Ho,Gg,Gg]
namespace Mat
variable{n:Nat}{r:Nat->Nat}(M:Mat n r)
include M
theorem AI(hC:C<2^n)(hu:u<n)(hv:v<n)(h0:r C=c)(h:r (C|||2^u|||2^v)=c+2):r (C|||2^u)=c+1/\r (C|||2^v)=c+1:=by have h1:=M.step C u hC hu;have h2:=M.step (C|||2^u) v (aQ hC hu) hv;have h3:=M.step C v hC hv;have h4:=M.step (C|||2^v) u (aQ hC hv) hu;rw[show C|||2^v|||2^u=C|||2^u|||2^v by rw[Jq,Ki (2^v),<-Jq]]at h4;lia
theorem AH(hC:C<2^n)(hu:u<n)(hv:v<n)(hw:w<n)(h0:r (C|||2^u)=c+1)(h1:¬r (C|||2^u|||2^v)=c+2)(h2:¬r (C|||2^u|||2^w)=c+2):¬r (C|||2^v|||2^w)=c+2:=by
 have hCu:=aQ hC hu;have s1:=M.step (C|||2^u) v hCu hv;have s2:=M.step (C|||2^u) w hCu hw;have h3:=M.sub (C|||2^u) v w hCu hv hw (by lia) (by lia);have h4:=M.mono (s:=C|||2^v|||2^w) (t:=C|||2^u|||2^v|||2^w) (λk hk=>by simp only[GC,Im]at hk⊢;rcases hk with (h|h)|h<;>simp[h]) (aQ (aQ hCu hv) hw)
 lia
end Mat
structure Six(n:Nat)(r:Nat->Nat)(C c x z y v:Nat):Prop where
 M:Mat n r
 hC:C<2^n
 hx:x<n
 hz:z<n
 hy:y<n
 hv:v<n
 h0:r C=c
def bM(r:Nat->Nat)(C c u v:Nat):Prop:=r (C|||2^u|||2^v)=c+2
theorem du:bM r C c u v↔bM r C c v u:=by unfold bM;rw[show C|||2^v|||2^u=C|||2^u|||2^v by rw[Jq,Ki (2^v),<-Jq]]
theorem vp(a1:xz->X/\Z)(a2:xy->X/\Y)(a3:xv->X/\V)(a4:zy->Z/\Y)(a5:zv->Z/\V)(a6:yv->Y/\V)
  (b1:X->¬xz->¬xy->¬zy) (b2:X->¬xz->¬xv->¬zv) (b3:X->¬xy->¬xv->¬yv)
  (b4:Z->¬xz->¬zy->¬xy) (b5:Z->¬xz->¬zv->¬xv) (b6:Z->¬zy->¬zv->¬yv)
  (b7:Y->¬xy->¬zy->¬xz) (b8:Y->¬xy->¬yv->¬xv) (b9:Y->¬zy->¬yv->¬zv)
  (b10:V->¬xv->¬zv->¬xz) (b11:V->¬xv->¬yv->¬xy) (b12:V->¬zv->¬yv->¬zy)
  (h1:xz) (h2:zy) (no:xy->xv->zv->yv->False):yv↔((xv/\¬(zv/\xy))\/(¬xv/\zv/\xy)):=by
 by_cases c1:xy<;>by_cases c2:xv<;>by_cases c3:zv<;>by_cases c4:yv<;>simp_all
theorem Six.iff(S:Six n r C c x z y v)(h1:bM r C c x z)(h2:bM r C c z y)(no:bM r C c x y->bM r C c x v->bM r C c z v->bM r C c y v->False):
  bM r C c y v↔((bM r C c x v/\¬(bM r C c z v/\bM r C c x y))\/(¬bM r C c x v/\bM r C c z v/\bM r C c x y)):=by
 obtain⟨M,hC,hx,hz,hy,hv,h0⟩:=S;have non:∀ {u w},u<n->w<n->bM r C c u w->r (C|||2^u)=c+1/\r (C|||2^w)=c+1:=λhu hw h=>M.AI hC hu hw h0 h;have par:∀ {u w t},u<n->w<n->t<n->r (C|||2^u)=c+1->¬bM r C c u w->¬bM r C c u t->¬bM r C c w t:=λhu hw ht h a b=>M.AH hC hu hw ht h a b;have cm:∀ {u w},¬bM r C c u w->¬bM r C c w u:=λh e=>h (du.mp e);refine vp (non hx hz) (non hx hy) (non hx hv) (non hz hy) (non hz hv) (non hy hv) (par hx hz hy) (par hx hz hv) (par hx hy hv)
  (λa b d=>par hz hx hy a (cm b) d) (λa b d=>par hz hx hv a (cm b) d) (λa b d=>par hz hy hv a b d)
  (λa b d=>par hy hx hz a (cm b) (cm d)) (λa b d=>par hy hx hv a (cm b) d) (λa b d=>par hy hz hv a (cm b) d)
  (λa b d=>par hv hx hz a (cm b) (cm d)) (λa b d=>par hv hx hy a (cm b) (cm d)) (λa b d=>par hv hz hy a (cm b) (cm d)) h1 h2 no
def gP(r:Nat->Nat)(G R:Nat):Prop:=∀C x z y v,Sub C G->sz C+2=R->(∀t∈[x,z,y,v],G.testBit t=true/\C.testBit t=false)->[x,z,y,v].Nodup->r C+2=R->
 bM r C (r C) x z->bM r C (r C) x y->bM r C (r C) x v->bM r C (r C) z y->bM r C (r C) z v->bM r C (r C) y v->False
theorem Fx{B x y x' y':Nat}(hx:B.testBit x=true)(hx':B.testBit x'=true)(hxx:x≠x')(hy:B.testBit y=false)(hy':B.testBit y'=false)(hyy:y≠y'):exB (exB B x y) x' y'=(B^^^2^x^^^2^x')|||2^y|||2^y':=Gi λj=>by
 have n1:y≠x':=λe=>by rw[e,hx']at hy;cases hy
 rw[cx,cx,GC,GC,Ho,Ho,Gg,Gg,Gg,Gg];by_cases e:y=j
 .have e2:¬x'=j:=λz=>n1 (e.trans z.symm);simp[e,e2]
 .simp[e]
theorem wK{B x x' y:Nat}(hx:B.testBit x=true)(hx':B.testBit x'=true)(hxx:x≠x'):(B^^^2^x^^^2^x')|||2^x'|||2^y=exB B x y:=Gi λj=>by
 rw[cx,GC,GC,Ho,Ho,Gg,Gg,Gg];by_cases e:x'=j
 .subst e;simp[hx',hxx]
 .simp[e]
theorem Dk{B x x':Nat}(hx:B.testBit x=true)(hx':B.testBit x'=true)(hxx:x≠x'):(B^^^2^x^^^2^x')|||2^x|||2^x'=B:=Gi λj=>by
 rw[GC,GC,Ho,Ho,Gg,Gg];by_cases e:x'=j
 .subst e;simp[hx']
 .by_cases e2:x=j
  .subst e2;simp[hx]
  .simp[e,e2]
theorem Ff{n B x y:Nat}(M:Mat n r)(hB:B<2^n)(hx:B.testBit x=true)(hy:B.testBit y=false)(hyn:y<n):exB B x y<2^n/\sz (exB B x y)=sz B:=by
 have h1:=M.e7 hB hx;have h2:=M.gm hB hx;refine⟨aQ h1 hyn,?_⟩;have hb:(B^^^2^x).testBit y=false:=by
  rw[Ho,hy,Gg];have:¬x=y:=λe=>by rw[e,hy]at hx;cases hx
  simp[this]
 have h3:=jd (M.eC h1) (F9 hyn M.n8) hb;unfold exB;lia
theorem B1(M1:Mat n r1)(M2:Mat n r2){G R B x y:Nat}(hG:G<2^n)(no1:gP r1 G R)(no2:gP r2 G R)(hB:Sub B G)(zB:sz B=R)(b1:r1 B=R)(b2:r2 B=R)
  (ag:∀x y,B.testBit x=true->G.testBit y=true->B.testBit y=false->(r1 (exB B x y)=R↔r2 (exB B x y)=R)) (hx:B.testBit x=true) (gy:G.testBit y=true) (hy:B.testBit y=false) (e1:r1 (exB B x y)=R) (e2:r2 (exB B x y)=R):
  ∀x' y',(exB B x y).testBit x'=true->G.testBit y'=true->(exB B x y).testBit y'=false->(r1 (exB (exB B x y) x' y')=R↔r2 (exB (exB B x y) x' y')=R):=by
 intro x' y' hx' gy' hy';have nxy:x≠y:=λe=>by rw[e,hy]at hx;cases hx
 rw[cx]at hx' hy';have nyy:y≠y':=λe=>by simp[e]at hy'
 by_cases c1:x'=y
 .subst c1;by_cases c2:x=y'
  .subst c2;have e:exB (exB B x x') x' x=B:=Gi λj=>by
    rw[cx,cx];by_cases k1:x'=j
    .subst k1;simp[hy,nxy]
    .by_cases k2:x=j
     .subst k2;simp[hx,k1]
     .simp[k1,k2]
   rw[e,b1,b2]
  .have hb:B.testBit y'=false:=by have:¬x'=y':=nyy;simp[c2,this]at hy';exact hy'
   have e:exB (exB B x x') x' y'=exB B x y':=Gi λj=>by
    rw[cx,cx,cx];by_cases k1:x'=j
    .subst k1;simp[hy,nxy]
    .simp[k1]
   rw[e];exact ag x y' hx gy' hb
 .have nx:¬x=x':=λe=>by subst e;have k1:¬y=x:=λe=>nxy e.symm;simp[hx,k1]at hx'
  have hb':B.testBit x'=true:=by have k1:¬y=x':=λe=>c1 e.symm;simp[nx,k1]at hx';exact hx'
  by_cases c2:x=y'
  .subst c2;have e:exB (exB B x y) x' x=exB B x' y:=Gi λj=>by
    rw[cx,cx,cx];by_cases k2:x=j
    .subst k2;have:¬x'=x:=λe=>nx e.symm;simp[hx,this]
    .by_cases k3:x'=j
     .subst k3;have:¬y=x':=λe=>c1 e.symm;simp[k2,hb',this]
     .simp[k2,k3]
   rw[e];exact ag x' y hb' gy hy
  .have hb:B.testBit y'=false:=by have:¬y=y':=nyy;simp[c2,this]at hy';exact hy'
   have hBn:=hB.lt hG;have C1:=M1.e7 hBn hx;have hxd:(B^^^2^x).testBit x'=true:=by rw[Ho,hb',Gg];simp[nx]
   have C2:=M1.e7 C1 hxd;have z1:=M1.gm hBn hx;have z2:=M1.gm C1 hxd;have sC:Sub (B^^^2^x^^^2^x') B:=(gx hxd).trans (gx hx);have f1:=M1.j3 sC hBn (b1.trans zB.symm);have f2:=M2.j3 sC hBn (b2.trans zB.symm);have lt:∀ {t},G.testBit t=true->t<n:=λh=>da hG h;have cb:∀t,(B^^^2^x^^^2^x').testBit t=(B.testBit t^^decide (x=t)^^decide (x'=t)):=λt=>by rw[Ho,Ho,Gg,Gg]
   have pr:∀ (r:Nat->Nat),r (B^^^2^x^^^2^x')+2=R->∀u v,bM r (B^^^2^x^^^2^x') (r (B^^^2^x^^^2^x')) u v↔r ((B^^^2^x^^^2^x')|||2^u|||2^v)=R:=λr h u v=>by unfold bM;rw[h]
   have g1:r1 (B^^^2^x^^^2^x')+2=R:=by lia
   have g2:r2 (B^^^2^x^^^2^x')+2=R:=by lia
   have p1:=pr r1 g1;have p2:=pr r2 g2;have q1:(B^^^2^x^^^2^x')|||2^x|||2^x'=B:=Dk hx hb' nx;have q2:∀t,(B^^^2^x^^^2^x')|||2^x'|||2^t=exB B x t:=λt=>wK hx hb' nx;have q3:∀t,(B^^^2^x^^^2^x')|||2^x|||2^t=exB B x' t:=λt=>by rw[show B^^^2^x^^^2^x'=B^^^2^x'^^^2^x by rw[Hi,Jp (2^x),<-Hi]];exact wK hb' hx (λe=>nx e.symm)
   have mem:∀t∈[x,x',y,y'],G.testBit t=true/\(B^^^2^x^^^2^x').testBit t=false:=λt ht=>by
    have n1:¬x'=x:=λe=>nx e.symm;have n2:¬x=y':=c2;have n3:¬x'=y':=λe=>by rw[e,hb]at hb';cases hb'
    simp only[Gh,Hv,JQ]at ht;rcases ht with rfl|rfl|rfl|rfl
    .exact⟨hB _ hx,by rw[cb,hx];simp[n1]⟩
    .exact⟨hB _ hb',by rw[cb,hb'];simp[nx]⟩
    .exact⟨gy,by rw[cb,hy];simp[nxy,c1]⟩
    .exact⟨gy',by rw[cb,hb];simp[n2,n3]⟩
   have nd:[x,x',y,y'].Nodup:=by
    have n3:¬x'=y':=λe=>by rw[e,hb]at hb';cases hb'
    simp[nx,nxy,c2,c1,n3,nyy]
   have sCG:=sC.trans hB;have i1:=Six.iff ⟨M1,C2,lt (hB _ hx),lt (hB _ hb'),lt gy,lt gy',rfl⟩ ((p1 x x').mpr (by rw[q1,b1])) ((p1 x' y).mpr (by rw[q2,e1])) λa b d e=>no1 _ x x' y y' sCG (by lia) mem nd g1 ((p1 x x').mpr (by rw[q1,b1])) a b ((p1 x' y).mpr (by rw[q2,e1])) d e;have i2:=Six.iff ⟨M2,C2,lt (hB _ hx),lt (hB _ hb'),lt gy,lt gy',rfl⟩ ((p2 x x').mpr (by rw[q1,b2])) ((p2 x' y).mpr (by rw[q2,e2])) λa b d e=>no2 _ x x' y y' sCG (by lia) mem nd g2 ((p2 x x').mpr (by rw[q1,b2])) a b ((p2 x' y).mpr (by rw[q2,e2])) d e;rw[Fx hx hb' nx hy hb nyy];have j1:=(p1 y y').symm.trans i1;have j2:=(p2 y y').symm.trans i2;rw[j1,j2,p1,p1,p1,p2,p2,p2,q2,q3,q3,ag x y' hx gy' hb,ag x' y' hb' gy' hb,ag x' y hb' gy hy]
theorem oZ(M1:Mat n r1)(M2:Mat n r2){G R:Nat}(hG:G<2^n)(f1:r1 (2^n-1)=R)(f2:r2 (2^n-1)=R)(no1:gP r1 G R)(no2:gP r2 G R):
  ∀ (k B:Nat),Sub B G->sz B=R->r1 B=R->r2 B=R->(∀x y,B.testBit x=true->G.testBit y=true->B.testBit y=false->(r1 (exB B x y)=R↔r2 (exB B x y)=R))->∀Z,Sub Z G->sz Z=R->sz (aC B Z)=k->(r1 Z=R↔r2 Z=R)
 |0,B,hB,zB,b1,b2,_,Z,hZ,zZ,hk=>by
  have hs:Sub B Z:=λt ht=>by
   cases e:Z.testBit t with
   |true=>rfl
   |false=>
    have hn:=da (hB.lt hG) ht;have hb:(aC B Z).testBit t=true:=by rw[br,ht,e];rfl
    have hl:=Gq (iV B Z) (hB.lt hG);have:=M1.gm hl hb;lia
  have e:B=Z:=z6 (M1.eC (hB.lt hG)) (M1.eC (hZ.lt hG)) (λk _ h=>hs k h) (zB.trans zZ.symm);rw[<-e,b1,b2]
 |k+1,B,hB,zB,b1,b2,ag,Z,hZ,zZ,hk=>by
  by_cases hor:r1 Z=R\/r2 Z=R
  .have hBn:=hB.lt hG;have hZn:=hZ.lt hG;obtain⟨x,hx⟩:∃x,(aC B Z).testBit x=true:=by
    refine Hq λhn=> ?_;have:aC B Z=0:=Gi λj=>by
     rw[HS];cases e:(aC B Z).testBit j with
     |false=>rfl
     |true=>exact absurd ⟨j,e⟩ hn
    rw[this,gC]at hk;cases hk
   have hx2:B.testBit x=true/\Z.testBit x=false:=by rw[br]at hx;cases h1:B.testBit x<;>cases h2:Z.testBit x<;>rw[h1,h2]at hx<;>simp at hx⊢
   obtain⟨y,zy,by_,e1,e2⟩:∃y,Z.testBit y=true/\B.testBit y=false/\r1 (exB B x y)=R/\r2 (exB B x y)=R:=by
    rcases hor with h|h
    .obtain⟨y,g1,g2,g3⟩:=M1.exch (b:=B) (c:=Z) ⟨hBn,b1.trans zB.symm,b1.trans f1.symm⟩ ⟨hZn,h.trans zZ.symm,h.trans f1.symm⟩ hx2.1 hx2.2;have:r1 (exB B x y)=R:=g3.2.2.trans f1;exact⟨y,g1,g2,this,(ag x y hx2.1 (hZ _ g1) g2).mp this⟩
    .obtain⟨y,g1,g2,g3⟩:=M2.exch (b:=B) (c:=Z) ⟨hBn,b2.trans zB.symm,b2.trans f2.symm⟩ ⟨hZn,h.trans zZ.symm,h.trans f2.symm⟩ hx2.1 hx2.2;have:r2 (exB B x y)=R:=g3.2.2.trans f2;exact⟨y,g1,g2,(ag x y hx2.1 (hZ _ g1) g2).mpr this,this⟩
   have ag':=B1 M1 M2 hG no1 no2 hB zB b1 b2 ag hx2.1 (hZ _ zy) by_ e1 e2;have zE:=Ff M1 hBn hx2.1 by_ (da hG (hZ _ zy));have hE:Sub (exB B x y) G:=λj hj=>by
    rw[cx]at hj;by_cases c1:y=j
    .subst c1;exact hZ _ zy
    .by_cases c2:x=j
     .subst c2;exact hB _ hx2.1
     .simp[c1,c2]at hj;exact hB _ hj
   refine oZ M1 M2 hG f1 f2 no1 no2 k (exB B x y) hE (zE.2.trans zB) e1 e2 ag' Z hZ zZ ?_;have ed:aC (exB B x y) Z=aC B Z^^^2^x:=Gi λj=>by
    rw[br,cx,Ho,br,Gg];by_cases c1:y=j
    .subst c1;have:¬x=y:=λe=>by rw[e,zy]at hx2;cases hx2.2
     simp[zy,this]
    .by_cases c2:x=j
     .subst c2;simp[hx2.1,hx2.2,c1]
     .simp[c1,c2]
   have:=M1.gm (Gq (iV B Z) hBn) hx;rw[ed];lia
  .have h1:¬r1 Z=R:=λh=>hor (.inl h);have h2:¬r2 Z=R:=λh=>hor (.inr h);exact⟨λh=>absurd h h1,λh=>absurd h h2⟩
end Bh
namespace Bh
theorem c6:bP 2:=uN 2 (by decide)
theorem mS(hm:bP m):∀ (cs:List Nat) (R:List Row),∃ (R':List Row) (d:Nat),∀ds,rho m R (cs++ds)=rho m R' ds+d
 | [],R=>⟨R,0,λds=>rfl⟩
 |c::cs,R=>by
  rcases jJ hm c R with h|⟨R',h⟩
  .obtain⟨R2,d,e⟩:=mS hm cs R;exact⟨R2,d,λds=>(h _).trans (e ds)⟩
  .obtain⟨R2,d,e⟩:=mS hm cs R';exact⟨R2,d+1,λds=>by rw[K7,h,e];lia⟩
theorem AW(h:(2:Int)∣a*d-c*b)(ha:¬(2:Int)∣a)(hd:¬(2:Int)∣d):¬(2:Int)∣b:=λhb=>by
 have h1:(2:Int)∣a*d:=by have:=Kl hb (Int.dvd_mul_left c b);lia
 rcases c6.mul _ _ h1 with h1|h1
 .exact ha h1
 .exact hd h1
theorem CY(h:(2:Int)∣a*d-c*b)(ha:¬(2:Int)∣a)(hb:¬(2:Int)∣b):(2:Int)∣c-d:=by
 have e:a*(d-c)=a*d-a*c:=Lo ..;have e2:c*(a-b)=c*a-c*b:=Lo ..;have h2:(2:Int)∣c*(a-b):=Kl (show(2:Int)∣a-b by lia) (Int.dvd_mul_left c _);have c2:c*a=a*c:=IX ..;have h3:(2:Int)∣a*(d-c):=by lia
 rcases c6.mul _ _ h3 with h4|h4
 .exact absurd h4 ha
 .lia
theorem zL(h:(2:Int)∣a-b)(h2:(2:Int)∣c-d):(2:Int)∣a*d-c*b:=by have e:(a-b)*d=a*d-b*d:=KR ..;have e2:(c-d)*b=c*b-d*b:=KR ..;have c2:d*b=b*d:=IX ..;have:=Kl h (Ke _ d);have:=Kl h2 (Ke _ b);lia
theorem oT(h:∀a∈R,(2:Int)∣a j-a k):¬gA 2 R [j,k]:=λf=>by obtain⟨p,q,x,y,_,g1,g2,g3⟩:=nU.mp f;rw[mr]at g3;exact g3 (zL (h x (Ge g1)) (h y (Ge g2)))
theorem oS(h:¬gA 2 R [j,k])(hj:gA 2 R [j])(hk:gA 2 R [k]):∀a∈R,(2:Int)∣a j-a k:=by
 obtain⟨x,hx,ox⟩:=nV.mp hj;obtain⟨y,hy,oy⟩:=nV.mp hk;have D:∀a∈R,∀b∈R,(2:Int)∣a j*b k-b j*a k:=λa ha b hb=>by
  obtain⟨p,hp⟩:=Hk ha;obtain⟨q,hq⟩:=Hk hb;rcases Nat.lt_trichotomy p q with l|l|l
  .cases Classical.em ((2:Int)∣a j*b k-b j*a k)with
   |inl z=>exact z
   |inr z=>exact absurd (nU.mpr ⟨p,q,a,b,l,hp,hq,by rw[mr];exact z⟩) h
  .subst l;have:a=b:=GY (hp.symm.trans hq);subst this;lia
  .cases Classical.em ((2:Int)∣b j*a k-a j*b k)with
   |inl z=>lia
   |inr z=>exact absurd (nU.mpr ⟨q,p,b,a,l,hq,hp,by rw[mr];exact z⟩) h
 have o2:=AW (D x hx y hy) ox oy;exact λa ha=>CY (D x hx a ha) ox o2
theorem yR(xz:rho 2 R [x,z]=2)(xy:rho 2 R [x,y]=2)(xv:rho 2 R [x,v]=2)(zy:rho 2 R [z,y]=2)(zv:rho 2 R [z,v]=2)(yv:rho 2 R [y,v]=2)
  (t1:rho 2 R [x,z,y]<=2) (t2:rho 2 R [x,z,v]<=2) (t3:rho 2 R [x,y,v]<=2):False:=by
 have hm:=c6;rcases kJ 2 x R with h|⟨p,A,B,e,hn⟩
 .have e1:rho 2 R (x::[z])=rho 2 R [z]:=fX hm ((gE hm R [z]).zeroC h);have e2:=jI hm z [] R;rw[eZ hm]at e2;lia
 .have pv:∀cs,rho 2 R (x::cs)=rho 2 ((A++B).map (bB 1 p x)) cs+1:=λcs=>fX hm ((gE hm _ cs).pivot hm e hn);have key:∀j k,rho 2 R [x,j]=2->rho 2 R [x,k]=2->rho 2 R [j,k]=2->rho 2 R [x,j,k]<=2->¬(2:Int)∣p j-p k:=λj k h1 h2 h3 h4 hd=>by
   rw[pv]at h1 h2 h4;have f1:gA 2 ((A++B).map (bB 1 p x)) [j]:=(gp hm _ _).mp (by show _=1;lia);have f2:gA 2 ((A++B).map (bB 1 p x)) [k]:=(gp hm _ _).mp (by show _=1;lia);have f3:¬gA 2 ((A++B).map (bB 1 p x)) [j,k]:=λz=>by have:=(gp hm _ _).mpr z;have:rho 2 ((A++B).map (bB 1 p x)) [j,k]=2:=this;lia
   have f4:=oS f3 f1 f2;refine oT (R:=R) (j:=j) (k:=k) (λa ha=> ?_) ((gp hm _ _).mp h3);rw[e]at ha;have ha2:a=p\/a∈A++B:=by
    rw[Gu,Gh]at ha;rw[Gu];rcases ha with ha|ha|ha
    .exact .inr (.inl ha)
    .exact .inl ha
    .exact .inr (.inr ha)
   rcases ha2 with rfl|ha2
   .exact hd
   .have g:=f4 _ (JX ha2);have s1:∀i,bB 1 p x a i=a i*p x-p i*a x:=λi=>Int.fdiv_one _;rw[s1,s1]at g;have e1:(a j-a k)*p x=a j*p x-a k*p x:=KR ..;have e2:(p j-p k)*a x=p j*a x-p k*a x:=KR ..;have e3:=Kl hd (Ke _ (a x));have e4:(2:Int)∣(a j-a k)*p x:=by lia
    rcases hm.mul _ _ e4 with e5|e5
    .exact e5
    .exact absurd e5 hn
  have k1:=key z y xz xy zy t1;have k2:=key z v xz xv zv t2;have k3:=key y v xy xv yv t3;lia
theorem uY(L:List Row)(h8:n<=8)(hG:G<2^n)(hf:dU 2 L (2^n-1)=R):gP (dU 2 L) G R:=by
 intro C x z y v hC zC ht nd rC p1 p2 p3 p4 p5 p6;have hm:=c6;obtain⟨L',d,hL⟩:=mS hm (aD C) L;have e0:dU 2 L C=d:=by have:=hL [];rw[Ic,eZ hm,Jo]at this;exact this
 have lt:∀t∈[x,z,y,v],t<8:=λt h=>by have:=bU hG (ht t h).1;lia
 have pr:∀s∈[x,z,y,v],∀t∈[x,z,y,v],bM (dU 2 L) C (dU 2 L C) s t->rho 2 L' [s,t]=2:=λs hs t htt hp=>by
  have e:dU 2 L (C|||2^s|||2^t)=rho 2 L (aD C++[s,t]):=fP hm λj=>by rw[iC (lt t htt),Gh,iC (lt s hs),Gh,Gu,Gh,Gh];simp only[Hv,JQ];exact⟨λh=>by rcases h with h|h|h;exact .inr (.inr h);exact .inr (.inl h);exact .inl h,λh=>by rcases h with h|h|h;exact .inr (.inr h);exact .inr (.inl h);exact .inl h⟩
  have e1:dU 2 L (C|||2^s|||2^t)=dU 2 L C+2:=hp;rw[e,hL,e0]at e1;lia
 have tr:∀s∈[x,z,y,v],∀t∈[x,z,y,v],∀u∈[x,z,y,v],rho 2 L' [s,t,u]<=2:=λs hs t htt u hu=>by
  have e:rho 2 L (aD C++[s,t,u])<=dU 2 L (2^n-1):=Aq hm λj hj=>by
   have hb:G.testBit j=true:=by
    rw[Gu]at hj;rcases hj with hj|hj
    .exact hC j (ba.mp hj).2
    .simp only[Gh,Hv,JQ]at hj;rcases hj with rfl|rfl|rfl
     .exact(ht _ hs).1
     .exact(ht _ htt).1
     .exact(ht _ hu).1
   have:=bU hG hb;exact ba.mpr ⟨by lia,by rw[GD];exact F5 this⟩
  rw[hL,hf]at e;lia
 have mx:x∈[x,z,y,v]:=by simp
 have mz:z∈[x,z,y,v]:=by simp
 have my:y∈[x,z,y,v]:=by simp
 have mv:v∈[x,z,y,v]:=by simp
 exact yR (pr x mx z mz p1) (pr x mx y my p2) (pr x mx v mv p3) (pr z mz y my p4) (pr z mz v mv p5) (pr y my v mv p6) (tr x mx z mz y my) (tr x mx z mz v mv) (tr x mx y my v mv)
def bZ(f:Nat->Nat->Int)(J:List Nat):List Row:=J.map λi t=>f t i
theorem tM{L:List Row}{cs:List Nat}(h:L.length=cs.length):gA m L cs↔¬m∣aE L cs:=by
 constructor
 .rintro⟨S,h1,h2,h3⟩;have:S=L:=h1.eq_of_length (h2.trans h.symm);rw[<-this];exact h3
 .exact λz=>⟨L,List.Sublist.refl _,h,z⟩
theorem ft(hm:bP m){L:List Row}{cs:List Nat}(h:L.length=R)(hc:cs.length=R):rho m L cs=R↔¬m∣aE L cs:=by rw[<-tM (h.trans hc.symm),<-gp hm,hc]
theorem rW(hm:bP m)(f:Nat->Nat->Int){cs:List Nat}(hl:cs.length=R)(h1:Van m (k+1) (cs.map λt j=>f t j) (List.range R))(h2:Mnr m k (cs.map λt j=>f t j) (List.range R)):
  k=R↔rho m (bZ f (List.range R)) cs=R:=by
 have e:rho m (cs.map λt j=>f t j) (List.range R)=k:=fX hm ⟨h1,h2.not_van⟩;rw[<-e,ft hm (by rw[F3,hl]) (Gy ..),ft hm (by unfold bZ;rw[F3,Gy]) hl,tR f (List.range R) cs (by rw[Gy,hl])];rfl
theorem sA(hm:bP m)(L:List Row)(cs:List Nat):rho m L cs<=L.length:=by obtain⟨r,h1,S,T,h2,h3,h4,h5,h6⟩:=gh hm cs L;rw[fX hm ⟨h1,Mnr.not_van ⟨S,T,h2,h3,h4,h5,h6⟩⟩,<-h4];exact h2.length_le
theorem iM(hm:bP m)(f:Nat->Nat->Int)(g:Nat->Nat):∀ (I J:List Nat),I.Nodup->J.Nodup->(∀i∈I,i∈J)->(∀i∈I,∀j∈J,f (g i) j=if j=i then 1 else 0)->
  ∃J':List Nat,J'.Nodup/\(∀j,j∈J'↔j∈J/\j∉I)/\∀ds,rho m (bZ f J) (I.map g++ds)=rho m (bZ f J') ds+I.length
 | [],J,_,nJ,_,_=>⟨J,nJ,λj=>by simp,λds=>rfl⟩
 |i::I,J,nI,nJ,hI,hu=>by
  obtain⟨A,B,e⟩:=KU (hI i Gn);subst e;have nI':=IZ.mp nI;have nAB:(A++B).Nodup:=(List.Sublist.append (List.Sublist.refl A) (List.sublist_cons_self i B)).nodup nJ;have ni:i∉A++B:=λz=>by
   have h1:=JL.mp nJ;rw[Gu]at z;rcases z with z|z
   .exact h1.2.2 i z i Gn rfl
   .exact(IZ.mp h1.2.1).1 z
  have inJ:∀j,j∈A++i::B↔j=i\/j∈A++B:=λj=>by rw[Gu,Gh,Gu];exact⟨λh=>by rcases h with h|h|h;exact .inr (.inl h);exact .inl h;exact .inr (.inr h),λh=>by rcases h with h|h|h;exact .inr (.inl h);exact .inl h;exact .inr (.inr h)⟩
  obtain⟨J',h1,h2,h3⟩:=iM hm f g I (A++B) nI'.2 nAB (λj hj=>by
   rcases(inJ j).mp (hI j (Gm _ hj))with z|z
   .exact absurd (z▸hj) nI'.1
   .exact z) λj hj k hk=>hu j (Gm _ hj) k ((inJ k).mpr (.inr hk))
  refine⟨J',h1,λj=> ?_,λds=> ?_⟩
  .rw[h2,inJ,Gh];constructor
   .rintro⟨a,b⟩;exact⟨.inr a,λz=>by rcases z with z|z;exact ni (z▸a);exact b z⟩
   .rintro⟨a,b⟩;exact⟨by rcases a with a|a;exact absurd (.inl a) b;exact a,λz=>b (.inr z)⟩
  .have e1:bZ f (A++i::B)=(A.map λi t=>f t i)++(λt=>f t i)::(B.map λi t=>f t i):=by unfold bZ;rw[GO,GP]
   have u1:f (g i) i=1:=by rw[hu i Gn i (hI i Gn),F7 rfl]
   have e2:((A.map λi t=>f t i)++(B.map λi t=>f t i)).map (bB 1 (λt=>f t i) (g i))=bZ f (A++B):=by unfold bZ;rw[<-GO,Hc];refine HP λj hj=> ?_;funext t;show(f t j*f (g i) i-f t i*f (g i) j).fdiv 1=f t j;rw[Int.fdiv_one,u1,hu i Gn j ((inJ j).mpr (.inr hj)),F8 (show¬j=i from λz=>ni (z▸hj))];lia
   have pv:=fX hm ((gE hm _ (I.map g++ds)).pivot hm e1 (by show¬m∣f (g i) i;rw[u1];exact hm.one));rw[e2,h3]at pv;rw[GP,K7,pv,GA];lia
structure rE(B R:Nat)(g:Nat->Nat):Prop where
 bit:∀i,i<R->B.testBit (g i)=true
 inj:∀i j,i<R->j<R->g i=g j->i=j
 all:∀t,B.testBit t=true->∃i,i<R/\g i=t
structure Dw(r:Nat->Nat)(G B R:Nat)(g:Nat->Nat)(f:Nat->Nat->Int):Prop where
 unit:∀i j,i<R->j<R->f (g i) j=if j=i then 1 else 0
 fill:∀y i,G.testBit y=true->B.testBit y=false->i<R->f y i=if r (exB B (g i) y)=R then 1 else 0
theorem xk(n8:n<=8)(hB:B<2^n)(P:rE B R g)(T:Dw r G B R g f):dU 2 (bZ f (List.range R)) B=R:=by
 have hm:=c6;obtain⟨J',h1,h2,h3⟩:=iM hm f g (List.range R) (List.range R) Jc Jc (λi h=>h) λi hi j hj=>T.unit i j (Gk.mp hi) (Gk.mp hj);have e:J'=[]:=by
  cases J' with
  |nil=>rfl
  |cons a l=>
   have:=(h2 a).mp Gn;exact absurd this.1 this.2
 have:=h3 [];rw[e,eZ hm,Ic,Gy,Jo]at this;refine(fP hm λj=> ?_).trans this;rw[ba,Gz];constructor
 .rintro⟨_,b⟩;obtain⟨i,hi,e⟩:=P.all j b;exact⟨i,Gk.mpr hi,e⟩
 .rintro⟨i,hi,rfl⟩;have b:=P.bit i (Gk.mp hi);have:=bU hB b;exact⟨by lia,b⟩
theorem Cf{n B R:Nat}{G:Nat}(n8:n<=8)(hB:B<2^n)(hG:G<2^n)(P:rE B R g)(T:Dw r G B R g f)(hp:p<R)(hy:G.testBit y=true)(hyB:B.testBit y=false):
  dU 2 (bZ f (List.range R)) (exB B (g p) y)=R↔r (exB B (g p) y)=R:=by
 have hm:=c6;have me:∀i,i∈(List.range R).erase p↔i≠p/\i∈List.range R:=λi=>Jc.mem_erase_iff;obtain⟨J',h1,h2,h3⟩:=iM hm f g ((List.range R).erase p) (List.range R) (Jc.erase p) Jc (λi h=>(me i).mp h|>.2) λi hi j hj=>T.unit i j (Gk.mp ((me i).mp hi).2) (Gk.mp hj);have m1:∀j,j∈J'↔j=p:=λj=>by
  rw[h2,me,Gk];constructor
  .rintro⟨a,b⟩;exact Hq λz=>b ⟨z,a⟩
  .rintro rfl;exact⟨hp,λz=>z.1 rfl⟩
 have e:J'=[p]:=by
  match J',h1,m1 with
  | [],_,m1=>exact absurd ((m1 p).mpr rfl) Hv
  | [a],_,m1=>rw[(m1 a).mp Gn]
  |a::b::l,h1,m1=>
   have:=(m1 a).mp Gn;have:=(m1 b).mp (Gm _ Gn);have q:=(IZ.mp h1).1;exact absurd (by subst_vars;exact Gn) q
 have ln:((List.range R).erase p).length+1=R:=by rw[Jy (Gk.mpr hp),Gy];lia
 have k:=h3 [y];rw[e]at k;have e2:dU 2 (bZ f (List.range R)) (exB B (g p) y)=rho 2 (bZ f [p]) [y]+((List.range R).erase p).length:=by
  refine(fP hm λj=> ?_).trans k;rw[ba,cx,Gu,Gz,Gw,Im,GF];constructor
  .rintro⟨j8,b|b⟩
   .by_cases z:g p=j
    .rw[F5 z,<-z,P.bit p hp]at b;cases b
    .rw[F4 z,J8]at b;obtain⟨i,hi,ei⟩:=P.all j b;exact .inl ⟨i,(me i).mpr ⟨λq=>z (q▸ei),Gk.mpr hi⟩,ei⟩
   .exact .inr b.symm
  .rintro(⟨i,hi,rfl⟩|rfl)
   .have hi:=(me i).mp hi;have lt:=Gk.mp hi.2;have b:=P.bit i lt;have:=bU hB b;refine⟨by lia, .inl ?_⟩;rw[b,F4 λq=>hi.1 (P.inj p i hp lt q).symm];rfl
   .have:=bU hG hy;exact⟨by lia, .inr rfl⟩
 have one:rho 2 (bZ f [p]) [y]=1↔¬(2:Int)∣f y p:=by have:=(gp hm (bZ f [p]) [y]).trans nV;refine this.trans ⟨λ⟨x,hx,h⟩=> ?_,λh=>⟨_,Gw.mpr rfl,h⟩⟩;have hx:=Gw.mp hx;subst hx;exact h
 rw[e2];have fl:=T.fill y p hy hyB hp;have:rho 2 (bZ f [p]) [y]<=1:=sA hm _ _;constructor
 .intro h;have o:=one.mp (by lia);rw[fl]at o;cases Classical.em (r (exB B (g p) y)=R)with
  |inl z=>exact z
  |inr z=>rw[F8 z]at o;exact absurd (Jz _) o
 .intro h;rw[F7 h]at fl;have:=one.mpr (by rw[fl];exact hm.one);lia
theorem xp(M:Mat n r)(hf:r (2^n-1)=R)(hG:G<2^n)(hB:Sub B G)(zB:sz B=R)(rB:r B=R)(P:rE B R g)(T:Dw r G B R g f)(no:gP r G R)
   (hZ:Sub Z G) (zZ:sz Z=R):r Z=R↔dU 2 (bZ f (List.range R)) Z=R:=by
 have n8:=M.n8;have hm:=c6;have M2:=Ar hm (bZ f (List.range R)) n8;have b2:=xk n8 (hB.lt hG) P T;have lt:=hB.lt hG;have fl:Sub B (2^n-1):=λj hj=>by rw[GD];exact F5 (bU lt hj)
 have f2:dU 2 (bZ f (List.range R)) (2^n-1)=R:=by
  have h1:=M2.mono fl (by have:=Nat.two_pow_pos n;lia);have h2:=sA hm (bZ f (List.range R)) (aD (2^n-1));have h3:(bZ f (List.range R)).length=R:=by unfold bZ;rw[F3,Gy]
  have h4:dU 2 (bZ f (List.range R)) (2^n-1)<=R:=by rw[h3]at h2;exact h2
  lia
 exact oZ M M2 hG hf f2 no (uY _ n8 hG f2) _ B hB zB rB b2 (λx y hx hy hyB=>by obtain⟨p,hp,rfl⟩:=P.all x hx;exact(Cf n8 lt hG P T hp hy hyB).symm) Z hZ zZ rfl
end Bh
namespace Bh
theorem sv{S:Nat}(h:sz S≠0):∃a,S.testBit a=true:=Hq λz=>h (by
 have:S=0:=Gi λj=>by
  rw[HS];cases e:S.testBit j with
  |false=>rfl
  |true=>exact absurd ⟨j,e⟩ z
 rw[this];exact gC)
theorem zN{n S:Nat}(n8:n<=8)(hS:S<2^n)(h:sz S=2):∃a b,a≠b/\S.testBit a=true/\S.testBit b=true/\S=2^a|||2^b:=by
 have h8:S<256:=F9 hS (Gv (by decide) n8);obtain⟨a,ha⟩:=sv (S:=S) (by lia);have la:=bU hS ha;have h1:=lW S h8 a (by lia) ha;obtain⟨b,hb⟩:=sv (S:=S^^^2^a) (by lia);have hb2:=hb;rw[fF ha,GL]at hb2;have ne:a≠b:=λz=>by have:=hb2.2;rw[F5 z]at this;cases this
 have lb:=bU hS hb2.1;have l1:S^^^2^a<256:=(gx ha).lt (n:=8) h8;have h2:=lW (S^^^2^a) l1 b (by lia) hb;have e0:S^^^2^a^^^2^b=0:=(z6 (a:=0) (by decide) ((gx hb).lt (n:=8) l1) (λk _ hk=>by rw[HS]at hk;cases hk) (by rw[gC];lia)).symm;have e1:=kI hb;rw[e0,Lm]at e1;have e2:=kI ha;rw[<-e1,Ki]at e2;exact⟨a,b,ne,ha,hb2.1,e2.symm⟩
theorem yQ(M:Mat n r)(hG:G<2^n)(hf:r (2^n-1)=R)(no:¬gP r G R):
  ∃k w,k<2^n/\w<2^n/\sz k=4/\(∀t,k.testBit t=true->w.testBit t=false)/\sz w+2=R/\fW 4 (eo r k w) 4 2=true:=by
 unfold gP at no;simp only[Classical.not_forall]at no;obtain⟨C,x,z,y,v,hC,zC,ht,nd,rC,p1,p2,p3,p4,p5,p6,_⟩:=no;have n8:=M.n8;have lC:=hC.lt hG;have lt:∀t∈[x,z,y,v],t<n:=λt h=>bU hG (ht t h).1;have bk:∀t,(2^x|||2^z|||2^y|||2^v).testBit t=true↔t∈[x,z,y,v]:=λt=>by
  simp only[GC,Gg,Im,GF,Gh,Hv,JQ];constructor
  .rintro(((h|h)|h)|h)<;>simp[h]
  .rintro(h|h|h|h)<;>simp[h]
 have lk:2^x|||2^z|||2^y|||2^v<2^n:=Jj _ λi hi=>by
  cases e:(2^x|||2^z|||2^y|||2^v).testBit i with
  |false=>rfl
  |true=>have:=lt i ((bk i).mp e);lia
 have lx:=lt x (by simp);have lz:=lt z (by simp);have ly:=lt y (by simp);have lv:=lt v (by simp);simp only[IZ,Gh,Hv,JQ,not_or,List.nodup_nil,and_true,not_false_eq_true]at nd;obtain⟨⟨n1,n2,n3⟩,⟨n4,n5⟩,n6⟩:=nd;have b8:(2:Nat)^n<=256:=Gv (by decide) n8;have w1:∀t,t<n->(2:Nat)^t<256:=λt h=>F9 (Je (by decide) h) b8;have s1:sz (2^x)=1:=by have:=jd (s:=0) (by decide) (show x<8 by lia) (HS x);rw[Lm,gC]at this;exact this
 have s2:sz (2^x|||2^z)=2:=by rw[jd (w1 x lx) (by lia) (by rw[Gg];exact F4 n1),s1]
 have q2:2^x|||2^z<256:=Iw (n:=8) (w1 x lx) (w1 z lz);have s3:sz (2^x|||2^z|||2^y)=3:=by rw[jd q2 (by lia) (by rw[GC,Gg,Gg,F4 n2,F4 n4];rfl),s2]
 have s4:sz (2^x|||2^z|||2^y|||2^v)=4:=by rw[jd (Iw (n:=8) q2 (w1 y ly)) (by lia) (by rw[GC,GC,Gg,Gg,Gg,F4 n3,F4 n5,F4 n6];rfl),s3]
 have allp:∀a∈[x,z,y,v],∀b∈[x,z,y,v],a≠b->r (C|||2^a|||2^b)=r C+2:=by have q1:=du.mp p1;have q2:=du.mp p2;have q3:=du.mp p3;have q4:=du.mp p4;have q5:=du.mp p5;have q6:=du.mp p6;intro a ha b hb ne;simp only[Gh,Hv,JQ]at ha hb;rcases ha with ha|ha|ha|ha<;>rcases hb with hb|hb|hb|hb<;>rw[ha,hb]<;>first|exact absurd (ha.trans hb.symm) ne|assumption
 have kl:2^x|||2^z|||2^y|||2^v<256:=F9 lk b8;have full:∀s,s<2^n->Sub s (2^n-1):=λs hs j hj=>by rw[GD];exact F5 (bU hs hj)
 have top:eo r (2^x|||2^z|||2^y|||2^v) C (2^4-1)=2:=by
  unfold eo;have e:=uI kl;rw[s4]at e;rw[e];have a1:=M.mono (full _ (Iw lk lC)) (by have:=Nat.two_pow_pos n;lia);have a2:r (C|||2^x|||2^z)<=r (2^x|||2^z|||2^y|||2^v|||C):=M.mono (λj hj=>by
   rw[GC,GC,Im,Im]at hj;rw[GC,Im];rcases hj with (h|h)|h
   .exact .inr h
   .exact .inl ((bk j).mpr (by rw[Gg,GF]at h;simp[h]))
   .exact .inl ((bk j).mpr (by rw[Gg,GF]at h;simp[h]))) (Iw lk lC)
  have a3:=allp x (by simp) z (by simp) (λe=>n1 e);lia
 refine⟨2^x|||2^z|||2^y|||2^v,C,lk,lC,s4,λt h=>(ht t ((bk t).mp h)).2,zC,?_⟩;unfold fW;rw[top];simp only[decide_true,Hl,GW,GF];intro s hs;unfold cA at hs;have hs:=GN.mp hs;have l16:=Gk.mp hs.1;have e2:=Gx hs.2;have zs:sz (aT s (2^x|||2^z|||2^y|||2^v))=2:=by rw[xq (by rw[s4];exact l16)];exact e2
 have sb:=fo s (2^x|||2^z|||2^y|||2^v);obtain⟨a,b,ne,ha,hb,e3⟩:=zN n8 (sb.lt lk) zs;have:=allp a ((bk a).mp (sb a ha)) b ((bk b).mp (sb b hb)) ne;unfold eo;rw[e3,Ki _ C,<-Jq,this];lia
end Bh
namespace Bh
theorem Mat.pull(M:Mat n r)(m8:m<=8)(φ:Nat->Nat)(h0:φ 0=0)(hlt:∀s,s<2^m->φ s<2^n)
  (hk:∀k,k<m->(∀s,φ (s|||2^k)=φ s)\/∃j,j<n/\∀s,φ (s|||2^k)=φ s|||2^j):Mat m (λs=>r (φ s)) where
 n8:=m8
 zero:=by show r (φ 0)=0;rw[h0];exact M.zero
 step:=λs k hs hkm=>by
  show r (φ s)<=r (φ (s|||2^k))/\r (φ (s|||2^k))<=r (φ s)+1;rcases hk k hkm with h|⟨j,hj,h⟩
  .rw[h];lia
  .rw[h];exact M.step _ j (hlt s hs) hj
 sub:=λs j k hs hj hkm h1 h2=>by
  have h1:r (φ (s|||2^j))=r (φ s):=h1;have h2:r (φ (s|||2^k))=r (φ s):=h2;show r (φ (s|||2^j|||2^k))=r (φ s);rcases hk k hkm with h|⟨b,hb,h⟩
  .rw[h];exact h1
  .rcases hk j hj with h'|⟨a,ha,h'⟩
   .rw[h,h',<-h];exact h2
   .rw[h,h'];rw[h]at h2;rw[h']at h1;exact M.sub _ a b (hlt s hs) ha hb h1 h2
theorem Mat.coloop(M:Mat m r)(hl:∀s,r (s|||2^p)=r s):Mat m (λs=>r s+if s.testBit p=true then 1 else 0) where
 n8:=M.n8
 zero:=by show r 0+(if(0:Nat).testBit p=true then 1 else 0)=0;rw[M.zero,HS];rfl
 step:=λs k hs hk=>by
  show r s+_<=r (s|||2^k)+_/\r (s|||2^k)+_<=r s+_+1;have a:=M.step s k hs hk;by_cases e:k=p
  .subst e;rw[hl];have:(s|||2^k).testBit k=true:=by rw[GC,Gg];simp
   rw[F7 this];split<;>lia
  .have:(s|||2^k).testBit p=s.testBit p:=by rw[GC,Gg,F4 e,IM]
   rw[this];split<;>lia
 sub:=λs j k hs hj hk h1 h2=>by
  have h1:r (s|||2^j)+(if(s|||2^j).testBit p=true then 1 else 0)=r s+(if s.testBit p=true then 1 else 0):=h1;have h2:r (s|||2^k)+(if(s|||2^k).testBit p=true then 1 else 0)=r s+(if s.testBit p=true then 1 else 0):=h2;show r (s|||2^j|||2^k)+(if(s|||2^j|||2^k).testBit p=true then 1 else 0)=r s+(if s.testBit p=true then 1 else 0);have a1:=M.step s j hs hj;have a2:=M.step s k hs hk;have b1:(s|||2^j).testBit p=(s.testBit p||decide (j=p)):=by rw[GC,Gg]
  have b2:(s|||2^k).testBit p=(s.testBit p||decide (k=p)):=by rw[GC,Gg]
  have b3:(s|||2^j|||2^k).testBit p=(s.testBit p||decide (j=p)||decide (k=p)):=by rw[GC,GC,Gg,Gg]
  rw[b1]at h1;rw[b2]at h2;rw[b3];have c:=M.sub s j k hs hj hk;cases e:s.testBit p with
  |true=>
   rw[e]at h1 h2;simp only[Bool.true_or,F7]at h1 h2⊢;rw[c (by lia) (by lia)]
  |false=>
   rw[e]at h1 h2;by_cases ej:j=p
   .subst ej;rw[hl]at h1;simp at h1
   .by_cases ek:k=p
    .subst ek;rw[hl]at h2;simp at h2
    .simp only[F4 ej,F4 ek,IM]at h1 h2⊢;rw[c (by lia) (by lia)]
def bE(p s:Nat):Nat:=2^p*(s/2^(p+1))+s % 2^p
def bh(p s:Nat):Nat:=2^(p+1)*(s/2^p)+s % 2^p
theorem cS(p s j:Nat):(bE p s).testBit j=if j<p then s.testBit j else s.testBit (j+1):=by
 unfold bE;rw[KY _ (Lr _ (Nat.two_pow_pos p))];split
 .rename_i h;rw[JC,F5 h,Hl]
 .rename_i h;rw[IG];congr 1;lia
theorem gW(p s j:Nat):(bh p s).testBit j=if j<p then s.testBit j else if j=p then false else s.testBit (j-1):=by
 unfold bh;rw[KY _ (F9 (Lr _ (Nat.two_pow_pos p)) (Gv (by decide) (Lj p)))];by_cases h:j<p
 .rw[F7 h,F7 (by lia),JC,F5 h,Hl]
 .rw[F8 h];by_cases e:j=p
  .rw[F7 e,F7 (by lia),JC,F4 h,Hj]
  .rw[F8 e,F8 (by lia),IG];congr 1;lia
theorem ki(p s:Nat):bE p (bh p s)=s:=Gi λj=>by
 rw[cS];split
 .rename_i h;rw[gW,F7 h]
 .rename_i h;rw[gW,F8 (by lia),F8 (by lia)];rfl
theorem oX{p s:Nat}(h:s.testBit p=false):bh p (bE p s)=s:=Gi λj=>by
 rw[gW];split
 .rename_i h;rw[cS,F7 h]
 .split
  .rename_i e;rw[e,h]
  .rename_i h1 h2;rw[cS,F8 (by lia)];congr 1;lia
theorem o3(p:Nat):bE p 0=0:=by unfold bE;simp
theorem jA(hp:p<=n)(hs:s<2^(n+1)):bE p s<2^n:=Jj _ λi hi=>by rw[cS,F8 (by lia)];exact GX (F9 hs (Gv (by decide) (by lia)))
theorem iN(p s:Nat):bE p (s|||2^p)=bE p s:=Gi λj=>by
 rw[cS,cS,GC,GC,Gg,Gg];split
 .rw[F4 (show¬p=j by lia),IM]
 .rw[F4 (show¬p=j+1 by lia),IM]
theorem vN(h:k≠p)(s:Nat):bE p (s|||2^k)=bE p s|||2^(if k<p then k else k-1):=Gi λj=>by
 rw[GC,cS,cS,GC,GC,Gg,Gg,Gg];by_cases hj:j<p
 .rw[F7 hj,F7 hj];congr 1;refine Iu.mpr ?_;split<;>lia
 .rw[F8 hj,F8 hj];congr 1;refine Iu.mpr ?_;split<;>lia
theorem Mat.loop(M:Mat n r)(hp:p<=n)(n8:n<8):Mat (n+1) (λs=>r (bE p s)):=
 M.pull (by lia) (bE p) (o3 p) (λs hs=>jA hp hs) λk hk=>by
  by_cases e:k=p
  .subst e;exact .inl (iN k)
  .exact .inr ⟨_,by split<;>lia,vN e⟩
theorem Mat.inAll(M:Mat n r)(hp:p<=n)(n8:n<8):Mat (n+1) (λs=>r (bE p s)+if s.testBit p=true then 1 else 0):=
 (M.loop hp n8).coloop λs=>by rw[iN]
def fb(p s:Nat):Nat:=if s.testBit p=true then bE p s|||2^p else bE p s
theorem mC(p s j:Nat):(fb p s).testBit j=((bE p s).testBit j||(s.testBit p&&decide (p=j))):=by
 unfold fb;cases e:s.testBit p
 .simp
 .rw[F7 rfl,GC,Gg,Hl]
theorem Mat.beside(M:Mat n r)(hp:p<n)(n8:n<8):Mat (n+1) (λs=>r (fb p s)):=
 M.pull (by lia) (fb p) (by unfold fb;rw[HS,o3];rfl) (λs hs=>by
  have:=jA (p:=p) (by lia) hs;unfold fb;split
  .exact Iw this (Je (by decide) hp)
  .exact this) λk hk=>by
  by_cases e:k=p
  .subst e;refine .inr ⟨k,hp,λs=>Gi λj=> ?_⟩;rw[GC,mC,mC,iN,GC,Gg,Gg];cases (bE k s).testBit j<;>cases s.testBit k<;>cases decide (k=j)<;>simp
  .refine .inr ⟨if k<p then k else k-1,by split<;>lia,λs=>Gi λj=> ?_⟩;rw[GC,mC,mC,vN e,GC,GC,Gg,Gg,F4 e,IM];cases (bE p s).testBit j<;>simp[Bool.or_comm]
theorem qm:∀t:Nat,t<256->∀p:Nat,p<8->sz (bE p t)+(if t.testBit p=true then 1 else 0)=sz t:=by decide+kernel
theorem lU:∀s:Nat,s<128->∀p:Nat,p<8->sz (bh p s)=sz s/\bh p s<256/\(bh p s).testBit p=false:=by decide+kernel
theorem rJ:∀s:Nat,s<128->∀p:Nat,p<8->bh p s+2^p=bh p s|||2^p:=by decide+kernel
theorem BY:∀t:Nat,t<256->∀p:Nat,p<7->t.testBit p=true->t.testBit (p+1)=false->bh p (fb p t) -2^p=t/\(fb p t).testBit p=true/\sz (fb p t)=sz t:=by decide+kernel
theorem Dr:∀s:Nat,s<128->∀p:Nat,p<7->s.testBit p=true->fb p (bh p s-2^p)=s/\sz (bh p s-2^p)=sz s/\bh p s-2^p<256:=by decide+kernel
theorem BX:∀t:Nat,t<256->∀p:Nat,p<7->t.testBit p=true->t.testBit (p+1)=true->sz (fb p t)+1=sz t:=by decide+kernel
theorem qj(hs:s<2^n)(hp:p<=n):bh p s<2^(n+1):=Jj _ λi hi=>by rw[gW,F8 (by lia),F8 (by lia)];exact GX (F9 hs (Gv (by decide) (by lia)))
theorem nF(n8:n<8)(hs:s<2^n):s<128:=F9 hs (show 2^n<=2^7 from Gv (by decide) (by lia))
theorem tE(n8:n<8)(hs:s<2^(n+1)):s<256:=F9 hs (show 2^(n+1)<=2^8 from Gv (by decide) (by lia))
theorem Mat.loop_bases(M:Mat n r)(hp:p<=n)(n8:n<8)(ht:t<2^(n+1)):(sz t=R/\r (bE p t)=R)↔∃s,s<2^n/\sz s=R/\r s=R/\t=bh p s:=by
 constructor
 .rintro⟨h1,h2⟩;have lt:=jA hp ht;have z:=qm t (tE n8 ht) p (by lia);have q:=M.k9 (bE p t) lt;cases e:t.testBit p with
  |true=>
   rw[F7 e]at z;lia
  |false=>
   rw[F8 (by rw[e];exact Gj)]at z;exact⟨_,lt,by lia,h2,(oX e).symm⟩
 .rintro⟨s,hs,h1,h2,rfl⟩;rw[ki,(lU s (nF n8 hs) p (by lia)).1];exact⟨h1,h2⟩
theorem Mat.inAll_bases{n p R t:Nat}(M:Mat n r)(hf:∀s,s<2^n->r s<=R)(hp:p<=n)(n8:n<8)(ht:t<2^(n+1)):
  (sz t=R+1/\(r (bE p t)+if t.testBit p=true then 1 else 0)=R+1)↔∃s,s<2^n/\sz s=R/\r s=R/\t=bh p s+2^p:=by
 have add:∀s,s<2^n->bh p s+2^p=bh p s|||2^p:=λs hs=>rJ s (nF n8 hs) p (by lia);constructor
 .rintro⟨h1,h2⟩;have lt:=jA hp ht;have z:=qm t (tE n8 ht) p (by lia);have q:=hf (bE p t) lt;cases e:t.testBit p with
  |false=>
   rw[F8 (by rw[e];exact Gj)]at h2;lia
  |true=>
   rw[F7 e]at z h2;refine⟨_,lt,by lia,by lia,?_⟩;rw[add _ lt];refine Gi λj=> ?_;rw[GC,Gg,gW];by_cases c1:j<p
   .rw[F7 c1,cS,F7 c1,F4 (show¬p=j by lia),IM]
   .by_cases c2:j=p
    .rw[F5 c2.symm,KA,c2,e]
    .rw[F8 c1,F8 c2,cS,F8 (by lia),F4 (λz=>c2 z.symm),IM];congr 1;lia
 .rintro⟨s,hs,h1,h2,rfl⟩;have w:=lU s (nF n8 hs) p (by lia);rw[add s hs];have bt:(bh p s|||2^p).testBit p=true:=by rw[GC,Gg,F5 rfl,KA]
  rw[iN,ki,F7 bt,jd w.2.1 (by lia) w.2.2,w.1];exact⟨by lia,by lia⟩
theorem Mat.beside_bases(M:Mat n r)(hp:p<n)(n8:n<8)(ht:t<2^(n+1)):
  (sz t=R/\r (fb p t)=R)↔∃s,s<2^n/\sz s=R/\r s=R/\(t=bh p s\/s.testBit p=true/\t=bh p s-2^p):=by
 have bl:fb p t<2^n:=by
  have:=jA (p:=p) (by lia) ht;unfold fb;split
  .exact Iw this (Je (by decide) hp)
  .exact this
 constructor
 .rintro⟨h1,h2⟩;cases e:t.testBit p with
  |false=>
   have eb:fb p t=bE p t:=by unfold fb;rw[e];rfl
   have z:=qm t (tE n8 ht) p (by lia);rw[F8 (by rw[e];exact Gj)]at z;exact⟨_,bl,by rw[eb];lia,h2, .inl (by rw[eb,oX e])⟩
  |true=>
   cases e2:t.testBit (p+1)with
   |true=>
    have z:=BX t (tE n8 ht) p (by lia) e e2;have q:=M.k9 (fb p t) bl;lia
   |false=>
    have z:=BY t (tE n8 ht) p (by lia) e e2;exact⟨_,bl,by lia,h2, .inr ⟨z.2.1,z.1.symm⟩⟩
 .rintro⟨s,hs,h1,h2,rfl|⟨b,rfl⟩⟩
  .have w:=lU s (nF n8 hs) p (by lia);have eb:fb p (bh p s)=s:=by unfold fb;rw[w.2.2,ki];rfl
   rw[eb,w.1];exact⟨h1,h2⟩
  .have w:=Dr s (nF n8 hs) p (by lia) b;rw[w.1,w.2.1];exact⟨h1,h2⟩
end Bh
set_option maxHeartbeats 4000000
namespace BhK
def top(i:Nat):PySem.Stmt:=PySem.Challenge.pw_basehouse_k41_tables_over_two.main.body.getD i (.Pass ⟨0,0,0,0⟩)
abbrev s_holds:=top 1
abbrev s_things:=top 2
abbrev s_size:=top 3
abbrev s_set_of:=top 4
abbrev s_within:=top 5
abbrev s_parts:=top 6
abbrev s_choices:=top 7
abbrev s_spread:=top 8
abbrev s_all_of:=top 9
abbrev s_less:=top 10
abbrev s_exchanged:=top 12
abbrev s_whole_rank:=top 17
abbrev s_ranks:=top 18
abbrev s_frees:=top 19
abbrev s_bases:=top 20
abbrev s_is_even:=top 30
abbrev s_holders:=top 31
abbrev s_is_seven:=top 32
abbrev s_kind_of:=top 33
abbrev s_rests:=top 35
abbrev s_pivot_place:=top 36
abbrev s_cleared:=top 37
abbrev s_all_cleared:=top 38
abbrev s_rank_of:=top 39
abbrev s_columns_with:=top 42
abbrev s_fits:=top 43
abbrev s_column_for:=top 44
abbrev s_single:=top 45
abbrev s_table_for:=top 46
abbrev s_left_barred:=top 47
abbrev s_told_over:=top 48
abbrev s_over_two:=top 49
abbrev s_tied:=top 51
abbrev s__law_whole:=top 54
abbrev s__law_size:=top 55
abbrev s__law_far:=top 56
abbrev s__law_ranks:=top 57
abbrev s__law_determinant:=top 58
abbrev s__law_minor:=top 59
abbrev s__law_seven:=top 60
abbrev s__law_kind:=top 61
abbrev s__law_table_right:=top 62
abbrev s__law_right:=top 63
abbrev s__law_net:=top 64
abbrev s__law_put:=top 65
abbrev s__law_idle:=top 66
abbrev s_law:=top 67
abbrev s_House___init__:PySem.Stmt:=L2.cP (top 14) 0
abbrev s_House_rank:PySem.Stmt:=L2.cP (top 14) 1
abbrev s_House_everything:PySem.Stmt:=L2.cP (top 14) 2
abbrev s_Listed___init__:PySem.Stmt:=L2.cP (top 15) 0
abbrev s_Listed_rank:PySem.Stmt:=L2.cP (top 15) 1
abbrev s_Other___init__:PySem.Stmt:=L2.cP (top 22) 0
abbrev s_Other_rank:PySem.Stmt:=L2.cP (top 22) 1
abbrev s_Minor___init__:PySem.Stmt:=L2.cP (top 23) 0
abbrev s_Minor_rank:PySem.Stmt:=L2.cP (top 23) 1
abbrev s_Known___init__:PySem.Stmt:=L2.cP (top 41) 0
abbrev s_Known_rank:PySem.Stmt:=L2.cP (top 41) 1
abbrev s_Net___init__:PySem.Stmt:=L2.cP (top 52) 0
abbrev s_Net_pieces:PySem.Stmt:=L2.cP (top 52) 1
abbrev s_Net_rank:PySem.Stmt:=L2.cP (top 52) 2
open PySem L2 Bh
structure Tb(K:PySem.W.Frag)(mg:Str->Option Value):Prop where
 len_:mg "len"=none
 range_:mg "range"=none
 isinstance_:mg "isinstance"=none
 int_:mg "int"=none
 bool_:mg "bool"=none
 list_:mg "list"=none
 set_:mg "set"=none
 tuple_:mg "tuple"=none
 max_:mg "max"=none
 min_:mg "min"=none
 zip_:mg "zip"=none
 enumerate_:mg "enumerate"=none
 sum_:mg "sum"=none
 sorted_:mg "sorted"=none
 dict_:mg "dict"=none
 all_:mg "all"=none
 str_:mg "str"=none
 reversed_:mg "reversed"=none
 kII:kitOne K (.type "int") (.type "int")=some true
 kIB:kitOne K (.type "int") (.type "bool")=some false
 kTT:kitOne K (.type "tuple") (.type "tuple")=some true
 kLL:kitOne K (.type "list") (.type "list")=some true
 kSS:kitOne K (.type "str") (.type "str")=some true
theorem aW{vs:St}(h:vs.length=1):∃v,vs=[v]:=List.length_eq_one_iff.mp h
theorem pB(ns:List Int):(ns.map V.int).all j4=true:=by
 induction ns with
 |nil=>rfl
 |cons n r ih=>rw[GP,K1,ih];rfl
theorem tJ(z:Int)(ns:List Int):inV (.int z) (ns.map V.int)=decide (z∈ns):=by
 unfold inV
 induction ns with
 |nil=>rfl
 |cons n r ih=>
  rw[GP,JU,ih];by_cases h:n=z
  .subst h;simp[eqV]
  .have h2:¬z=n:=λe=>h e.symm;simp[eqV,h,h2]
theorem aY{ns:List Int}{i:Nat}{y:V}(h:(ns.map V.int)[i]?=some y):∃z,y= .int z/\ns[i]?=some z:=by
 rw[Gs]at h;cases e:ns[i]? with
 |none=>rw[e]at h;cases h
 |some z=>rw[e]at h;exact⟨z,(GY h).symm,rfl⟩
theorem de{x y:Int}(hx:0<=x)(hy:0<=y):Builtin.bitAnd x y=((x.toNat&&&y.toNat:Nat):Int):=by unfold Builtin.bitAnd;rw[F5 hx,F5 hy]
theorem iJ{x y:Int}(hx:0<=x)(hy:0<=y):Builtin.bitOr x y=((x.toNat|||y.toNat:Nat):Int):=by
 have hx':¬(0<=Builtin.bitNot x):=by unfold Builtin.bitNot;lia
 have hy':¬(0<=Builtin.bitNot y):=by unfold Builtin.bitNot;lia
 have ex:Builtin.bitNot (Builtin.bitNot x)=x:=by unfold Builtin.bitNot;lia
 have ey:Builtin.bitNot (Builtin.bitNot y)=y:=by unfold Builtin.bitNot;lia
 unfold Builtin.bitOr Builtin.bitAnd;rw[F4 hx',F4 hy'];show Builtin.bitNot (Builtin.bitNot (((Builtin.bitNot (Builtin.bitNot x)).toNat||| (Builtin.bitNot (Builtin.bitNot y)).toNat:Nat):Int))=_;rw[ex,ey];unfold Builtin.bitNot;lia
theorem By{s:Int}(h:0<=s):decide (V.int (s/2^k % 2)=V.int 1)=s.toNat.testBit k:=by
 obtain⟨n,rfl⟩:=IF h;rw[dA];have e:((n:Int) /2^k % 2)=((n/2^k % 2:Nat):Int):=by simp
 rw[e];by_cases h1:n/2^k % 2=1
 .rw[h1];simp[h1]
 .have h2:¬((n/2^k % 2:Nat):Int)=1:=by lia
  have h3:¬V.int ((n/2^k % 2:Nat):Int)=V.int 1:=λe=>h2 (V.int.inj e);rw[F4 h3];simp[h1]
theorem xo{s:Int}(h0:0<=s)(h1:s<256):dB (λi=>s.toNat.testBit i) (λi=> .int (0+(i:Nat))) ((Builtin.Int.intBits s:Nat):Int).toNat=(bits s.toNat).map V.int:=by
 obtain⟨n,rfl⟩:=IF h0;have e:Builtin.Int.intBits (n:Int)=if n=0 then 0 else n.log2+1:=by
  unfold Builtin.Int.intBits;by_cases hn:n=0
  .subst hn;rfl
  .have h2:((n:Int)==0)=false:=by simpa using hn
   rw[h2,F8 hn];simp
 have b:=BU n (by lia);unfold dB bits;rw[e,F6,Hc];show List.map (λi:Nat=>V.int (0+(i:Int))) (List.filter (λi=>n.testBit i) (List.range (if n=0 then 0 else n.log2+1)))=_;rw[show(λi=>n.testBit i)=n.testBit from rfl,b];refine HP λk _=> ?_;show V.int (0+(k:Int))=V.int (k:Int);rw[Io]
inductive ux(vs:List V)(H:Hp)(Q:VK):Prop
 |mk (s t:Int) (y_0:vs=[.int s, .int t]) (y_1:0<=s) (y_2:0<=t) (y_3:Q (.bl (s.toNat.testBit t.toNat)) H):ux vs H Q
def qt:Sp:=λvs H Q _=>ux vs H Q
inductive pP(vs:List V)(H:Hp)(Q:VK):Prop
 |mk (s:Int) (y_0:vs=[.int s]) (y_1:0<=s) (y_2:s<256) (y_3:∀p H',Same H H'->H p=none->H' p=some (.lst ((bits s.toNat).map V.int))->Q (.ref p) H'):pP vs H Q
def ee:Sp:=λvs H Q _=>pP vs H Q
inductive w4(vs:List V)(H:Hp)(Q:VK):Prop
 |mk (s:Int) (y_0:vs=[.int s]) (y_1:0<=s) (y_2:s<256) (y_3:∀H',Same H H'->Q (.int ((bits s.toNat).length:Nat)) H'):w4 vs H Q
def hJ:Sp:=λvs H Q _=>w4 vs H Q
inductive ue(K:PySem.W.Frag)(vs:List V)(H:Hp)(Q:VK):Prop
 |mk (a:Addr) (ns:List Int) (y_0:vs=[.ref a]) (y_1:SqL K H a (ns.map V.int)) (y_2:(∀z∈ns,0<=z/\z<8)) (y_3:Q (.int (qx ns:Nat)) H):ue K vs H Q
def qr(K:PySem.W.Frag):Sp:=λvs H Q _=>ue K vs H Q
inductive pN(vs:List V)(H:Hp)(Q:VK):Prop
 |mk (s t:Int) (y_0:vs=[.int s, .int t]) (y_1:0<=s) (y_2:0<=t) (y_3:Q (.bl (decide (s.toNat&&&t.toNat=s.toNat))) H):pN vs H Q
def rY:Sp:=λvs H Q _=>pN vs H Q
inductive ud(vs:List V)(H:Hp)(Q:VK):Prop
 |mk (i:Int) (y_0:vs=[.int i]) (y_1:Q (.bl true) H):ud vs H Q
def qp:Sp:=λvs H Q _=>ud vs H Q
inductive B9(K:PySem.W.Frag)(vs:List V)(H:Hp)(Q:VK):Prop
 |mk (a:Addr) (ns:List Int) (y_0:vs=[.ref a]) (y_1:SqL K H a (ns.map V.int)) (y_2:ns.length<=63) (y_3:∀H',Q (.bl true) H'):B9 K vs H Q
def vX(K:PySem.W.Frag):Sp:=λvs H Q _=>B9 K vs H Q
def aZ:V->Int
 | .int z=>z
 |_=>0
theorem a8(p:Int->Bool)(f:Int->Int)(zs:List Int):dC (λx=>p (aZ x)) (λx=> .int (f (aZ x))) (zs.map V.int)=((zs.filter p).map f).map V.int:=by unfold dC;rw[JG,Hc,Hc];rfl
theorem BP(ns:List Int)(lo hi:Option Int):∃cs:List Int,lM (ns.map V.int) lo hi=cs.map V.int/\cs.length<=ns.length:=by
 refine⟨(ns.drop (HT.sIx ns.length 0 lo)).take (HT.sIx ns.length ns.length hi-HT.sIx ns.length 0 lo),?_,?_⟩
 .unfold lM;rw[F3,<-List.map_drop,<-List.map_take]
 .rw[GJ,Ja];exact Gd (Nat.min_le_right _ _) (Nat.sub_le _ _)
theorem jF{n j:Nat}:decide (V.int (Builtin.bitAnd ((n:Int) /2^(0+(j:Int)).toNat) 1)=V.int 1)=n.testBit j:=by
 have e1:(0+(j:Int)).toNat=j:=by lia
 have e2:((n:Int) /2^j)=((n/2^j:Nat):Int):=by simp
 rw[e1,e2,de (Hr _) (by decide),F6];have h1:((1:Int).toNat)=1:=rfl;rw[h1,KZ,dA];by_cases hb:n/2^j % 2=1
 .rw[hb];rfl
 .have:¬V.int ((n/2^j % 2:Nat):Int)=V.int 1:=λz=>hb (by have:=V.int.inj z;lia);rw[F4 this,F4 hb]
theorem dY(p:Nat->Bool)(N:Nat):dB p (λi=>V.int (0+(i:Nat))) N=(((List.range N).filter p).map λs:Nat=>(s:Int)).map V.int:=by unfold dB;rw[Hc];refine HP λk _=> ?_;show V.int (0+(k:Int))=V.int (k:Int);rw[Io]
theorem bL(n:Nat):(1*2^((n:Nat):Int).toNat:Int)=((2^n:Nat):Int):=by rw[F6,Jg];simp
theorem ij{l:List Int}{j:Nat}{z:Int}(h:l[j]?=some z):atI (l.map V.int) (j:Int)=some (.int z):=cR (by rw[Gs,h];rfl)
theorem bA{l:List Int}(h:j<l.length):atI (l.map V.int) (j:Int)=some (.int (l.getD j 0)):=ij (by simp[h])
inductive uA(vs:List V)(H:Hp)(Q:VK):Prop
 |mk (n:Int) (y_0:vs=[.int n]) (y_1:0<=n) (y_2:n<=1000) (y_3:Q (.int (1*2^n.toNat-1)) H):uA vs H Q
def wg:Sp:=λvs H Q _=>uA vs H Q
inductive uw(K:PySem.W.Frag)(vs:List V)(H:Hp)(Q:VK):Prop
 |mk (p C dx:Addr) (n:V) (y_0:vs=[.ref p,n]) (y_1:H p=some (.ins C dx [])) (y_2:Cls K C) (y_3:aV K C "many") (y_4:Q .non (upd H p (.ins C dx (bc "many" n [])))):uw K vs H Q
def iO(K:PySem.W.Frag):Sp:=λvs H Q _=>uw K vs H Q
inductive uy(K:PySem.W.Frag)(vs:List V)(H:Hp)(Q:VK):Prop
 |mk (a C dx:Addr) (fs:List (Str×V)) (n:Int) (y_0:vs=[.ref a]) (y_1:H a=some (.ins C dx fs)) (y_2:Cls K C) (y_3:aV K C "many") (y_4:fs.lookup ("many":Str)=some (.int n)) (y_5:0<=n) (y_6:n<=1000) (y_7:Q (.int (1*2^n.toNat-1)) H):uy K vs H Q
def cJ(K:PySem.W.Frag):Sp:=λvs H Q _=>uy K vs H Q
def liF(n:Int)(t:Addr):List (Str×V):=bc "listed" (.ref t) (bc "many" (.int n) [])
theorem tD:¬(("many":Str)= "listed"):=by decide+kernel
theorem Bg(n:Int)(t:Addr):(liF n t).lookup ("many":Str)=some (.int n):=by unfold liF;rw[au _ _ tD,aG]
theorem vg(n:Int)(t:Addr):(liF n t).lookup ("listed":Str)=some (.ref t):=aG _ _ _
theorem Bf(n:Int)(t:Addr){m:Str}(h1:¬m= "listed")(h2:¬m= "many"):(liF n t).lookup m=none:=by unfold liF;rw[au _ _ h1,au _ _ h2];rfl
theorem Be(n:Int)(t:Addr):(liF n t).lookup ("rank":Str)=none:=Bf _ _ (by decide+kernel) (by decide+kernel)
theorem yA(n:Int)(t:Addr):(liF n t).lookup ("everything":Str)=none:=Bf _ _ (by decide+kernel) (by decide+kernel)
def B3(C:Addr)(H:Hp)(a:Addr)(n:Int)(ms:List Int):Prop:=∃dx t,H a=some (.ins C dx (liF n t))/\H t=some (.tup (ms.map V.int))/\ms.length<=1000
theorem B3.same(h:B3 C H a n ms)(e:Same H H'):B3 C H' a n ms:=by obtain⟨dx,t,h1,h2,h3⟩:=h;exact⟨dx,t,e.at h1,e.at h2,h3⟩
inductive uu(K:PySem.W.Frag)(C:Addr)(vs:List V)(H:Hp)(Q:VK):Prop
 |mk (p dx a:Addr) (n:Int) (ms:List Int) (y_0:vs=[.ref p, .int n, .ref a]) (y_1:H p=some (.ins C dx [])) (y_2:SqL K H a (ms.map V.int)) (y_3:ms.length<=1000) (y_4:∀t H',H t=none->(∀b o,H b=some o->b≠p->H' b=some o)->H' p=some (.ins C dx (liF n t))->H' t=some (.tup (ms.map V.int))->Q .non H'):uu K C vs H Q
def wc(K:PySem.W.Frag)(C:Addr):Sp:=λvs H Q _=>uu K C vs H Q
inductive ui(C:Addr)(vs:List V)(H:Hp)(Q:VK):Prop
 |mk (a:Addr) (n s:Int) (ms:List Int) (y_0:vs=[.ref a, .int s]) (y_1:B3 C H a n ms) (y_2:ms≠[]) (y_3:(∀m∈ms,0<=m/\m<256)) (y_4:0<=s) (y_5:s<256) (y_6:∀H',Same H H'->Q (.int (bF ms s.toNat:Nat)) H'):ui C vs H Q
def vU(C:Addr):Sp:=λvs H Q _=>ui C vs H Q
def bq(l:List Nat):List Int:=l.map λs:Nat=>(s:Int)
theorem ck(h:z∈bq l):∃s:Nat,s∈l/\z=s:=by obtain⟨s,hs,rfl⟩:=Gz.mp h;exact⟨s,hs,rfl⟩
theorem zI{vs:St}(h:vs.length=2):∃v w,vs=[v,w]:=by
 match vs,h with
 | [v,w],_=>exact⟨v,w,rfl⟩
inductive uk(K:PySem.W.Frag)(vs:List V)(H:Hp)(Q:VK):Prop
 |mk (a:Addr) (xs:List V) (L:List (List Int)) (c n:Nat) (y_0:vs=[.ref a, .int (c:Int)]) (y_1:H a=some (.lst xs)) (y_2:aK H xs L) (y_3:(∀r∈L,r.length=n)) (y_4:c<n) (y_5:(∀ (i:Nat) (r:List Int) (H':Hp),Same H H'->L[i]?=some r->¬r.getD c 0=0->Q (.int (i:Int)) H')) (y_6:((∀r∈L,r.getD c 0=0)->∀H',Same H H'->Q .non H')):uk K vs H Q
def vW(K:PySem.W.Frag):Sp:=λvs H Q _=>uk K vs H Q
def jm(d:Int)(pr r:List Int)(c:Nat):List Int:=(List.range r.length).map λj=>(r.getD j 0*pr.getD c 0-pr.getD j 0*r.getD c 0).fdiv d
def gz(n B:Nat)(r:List Int):Prop:=r.length=n/\∀z∈r,z.natAbs<2^B
theorem gz.at{r:List Int}(h:gz n B r)(j:Nat):(r.getD j 0).natAbs<2^B:=by
 by_cases hj:j<r.length
 .have e:r.getD j 0=r[j]:=by simp[hj]
  rw[e];exact h.2 _ (Ik hj)
 .have e:r.getD j 0=0:=by simp[hj]
  rw[e];exact ID (by decide)
theorem Cm{x y:Int}(hx:x.natAbs<2^k)(hy:y.natAbs<2^k):(x-y).natAbs<2^(k+1):=by rw[JN];lia
theorem BD(a b:Int):(a.fdiv b).natAbs<=a.natAbs:=Int.natAbs_fdiv_le_natAbs a b
theorem Dq(hp:gz n B pr)(hr:gz n B r):gz n (B+B+1) (jm d pr r c):=by refine⟨by unfold jm;rw[F3,Gy];exact hr.1,λz hz=> ?_⟩;obtain⟨j,_,rfl⟩:=Gz.mp hz;exact Gq (BD _ _) (Cm (rq (hr.at j) (hp.at c)) (rq (hp.at j) (hr.at c)))
inductive lD(K:PySem.W.Frag)(vs:List V)(H:Hp)(Q:VK):Prop
 |mk (a b:Addr) (r pr:List Int) (c n B:Nat) (d:Int) (y_0:vs=[.ref a, .ref b, .int (c:Int), .int d]) (y_1:SqL K H a (r.map V.int)) (y_2:SqL K H b (pr.map V.int)) (y_3:gz n B r) (y_4:gz n B pr) (y_5:c<n) (y_6:n<=1000) (y_7:B<=2^24) (y_8:CFd 0 d) (y_9:∀q H',Same H H'->H q=none->H' q=some (.lst ((jm d pr r c).map V.int))->Q (.ref q) H'):lD K vs H Q
def mP(K:PySem.W.Frag):Sp:=λvs H Q _=>lD K vs H Q
inductive qf(K:PySem.W.Frag)(vs:List V)(H:Hp)(Q:VK):Prop
 |mk (a:Addr) (xs:List V) (L:List (List Int)) (i c n B:Nat) (d:Int) (pr:List Int) (y_0:vs=[.ref a, .int (i:Int), .int (c:Int), .int d]) (y_1:H a=some (.lst xs)) (y_2:aK H xs L) (y_3:(∀r∈L,gz n B r)) (y_4:L.length<=1000) (y_5:L[i]?=some pr) (y_6:c<n) (y_7:n<=1000) (y_8:B<=2^24) (y_9:(2<=L.length->CFd 0 d)) (y_10:∀q H' ys,Same H H'->H q=none->H' q=some (.lst ys)->aK H' ys ((L.take i++L.drop (i+1)).map λr=>jm d pr r c)->Q (.ref q) H'):qf K vs H Q
def su(K:PySem.W.Frag):Sp:=λvs H Q _=>qf K vs H Q
def bH(l:List Int):Row:=λj=>l.getD j 0
theorem Am{pr r:List Int}(hp:pr.length=n)(hr:r.length=n)(hc:c<n):bH (jm d pr r c)=bB d (bH pr) c (bH r):=by
 funext j;show(jm d pr r c).getD j 0=(r.getD j 0*pr.getD c 0-pr.getD j 0*r.getD c 0).fdiv d;unfold jm;by_cases hj:j<r.length
 .simp[hj]
 .have e1:r.getD j 0=0:=by simp[hj]
  have e2:pr.getD j 0=0:=by
   have:¬j<pr.length:=by lia
   simp[this]
  rw[e1,e2,KC,KC,JO,Int.zero_fdiv];simp[hj]
def eT:Nat->Nat
 |0=>200
 |i+1=>eT i+eT i+1
theorem zu:∀i,i<9->eT i<=2^24:=by decide
theorem rp:∀i,i<6->eT i<9000:=by decide
theorem ED{d:Int}(h:d.natAbs<2^B)(hB:B<9000)(h0:d≠0):d.natAbs.log2<9000:=by have:d.natAbs.log2<B:=(Nat.log2_lt (by lia)).mpr h;lia
theorem BN{α:Type}{L:List α}{i:Nat}{p:α}(h:L[i]?=some p):L=L.take i++p::L.drop (i+1):=by obtain⟨hi,e⟩:=Ga.mp h;rw[<-e,List.getElem_cons_drop,List.take_append_drop]
theorem uM(h:i<n):List.range' i (n-i)=i::List.range' (i+1) (n- (i+1)):=by rw[show n-i=(n- (i+1))+1 by lia,List.range'_succ]
def cu(m:Int)(r:List Int):List Int:=if m=0 then r else r.map λz=>z % m
def A4(m:Int)(r:Row):Row:=λj=>if m=0 then r j else r j % m
theorem xH(m:Int)(r:List Int):bH (cu m r)=A4 m (bH r):=by
 funext j;unfold bH cu A4;by_cases h:m=0
 .rw[F7 h,F7 h]
 .rw[F8 h,F8 h];by_cases hj:j<r.length
  .simp[hj]
  .simp[hj]
theorem sX(m:Int)(r:Row)(j:Nat):m∣A4 m r j-r j:=by
 unfold A4;by_cases h:m=0
 .rw[F7 h,JO];exact Jz m
 .rw[F8 h];have:r j % m-r j=m*(-(r j/m)):=by have:=Int.mul_ediv_add_emod (r j) m;rw[Kj];lia
  rw[this];exact Ke _ _
theorem xI(m:Int)(r:List Int):(cu m r).length=r.length:=by
 unfold cu;split
 .rfl
 .rw[F3]
theorem sE(h0:0<=m)(h1:m<128)(hB:7<=B)(h:gz n B r):gz n B (cu m r):=by
 refine⟨by rw[xI];exact h.1,λz hz=> ?_⟩;unfold cu at hz;split at hz
 .exact h.2 z hz
 .rename_i hm;obtain⟨y,_,rfl⟩:=Gz.mp hz;have g1:=IV y hm;have g2:=IJ y (show 0<m by lia);exact F9 (show(y % m).natAbs<2^7 by lia) (Gv (by decide) hB)
theorem wo(h0:0<m):∀z∈cu m r,0<=z/\z<m:=λz hz=>by unfold cu at hz;rw[F8 (by lia)]at hz;obtain⟨y,_,rfl⟩:=Gz.mp hz;exact⟨IV y (by lia),IJ y h0⟩
inductive ug(K:PySem.W.Frag)(vs:List V)(H:Hp)(Q:VK):Prop
 |mk (a:Addr) (r:List Int) (m:Int) (y_0:vs=[.ref a, .int m]) (y_1:SqL K H a (r.map V.int)) (y_2:0<=m) (y_3:r.length<=1000) (y_4:∀q H',Same H H'->H q=none->H' q=some (.lst ((cu m r).map V.int))->Q (.ref q) H'):ug K vs H Q
def vS(K:PySem.W.Frag):Sp:=λvs H Q _=>ug K vs H Q
inductive pV(K:PySem.W.Frag)(vs:List V)(H:Hp)(Q:VK):Prop
 |mk (a:Addr) (xs:List V) (M:List (List Int)) (n:Nat) (m:Int) (y_0:vs=[.ref a, .int m]) (y_1:H a=some (.lst xs)) (y_2:aK H xs M) (y_3:M.length<=8) (y_4:n<=8) (y_5:(∀r∈M,gz n 200 r)) (y_6:bP m) (y_7:∀ (r:Nat) H',Same H H'->Van m (r+1) (M.map bH) (List.range n)->Mnr m r (M.map bH) (List.range n)->Q (.int (r:Int)) H'):pV K vs H Q
def se(K:PySem.W.Frag):Sp:=λvs H Q _=>pV K vs H Q
theorem gO:∀i,7<=eT i
 |0=>by decide
 |i+1=>by have:=gO i;show 7<=eT i+eT i+1;lia
theorem Ct{r:List Int}(h:¬r.getD c 0=0):r.getD c 0∈r:=by
 by_cases hc:c<r.length
 .have e:r.getD c 0=r[c]:=by simp[hc]
  rw[e];exact Ik hc
 .exact absurd (by simp[hc]) h
theorem Ey{m x:Int}(h0:0<=m)(hx:0<m->0<=x/\x<m)(h:¬x=0):¬m∣x:=λd=>by
 by_cases e:m=0
 .rw[e]at d;exact h (Int.zero_dvd.mp d)
 .obtain⟨g1,g2⟩:=hx (by lia);have:=Int.le_of_dvd (by lia) d;lia
structure DO(H:Hp)(a C:Addr)(n:Nat):Prop where
 ex:∃dx fs,H a=some (.ins C dx fs)/\fs.lookup ("rank":Str)=none/\fs.lookup ("everything":Str)=none/\fs.lookup ("many":Str)=some (.int (n:Int))
theorem s_lt(h8:n<=8)(hs:s<2^n):s<256:=F9 hs (Gv (n:=2) (by lia) h8)
theorem eU.imp(F:eU P w K mg base k f ps sp)(h:∀vs H Q E,sp' vs H Q E->sp vs H Q E):eU P w K mg base k f ps sp':=by obtain⟨⟨fd,F1,b⟩,kp⟩:=F;exact⟨⟨fd,F1.imp h,b⟩,kp⟩
structure HC(K:PySem.W.Frag)(C_House C:Addr):Prop where
 cl:Cls K C
 nM:aV K C "many"
 ty:TyC K C
 isH:kitOne K (.ref C) (.ref C_House)=some true
theorem bV.mono(M:bV P w K mg base j C m ps sp)(h:j<=k):bV P w K mg base k C m ps sp:=by obtain⟨c,f,hm,F⟩:=M;exact⟨c,f,hm,eU.mono F h⟩
theorem bV.imp(M:bV P w K mg base k C m ps sp)(h:∀vs H Q E,sp' vs H Q E->sp vs H Q E):bV P w K mg base k C m ps sp':=by obtain⟨c,f,hm,F⟩:=M;exact⟨c,f,hm,eU.imp F h⟩
def otF(n:Int)(h:Addr)(fu fr:Int):List (Str×V):=bc "full_rank" (.int fr) (bc "full" (.int fu) (bc "house" (.ref h) (bc "many" (.int n) [])))
theorem Et(n:Int)(h:Addr)(fu fr:Int):(otF n h fu fr).lookup ("full_rank":Str)=some (.int fr):=aG _ _ _
theorem AL(n:Int)(h:Addr)(fu fr:Int):(otF n h fu fr).lookup ("full":Str)=some (.int fu):=by unfold otF;rw[au _ _ (by decide+kernel),aG]
theorem yc(n:Int)(h:Addr)(fu fr:Int):(otF n h fu fr).lookup ("house":Str)=some (.ref h):=by unfold otF;rw[au _ _ (by decide+kernel),au _ _ (by decide+kernel),aG]
theorem AK(n:Int)(h:Addr)(fu fr:Int):(otF n h fu fr).lookup ("many":Str)=some (.int n):=by unfold otF;rw[au _ _ (by decide+kernel),au _ _ (by decide+kernel),au _ _ (by decide+kernel),aG]
theorem AJ(n:Int)(h:Addr)(fu fr:Int){m:Str}(h1:¬m= "full_rank")(h2:¬m= "full")(h3:¬m= "house")(h4:¬m= "many"):(otF n h fu fr).lookup m=none:=by unfold otF;rw[au _ _ h1,au _ _ h2,au _ _ h3,au _ _ h4];rfl
abbrev HsP:=Addr->Nat->(Nat->Nat)->Prop
def FD(cO:Addr)(H:Hp)(X:HsP)(a:Addr)(n:Nat)(r:Nat->Nat):Prop:=∃ (dx h:Addr) (r':Nat->Nat),H a=some (.ins cO dx (otF n h ((2^n-1:Nat):Int) (r' (2^n-1):Nat)))/\X h n r'/\∀s,s<2^n->(r s:Int)=(sz s:Int)+(r' (aC (2^n-1) s):Nat) - (r' (2^n-1):Nat)
theorem mQ(h:DO (hide H p) a C n):a≠p:=by obtain⟨dx,fs,ha,_⟩:=h.ex;intro e;subst e;unfold hide at ha;rw[F7 rfl]at ha;cases ha
theorem iU:aC (2^n-1) s<2^n:=Gq (iV _ _) (by have:0<2^n:=ID (by lia);lia)
theorem ku(hp:H p=none)(hd:H dx=none):Same H (hide (upd (upd H dx x) p y) p):=λb o e=>by have h1:b≠p:=az e hp;have h2:b≠dx:=az e hd;rw[c8 h1,av h1,av h2];exact e
structure Hs where
 ho:Hp->Addr->Nat->(Nat->Nat)->Prop
 dom:Addr->Prop
structure eJ(Z:Hs):Prop where
 same:∀ {H H':Hp} {a:Addr} {n:Nat} {r:Nat->Nat},Same H H'->Z.ho H a n r->Z.ho H' a n r
 shown:∀ {H:Hp} {a:Addr} {n:Nat} {r:Nat->Nat},Z.ho H a n r->∃C,Z.dom C/\DO H a C n
inductive DS(Z:Hs)(C:Addr)(vs:List V)(H:Hp)(Q:VK):Prop
 |mk (a:Addr) (n s:Nat) (r:Nat->Nat) (y_0:vs=[.ref a, .int (s:Int)]) (y_1:Z.ho H a n r) (y_2:(∃dx fs,H a=some (.ins C dx fs))) (y_3:n<=8) (y_4:s<2^n) (y_5:∀H',Same H H'->Q (.int (r s:Nat)) H'):DS Z C vs H Q
def fL(Z:Hs)(C:Addr):Sp:=λvs H Q _=>DS Z C vs H Q
def F0(cL:Addr)(H:Hp)(a:Addr)(n:Nat)(r:Nat->Nat):Prop:=∃ms:List Int,B3 cL H a n ms/\ms≠[]/\(∀m∈ms,0<=m/\m<256)/\∀s,s<2^n->r s=bF ms s
def hsO(Z:Hs)(cO:Addr):Hs:=⟨λH a n r=>Z.ho H a n r\/FD cO H (Z.ho H) a n r,λC=>Z.dom C\/C=cO⟩
theorem EO(z:eJ Z)(cO:Addr):eJ (hsO Z cO) where
 same:=λe h=>by
  rcases h with h|⟨dx,h',r',h1,h2,h3⟩
  .exact .inl (z.same e h)
  .exact .inr ⟨dx,h',r',e.at h1,z.same e h2,h3⟩
 shown:=λh=>by
  rcases h with h|⟨dx,h',r',h1,h2,h3⟩
  .obtain⟨C,h1,h2⟩:=z.shown h;exact⟨C, .inl h1,h2⟩
  .exact⟨cO, .inr rfl,dx,_,h1,AJ _ _ _ _ (by decide+kernel) (by decide+kernel) (by decide+kernel) (by decide+kernel),AJ _ _ _ _ (by decide+kernel) (by decide+kernel) (by decide+kernel) (by decide+kernel),AK _ _ _ _⟩
theorem mq{H:Hp}{a C C' dx dx':Addr}{fs fs':List (Str×V)}(h:H a=some (.ins C dx fs))(h':H a=some (.ins C' dx' fs')):C=C':=by
 rw[h]at h';injection h' with h'
 injection h' with e1
theorem xA(hne:cO≠C)(vs:List V)(H:Hp)(Q:VK)(E:XK)(h:fL (hsO Z cO) C vs H Q E):fL Z C vs H Q E:=by
 obtain⟨a,n,s,r,rfl,hB,⟨dx0,fs0,ha0⟩,n8,hs,k⟩:=h;rcases hB with hB|⟨dx,h',r',h1,_⟩
 .exact⟨a,n,s,r,rfl,hB,⟨dx0,fs0,ha0⟩,n8,hs,k⟩
 .exact absurd (mq ha0 h1).symm hne
inductive pZ(Z:Hs)(cO:Addr)(vs:List V)(H:Hp)(Q:VK):Prop
 |mk (p dx h:Addr) (n:Nat) (r:Nat->Nat) (y_0:vs=[.ref p, .ref h]) (y_1:H p=some (.ins cO dx [])) (y_2:Z.ho (hide H p) h n r) (y_3:n<=8) (y_4:∀H',(∀b o,H b=some o->b≠p->H' b=some o)->H' p=some (.ins cO dx (otF n h ((2^n-1:Nat):Int) (r (2^n-1):Nat)))->Q .non H'):pZ Z cO vs H Q
def si(Z:Hs)(cO:Addr):Sp:=λvs H Q _=>pZ Z cO vs H Q
inductive pO(Z:Hs)(vs:List V)(H:Hp)(Q:VK):Prop
 |mk (a:Addr) (n:Nat) (r:Nat->Nat) (y_0:vs=[.ref a]) (y_1:Z.ho H a n r) (y_2:n<=8) (y_3:∀H',Same H H'->Q (.int (r (2^n-1):Nat)) H'):pO Z vs H Q
def d9(Z:Hs):Sp:=λvs H Q _=>pO Z vs H Q
def dJ(n:Nat)(r:Nat->Nat):List Int:=(List.range (2^n)).map λs=>(r s:Int)
theorem jy(n:Nat)(r:Nat->Nat):(dJ n r).length=2^n:=by unfold dJ;rw[F3,Gy]
theorem jz{n s:Nat}(r:Nat->Nat)(hs:s<2^n):atI ((dJ n r).map V.int) (s:Int)=some (.int (r s:Nat)):=cR (by unfold dJ;rw[Gs,Gs,Iy hs];rfl)
theorem jM(h:n<=8):2^n<=256:=Gv (n:=2) (by lia) h
theorem dH(x y:Nat):Builtin.bitOr (x:Int) (y:Int)=((x|||y:Nat):Int):=by rw[iJ (Hr _) (Hr _),F6,F6]
theorem fH(x y:Nat):Builtin.bitAnd (x:Int) (y:Int)=((x&&&y:Nat):Int):=by rw[de (Hr _) (Hr _),F6,F6]
theorem eD:(1*2^((n:Nat):Int).toNat-1:Int)=((2^n-1:Nat):Int):=by
 have h:0<2^n:=ID (by lia);have e:((2:Int)^n)=((2^n:Nat):Int):=by simp
 rw[F6,Jg,e];lia
inductive uo(vs:List V)(H:Hp)(Q:VK):Prop
 |mk (s:Int) (y_0:vs=[.int s]) (y_1:0<=s) (y_2:s<256) (y_3:Q (.int ((bits s.toNat).length:Nat)) H):uo vs H Q
def fO:Sp:=λvs H Q _=>uo vs H Q
structure ZOk(Z:Hs)(H:Hp)(a:Addr)(n:Nat)(ms:List Int):Prop where
 ho:Z.ho H a n (bF ms)
 n8:n<=8
theorem ZOk.same(h:ZOk Z H a n ms)(z:eJ Z)(e:Same H H'):ZOk Z H' a n ms:=⟨z.same e h.ho,h.n8⟩
theorem c7(l:List Nat)(p:Int->Bool):(bq l).filter p=bq (l.filter λs:Nat=>p (s:Int)):=by unfold bq;rw[JG];rfl
theorem aJ(x y:Nat):decide (V.int (x:Int)=V.int (y:Int))=decide (x=y):=by
 by_cases h:x=y
 .rw[F5 h,h,F5 rfl]
 .rw[F4 h,F4 λz=>h (by have:=V.int.inj z;lia)]
inductive w6(vs:List V)(H:Hp)(Q:VK):Prop
 |mk (s t:Nat) (y_0:vs=[.int (s:Int), .int (t:Int)]) (y_1:Q (.int (aC s t:Nat)) H):w6 vs H Q
def kr:Sp:=λvs H Q _=>w6 vs H Q
theorem jG(k:Nat):(1*2^((k:Nat):Int).toNat:Int)=((2^k:Nat):Int):=bL k
abbrev aI:Str:=⟨#[116,119,111,32,111,102,32,102,111,117,114]⟩
abbrev dh:Str:=⟨#[116,119,111,32,111,102,32,102,105,118,101]⟩
abbrev cB:Str:=⟨#[116,104,114,101,101,32,111,102,32,102,105,118,101]⟩
abbrev jx:Str:=⟨#[115,101,118,101,110]⟩
abbrev di:Str:=⟨#[111,116,104,101,114,32,115,101,118,101,110]⟩
def eu(n:Nat)(r:Nat->Nat):V:=if fW n r 4 2=true then .str aI else if fW n r 5 2=true then .str dh else if fW n r 5 3=true then .str cB else if bT n r=true then .str jx else if bT n (eY n r)=true then .str di else .non
inductive um(vs:List V)(H:Hp)(Q:VK):Prop
 |mk (s:Int) (y_0:vs=[.int s]) (y_1:0<=s) (y_2:s<256) (y_3:∀p H',Same H H'->H p=none->H' p=some (.lst ((fZ s.toNat).map V.int))->Q (.ref p) H'):um vs H Q
def lX:Sp:=λvs H Q _=>um vs H Q
inductive oC(vs:List V)(H:Hp)(Q:VK):Prop
 |mk (s k:Int) (y_0:vs=[.int s, .int k]) (y_1:0<=s) (y_2:s<256) (y_3:∀p H',Same H H'->H p=none->H' p=some (.lst ((cZ s.toNat k).map V.int))->Q (.ref p) H'):oC vs H Q
def gn:Sp:=λvs H Q _=>oC vs H Q
inductive pY(Z:Hs)(vs:List V)(H:Hp)(Q:VK):Prop
 |mk (a:Addr) (n m k:Nat) (r:Nat->Nat) (y_0:vs=[.ref a, .int (m:Int), .int (k:Int)]) (y_1:Z.ho H a n r) (y_2:n<=8) (y_3:∀H',Same H H'->Q (.bl (fW n r m k)) H'):pY Z vs H Q
def sh(Z:Hs):Sp:=λvs H Q _=>pY Z vs H Q
inductive oB(K:PySem.W.Frag)(vs:List V)(H:Hp)(Q:VK):Prop
 |mk (a:Addr) (p:Nat) (L:List Nat) (y_0:vs=[.ref a, .int (p:Int)]) (y_1:SqL K H a ((bq L).map V.int)) (y_2:L.length<=1000) (y_3:∀q H',Same H H'->H q=none->H' q=some (.lst ((bq (L.filter λt=>decide (p&&&t=p))).map V.int))->Q (.ref q) H'):oB K vs H Q
def o7(K:PySem.W.Frag):Sp:=λvs H Q _=>oB K vs H Q
inductive oA(Z:Hs)(vs:List V)(H:Hp)(Q:VK):Prop
 |mk (a:Addr) (n:Nat) (r:Nat->Nat) (y_0:vs=[.ref a]) (y_1:Z.ho H a n r) (y_2:n<=8) (y_3:∀H',Same H H'->Q (.bl (bT n r)) H'):oA Z vs H Q
def o6(Z:Hs):Sp:=λvs H Q _=>oA Z vs H Q
inductive pX(Z:Hs)(vs:List V)(H:Hp)(Q:VK):Prop
 |mk (a:Addr) (n:Nat) (r:Nat->Nat) (y_0:vs=[.ref a]) (y_1:Z.ho H a n r) (y_2:n<=8) (y_3:vG n r) (y_4:∀H',Same H H'->Q (eu n r) H'):pX Z vs H Q
def sg(Z:Hs):Sp:=λvs H Q _=>pX Z vs H Q
theorem iH{n k:Nat}(hn:n<=8):cZ (2^n-1) (k:Int)=bq (cA n k):=by unfold cZ cA;rw[kz n (by lia)];show(bq (List.range (2^n))).filter _=_;rw[c7];refine GQ bq (Ih λs _=> ?_);rw[F6];exact Iu.mpr ⟨λz=>by show(bits s).length=k;lia,λz=>by have:(bits s).length=k:=z;lia⟩
theorem bg(L:List Nat):(bq L).length=L.length:=F3 _
theorem mB(n k:Nat)(hn:n<=8):(cA n k).length<=256:=Gd (Ie _ _) (by rw[Gy];exact jg hn)
theorem kA(g:Int->Bool)(zs:List Int):dC (λx=>(λ_=>true) (aZ x)) (λx=>V.bl (g (aZ x))) (zs.map V.int)=(zs.map g).map V.bl:=by unfold dC;rw[Iq.mpr (λ_ _=>rfl),Hc,Hc];rfl
theorem uc(g:Int->Bool)(L:List Nat):((bq L).map g).all id=L.all λs:Nat=>g (s:Int):=by unfold bq;rw[Hc,List.all_map];rfl
theorem xV:∀G:Nat,G<256->fZ G=((List.range 256).filter λs=>(s&&&G)==s).map (λs:Nat=>(s:Int)):=by decide+kernel
theorem jC:s&&&G=s↔Sub s G:=by
 constructor
 .intro h k hk;rw[<-h,Hw,GL]at hk;exact hk.2
 .intro h;refine Gi λk=> ?_;rw[Hw];cases e:s.testBit k with
  |false=>rfl
  |true=>rw[h k e];rfl
theorem dE(hG:G<256):z∈cZ G k↔∃S:Nat,z=(S:Int)/\Sub S G/\((sz S:Nat):Int)=k:=by
 unfold cZ;rw[GN,xV G hG,Gz];constructor
 .rintro⟨⟨S,hS,rfl⟩,h2⟩;have h1:=(GN.mp hS).2;exact⟨S,rfl,jC.mp (by simpa using h1),Gx h2⟩
 .rintro⟨S,rfl,h1,h2⟩;exact⟨⟨S,GN.mpr ⟨Gk.mpr (h1.lt (n:=8) hG),by simpa using jC.mpr h1⟩,rfl⟩,F5 h2⟩
def iE(c:Nat->List Int):Nat->Nat->Int:=λt j=>(c t).getD j 0
def cf(c:Nat->List Int)(y:Nat)(col:List Int):Nat->List Int:=λt=>if t=y then col else c t
structure eV(H:Hp)(d:Addr)(ks:List Nat)(q:Nat->Addr)(c:Nat->List Int):Prop where
 dict:H d=some (.dK (i0 (ks.map λt:Nat=>((t:Int),V.ref (q t)))))
 cols:∀t∈ks,H (q t)=some (.lst ((c t).map V.int))
theorem eV.same(h:eV H d ks q c)(e:Same H H'):eV H' d ks q c:=⟨e.at h.dict,λt ht=>e.at (h.cols t ht)⟩
structure rH(p:Int)(R G:Nat)(ks:List Nat)(c:Nat->List Int):Prop where
 keys:∀t,t∈ks↔G.testBit t=true
 nod:ks.Nodup
 len:∀t∈ks,(c t).length=R
 num:∀t∈ks,∀z∈c t,0<=z/\z<p
theorem BC{ks:List Nat}{q:Nat->Addr}{t:Nat}(h:t∈ks):((ks.map λt:Nat=>((t:Int),V.ref (q t))).find? λp=>decide (p.1=(t:Int))).map (·.2)=some (V.ref (q t)):=by
 induction ks with
 |nil=>exact absurd h Hv
 |cons k ks ih=>
  rw[GP,Jt];by_cases e:k=t
  .subst e;simp
  .have:¬((k:Int)=(t:Int)):=λz=>e (by lia);rw[F4 this];exact ih (by rcases Gh.mp h with z|z;exact absurd z.symm e;exact z)
theorem eV.get(h:eV H d ks q c)(ht:t∈ks):rG H d (.int (t:Int)) (some (.ref (q t))):=by have:=rG.k (k:=Sum.inl (t:Int)) h.dict;rw[DT,BC ht]at this;exact this
theorem Bv{G:Nat}(hk:∀t,t∈ks↔G.testBit t=true):qx (bq ks)=G:=Gi λj=>by
 have:=lY (bq ks) 0 j (λz hz=>by obtain⟨s,_,rfl⟩:=ck hz;lia);rw[HS]at this;have e:((j:Int)∈bq ks)↔G.testBit j=true:=by
  rw[<-hk j];constructor
  .intro h;obtain⟨s,hs,e⟩:=ck h;have:j=s:=by lia
   exact this▸hs
  .exact λh=>Gz.mpr ⟨j,h,rfl⟩
 cases e2:G.testBit j with
 |true=>exact this.mpr (.inr (e.mpr e2))
 |false=>
  cases e3:(qx (bq ks)).testBit j with
  |false=>rfl
  |true=>
   rcases this.mp e3 with z|z
   .cases z
   .rw[e.mp z]at e2;cases e2
theorem xG{H:Hp}{q:Nat->Addr}{c:Nat->List Int}{col:List Int}{a:Addr}{y:Nat}{cs:List Nat}(h:∀t∈cs,H (q t)=some (.lst ((c t).map V.int))/\t≠y)(ha:H a=some (.lst (col.map V.int))):aK H (cs.map (λt=>V.ref (q t))++[.ref a]) ((cs++[y]).map (cf c y col)):=by
 refine aK.of (by simp) λj rw_ yv h1 h2=> ?_;by_cases hj:j<cs.length
 .rw[GH (by rw[F3];exact hj),Gs,Gp hj]at h2;rw[Gs,GH hj,Gp hj]at h1;obtain⟨g1,g2⟩:=h _ (Ik hj);cases h1;cases h2;refine⟨_,rfl,?_⟩;unfold cf;rw[F8 g2];exact g1
 .rw[GI (by rw[F3];lia)]at h2;rw[Gs,GI (by lia)]at h1;have e:j-cs.length=0:=by
   cases e:j-cs.length with
   |zero=>rfl
   |succ m=>rw[e]at h1;simp at h1
  rw[F3,e]at h2;rw[e]at h1;cases h1;cases h2;refine⟨_,rfl,?_⟩;unfold cf;rw[F7 rfl];exact ha
def jt(p:Int)(R:Nat)(r:Nat->Nat)(c:Nat->List Int)(G y:Nat):Prop:=∀S,Sub S G->sz S+1=R->(dU p (bZ (iE c) (List.range R)) (S|||2^y)=R↔r (S|||2^y)=R)
inductive xg(Z:Hs)(vs:List V)(H:Hp)(Q:VK):Prop
 |mk (h d a:Addr) (n R G y:Nat) (p:Int) (r:Nat->Nat) (ks:List Nat) (q:Nat->Addr) (c:Nat->List Int) (col:List Int) (y_0:vs=[.ref h, .int p, .ref d, .int (y:Int), .ref a]) (y_1:Z.ho H h n r) (y_2:n<=8) (y_3:r (2^n-1)=R) (y_4:R<=8) (y_5:bP p) (y_6:0<p) (y_7:eV H d ks q c) (y_8:rH p R G ks c) (y_9:G<2^n) (y_10:y<n) (y_11:G.testBit y=false) (y_12:H a=some (.lst (col.map V.int))) (y_13:col.length=R) (y_14:(∀z∈col,0<=z/\z<p)) (y_15:∀b H',Same H H'->(b=true↔jt p R r (cf c y col) G y)->Q (.bl b) H'):xg Z vs H Q
def Ai(Z:Hs):Sp:=λvs H Q _=>xg Z vs H Q
inductive kg(vs:List V)(H:Hp)(Q:VK):Prop
 |mk (s t y:Nat) (y_0:vs=[.int (s:Int), .int (t:Int), .int (y:Int)]) (y_1:t<8) (y_2:y<8) (y_3:Q (.int (j6 s t y:Nat)) H):kg vs H Q
def kP:Sp:=λvs H Q _=>kg vs H Q
inductive pR(vs:List V)(H:Hp)(Q:VK):Prop
 |mk (s h:Int) (y_0:vs=[.int s, .int h]) (y_1:0<=s) (y_2:0<=h) (y_3:h<256) (y_4:∀H',Same H H'->Q (.int (aT s.toNat h.toNat:Nat)) H'):pR vs H Q
def r6:Sp:=λvs H Q _=>pR vs H Q
theorem kS(p:Nat->Int->Bool):∀ (hs:List Int) (i:Nat),dD (λi x=>p i (aZ x)) (λ_ x=>x) i (hs.map V.int)=(picks p i hs).map V.int
 | [],_=>rfl
 |z::r,i=>by rw[GP,dD,picks,kS p r (i+1)];show(if p i z=true then _ else _)=_;split<;>rfl
def miF(n:Int)(h:Addr)(kp dr fr:Int):List (Str×V):=bc "drawn_rank" (.int fr) (bc "drawn" (.int dr) (bc "kept" (.int kp) (bc "house" (.ref h) (bc "many" (.int n) []))))
theorem EB(n:Int)(h:Addr)(kp dr fr:Int):(miF n h kp dr fr).lookup ("drawn_rank":Str)=some (.int fr):=aG _ _ _
theorem yt(n:Int)(h:Addr)(kp dr fr:Int):(miF n h kp dr fr).lookup ("drawn":Str)=some (.int dr):=by unfold miF;rw[au _ _ (by decide+kernel),aG]
theorem A9(n:Int)(h:Addr)(kp dr fr:Int):(miF n h kp dr fr).lookup ("kept":Str)=some (.int kp):=by unfold miF;rw[au _ _ (by decide+kernel),au _ _ (by decide+kernel),aG]
theorem yr(n:Int)(h:Addr)(kp dr fr:Int):(miF n h kp dr fr).lookup ("house":Str)=some (.ref h):=by unfold miF;rw[au _ _ (by decide+kernel),au _ _ (by decide+kernel),au _ _ (by decide+kernel),aG]
theorem A8(n:Int)(h:Addr)(kp dr fr:Int):(miF n h kp dr fr).lookup ("many":Str)=some (.int n):=by unfold miF;rw[au _ _ (by decide+kernel),au _ _ (by decide+kernel),au _ _ (by decide+kernel),au _ _ (by decide+kernel),aG]
theorem A7(n:Int)(h:Addr)(kp dr fr:Int){m:Str}(h1:¬m= "drawn_rank")(h2:¬m= "drawn")(h3:¬m= "kept")(h4:¬m= "house")(h5:¬m= "many"):(miF n h kp dr fr).lookup m=none:=by unfold miF;rw[au _ _ h1,au _ _ h2,au _ _ h3,au _ _ h4,au _ _ h5];rfl
def FF(cM:Addr)(H:Hp)(X:HsP)(a:Addr)(n:Nat)(r:Nat->Nat):Prop:=∃ (dx h:Addr) (n' k w:Nat) (r':Nat->Nat),H a=some (.ins cM dx (miF n h k w (r' w:Nat)))/\X h n' r'/\n=sz k/\n'<=8/\k<2^n'/\w<2^n'/\∀s,s<2^n->(r s:Int)=(r' (aT s k|||w):Nat) - (r' w:Nat)
def lK(Z:Hs)(cM:Addr):Hs:=⟨λH a n r=>FF cM H (Z.ho H) a n r,λC=>C=cM⟩
theorem De(z:eJ Z)(cM:Addr):eJ (lK Z cM) where
 same:=λe h=>by obtain⟨dx,h',n',k,w,r',h1,h2,h3⟩:=h;exact⟨dx,h',n',k,w,r',e.at h1,z.same e h2,h3⟩
 shown:=λh=>by obtain⟨dx,h',n',k,w,r',h1,_⟩:=h;exact⟨cM,rfl,dx,_,h1,A7 _ _ _ _ _ (by decide+kernel) (by decide+kernel) (by decide+kernel) (by decide+kernel) (by decide+kernel),A7 _ _ _ _ _ (by decide+kernel) (by decide+kernel) (by decide+kernel) (by decide+kernel) (by decide+kernel),A8 _ _ _ _ _⟩
inductive qb(Z:Hs)(cM:Addr)(vs:List V)(H:Hp)(Q:VK):Prop
 |mk (p dx h:Addr) (n o w:Nat) (r:Nat->Nat) (y_0:vs=[.ref p, .ref h, .int (o:Int), .int (w:Int)]) (y_1:H p=some (.ins cM dx [])) (y_2:Z.ho (hide H p) h n r) (y_3:n<=8) (y_4:w<2^n) (y_5:∀H',(∀b o,H b=some o->b≠p->H' b=some o)->H' p=some (.ins cM dx (miF (sz (aC (2^n-1) (o|||w)):Nat) h (aC (2^n-1) (o|||w):Nat) w (r w:Nat)))->Q .non H'):qb Z cM vs H Q
def sj(Z:Hs)(cM:Addr):Sp:=λvs H Q _=>qb Z cM vs H Q
def knF(n:Int)(t:Addr):List (Str×V):=bc "told" (.ref t) (bc "many" (.int n) [])
theorem Bt(n:Int)(t:Addr):(knF n t).lookup ("many":Str)=some (.int n):=by unfold knF;rw[au _ _ (by decide+kernel),aG]
theorem Bp(n:Int)(t:Addr):(knF n t).lookup ("told":Str)=some (.ref t):=aG _ _ _
theorem Br(n:Int)(t:Addr){m:Str}(h1:¬m= "told")(h2:¬m= "many"):(knF n t).lookup m=none:=by unfold knF;rw[au _ _ h1,au _ _ h2];rfl
theorem Bq(n:Int)(t:Addr):(knF n t).lookup ("rank":Str)=none:=Br _ _ (by decide+kernel) (by decide+kernel)
theorem yH(n:Int)(t:Addr):(knF n t).lookup ("everything":Str)=none:=Br _ _ (by decide+kernel) (by decide+kernel)
def B4(C:Addr)(H:Hp)(a:Addr)(n:Nat)(r:Nat->Nat):Prop:=∃dx t,H a=some (.ins C dx (knF (n:Int) t))/\H t=some (.tup ((dJ n r).map V.int))
theorem B4.same(h:B4 C H a n r)(e:Same H H'):B4 C H' a n r:=by obtain⟨dx,t,h1,h2⟩:=h;exact⟨dx,t,e.at h1,e.at h2⟩
inductive uv(Z:Hs)(C:Addr)(vs:List V)(H:Hp)(Q:VK):Prop
 |mk (p dx h:Addr) (n:Nat) (r:Nat->Nat) (y_0:vs=[.ref p, .ref h]) (y_1:H p=some (.ins C dx [])) (y_2:Z.ho (hide H p) h n r) (y_3:n<=8) (y_4:∀t H',H t=none->(∀b o,H b=some o->b≠p->H' b=some o)->H' t=some (.tup ((dJ n r).map V.int))->H' p=some (.ins C dx (knF (n:Int) t))->Q .non H'):uv Z C vs H Q
def wd(Z:Hs)(C:Addr):Sp:=λvs H Q _=>uv Z C vs H Q
inductive uj(C:Addr)(vs:List V)(H:Hp)(Q:VK):Prop
 |mk (a:Addr) (n s:Nat) (r:Nat->Nat) (y_0:vs=[.ref a, .int (s:Int)]) (y_1:B4 C H a n r) (y_2:n<=8) (y_3:s<2^n) (y_4:Q (.int (r s:Nat)) H):uj C vs H Q
def vV(C:Addr):Sp:=λvs H Q _=>uj C vs H Q
def hsN(C:Addr):Hs:=⟨B4 C,λC'=>C'=C⟩
def neF(n p:Int)(t:Addr):List (Str×V):=bc "ties" (.ref t) (bc "points" (.int p) (bc "many" (.int n) []))
theorem sJ:¬(("points":Str)= "ties"):=by decide+kernel
theorem yy:¬(("many":Str)= "ties"):=by decide+kernel
theorem tw:¬(("many":Str)= "points"):=by decide+kernel
theorem A2(n p:Int)(t:Addr):(neF n p t).lookup ("many":Str)=some (.int n):=by unfold neF;rw[au _ _ yy,au _ _ tw,aG]
theorem nz(n p:Int)(t:Addr):(neF n p t).lookup ("points":Str)=some (.int p):=by unfold neF;rw[au _ _ sJ,aG]
theorem A0(n p:Int)(t:Addr):(neF n p t).lookup ("ties":Str)=some (.ref t):=aG _ _ _
theorem vc(n p:Int)(t:Addr){m:Str}(h1:¬m= "ties")(h2:¬m= "points")(h3:¬m= "many"):(neF n p t).lookup m=none:=by unfold neF;rw[au _ _ h1,au _ _ h2,au _ _ h3];rfl
theorem A1(n p:Int)(t:Addr):(neF n p t).lookup ("rank":Str)=none:=vc _ _ _ (by decide+kernel) (by decide+kernel) (by decide+kernel)
theorem va(n p:Int)(t:Addr):(neF n p t).lookup ("pieces":Str)=none:=vc _ _ _ (by decide+kernel) (by decide+kernel) (by decide+kernel)
def zx(C:Addr)(H:Hp)(a:Addr)(n:Int)(p:Nat)(ts:List (Nat×Nat)):Prop:=∃dx t xs,H a=some (.ins C dx (neF n p t))/\H t=some (.tup xs)/\bX H xs ts
theorem zx.same(h:zx C H a n p ts)(e:Same H H'):zx C H' a n p ts:=by obtain⟨dx,t,xs,h1,h2,h3⟩:=h;exact⟨dx,t,xs,e.at h1,e.at h2,h3.ts (gg.of e)⟩
def jr(p:Nat)(ts:List (Nat×Nat)):Prop:=∀t∈ts,t.1<p/\t.2<p
inductive wY(K:PySem.W.Frag)(vs:List V)(H:Hp)(Q:VK):Prop
 |mk (a b:Addr) (ms:List Int) (t:Nat×Nat) (y_0:vs=[.ref a, .ref b]) (y_1:SqL K H a (ms.map V.int)) (y_2:H b=some (.tup [.int t.1, .int t.2])) (y_3:t.1<ms.length) (y_4:t.2<ms.length) (y_5:ms.length<=1000) (y_6:∀q H',Same H H'->H q=none->H' q=some (.lst ((mrg ms t.1 t.2).map V.int))->Q (.ref q) H'):wY K vs H Q
def Ab(K:PySem.W.Frag):Sp:=λvs H Q _=>wY K vs H Q
inductive ur(K:PySem.W.Frag)(C:Addr)(vs:List V)(H:Hp)(Q:VK):Prop
 |mk (p dx a:Addr) (n pt:Int) (xs:List V) (ts:List (Nat×Nat)) (y_0:vs=[.ref p, .int n, .int pt, .ref a]) (y_1:H p=some (.ins C dx [])) (y_2:SqL K H a xs) (y_3:bX H xs ts) (y_4:xs.length<=1000) (y_5:∀t ys H',H t=none->(∀b o,H b=some o->b≠p->H' b=some o)->H' p=some (.ins C dx (neF n pt t))->H' t=some (.tup ys)->bX H' ys ts->Q .non H'):ur K C vs H Q
def vZ(K:PySem.W.Frag)(C:Addr):Sp:=λvs H Q _=>ur K C vs H Q
inductive B7(C:Addr)(vs:List V)(H:Hp)(Q:VK):Prop
 |mk (a:Addr) (n:Int) (p:Nat) (s:Nat) (ts:List (Nat×Nat)) (y_0:vs=[.ref a, .int (s:Int)]) (y_1:zx C H a n p ts) (y_2:jr p ts) (y_3:p<=1000) (y_4:ts.length<=8) (y_5:s<2^ts.length) (y_6:∀H',Same H H'->Q (.int (pcs p ts s:Nat)) H'):B7 C vs H Q
def DC(C:Addr):Sp:=λvs H Q _=>B7 C vs H Q
inductive uh(C:Addr)(vs:List V)(H:Hp)(Q:VK):Prop
 |mk (a:Addr) (n:Int) (p:Nat) (s:Nat) (ts:List (Nat×Nat)) (y_0:vs=[.ref a, .int (s:Int)]) (y_1:zx C H a n p ts) (y_2:jr p ts) (y_3:p<=1000) (y_4:ts.length<=8) (y_5:s<2^ts.length) (y_6:∀H',Same H H'->Q (.int ((p:Int) - (pcs p ts s:Nat))) H'):uh C vs H Q
def vT(C:Addr):Sp:=λvs H Q _=>uh C vs H Q
theorem gK(val:Nat->Int):∀i,(PyProof.Rows.firstMet val i).length=iG val i
 |0=>rfl
 |i+1=>by rw[PyProof.Rows.firstMet_succ,PyProof.Rows.step_length,PyProof.Rows.firstMet_any,gK val i];show _=if _ then _ else _;rw[List.any_map];rfl
theorem BK:decide (V.int a=V.int b)=decide (a=b):=by
 by_cases h:a=b
 .subst h;simp
 .rw[F4 h,F4 λe=>h (V.int.inj e)]
theorem ym(n p:Int)(t:Addr):(neF n p t).lookup ("everything":Str)=none:=vc _ _ _ (by decide+kernel) (by decide+kernel) (by decide+kernel)
theorem AY{ts:List (Nat×Nat)}(hok:jr p ts)(hs:s<2^ts.length):((rkC (ts.map cz) s:Nat):Int)=(p:Int) - (pcs p ts s:Nat):=by
 have hb:∀t∈(bits s).map (λz:Int=>ts.getD z.toNat (0,0)),t.1<p/\t.2<p:=λt ht=>by
  obtain⟨z,hz,rfl⟩:=Gz.mp ht;obtain⟨z0,z1⟩:=jo hs hz;have e:ts.getD z.toNat (0,0)=ts[z.toNat]:=by simp[z1]
  rw[e];exact hok _ (Ik z1)
 have h:=AZ _ hb;have e1:mkA p ((bits s).map (λz:Int=>ts.getD z.toNat (0,0)))=pj p ts s:=by unfold mkA pj qS;rw[List.foldl_map]
 have e2:((bits s).map (λz:Int=>ts.getD z.toNat (0,0))).map cz=ao (ts.map cz) s:=by unfold ao;rw[Hc];refine HP λz hz=> ?_;obtain⟨z0,z1⟩:=jo hs hz;show cz (ts.getD z.toNat (0,0))=(ts.map cz).getD z.toNat 0;simp[z1]
 rw[e1,e2]at h;have h2:pcs p ts s+rkC (ts.map cz) s=p:=h;lia
def FG(cN:Addr)(H:Hp)(a:Addr)(n:Nat)(r:Nat->Nat):Prop:=∃ (p:Nat) (ts:List (Nat×Nat)),zx cN H a n p ts/\jr p ts/\p<=1000/\ts.length=n/\∀s,s<2^n->(r s:Int)=(p:Int) - (pcs p ts s:Nat)
def nQ(cL cN:Addr):Hs:=⟨λH a n r=>F0 cL H a n r\/FG cN H a n r,λC=>C=cL\/C=cN⟩
theorem wH(cL cN:Addr):eJ (nQ cL cN) where
 same:=λe h=>by
  rcases h with ⟨ms,h1,h2⟩|⟨p,ts,h1,h2⟩
  .exact .inl ⟨ms,h1.same e,h2⟩
  .exact .inr ⟨p,ts,h1.same e,h2⟩
 shown:=λh=>by
  rcases h with ⟨ms,⟨dx,t,h1,_⟩,h2⟩|⟨p,ts,⟨dx,t,xs,h1,_⟩,h2⟩
  .exact⟨cL, .inl rfl,dx,_,h1,Be _ _,yA _ _,Bg _ _⟩
  .exact⟨cN, .inr rfl,dx,_,h1,A1 _ _ _,ym _ _ _,A2 _ _ _⟩
theorem Cp(hne:cL≠cN)(vs:List V)(H:Hp)(Q:VK)(E:XK)(h:fL (nQ cL cN) cL vs H Q E):vU cL vs H Q E:=by
 obtain⟨a,n,s,r,rfl,hB,⟨dx0,fs0,ha0⟩,n8,hs,k⟩:=h;have s2:=s_lt n8 hs;rcases hB with ⟨ms,h1,h2,h3,h4⟩|⟨p,ts,⟨dx,t,xs,h1,_⟩,h2⟩
 .refine⟨a,_,_,ms,rfl,h1,h2,h3,by lia,by lia,λH' sm=> ?_⟩;have:=k H' sm;rw[h4 s hs]at this;rw[F6];exact this
 .exact absurd (mq ha0 h1) hne
theorem Co(hne:cL≠cN)(vs:List V)(H:Hp)(Q:VK)(E:XK)(h:fL (nQ cL cN) cN vs H Q E):vT cN vs H Q E:=by
 obtain⟨a,n,s,r,rfl,hB,⟨dx0,fs0,ha0⟩,n8,hs,k⟩:=h;rcases hB with ⟨ms,⟨dx,t,h1,_⟩,h2⟩|⟨p,ts,h1,h2,h3,h4,h5⟩
 .exact absurd (mq h1 ha0) hne
 .refine⟨a,_,p,s,ts,rfl,h1,h2,h3,by lia,by rw[h4];exact hs,λH' sm=> ?_⟩;have:=k H' sm;rw[h5 s hs]at this;exact this
inductive pU(Z:Hs)(vs:List V)(H:Hp)(Q:VK):Prop
 |mk (h:Addr) (n:Nat) (r:Nat->Nat) (y_0:vs=[.ref h]) (y_1:Z.ho H h n r) (y_2:n<=8) (y_3:∀p H',Same H H'->H p=none->H' p=some (.lst ((dJ n r).map V.int))->Q (.ref p) H'):pU Z vs H Q
def sd(Z:Hs):Sp:=λvs H Q _=>pU Z vs H Q
theorem two_pow_pos(n:Nat):0<2^n:=ID (by lia)
theorem vE{l:List Int}{i:Int}(h:0<=i+l.length)(h2:i<0):atI (l.map V.int) i=some (.int (l.getD (i+l.length).toNat 0)):=by
 unfold atI ixN;rw[F3,F8 (by lia),F7 (by lia)];show(l.map V.int)[(i+(l.length:Int)).toNat]?=_;have hl:(i+(l.length:Int)).toNat<l.length:=by lia
 rw[Gs];simp[hl]
def ib(n:Nat)(r:Nat->Nat):List Int:=(List.range (2^n)).map λs=>((r s:Nat):Int)
def tG(n:Nat)(r:Nat->Nat):V:=if(kinds n r).getD 0 false=true then .str aI else if(kinds n r).getD 1 false=true then .str dh else if(kinds n r).getD 2 false=true then .str cB else if(kinds n r).getD 3 false=true then .str jx else if(kinds n r).getD 4 false=true then .str di else .non
theorem C7(h:vG n r):eu n r=tG n r:=by unfold eu tG;rw[Bu h];rfl
inductive pT(K:PySem.W.Frag)(vs:List V)(H:Hp)(Q:VK):Prop
 |mk (a:Addr) (told:List Nat) (y_0:vs=[.ref a]) (y_1:SqL K H a ((bq told).map V.int)) (y_2:∀H',Same H H'->Q (.bl (cU told)) H'):pT K vs H Q
def r9(K:PySem.W.Frag):Sp:=λvs H Q _=>pT K vs H Q
inductive uq(K:PySem.W.Frag)(vs:List V)(H:Hp)(Q:VK):Prop
 |mk (a:Addr) (n:Nat) (r:Nat->Nat) (y_0:vs=[.ref a]) (y_1:SqL K H a ((ib n r).map V.int)) (y_2:n<=8) (y_3:∀H',Same H H'->Q (tG n r) H'):uq K vs H Q
def vY(K:PySem.W.Frag):Sp:=λvs H Q _=>uq K vs H Q
inductive Ca(K:PySem.W.Frag)(vs:List V)(H:Hp)(Q:VK):Prop
 |mk (a:Addr) (cs:List Int) (n r:Nat) (y_0:vs=[.ref a, .int (n:Int), .int (r:Int)]) (y_1:SqL K H a (cs.map V.int)) (y_2:0<cs.length) (y_3:cs.length<=64) (y_4:n<=8) (y_5:r<=n) (y_6:∀p H' ps,Same H H'->H p=none->H' p=some (.lst ((dI n r ps).map V.int))->(ps=[]\/(0<r/\r<n/\Far r ps))->Q (.ref p) H'):Ca K vs H Q
def DD(K:PySem.W.Frag):Sp:=λvs H Q _=>Ca K vs H Q
inductive pW(K:PySem.W.Frag)(vs:List V)(H:Hp)(Q:VK):Prop
 |mk (a:Addr) (ms:List Int) (n:Nat) (y_0:vs=[.int (n:Int), .ref a]) (y_1:SqL K H a (ms.map V.int)) (y_2:ms≠[]) (y_3:(∀m∈ms,0<=m/\m<256)) (y_4:ms.length<=256) (y_5:n<=8) (y_6:∀p H',Same H H'->H p=none->H' p=some (.lst (((List.range (2^n)).map λs=>((bF ms s:Nat):Int)).map V.int))->Q (.ref p) H'):pW K vs H Q
def sf(K:PySem.W.Frag):Sp:=λvs H Q _=>pW K vs H Q
theorem Dt{xs:List V}(h:xs[xs.length-1]?=some y):atI xs (-1)=some y:=by
 have hl:0<xs.length:=by
  cases xs with
  |nil=>simp at h
  |cons _ _=>simp
 unfold atI;have e:ixN xs.length (-1)=some (xs.length-1):=by unfold ixN;rw[F8 (by lia),F7 (by lia)];congr 1;lia
 rw[e];exact h
theorem Dd(l:List Nat)(y:Nat):inV (.int (y:Int)) ((bq l).map V.int)=decide (y∈l):=by
 rw[tJ];refine Iu.mpr ⟨λh=> ?_,λh=>Gz.mpr ⟨y,h,rfl⟩⟩;obtain⟨s,hs,e⟩:=ck h;have:y=s:=by lia
 rw[this];exact hs
theorem lint(x y:Int):decide (V.int x=V.int y)=decide (x=y):=Iu.mpr ⟨λz=>V.int.inj z,λz=>by rw[z]⟩
def ao(m s:Nat):List Nat:=(List.range m).filter s.testBit
theorem cY(m s:Nat):ao (m+1) s=ao m s++if s.testBit m=true then [m]else []:=by
 unfold ao;rw[IC,Jb];refine GQ _ ?_;by_cases h:s.testBit m=true
 .rw[F7 h];simp[h]
 .rw[F8 h];simp[h]
theorem vx(hs:s<2^n):∀m,n<=m->ao m s=ao n s:=by
 intro m h
 induction m with
 |zero=>rw[show n=0 by lia]
 |succ m ih=>
  by_cases e:n=m+1
  .rw[e]
  .rw[cY,ih (by lia),F8,Ic];rw[GX (F9 hs (Gv (by decide) (by lia)))];exact Gj
theorem yX(hn:n<=8)(hs:s<2^n):(bits s).length=(ao n s).length:=by
 have:(bits s).length=(ao 8 s).length:=by unfold bits ao;rw[F3]
 rw[this,vx hs 8 hn]
theorem rg(m s:Nat):(ao m s).length<=m:=by have:=Ie s.testBit (List.range m);rw[Gy]at this;exact this
theorem qi(s m k:Nat):(s^^^2^m).testBit k=(s.testBit k^^decide (m=k)):=by rw[Ho,Gg]
theorem oa{m s:Nat}(hb:s.testBit m=true):∀k,∃rest,ao (m+1+k) s=ao m s++m::rest/\ao (m+1+k) (s^^^2^m)=ao m s++rest
 |0=>by
  have low:∀j,j<=m->ao j (s^^^2^m)=ao j s:=λj hj=>by unfold ao;refine Ih λk hk=> ?_;have:=Gk.mp hk;rw[qi,F4 (by lia),J8]
  refine⟨[],by show ao (m+1) s=_;rw[cY,F7 hb],?_⟩;show ao (m+1) _=_;rw[cY,low m (Gf _),F8];rw[qi,hb,F5 rfl];exact Gj
 |k+1=>by
  obtain⟨rest,h1,h2⟩:=oa hb k;refine⟨rest++if s.testBit (m+1+k)=true then [m+1+k]else [],?_,?_⟩
  .show ao (m+1+k+1) s=_;rw[cY,h1,IB];rfl
  .show ao (m+1+k+1) _=_;rw[cY,h2,IB,qi,F4 (by lia),J8]
def dpD(M:List (List Int))(n s:Nat):Int:=aE ((M.take (ao n s).length).map bH) (ao n s)
def dpG(M:List (List Int))(n s:Nat)(j:Nat):Int:=sgn ((ao n s).length-1-j)*(bH (M.getD ((ao n s).length-1) []) ((ao n s).getD j 0)*aE ((M.take ((ao n s).length-1)).map bH) ((ao n s).eraseIdx j))
theorem EU{M:List (List Int)}(hM:M.length=n)(h0:0<(ao n s).length):dpD M n s=aP (ao n s).length (dpG M n s):=by
 have hl:=rg n s;unfold dpD;generalize hN:ao n s=cols at*;obtain⟨N,eN⟩:∃N,cols.length=N+1:=⟨cols.length-1,by lia⟩;have e:M.take cols.length=M.take (cols.length-1)++[M.getD (cols.length-1) []]:=by
  rw[eN,Nat.add_sub_cancel,Hz];have:N<M.length:=by lia
  simp[this]
 rw[e,GO,GP,Jx,tT _ cols _ (by rw[F3,GJ];lia)];refine aM λj _=> ?_;unfold dpG;rw[hN]
theorem Dm{M:List (List Int)}{n s m:Nat}(hm:m<n)(hb:s.testBit m=true):ao (m+1) s=ao m s++[m]/\(ao m s).length<(ao n s).length/\(ao n s).getD (ao m s).length 0=m/\dpG M n s (ao m s).length=sgn ((ao n s).length- ((ao m s).length+1))*bH (M.getD ((ao n s).length-1) []) m*dpD M n (s^^^2^m):=by
 obtain⟨rest,h1,h2⟩:=oa hb (n- (m+1));rw[show m+1+(n- (m+1))=n by lia]at h1 h2;have lN:(ao n s).length=(ao m s).length+1+rest.length:=by rw[h1,Gr,GA];lia
 have g:(ao n s).getD (ao m s).length 0=m:=by have:=cW (A:=ao m s) (B:=m::rest) (d:=0) 0;rw[Nat.add_zero]at this;rw[h1,this];rfl
 have er:(ao n s).eraseIdx (ao m s).length=ao n (s^^^2^m):=by have:=eQ (A:=ao m s) (B:=m::rest) 0;rw[Nat.add_zero]at this;rw[h1,this,h2];rfl
 refine⟨by rw[cY,F7 hb],by lia,g,?_⟩;unfold dpG dpD;have l2:(ao n (s^^^2^m)).length=(ao n s).length-1:=by rw[h2,lN,Gr];lia
 rw[g,er,l2,show(ao n s).length-1- (ao m s).length=(ao n s).length- ((ao m s).length+1) by lia,IH]
theorem rQ:∀ {n:Nat},(∀i,i<n->(f i).natAbs<=C)->(aP n f).natAbs<=n*C
 |0,_=>by simp[aP]
 |n+1,h=>by have h1:=rQ (n:=n) λi hi=>h i (by lia);have h2:=h n (by lia);rw[aP,Nat.succ_mul];lia
theorem qw(i:Nat):(sgn i).natAbs=1:=by unfold sgn;split<;>rfl
theorem wN:∀ (cols:List Nat) (R:List Row),R.length<=8->(∀r∈R,∀j,(r j).natAbs<=2^B)->(aE R cols).natAbs<=2^((B+3)*cols.length)
 | [],R,_,_=>by simp[aE]
 |c::cs,R,hl,h=>by
  have hi:∀i,i<R.length->(sgn i*(R.getD i rw0 c*aE (R.eraseIdx i) cs)).natAbs<=2^B*2^((B+3)*cs.length):=λi hi=>by
   have e3:R.getD i rw0=R[i]:=by simp[hi]
   have h1:=h R[i] (Ik hi) c;have h2:=wN cs (R.eraseIdx i) (by rw[He hi];lia) λr hr=>h r (List.mem_of_mem_eraseIdx hr);rw[KN,qw,Nat.one_mul,KN,e3];exact Nat.mul_le_mul h1 h2
  have:=rQ hi;refine Gd (show(aE R (c::cs)).natAbs<=_ from this) ?_;have e:2^((B+3)*(c::cs).length)=8*(2^B*2^((B+3)*cs.length)):=by rw[GA,Nat.mul_succ,Lk,Lk,Nat.mul_comm,show(2:Nat)^3=8 from rfl];simp only[Ls,Nat.mul_left_comm,Nat.mul_comm]
  rw[e];exact Nat.mul_le_mul_right _ hl
theorem EW{M:List (List Int)}(hM:M.length=n)(n8:n<=8)(hr:∀r∈M,gz n 200 r)(s:Nat):(dpD M n s).natAbs<2^1700:=by
 unfold dpD;have h:=wN (B:=200) (ao n s) ((M.take (ao n s).length).map bH) (by rw[F3,GJ];lia) λr hr' j=>by obtain⟨l,hl,rfl⟩:=Gz.mp hr';exact Kt ((hr l (Jm hl)).at j)
 have:=rg n s;exact Gq h (Je (by decide) (by lia))
inductive xb(K:PySem.W.Frag)(vs:List V)(H:Hp)(Q:VK):Prop
 |mk (a:Addr) (xs:List V) (M:List (List Int)) (n:Nat) (y_0:vs=[.ref a]) (y_1:SqL K H a xs) (y_2:aK H xs M) (y_3:M.length=n) (y_4:n<=8) (y_5:(∀r∈M,gz n 200 r)) (y_6:∀H',Same H H'->Q (.int (aE (M.map bH) (List.range n))) H'):xb K vs H Q
def Ag(K:PySem.W.Frag):Sp:=λvs H Q _=>xb K vs H Q
theorem EV{M:List (List Int)}(hM:M.length=n):dpD M n (2^n-1)=aE (M.map bH) (List.range n):=by
 have e:ao n (2^n-1)=List.range n:=by unfold ao;refine Iq.mpr λk hk=> ?_;rw[GD];exact F5 (Gk.mp hk)
 unfold dpD;rw[e,Gy,Jf (by lia)]
theorem sx{n j:Nat}:decide (V.int (Builtin.bitAnd ((n:Int) /2^((j:Nat):Int).toNat) 1)=V.int 1)=n.testBit j:=by have:=jF (n:=n) (j:=j);rw[Io]at this;exact this
theorem zD{s j:Nat}(hs:s<256)(hj:j<8):Builtin.bitXor (s:Int) (1*2^((j:Nat):Int).toNat)=((s^^^2^j:Nat):Int):=by obtain⟨x1,x2⟩:=kT s hs j hj;unfold Builtin.bitXor;rw[bL,iJ (Hr _) (Hr _),de (Hr _) (Hr _),F6,F6];lia
theorem BQ(hs:s<2^n)(h0:0<s):0<(ao n s).length:=by
 refine KS λz=> ?_;have hz:ao n s=[]:=Kb.mp z;have:s=0:=Gi λk=>by
  rw[HS];cases hb:s.testBit k with
  |false=>rfl
  |true=>
   have hk:k<n:=by refine Jd λhk=> ?_;rw[GX (F9 hs (Gv (by decide) hk))]at hb;cases hb
   have:k∈ao n s:=GN.mpr ⟨Gk.mpr hk,hb⟩;rw[hz]at this;cases this
 lia
theorem sF{r:List Int}(h:aK H xs M)(hM:M≠[]):xs≠r.map V.int:=λe=>by
 cases M with
 |nil=>exact hM rfl
 |cons t ts=>
  obtain⟨a,h1,_⟩:=h.2 0 t rfl;rw[e,Gs]at h1;cases hr:r[0]? with
  |none=>rw[hr]at h1;cases h1
  |some z=>rw[hr]at h1;cases h1
theorem Al{H:Hp}{xs:List V}{M:List (List Int)}{q:Addr}(h:aK H xs M)(hq:H q=some (.lst xs)){i:Nat}{a:Addr}{r:List Int}(hr:M[i]?=some r)(ha:H a=some (.lst (r.map V.int))):a≠q:=λe=>by subst e;rw[hq]at ha;exact sF h (λz=>by rw[z]at hr;simp at hr) (HO.lst.inj (GY ha))
theorem aK.push{r:List Int}(h:aK H xs M)(hq:H q=some (.lst xs))(hp:H p=some (.lst (r.map V.int)))(hpq:p≠q):aK (upd H q (.lst (xs++[.ref p]))) (xs++[.ref p]) (M++[r]):=by
 refine⟨by rw[Gr,Gr,h.1];rfl,λi t ht=> ?_⟩;by_cases hi:i<M.length
 .rw[GH hi]at ht;obtain⟨a,h1,h2⟩:=h.2 i t ht;exact⟨a,by rw[GH (by rw[h.1];exact hi)];exact h1,by rw[av (Al h hq ht h2)];exact h2⟩
 .rw[GI (by lia)]at ht;have h0:i-M.length=0:=by
   cases e:i-M.length with
   |zero=>rfl
   |succ k=>rw[e]at ht;simp at ht
  rw[h0]at ht;cases ht;exact⟨p,by rw[GI (by rw[h.1];lia),h.1,h0];rfl,by rw[av hpq];exact hp⟩
theorem gz.mono(h:gz n B r)(hBC:B<=C):gz n C r:=⟨h.1,λz hz=>F9 (h.2 z hz) (Gv (by decide) hBC)⟩
section
variable(P:Program)(w:World){K:PySem.W.Frag}{mg:Str->Option Value}(base:Heap)
theorem sc_holds:aB ["s","thing"] ["s","thing"] (ak s_holds):=sc_of
theorem AS(D:aU K mg "holds" s_holds ["s","thing"]):Cal P w K mg base 1 "holds" ["s","thing"] qt:=by refine D.cal sc_holds (λvs H Q E h=>by obtain⟨s,t,rfl,_⟩:=h;rfl) λf cdv A outer σs H vs Q E hr h=> ?_;obtain⟨s,t,rfl,h0,h1,k⟩:=h;refine⟨_,(ah (aw (wpe aO (aq bD (aq fC (pv 0) (pv 1)) ae) ae))),?_⟩;refine⟨_,rfl,_,rfl,_,_,rfl,rfl,h1,_,_,rfl,rfl,(by show(0:Int)<2;decide),rfl,?_⟩;show Q (.bl (decide (V.int (s/2^t.toNat % 2)=V.int 1))) H;rw[By h0];exact k
theorem sc_things:aB ["s"] ["s"] (ak s_things):=sc_of
theorem yf(T:Tb K mg)(D:aU K mg "things" s_things ["s"])(ag:Cal P w K mg base 1 "holds" ["s","thing"] qt):Cal P w K mg base 2 "things" ["s"] ee:=by
 refine D.cal sc_things (λvs H Q E h=>by obtain⟨s,rfl,_⟩:=h;rfl) λf cdv A outer σs H vs Q E hr h=> ?_;obtain⟨s,rfl,h0,h1,k⟩:=h;refine⟨_,(ah (aw (wlc ["thing"] ["s"] [0] (wrng T.range_ (CO (K:=K) (by rfl) PySem.F.plainAttrs_int PySem.F.slot_int_bit_length PySem.F.type_int_bit_length CZ (pv 0))) (wnC 0) (bW (cH (wcal ag hr (aa (pv 1) (aa (pv 0) af))))) (pv 0)))),?_⟩;have hb:Builtin.Int.intBits s<=8:=by
  obtain⟨n,rfl⟩:=IF h0;unfold Builtin.Int.intBits;split
  .lia
  .rename_i hn;have hn':n≠0:=by intro e;subst e;exact hn rfl
   have:n.log2<8:=(Nat.log2_lt hn').mpr (by lia);show(n:Int).natAbs.log2+1<=8;rw[Int.natAbs_natCast];lia
 refine⟨_,rfl,rfl,_,rfl,rfl,_,rfl,(by lia),(by lia),?_⟩;refine cG (λi=>s.toNat.testBit i) (λi=> .int (0+(i:Nat))) (by rw[F6];exact Gd hb (by decide)) (λi vs H' R S hi hv sm hk=> ?_) λD H' hD sm hl=> ?_
 .obtain⟨v,rfl⟩:=aW hv;refine⟨_,rfl,_,rfl,s,_,rfl,h0,(by lia),_,rfl,?_⟩;have e:(0+(i:Int)).toNat=i:=by lia
  have q:=hk [some (.int (0+(i:Nat)))] H' rfl (Same.refl _);rw[e];cases hb:s.toNat.testBit i with
  |true=>
   rw[hb,F7 rfl]at q;exact kD ⟨_,rfl,q⟩
  |false=>
   rw[hb,F8 Gj]at q;exact dQ q
 .rw[xo h0 h1]at hl;exact k D H' sm hD hl
theorem sc_size:aB ["s"] ["s"] (ak s_size):=sc_of
theorem CT(T:Tb K mg)(D:aU K mg "size" s_size ["s"])(ag:Cal P w K mg base 2 "things" ["s"] ee):Cal P w K mg base 3 "size" ["s"] hJ:=by refine D.cal sc_size (λvs H Q E h=>by obtain⟨s,rfl,_⟩:=h;rfl) λf cdv A outer σs H vs Q E hr h=> ?_;obtain⟨s,rfl,h0,h1,k⟩:=h;refine⟨_,(ah (aw (wlen K T.len_ (wcal ag hr (aa (pv 0) af))))),?_⟩;refine⟨_,rfl,s,rfl,h0,h1,λp H' sm hp hl=>⟨p,_,rfl, .inl (SqL.of hl),?_⟩⟩;have q:=k H' sm;rw[<-F3 (f:=V.int)]at q;exact q
theorem sc_set_of:aB ["some","s","thing"] ["some"] (ak s_set_of):=sc_of
theorem yi(D:aU K mg "set_of" s_set_of ["some"]):Cal P w K mg base 1 "set_of" ["some"] (qr K):=by
 refine D.cal sc_set_of (λvs H Q E h=>by obtain⟨a,ns,rfl,_⟩:=h;rfl) λf cdv A outer σs H vs Q E hr h=> ?_;obtain⟨a,ns,rfl,hS,hz,k⟩:=h;refine⟨_,(ab (wset 1 sc_set_of.nd ae)
   (ab (wfor (wil K (pv 0)) (wname 2 sc_set_of.nd)
     (ah (wset 1 sc_set_of.nd (aq jS (pv 1) (aq bY ae (pv 2))))))
   (ah (aw (pv 1))))),?_⟩
 refine⟨_,rfl,a,rfl,⟨_,hS⟩,bz (K:=K) (a:=a) (xs:=ns.map V.int) (λi σ H2=>H2=H/\∃v,σ=[some (.ref a),some (.int (((ns.take i).foldl (λ(s:Nat) (t:Int)=>s|||2^t.toNat) 0:Nat):Int)),v])
  ⟨rfl,none,rfl⟩ (λi σ H2 _ q=>by rw[q.1];exact hS) ?_ ?_⟩
 .rintro i y σ H2 hi ⟨rfl,v,rfl⟩;obtain⟨z,rfl,hz1⟩:=aY hi;obtain⟨z0,z8⟩:=hz z (Ge hz1);refine⟨_,rfl,_,rfl,_,_,rfl,rfl,⟨z0,by lia,by decide⟩,_,_,rfl,rfl,?_⟩;refine⟨rfl,some (.int z),?_⟩;have e:Builtin.bitOr ((((ns.take i).foldl (λ(s:Nat) (t:Int)=>s|||2^t.toNat) 0:Nat):Int)) (1*2^z.toNat)=((((ns.take (i+1)).foldl (λ(s:Nat) (t:Int)=>s|||2^t.toNat) 0:Nat):Int)):=by
   rw[iJ (by lia) (by rw[Jg];exact jc _),Hz,hz1];have e2:((2:Int)^z.toNat)=((2^z.toNat:Nat):Int):=by simp
   rw[Jg,e2,F6,F6];simp only[Option.toList_some,IK,II,List.foldl_nil]
  rw[<-e];rfl
 .rintro σ H2 ⟨rfl,v,rfl⟩;refine⟨_,rfl,?_⟩;rw[F3,HN];exact k
theorem sc_within:aB ["s","t"] ["s","t"] (ak s_within):=sc_of
theorem ye(D:aU K mg "within" s_within ["s","t"]):Cal P w K mg base 1 "within" ["s","t"] rY:=by
 refine D.cal sc_within (λvs H Q E h=>by obtain⟨s,t,rfl,_⟩:=h;rfl) λf cdv A outer σs H vs Q E hr h=> ?_;obtain⟨s,t,rfl,h0,h1,k⟩:=h;refine⟨_,(ah (aw (wpe aO (aq dy (pv 0) (pv 1)) (pv 0)))),?_⟩;refine⟨_,rfl,_,rfl,_,_,rfl,rfl,_,rfl,rfl,?_⟩;show Q (.bl (decide (V.int (Builtin.bitAnd s t)=V.int s))) H;have e:decide (V.int (Builtin.bitAnd s t)=V.int s)=decide (s.toNat&&&t.toNat=s.toNat):=by
  rw[de h0 h1];by_cases h:s.toNat&&&t.toNat=s.toNat
  .rw[F5 h,F5];rw[h];congr 1;lia
  .rw[F4 h,F4];intro q;have:=V.int.inj q;lia
 rw[e];exact k
theorem sc_parts:aB ["s","found","thing"] ["s"] (ak s_parts):=sc_of
theorem AR(T:Tb K mg)(D:aU K mg "parts" s_parts ["s"])(ag:Cal P w K mg base 2 "things" ["s"] ee):Cal P w K mg base 3 "parts" ["s"] lX:=by
 refine D.cal sc_parts (λvs H Q E h=>by obtain⟨s,rfl,_⟩:=h;rfl) λf cdv A outer σs H vs Q E hr h=> ?_;obtain⟨s,rfl,h0,h1,k⟩:=h;refine⟨_,(ab (wset 1 sc_parts.nd (cI (aa ae af)))
   (ab (wfor (wil K (wcal ag hr (aa (pv 0) af))) (wname 2 sc_parts.nd)
     (ah (wset 1 sc_parts.nd (aq kB (pv 1) (wlc ["part"] ["thing"] [2] (wil K (pv 1)) (wnC 0) bw (aq jS (pv 0) (aq bY ae (pv 1))))))))
   (ah (aw (pv 1))))),?_⟩
 refine⟨by show 1<=sizeLine;decide,λq0 hq0=> ?_⟩;refine⟨_,rfl,s,rfl,h0,h1,λp H1 sm1 hp1 hl1=>⟨p,rfl,⟨_,SqL.of hl1⟩,?_⟩⟩;generalize hn:s.toNat=n at*;refine bz (K:=K) (a:=p) (xs:=(bits n).map V.int) (λi σ H2=>∃ (q:Addr) (v:Option V),Same H H2/\H2 p=some (.lst ((bits n).map V.int))/\H q=none/\H2 q=some (.lst ((((bits n).take i).foldl fN [0]).map V.int))/\σ=[some (.int s),some (.ref q),v])
  ⟨q0,none,(Same.new hq0).trans sm1,hl1,hq0,sm1.at aj,rfl⟩ (λi σ H2 _ ⟨_,_,_,hp,_⟩=>SqL.of hp) ?_ ?_
 .rintro i y σ H2 hi ⟨q,v,sm2,hp2,hq,hq2,rfl⟩;obtain⟨z,rfl,hz⟩:=aY hi;have zr:=gM (Ge hz);have hil:i<(bits n).length:=(Ga.mp hz).1;have hb8:=aN n;have hlen:(((bits n).take i).foldl fN [0]).length<=128:=by rw[kF,GJ];have h2:2^min i (bits n).length<=2^7:=Gv (by lia) (by lia);simp;lia
  have hnn:∀x∈((bits n).take i).foldl fN [0],0<=x:=tO _ _ (by simp);have est:((bits n).take (i+1)).foldl fN [0]=fN (((bits n).take i).foldl fN [0]) z:=by rw[Hz,hz,IK];rfl
  rw[est];generalize ((bits n).take i).foldl fN [0]=fl at*;refine⟨_,rfl,_,rfl,q,rfl,⟨_,SqL.of hq2⟩,?_⟩;refine bo (λx=>(λ_=>true) (aZ x)) (λx=> .int ((λt:Int=>((t.toNat|||2^z.toNat:Nat):Int)) (aZ x))) (SqL.of hq2) (by rw[F3];exact Gd hlen (by decide)) (λi x vs H' R S hx hv sm hk=> ?_) λD H' hD sm hl=> ?_
  .obtain⟨v,rfl⟩:=aW hv;obtain⟨t,rfl,ht⟩:=aY hx;have t0:=hnn t (Ge ht);have q:=hk [some (.int t)] H' rfl (Same.refl _);rw[F7 rfl]at q;simp only[aS,fK,F7];refine⟨_,rfl,_,rfl,_,_,rfl,rfl,⟨zr.1,by lia,by decide⟩,_,_,rfl,rfl,?_⟩;have e:Builtin.bitOr t (1*2^z.toNat)=((t.toNat|||2^z.toNat:Nat):Int):=by
    have e2:((2:Int)^z.toNat)=((2^z.toNat:Nat):Int):=by simp
    rw[iJ t0 (by rw[Jg];exact jc _),Jg,e2,F6]
   show R (.int (Builtin.bitOr t (1*2^z.toNat))) _ H';rw[e];exact q
  replace hl:=hl.trans (GQ (λl=>some (HO.lst l)) (a8 (λ_=>true) (λt:Int=>((t.toNat|||2^z.toNat:Nat):Int)) fl));rw[Iq.mpr (λ_ _=>rfl)]at hl;refine⟨q,D,_,_,rfl,rfl,sm.at hq2,hl,?_,λq3 hq3=> ?_⟩
  .rw[F3,F3,F3];exact Gd (show fl.length+fl.length<=256 by lia) (by decide)
  have sm3:Same H H':=sm2.trans sm;refine⟨q3,some (.int z),sm3.upd (sm3.free hq3),?_,sm3.free hq3,?_,rfl⟩
  .have:=sm.at hp2;rw[av (az this hq3)];exact this
  .rw[aj];unfold Bh.fN;rw[GO]
 .rintro σ H2 ⟨q,v,sm2,hp2,hq,hq2,rfl⟩;rw[F3,HN]at hq2;exact⟨_,rfl,k q H2 sm2 hq hq2⟩
theorem sc_spread:aB ["s","kept"] ["s","kept"] (ak s_spread):=sc_of
theorem yg(T:Tb K mg)(D:aU K mg "spread" s_spread ["s","kept"])(ag:Cal P w K mg base 1 "set_of" ["some"] (qr K))(ai:Cal P w K mg base 2 "things" ["s"] ee)(ar:Cal P w K mg base 1 "holds" ["s","thing"] qt):
  Cal P w K mg base 3 "spread" ["s","kept"] r6:=by
 refine D.cal sc_spread (λvs H Q E h=>by obtain⟨s,t,rfl,_⟩:=h;rfl) λf cdv A outer σs H vs Q E hr h=> ?_;obtain⟨s,t,rfl,s0,t0,t1,k⟩:=h;refine⟨_,(ah (aw (wcal ag hr (aa (wlc ["number","thing"] ["s"] [0] (mY (K:=K) (by rfl) (by rfl) T.enumerate_ (aa (wcal ai hr (aa (pv 1) af)) af)) (iQ (K:=K) (n:=2) (by rfl) (by rfl) (cD (wnC 0) (cD (wnC 1) iP))) (bW (cH (wcal ar hr (aa (pv 2) (aa (pv 0) af))))) (pv 1)) af)))),?_⟩;refine⟨_,rfl,t,rfl,t0,t1,λp H1 sm1 hp1 hl1=>⟨p,rfl,⟨_,hl1⟩,?_⟩⟩;refine Bl (λi _=>s.toNat.testBit i) (λ_ x=>x) (SqL.of hl1) (by rw[F3];exact Gd (aN _) (by decide)) (λi x tt vs H' R S hx hv sm ht hk=> ?_) λD H' hD sm hl=> ?_
 .obtain⟨v0,v1,rfl⟩:=zI hv;obtain⟨z,rfl,hz⟩:=aY hx;have q:=hk [some (.int (i:Nat)),some (.int z)] H' rfl (Same.refl _);refine⟨tt,_,rfl,SqT.of ht,rfl,_,_,rfl,_,_,rfl,rfl,_,rfl,_,rfl,s,_,rfl,s0,(by lia),_,rfl,?_⟩;rw[F6];cases hb:s.toNat.testBit i with
  |true=>
   rw[hb,F7 rfl]at q;exact kD ⟨_,rfl,q⟩
  |false=>
   rw[hb,F8 Gj]at q;exact dQ q
 .rw[kS (λi _=>s.toNat.testBit i)]at hl;exact⟨D,_,rfl,SqL.of hl,fR,k H' (sm1.trans sm)⟩
theorem sc_less:aB ["s","t"] ["s","t"] (ak s_less):=sc_of
theorem CU(D:aU K mg "less" s_less ["s","t"]):Cal P w K mg base 1 "less" ["s","t"] kr:=by
 refine D.cal sc_less (λvs H Q E h=>by obtain⟨s,t,rfl,_⟩:=h;rfl) λf cdv A outer σs H vs Q E hr h=> ?_;obtain⟨s,t,rfl,k⟩:=h;refine⟨_,(ah (aw (aq uQ (pv 0) (aq dy (pv 0) (pv 1))))),?_⟩;refine⟨_,rfl,_,rfl,_,rfl,_,_,rfl,rfl,_,_,rfl,rfl,?_⟩;show Q (.int (Builtin.bitXor (s:Int) (Builtin.bitAnd (s:Int) (t:Int)))) H;have e:Builtin.bitXor (s:Int) (Builtin.bitAnd (s:Int) (t:Int))=((aC s t:Nat):Int):=by
  unfold Builtin.bitXor;rw[fH,dH,fH];have h:=C4 s t;have l:=iV s t;have e1:s||| (s&&&t)=s:=Gi λj=>by rw[GC,Hw];cases s.testBit j<;>simp
  have e2:s&&& (s&&&t)=s&&&t:=Gi λj=>by rw[Hw,Hw];cases s.testBit j<;>simp
  have l2:s&&&t<=s:=Nat.and_le_left;rw[e1,e2]at h⊢;lia
 rw[e];exact k
theorem sc_exchanged:aB ["s","thing","y"] ["s","thing","y"] (ak s_exchanged):=sc_of
theorem qO(D:aU K mg "exchanged" s_exchanged ["s","thing","y"])(ag:Cal P w K mg base 1 "less" ["s","t"] kr):Cal P w K mg base 2 "exchanged" ["s","thing","y"] kP:=by
 refine D.cal sc_exchanged (λvs H Q E h=>by obtain⟨s,t,y,rfl,_⟩:=h;rfl) λf cdv A outer σs H vs Q E hr h=> ?_;obtain⟨s,t,y,rfl,ht,hy,k⟩:=h;refine⟨_,(ah (aw (aq jS (wcal ag hr (aa (pv 0) (aa (aq bY ae (pv 1)) af))) (aq bY ae (pv 2))))),?_⟩;refine⟨_,rfl,_,rfl,_,_,rfl,rfl,⟨by lia,by lia,by decide⟩,s,2^t,?_,?_⟩
 ·(try dsimp only);rw[jG];rfl
 refine⟨_,rfl,_,_,rfl,rfl,⟨by lia,by lia,by decide⟩,_,_,rfl,rfl,?_⟩;show Q (.int (Builtin.bitOr ((aC s (2^t):Nat):Int) (1*2^((y:Nat):Int).toNat))) H;rw[jG,dH];exact k
theorem sc_all_of:aB ["n"] ["n"] (ak s_all_of):=sc_of
theorem yj(D:aU K mg "all_of" s_all_of ["n"]):Cal P w K mg base 1 "all_of" ["n"] wg:=by refine D.cal sc_all_of (λvs H Q E h=>by obtain⟨n,rfl,_⟩:=h;rfl) λf cdv A outer σs H vs Q E hr h=> ?_;obtain⟨n,rfl,h0,h1,k⟩:=h;refine⟨_,(ah (aw (aq dO (aq bY ae (pv 0)) ae))),?_⟩;exact⟨_,rfl,_,_,rfl,rfl,⟨h0,by lia,by decide⟩,_,_,rfl,rfl,k⟩
theorem sc_House___init__:aB ["self","n"] ["self","n"] (ak s_House___init__):=sc_of
theorem jW(D:eI K "__init__" "House.__init__" s_House___init__ ["self","n"] f):eU P w K mg base 1 f ["self","n"] (iO K):=by refine D.fn sc_House___init__ (λvs H Q E h=>by obtain⟨p,C,dx,n,rfl,_⟩:=h;rfl) λcdv A outer σs H vs Q E hr h=> ?_;obtain⟨p,C,dx,n,rfl,hp,cl,na,k⟩:=h;refine⟨_,(ah (wsf K (pv 0) (pv 1))),?_⟩;exact⟨_,rfl,_,rfl,p,C,dx,_,rfl,hp,cl,na,(by show 0<1000;decide),k⟩
theorem sc_House_everything:aB ["self"] ["self"] (ak s_House_everything):=sc_of
theorem iZ(D:eI K "everything" "House.everything" s_House_everything ["self"] f)(ag:Cal P w K mg base 1 "all_of" ["n"] wg):eU P w K mg base 2 f ["self"] (cJ K):=by refine D.fn sc_House_everything (λvs H Q E h=>by obtain⟨a,C,dx,fs,n,rfl,_⟩:=h;rfl) λcdv A outer σs H vs Q E hr h=> ?_;obtain⟨a,C,dx,fs,n,rfl,ha,cl,na,lk,n0,n1,k⟩:=h;refine⟨_,(ah (aw (wcal ag hr (aa (wfld K (pv 0)) af)))),?_⟩;exact⟨_,rfl,a,C,dx,fs,_,rfl,ha,cl,na,lk,n,rfl,n0,n1,k⟩
theorem sc_Listed___init__:aB ["self","n","some"] ["self","n","some"] (ak s_Listed___init__):=sc_of
theorem ji(T:Tb K mg)(D:eI K "__init__" "Listed.__init__" s_Listed___init__ ["self","n","some"] f)(ai:mg "House"=some (.ref C_House))(cl:Cls K C)(n1:aV K C "many")(n2:aV K C "listed")
  (ag:zA P w K mg base 1 C_House "__init__" ["self","n"] (iO K)):eU P w K mg base 2 f ["self","n","some"] (wc K C):=by
 refine D.fn sc_Listed___init__ (λvs H Q E h=>by obtain⟨p,dx,a,n,ms,rfl,_⟩:=h;rfl) λcdv A outer σs H vs Q E hr h=> ?_;obtain⟨p,dx,a,n,ms,rfl,hp,ha,hl,k⟩:=h;refine⟨_,(ab (bR (jR ag hr (by decide) (dN (v:= .ref C_House) (by rfl) ai rfl) (aa (pv 0) (aa (pv 1) af))))
   (ah (wsf K (pv 0) (cF (fG (K:=K) (by rfl)) (by rfl) T.tuple_ JD (aa (pv 2) af))))),?_⟩
 refine⟨rfl,_,rfl,_,rfl,p,C,dx,_,rfl,hp,cl,n1,?_⟩;have hp1:upd H p (.ins C dx (bc "many" (.int n) [])) p=some (.ins C dx (bc "many" (.int n) [])):=aj;have oth:∀b o,H b=some o->b≠p->upd H p (.ins C dx (bc "many" (.int n) [])) b=some o:=λb o e hb=>by rw[av hb];exact e
 have ha1:SqL K (upd H p (.ins C dx (bc "many" (.int n) []))) a (ms.map V.int):=by
  rcases ha with (h|⟨o,h⟩)|h
  .exact .inl (.inl (oth _ _ h (gr h hp (by intro z;cases z))))
  .exact .inl (.inr ⟨o,oth _ _ h (gr h hp (by intro z;cases z))⟩)
  .exact .inr h
 refine⟨_,rfl,a,_,rfl, .inl ⟨ha1,λt ht=> ?_⟩⟩;have tp:t≠p:=λe=>by rw[e,aj]at ht;cases ht
 have ht0:H t=none:=by rw[av tp]at ht;exact ht
 refine⟨_,rfl,p,C,dx,_,rfl,(by rw[av tp.symm];exact hp1),cl,n2,?_,?_⟩
 .exact Gq (aH _ _ _) (by show 0+1<1000;decide)
 refine k t _ ht0 (λb o e hb=> ?_) aj ?_
 .rw[av hb,av (az e ht0)];exact oth b o e hb
 .rw[av tp,aj]
theorem sc_Listed_rank:aB ["self","s"] ["self","s"] (ak s_Listed_rank):=sc_of
theorem ny(T:Tb K mg)(D:eI K "rank" "Listed.rank" s_Listed_rank ["self","s"] f)(cl:Cls K C)(n2:aV K C "listed")(ag:Cal P w K mg base 3 "size" ["s"] hJ):eU P w K mg base 4 f ["self","s"] (vU C):=by
 refine D.fn sc_Listed_rank (λvs H Q E h=>by obtain⟨a,n,s,ms,rfl,_⟩:=h;rfl) λcdv A outer σs H vs Q E hr h=> ?_;obtain⟨a,n,s,ms,rfl,⟨dx,t,ha,ht,hl⟩,hne,hms,s0,s1,k⟩:=h;refine⟨_,(ah (aw (cj (vA (K:=K) (by rfl) (by rfl)) (by rfl) T.max_ PyProof.Rows.boot_max (aa (wlc ["one"] ["s"] [1] (wit K (wfld K (pv 0))) (wnC 0) bw (wcal ag hr (aa (aq dy (pv 1) (pv 0)) af))) af)))),?_⟩;refine⟨_,rfl,a,C,dx,_,_,rfl,ha,cl,n2,vg _ _,t,rfl,⟨_,SqT.of ht⟩,?_⟩;have s2:s.toNat<256:=by lia
 refine C6 (λx=>(λ_=>true) (aZ x)) (λx=> .int ((λm:Int=>((sz (s.toNat&&&m.toNat):Nat):Int)) (aZ x))) ht (by rw[F3];exact Gd hl (by decide)) (λi x vs H' R S hx hv sm hk=> ?_) λD H' hD sm hl=> ?_
 .obtain⟨v,rfl⟩:=aW hv;obtain⟨m,rfl,hm⟩:=aY hx;obtain⟨m0,m1⟩:=hms m (Ge hm);simp only[aS,fK,F7];have ea:Builtin.bitAnd s m=((s.toNat&&&m.toNat:Nat):Int):=de s0 m0;have la:s.toNat&&&m.toNat<256:=BZ s2;refine⟨_,rfl,_,rfl,_,_,rfl,rfl,Builtin.bitAnd s m,rfl,(by rw[ea];lia),(by rw[ea];lia),λH2 sm2=> ?_⟩;rw[ea,F6];have q:=hk [some (.int m)] H2 rfl sm2;rw[F7 rfl]at q;exact q
 replace hl:=hl.trans (GQ (λl=>some (HO.lst l)) (a8 (λ_=>true) (λm:Int=>((sz (s.toNat&&&m.toNat):Nat):Int)) ms));rw[Iq.mpr (λ_ _=>rfl)]at hl;refine⟨D,_,rfl,SqL.of hl,?_,λz hz hmax=> ?_⟩
 .intro e;rw[List.map_eq_nil_iff]at e;exact hne e
 have ez:z=((bF ms s.toNat:Nat):Int):=by obtain⟨m,hm,rfl⟩:=Gz.mp hz;rw[kR (ms:=ms) (s:=s.toNat) (r:=sz (s.toNat&&&m.toNat)) ⟨m,hm,rfl⟩ λm' hm'=> ?_];have:=hmax _ (Gz.mpr ⟨m',hm',rfl⟩);lia
 rw[ez];exact k H' sm
theorem sc_tied:aB ["marks","tie","old","new"] ["marks","tie"] (ak s_tied):=sc_of
theorem CS(D:aU K mg "tied" s_tied ["marks","tie"]):Cal P w K mg base 1 "tied" ["marks","tie"] (Ab K):=by
 refine D.cal sc_tied (λvs H Q E h=>by obtain⟨a,b,ms,t,rfl,_⟩:=h;rfl) λf cdv A outer σs H vs Q E hr h=> ?_;obtain⟨a,b,ms,t,rfl,ha,hb,hx,hy,hl,k⟩:=h;refine⟨_,(ab (wset 2 sc_tied.nd (bS K (pv 0) (fh K (pv 1) ae)))
   (ab (wset 3 sc_tied.nd (bS K (pv 0) (fh K (pv 1) ae)))
   (ah (aw (wlc ["mark"] ["new","old"] [3,2] (wil K (pv 0)) (wnC 0) bw (jQ (wpt aO (pv 0) (pv 2)) (pv 1) (pv 0))))))),?_⟩
 have t0:atI [V.int (t.1:Int),V.int (t.2:Int)] 0=some (.int t.1):=cR (j:=0) rfl;have t1:atI [V.int (t.1:Int),V.int (t.2:Int)] 1=some (.int t.2):=cR (j:=1) rfl;have ax:atI (ms.map V.int) (t.1:Int)=some (.int (ms.getD t.1 0)):=bA hx;have ay:atI (ms.map V.int) (t.2:Int)=some (.int (ms.getD t.2 0)):=bA hy;refine⟨_,rfl,_,rfl,b,_,_,_,rfl,rfl,SqT.of hb,t0,a,_,_,_,rfl,rfl,ha,ax,?_⟩;refine⟨_,rfl,_,rfl,b,_,_,_,rfl,rfl,SqT.of hb,t1,a,_,_,_,rfl,rfl,ha,ay,?_⟩;refine⟨_,rfl,a,rfl,⟨_,ha⟩,?_⟩;refine bo (λx=>(λ_=>true) (aZ x)) (λv=> .int ((λm:Int=>if m=ms.getD t.1 0 then ms.getD t.2 0 else m) (aZ v))) ha (by rw[F3];exact Gd hl (by decide)) (λi v vs H' R S hv' hv sm hk=> ?_) λD H' hD sm hl'=> ?_
 .obtain⟨v,rfl⟩:=aW hv;obtain⟨m,rfl,hm⟩:=aY hv';have q:=hk [some (.int m)] H' rfl (Same.refl _);rw[F7 rfl]at q;simp only[aS,fK,F7];refine⟨_,rfl,_,rfl,rfl,_,rfl,?_⟩;rw[BK];refine bJ (λhc=> ?_) λhc=> ?_
  .have e:=Gx hc;replace q:R (V.int (if m=ms.getD t.1 0 then ms.getD t.2 0 else m)) _ _:=q;rw[F7 e]at q;exact⟨_,rfl,q⟩
  .have e:=J6 (IE.mpr hc);replace q:R (V.int (if m=ms.getD t.1 0 then ms.getD t.2 0 else m)) _ _:=q;rw[F8 e]at q;exact⟨_,rfl,q⟩
 replace hl':=hl'.trans (GQ (λl=>some (HO.lst l)) (a8 (λ_=>true) (λm:Int=>if m=ms.getD t.1 0 then ms.getD t.2 0 else m) ms));rw[Iq.mpr (λ_ _=>rfl)]at hl';exact k D H' sm hD hl'
theorem sc_Net___init__:aB ["self","n","points","ties"] ["self","n","points","ties"] (ak s_Net___init__):=sc_of
theorem lI(T:Tb K mg)(D:eI K "__init__" "Net.__init__" s_Net___init__ ["self","n","points","ties"] f)(ai:mg "House"=some (.ref C_House))(cl:Cls K C)(n1:aV K C "many")(n2:aV K C "points")(n3:aV K C "ties")
  (ag:zA P w K mg base 1 C_House "__init__" ["self","n"] (iO K)):eU P w K mg base 2 f ["self","n","points","ties"] (vZ K C):=by
 refine D.fn sc_Net___init__ (λvs H Q E h=>by obtain⟨p,dx,a,n,pt,xs,ts,rfl,_⟩:=h;rfl) λcdv A outer σs H vs Q E hr h=> ?_;obtain⟨p,dx,a,n,pt,xs,ts,rfl,hp,ha,hx,hl,k⟩:=h;refine⟨_,(ab (bR (jR ag hr (by decide) (dN (v:= .ref C_House) (by rfl) ai rfl) (aa (pv 0) (aa (pv 1) af))))
   (ab (wsf K (pv 0) (pv 2))
   (ah (wsf K (pv 0) (cF (fG (K:=K) (by rfl)) (by rfl) T.tuple_ JD (aa (wlc ["tie"] [] [] (wil K (pv 3)) (wnC 0) bw (ie (aa (fh K (pv 0) ae) (aa (fh K (pv 0) ae) af)))) af)))))),?_⟩
 refine⟨rfl,_,rfl,_,rfl,p,C,dx,_,rfl,hp,cl,n1,?_⟩;have hp1:upd H p (.ins C dx (bc "many" (.int n) [])) p=some (.ins C dx (bc "many" (.int n) [])):=aj;refine⟨_,rfl,_,rfl,p,C,dx,_,rfl,hp1,cl,n2,Gq (aH _ _ _) (by show 0+1<1000;decide),?_⟩;rw[iL];have hp2:upd H p (.ins C dx (bc "points" (.int pt) (bc "many" (.int n) []))) p=some (.ins C dx (bc "points" (.int pt) (bc "many" (.int n) []))):=aj;have oth:∀b o,H b=some o->b≠p->upd H p (.ins C dx (bc "points" (.int pt) (bc "many" (.int n) []))) b=some o:=λb o e hb=>by rw[av hb];exact e
 have nn:∀b,upd H p (.ins C dx (bc "points" (.int pt) (bc "many" (.int n) []))) b=none->b≠p/\H b=none:=λb hb=>by
  have bp:b≠p:=λe=>by rw[e,aj]at hb;cases hb
  rw[av bp]at hb;exact⟨bp,hb⟩
 have tsU:gg H (upd H p (.ins C dx (bc "points" (.int pt) (bc "many" (.int n) [])))):=λb ys e=>oth b _ e (gr e hp (by intro z;cases z));have ha1:SqL K (upd H p (.ins C dx (bc "points" (.int pt) (bc "many" (.int n) [])))) a xs:=by
  rcases ha with (h|⟨o,h⟩)|h
  .exact .inl (.inl (oth _ _ h (gr h hp (by intro z;cases z))))
  .exact .inl (.inr ⟨o,oth _ _ h (gr h hp (by intro z;cases z))⟩)
  .exact .inr h
 have hx1:=hx.ts tsU;generalize upd H p (.ins C dx (bc "points" (.int pt) (bc "many" (.int n) [])))=H1 at*;refine⟨_,rfl,a,rfl,⟨_,ha1⟩,?_⟩;refine Bk (λx y G=>∃ (b c:Addr) (t:Nat×Nat),x= .ref b/\y= .ref c/\G b=some (.tup [.int t.1, .int t.2])/\G c=some (.tup [.int t.1, .int t.2])) (λx y G G' e h=>by obtain⟨b,c,t,e1,e2,h1,h2⟩:=h;exact⟨b,c,t,e1,e2,e _ _ h1,e _ _ h2⟩) ha1 (Gd hl (by decide)) (λi v vs H' R S hv' hv sm hk=> ?_) λD H2 ys hD sm hD2 hlen hR=> ?_
 .obtain⟨v,rfl⟩:=aW hv;obtain⟨b,t,ht,rfl,hb⟩:=hx1.at hv';have hb':=sm.at hb;have t0:atI [V.int (t.1:Int),V.int (t.2:Int)] 0=some (.int t.1):=cR (j:=0) rfl;have t1:atI [V.int (t.1:Int),V.int (t.2:Int)] 1=some (.int t.2):=cR (j:=1) rfl;simp only[aS,fK,F7];refine⟨_,rfl,b,_,_,_,rfl,rfl,SqT.of hb',t0,_,rfl,b,_,_,_,rfl,rfl,SqT.of hb',t1,by show 2<=sizeLine;decide,λq hq=> ?_⟩;exact hk _ [some (.ref b)] _ ⟨b,q,t,rfl,rfl,(Same.new hq).at hb',aj⟩ rfl (Same.new hq)
 have hy2:bX H2 ys ts:=by
  refine⟨by rw[hlen];exact hx1.1,λi t ht=> ?_⟩;obtain⟨b,h1,h2⟩:=hx1.2 i t ht;have hi:i<ys.length:=by rw[hlen];exact(Ga.mp h1).1
  obtain⟨b',c,t',e1,e2,g1,g2⟩:=hR i _ _ h1 (Gp hi);cases e1;have g3:=sm.at h2;rw[g1]at g3;refine⟨c,by rw[Gp hi,e2],?_⟩;rw[g2];exact g3
 refine⟨D,ys,rfl, .inl ⟨SqL.of hD2,λt ht=> ?_⟩⟩;have hp3:=sm.at hp2;have tp:t≠p:=λe=>by rw[e,hp3]at ht;cases ht
 have t1n:H1 t=none:=by
  cases e:H1 t with
  |none=>rfl
  |some o=>rw[sm.at e]at ht;cases ht
 refine⟨_,rfl,p,C,dx,_,rfl,(by rw[av tp.symm];exact hp3),cl,n3,?_,?_⟩
 .exact Gq (aH _ _ _) (Gq (Iv (aH _ _ _)) (by show 0+1+1<1000;decide))
 have hpu:upd H2 t (.tup ys) p=some (.ins C dx (bc "points" (.int pt) (bc "many" (.int n) []))):=by rw[av tp.symm];exact hp3
 refine k t ys _ (nn t t1n).2 (λb o e hb=> ?_) aj ?_ ?_
 .have e1:=sm.at (oth b o e hb);rw[av hb,av (az e1 ht)];exact e1
 .rw[av tp,aj]
 .refine(hy2.ts (H':=upd H2 t (.tup ys)) (gg.new ht)).ts λb zs e=> ?_;rw[av (gr e hpu (by intro z;cases z))];exact e
theorem sc_Net_pieces:aB ["self","s","marks","thing"] ["self","s"] (ak s_Net_pieces):=sc_of
theorem oP(T:Tb K mg)(D:eI K "pieces" "Net.pieces" s_Net_pieces ["self","s"] f)(cl:Cls K C)(n2:aV K C "points")(n3:aV K C "ties")(ag:Cal P w K mg base 2 "things" ["s"] ee)(ai:Cal P w K mg base 1 "tied" ["marks","tie"] (Ab K)):
  eU P w K mg base 3 f ["self","s"] (DC C):=by
 refine D.fn sc_Net_pieces (λvs H Q E h=>by obtain⟨a,n,p,s,ts,rfl,_⟩:=h;rfl) λcdv A outer σs H vs Q E hr h=> ?_;obtain⟨a,n,p,s,ts,rfl,hN,hok,hp,h8,hs,k⟩:=h;refine⟨_,(ab (wset 2 sc_Net_pieces.nd (cF (vB (by rfl)) (by rfl) T.list_ IY (aa (AD (by rfl) T.range_ (aa (wfld K (pv 0)) af)) af)))
   (ab (wfor (wil K (wcal ag hr (aa (pv 1) af))) (wname 3 sc_Net_pieces.nd)
     (ah (wset 2 sc_Net_pieces.nd (wcal ai hr (aa (pv 2) (aa (fh K (wfld K (pv 0)) (pv 3)) af))))))
   (ah (aw (cj oo (by rfl) T.len_ Lq (aa (cF (om (K:=K) (by rfl) (by rfl)) (by rfl) T.set_ PyProof.Rows.boot_set (aa (pv 2) af)) af)))))),?_⟩
 obtain⟨dx,t,xs,ha,ht,hx⟩:=id hN;refine⟨_,rfl,a,C,dx,_,_,rfl,ha,cl,n2,nz _ _ _,_,rfl,λr hr1=>⟨r,p,rfl,aj,hp,λm hm=> ?_⟩⟩;have sm1:Same H (upd (upd H r (.rng 0 p)) m (.lst ((Bh.start p).map V.int))):=(Same.new hr1).trans (Same.new hm);have hm1:upd (upd H r (.rng 0 p)) m (.lst ((Bh.start p).map V.int)) m=some (.lst ((Bh.start p).map V.int)):=aj;have s256:s<256:=F9 hs (Gv (n:=2) (by lia) h8);show aS _ _ _ (upd (upd H r (.rng 0 p)) m (.lst ((Bh.start p).map V.int))) _;generalize upd (upd H r (.rng 0 p)) m (.lst ((Bh.start p).map V.int))=H1 at*;refine⟨_,rfl,(s:Int),rfl,by lia,by lia,λq H2 sm2 hq hl=> ?_⟩;rw[F6]at hl;refine⟨q,rfl,⟨_,SqL.of hl⟩,?_⟩;refine bz (K:=K) (a:=q) (xs:=(bits s).map V.int) (λi σ H'=>Same H2 H'/\∃m v,H' m=some (.lst ((qS p ts ((bits s).take i)).map V.int))/\σ=[some (.ref a),some (.int (s:Int)),some (.ref m),v]) ⟨Same.refl _,m,none,sm2.at hm1,rfl⟩ (λi σ H' _ z=>SqL.of (z.1.at hl)) ?_ ?_
 .rintro i y σ H' hi ⟨sm',m',v,hm',rfl⟩;obtain⟨z,rfl,hz⟩:=aY hi;obtain⟨z0,z1⟩:=jo hs (Ge hz);obtain⟨j,rfl⟩:=IF z0;rw[F6]at z1;have smA:Same H H':=(sm1.trans sm2).trans sm';have hg:ts[j]?=some (ts.getD j (0,0)):=by simp[z1]
  obtain⟨b,hb1,hb2⟩:=(hx.ts (gg.of smA)).2 j _ hg;have hb:=hok _ (Ge hg);have hlen:=iq p ts ((bits s).take i);refine⟨_,rfl,_,rfl,a,C,dx,_,_,rfl,smA.at ha,cl,n3,A0 _ _ _,_,rfl,t,_,_,_,rfl,rfl,SqT.of (smA.at ht),cR hb1,?_⟩;refine⟨m',b,_,ts.getD j (0,0),rfl,SqL.of hm',hb2,by rw[hlen];exact hb.1,by rw[hlen];exact hb.2,by rw[hlen];exact hp,λu H3 sm3 hu hl3=> ?_⟩;refine⟨sm'.trans sm3,u,_,?_,rfl⟩;rw[hl3,Hz,hz,Option.toList_some,pk,F6]
 .rintro σ H' ⟨sm',m',v,hm',rfl⟩;rw[F3,HN]at hm';have hlen:=iq p ts (bits s);refine⟨_,rfl,m',_,rfl,SqL.of hm',by rw[hlen];lia,λl hl2=>⟨l,_,_,rfl,aj,?_⟩⟩;rw[gK,hlen];exact k _ (((sm1.trans sm2).trans sm').trans (Same.new hl2))
theorem sc_Net_rank:aB ["self","s"] ["self","s"] (ak s_Net_rank):=sc_of
theorem sV(D:eI K "rank" "Net.rank" s_Net_rank ["self","s"] f)(cl:Cls K C)(n2:aV K C "points")(ag:∀C',C'=C->bV P w K mg base 3 C' "pieces" ["self","s"] (DC C')):eU P w K mg base 4 f ["self","s"] (vT C):=by refine D.fn sc_Net_rank (λvs H Q E h=>by obtain⟨a,n,p,s,ts,rfl,_⟩:=h;rfl) λcdv A outer σs H vs Q E hr h=> ?_;obtain⟨a,n,p,s,ts,rfl,hN,hok,hp,h8,hs,k⟩:=h;refine⟨_,(ah (aw (aq dO (wfld K (pv 0)) (dq ag hr (by decide) (pv 0) (aa (pv 1) af))))),?_⟩;obtain⟨dx,t,xs,ha,ht,hx⟩:=id hN;exact⟨_,rfl,a,C,dx,_,_,rfl,ha,cl,n2,nz _ _ _,_,rfl,a,C,dx,_,rfl,ha,rfl,va _ _ _,_,rfl,a,n,p,s,ts,rfl,hN,hok,hp,h8,hs,λH' sm=>⟨_,_,rfl,rfl,k H' sm⟩⟩
theorem sc_pivot_place:aB ["rows","column","place","row"] ["rows","column"] (ak s_pivot_place):=sc_of
theorem nq(T:Tb K mg)(D:aU K mg "pivot_place" s_pivot_place ["rows","column"]):Cal P w K mg base 1 "pivot_place" ["rows","column"] (vW K):=by
 refine D.cal sc_pivot_place (λvs H Q E h=>by obtain⟨a,xs,L,c,n,rfl,_⟩:=h;rfl) λf cdv A outer σs H vs Q E hr h=> ?_;obtain⟨a,xs,L,c,n,rfl,ha,hx,hn,hc,k1,k2⟩:=h;refine⟨_,(ab (wfor (mY (K:=K) (by rfl) (by rfl) T.enumerate_ (aa (pv 0) af)) (iQ (K:=K) (n:=2) (by rfl) (by rfl) (cD (wname 2 sc_pivot_place.nd) (cD (wname 3 sc_pivot_place.nd) iP)))
     (ah (aX (wpt eX (bS K (pv 3) (pv 1)) ae)
       (ah (aw (pv 2)))
       aF)))
   (ah (aw fz))),?_⟩
 refine⟨_,rfl,a,rfl,⟨_,ha⟩,?_⟩;refine tN (K:=K) (a:=a) (xs:=xs) (λi σ H'=>Same H H'/\(∀ (j:Nat) (r:List Int),j<i->L[j]?=some r->r.getD c 0=0)/\∃v2 v3,σ=[some (.ref a),some (.int (c:Int)),v2,v3]) ⟨Same.refl _,λj _ hj=>absurd hj (J2 _),none,none,rfl⟩ (λi σ H' _ z=>SqL.of (z.1.at ha)) ?_ ?_
 .rintro i y t σ H' hi ht ⟨sm',hz,v2,v3,rfl⟩;obtain⟨b,r,hr',rfl,hb⟩:=(hx.same sm').at hi;have smt:Same H' (upd H' t (.tup [.int (i:Int), .ref b])):=Same.new ht;have hb':=smt.at hb;have ar:atI (r.map V.int) (c:Int)=some (.int (r.getD c 0)):=bA (by rw[hn r (Ge hr')];exact hc);refine⟨t,_,rfl,SqT.of aj,rfl,_,_,rfl,_,_,rfl,rfl,?_⟩;refine⟨_,rfl,_,rfl,b,_,_,_,rfl,rfl,SqL.of hb',ar,rfl,_,rfl,?_⟩;by_cases h0:r.getD c 0=0
  .rw[h0];refine dQ ⟨sm'.trans smt,λj r' hj hr2=> ?_,_,_,rfl⟩;by_cases e:j=i
   .subst e;rw[hr']at hr2;cases hr2;exact h0
   .exact hz j r' (by lia) hr2
  .rw[F4 λe=>h0 (V.int.inj e)];exact kD ⟨_,rfl,k1 i r _ (sm'.trans smt) hr' h0⟩
 .rintro σ H' ⟨sm',hz,v2,v3,rfl⟩;refine k2 (λr hr'=> ?_) H' sm';obtain⟨j,hj⟩:=Hk hr';exact hz j r (by rw[hx.1];exact(Ga.mp hj).1) hj
theorem sc_cleared:aB ["row","pivot","column","divisor","ahead","behind"] ["row","pivot","column","divisor"] (ak s_cleared):=sc_of
theorem sR(T:Tb K mg)(D:aU K mg "cleared" s_cleared ["row","pivot","column","divisor"]):Cal P w K mg base 1 "cleared" ["row","pivot","column","divisor"] (mP K):=by
 refine D.cal sc_cleared (λvs H Q E h=>by obtain⟨a,b,r,pr,c,n,B,d,rfl,_⟩:=h;rfl) λf cdv A outer σs H vs Q E hr h=> ?_;obtain⟨a,b,r,pr,c,n,B,d,rfl,ha,hb,hr1,hp1,hc,hn,hB,hd,k⟩:=h;refine⟨_,(ab (wset 4 sc_cleared.nd (bS K (pv 1) (pv 2)))
   (ab (wset 5 sc_cleared.nd (bS K (pv 0) (pv 2)))
   (ah (aw (wlc ["number","above"] ["divisor","ahead","behind"] [3,4,5] (CF (K:=K) (by rfl) (by rfl) T.zip_ (aa (pv 0) (aa (pv 1) af))) (iQ (K:=K) (n:=2) (by rfl) (by rfl) (cD (wnC 0) (cD (wnC 1) iP))) bw (aq AM (aq dO (aq md (pv 0) (pv 3)) (aq md (pv 1) (pv 4))) (pv 2))))))),?_⟩
 have ar:atI (r.map V.int) (c:Int)=some (.int (r.getD c 0)):=bA (by rw[hr1.1];exact hc);have ap:atI (pr.map V.int) (c:Int)=some (.int (pr.getD c 0)):=bA (by rw[hp1.1];exact hc);refine⟨_,rfl,_,rfl,b,_,_,_,rfl,rfl,hb,ap,?_⟩;refine⟨_,rfl,_,rfl,a,_,_,_,rfl,rfl,ha,ar,?_⟩;refine⟨_,rfl,_,rfl,a,b,rfl,⟨_,ha⟩,⟨_,hb⟩,?_⟩;have b26:B+B<=2^26:=by lia
 refine C5 (n:=n) (λj=> .int ((r.getD j 0*pr.getD c 0-pr.getD j 0*r.getD c 0).fdiv d)) ha hb (by rw[F3];exact hr1.1) (by rw[F3];exact hp1.1) (Gd hn (by decide)) (λi x y vs H' t R S hx hy hv sm ht hk=> ?_) λD H' hD sm hl'=> ?_
 .obtain⟨v1,v2,rfl⟩:=zI hv;obtain⟨z1,rfl,h1⟩:=aY hx;obtain⟨z2,rfl,h2⟩:=aY hy;have e1:r.getD i 0=z1:=by rw[Gb,h1];rfl
  have e2:pr.getD i 0=z2:=by rw[Gb,h2];rfl
  have q:=hk [some (.int z1),some (.int z2)] (upd H' t (.tup [.int z1, .int z2])) rfl (Same.refl _);rw[e1,e2]at q;have m1:fJ z1 (pr.getD c 0):=by rw[<-e1];exact fJ.of (hr1.at i) (hp1.at c) b26
  have m2:fJ z2 (r.getD c 0):=by rw[<-e2];exact fJ.of (hp1.at i) (hr1.at c) b26
  refine⟨t,_,rfl,SqT.of aj,rfl,_,_,rfl,_,_,rfl,rfl,?_⟩;simp only[fK,F7];exact⟨_,rfl,_,rfl,_,_,rfl,rfl,m1,_,rfl,_,rfl,_,_,rfl,rfl,m2,_,_,rfl,rfl,_,rfl,_,_,rfl,rfl,hd,q⟩
 .refine k D H' sm hD (hl'.trans ?_);unfold jm;rw[hr1.1,Hc];rfl
theorem sc_all_cleared:aB ["rows","place","column","divisor","pivot","others"] ["rows","place","column","divisor"] (ak s_all_cleared):=sc_of
theorem lH(T:Tb K mg)(D:aU K mg "all_cleared" s_all_cleared ["rows","place","column","divisor"])(ag:Cal P w K mg base 1 "cleared" ["row","pivot","column","divisor"] (mP K)):Cal P w K mg base 2 "all_cleared" ["rows","place","column","divisor"] (su K):=by
 refine D.cal sc_all_cleared (λvs H Q E h=>by obtain⟨a,xs,L,i,c,n,B,d,pr,rfl,_⟩:=h;rfl) λf cdv A outer σs H vs Q E hr h=> ?_;obtain⟨a,xs,L,i,c,n,B,d,pr,rfl,ha,hx,hbin,hL,hi,hc,hn,hB,hd,k⟩:=h;refine⟨_,(ab (wset 4 sc_all_cleared.nd (bS K (pv 0) (pv 1)))
   (ab (wset 5 sc_all_cleared.nd (aq kB (ig (hU (K:=K) (by rfl)) (pv 0) jP (jO (pv 1))) (ig (hU (K:=K) (by rfl)) (pv 0) (jO (aq dg (pv 1) ae)) jP)))
   (ah (aw (wlc ["row"] ["pivot","column","divisor"] [4,2,3] (wil K (pv 5)) (wnC 0) bw (wcal ag hr (aa (pv 0) (aa (pv 1) (aa (pv 2) (aa (pv 3) af)))))))))),?_⟩
 obtain⟨b,hb1,hb2⟩:=hx.2 i pr hi;refine⟨_,rfl,_,rfl,a,_,_,_,rfl,rfl,SqL.of ha,cR hb1,?_⟩;refine⟨_,rfl,_,rfl,_,rfl,a,_,rfl,SqL.of ha,λp1 hp1=> ?_⟩;rw[Dp];have sm1:Same H (upd H p1 (.lst (xs.take i))):=Same.new hp1;have h1:upd H p1 (.lst (xs.take i)) p1=some (.lst (xs.take i)):=aj;generalize upd H p1 (.lst (xs.take i))=H1 at*;refine⟨_,rfl,_,rfl,_,_,rfl,rfl,_,rfl,a,_,rfl,SqL.of (sm1.at ha),λp2 hp2=> ?_⟩;rw[show(i:Int)+1=((i+1:Nat):Int)from rfl,yW];have sm2:Same H1 (upd H1 p2 (.lst (xs.drop (i+1)))):=Same.new hp2;have h2:upd H1 p2 (.lst (xs.drop (i+1))) p2=some (.lst (xs.drop (i+1))):=aj;generalize upd H1 p2 (.lst (xs.drop (i+1)))=H2 at*;have hxl:=hx.1;refine⟨p1,p2,_,_,rfl,rfl,sm2.at h1,h2,?_,λq hq=> ?_⟩
 .rw[GJ,Ja];exact Gd (BO i xs.length) (Gd (show xs.length<=1000 by lia) (by decide))
 have sm3:Same H2 (upd H2 q (.lst (xs.take i++xs.drop (i+1)))):=Same.new hq;have h3:upd H2 q (.lst (xs.take i++xs.drop (i+1))) q=some (.lst (xs.take i++xs.drop (i+1))):=aj;generalize upd H2 q (.lst (xs.take i++xs.drop (i+1)))=H3 at*;have smA:Same H H3:=(sm1.trans sm2).trans sm3;have hb3:=smA.at hb2;have hx3:aK H3 (xs.take i++xs.drop (i+1)) (L.take i++L.drop (i+1)):=(hx.same smA).cut i;have lenO:(xs.take i++xs.drop (i+1)).length<=1000:=by rw[Gr,GJ,Ja];exact Gd (BO i xs.length) (by lia)
 have binO:∀r∈L.take i++L.drop (i+1),gz n B r:=λr hr'=>by
  rcases Gu.mp hr' with h|h
  .exact hbin r (Jm h)
  .exact hbin r (KH h)
 have two:∀ (j:Nat) (r:List Int),(L.take i++L.drop (i+1))[j]?=some r->2<=L.length:=λj r hj=>by have h1:=(Ga.mp hj).1;have h2:=(Ga.mp hi).1;rw[Gr,GJ,Ja]at h1;lia
 generalize xs.take i++xs.drop (i+1)=zs at*;generalize L.take i++L.drop (i+1)=N at*;refine⟨_,rfl,q,rfl,⟨_,SqL.of h3⟩,?_⟩;refine nH (λx y G=>∃ (b' c':Addr) (r:List Int),x= .ref b'/\y= .ref c'/\H3 b'=some (.lst (r.map V.int))/\G c'=some (.lst ((jm d pr r c).map V.int))) (λx y G G' e h=>by obtain⟨b',c',r,e1,e2,g1,g2⟩:=h;exact⟨b',c',r,e1,e2,g1,e.at g2⟩) (SqL.of h3) (Gd lenO (by decide)) (λj x vs D H' R S hxj hv sm hD hk=> ?_) λD H' ys hD sm hD' hlen hR=> ?_
 .obtain⟨v,rfl⟩:=aW hv;obtain⟨b',r,hr',rfl,hb'⟩:=hx3.at hxj;obtain⟨l,hl⟩:=hD;simp only[aS,fK,F7];refine⟨_,rfl,_,rfl,_,rfl,_,rfl,b',b,r,pr,c,n,B,d,rfl,SqL.of (sm.at hb'),SqL.of (sm.at hb3),binO r (Ge hr'),hbin pr (Ge hi),hc,hn,hB,hd (two j r hr'),λu H4 sm4 hu hl4=> ?_⟩;refine hk _ [some (.ref b')] H4 ⟨b',u,r,rfl,rfl,hb',?_⟩ rfl sm4;rw[c8 (az hl hu).symm];exact hl4
 .refine k D H' ys (smA.trans sm) ?_ hD' ?_
  .cases e:H D with
   |none=>rfl
   |some o=>rw[smA.at e]at hD;cases hD
  .refine aK.of (by rw[hlen,F3];exact hx3.1) λj r' y hr' hy=> ?_;rw[Gs]at hr';cases hN:N[j]? with
   |none=>rw[hN]at hr';cases hr'
   |some r=>
    rw[hN]at hr';cases hr';obtain⟨b',h1,h2⟩:=hx3.2 j r hN;obtain⟨b2,c2,r2,e1,e2,g1,g2⟩:=hR j _ y h1 hy;cases e1;rw[qU h2 g1];exact⟨c2,e2,dF.at g2⟩
theorem sc_rests:aB ["row","prime"] ["row","prime"] (ak s_rests):=sc_of
theorem AO(T:Tb K mg)(D:aU K mg "rests" s_rests ["row","prime"]):Cal P w K mg base 1 "rests" ["row","prime"] (vS K):=by
 refine D.cal sc_rests (λvs H Q E h=>by obtain⟨a,r,m,rfl,_⟩:=h;rfl) λf cdv A outer σs H vs Q E hr h=> ?_;obtain⟨a,r,m,rfl,ha,h0,hl,k⟩:=h;refine⟨_,(ab (aX (wpt aO (pv 1) ae)
     (ah (aw (cF (ja (K:=K) (by rfl)) (by rfl) T.list_ IY (aa (pv 0) af))))
     aF)
   (ah (aw (wlc ["number"] ["prime"] [1] (wil K (pv 0)) (wnC 0) bw (aq bD (pv 0) (pv 1)))))),?_⟩
 refine⟨_,rfl,rfl,_,rfl,bJ (λz=> ?_) λz=> ?_⟩
 .have e:m=0:=V.int.inj (Gx z);refine⟨_,rfl,a,_,rfl, .inl ha,λq hq=> ?_⟩;refine k q _ (Same.new hq) hq ?_;rw[aj];unfold cu;rw[F7 e]
 .have e:¬m=0:=λe=>z (F5 (by rw[e]));refine⟨_,rfl,a,rfl,⟨_,ha⟩,?_⟩;refine bo (λ_=>true) (λx=> .int (aZ x % m)) ha (by rw[F3];exact Gd hl (by decide)) (λi x vs H' R S hx hv sm hk=> ?_) λq H' hq sm hl'=> ?_
  .obtain⟨v,rfl⟩:=aW hv;obtain⟨y,rfl,hy⟩:=aY hx;have q:=hk [some (.int y)] H' rfl (Same.refl _);rw[F7 rfl]at q;simp only[aS,fK,F7];exact⟨_,rfl,_,rfl,_,_,rfl,rfl,(by show(0:Int)<m;lia),q⟩
  .refine k q H' sm hq (hl'.trans ?_);have:=a8 (λ_=>true) (λz=>z % m) r;rw[this,Iq.mpr (λ_ _=>rfl)];unfold cu;rw[F8 e]
theorem sc_rank_of:aB ["rows","prime","left","rank","divisor","column","place","ahead"] ["rows","prime"] (ak s_rank_of):=sc_of
theorem uS(T:Tb K mg)(D:aU K mg "rank_of" s_rank_of ["rows","prime"])(ax:Cal P w K mg base 1 "rests" ["row","prime"] (vS K))(ag:Cal P w K mg base 1 "pivot_place" ["rows","column"] (vW K))(ai:Cal P w K mg base 2 "all_cleared" ["rows","place","column","divisor"] (su K)):Cal P w K mg base 3 "rank_of" ["rows","prime"] (se K):=by
 refine D.cal sc_rank_of (λvs H Q E h=>by obtain⟨a,xs,M,n,m,rfl,_⟩:=h;rfl) λf cdv A outer σs H vs Q E hr h=> ?_;obtain⟨a,xs,M,n,m,rfl,ha,hx,hM,n8,hrow,pm,k⟩:=h;refine⟨_,(ab (aX (wpt aO (wlen K T.len_ (pv 0)) ae)
     (ah (aw ae))
     aF)
   (ab (wls 2 sc_rank_of.nd ["row"] ["prime"] [1] (wil K (pv 0)) (wnC 0) bw (wcal ax hr (aa (pv 0) (aa (pv 1) af))))
   (ab (wset 3 sc_rank_of.nd ae)
   (ab (wset 4 sc_rank_of.nd ae)
   (ab (wfor (wrng T.range_ (wlen K T.len_ (bS K (pv 0) ae))) (wname 5 sc_rank_of.nd)
     (ab (wset 6 sc_rank_of.nd (wcal ag hr (aa (pv 2) (aa (pv 5) af))))
     (ah (aX (wpt qK (pv 6) fz)
       (ab (wset 7 sc_rank_of.nd (bS K (bS K (pv 2) (pv 6)) (pv 5)))
       (ab (wls 2 sc_rank_of.nd ["row"] ["prime"] [1] (wil K (wcal ai hr (aa (pv 2) (aa (pv 6) (aa (pv 5) (aa (pv 4) af)))))) (wnC 0) bw (wcal ax hr (aa (pv 0) (aa (pv 1) af))))
       (ab (wset 3 sc_rank_of.nd (aq dg (pv 3) ae))
       (ah (aX (wpt aO (pv 1) ae)
         (ah (wset 4 sc_rank_of.nd (pv 7)))
         aF)))))
       aF))))
   (ah (aw (pv 3)))))))),?_⟩
 have hxl:=hx.1;refine⟨_,rfl,a,_,rfl, .inl (SqL.of ha),rfl,_,rfl,bJ (λz=> ?_) λz=> ?_⟩
 .have e:M=[]:=by have e1:((xs.length:Nat):Int)=0:=V.int.inj (Gx z);exact Kb.mp (by lia)
  subst e;refine k 0 H (Same.refl _) ?_ (qo pm.one _ _);intro S T hS hT ls lt
  match S,ls with
  |s::_,_=>exact absurd (hS s Gn) (λh=>nomatch h)
 have m0:0<M.length:=by refine KS λe=>z (F5 ?_);rw[hxl,e];rfl
 refine⟨_,rfl,a,rfl,⟨_,SqL.of ha⟩,?_⟩;refine nH (λx y G=>∃ (b' c':Addr) (r:List Int),x= .ref b'/\y= .ref c'/\H b'=some (.lst (r.map V.int))/\G c'=some (.lst ((cu m r).map V.int))) (λx y G G' e h=>by obtain⟨b',c',r,e1,e2,g1,g2⟩:=h;exact⟨b',c',r,e1,e2,g1,e.at g2⟩) (SqL.of ha) (Gd (show xs.length<=100 by lia) (by decide)) (λj x vs D H' R S hxj hv sm hD hk=> ?_) λq H1 ys hq sm1 hq1 hlen hR=> ?_
 .obtain⟨v,rfl⟩:=aW hv;obtain⟨b',r,hr',rfl,hb'⟩:=hx.at hxj;obtain⟨l,hl⟩:=hD;simp only[aS,fK,F7];refine⟨_,rfl,_,rfl,b',r,m,rfl,SqL.of (sm.at hb'),pm.nn,by rw[(hrow r (Ge hr')).1];lia,λu H4 sm4 hu hu4=> ?_⟩;refine hk _ [some (.ref b')] _ ⟨b',u,r,rfl,rfl,hb',?_⟩ rfl sm4;rw[c8 (az hl hu).symm];exact hu4
 have hy1:aK H1 ys (M.map (cu m)):=by
  refine aK.of (by rw[hlen,F3];exact hxl) λj r' y hr' hy=> ?_;rw[Gs]at hr';cases hN:M[j]? with
  |none=>rw[hN]at hr';cases hr'
  |some r=>
   rw[hN]at hr';cases hr';obtain⟨b',h1,h2⟩:=hx.2 j r hN;obtain⟨b2,c2,r2,e1,e2,g1,g2⟩:=hR j _ y h1 hy;cases e1;rw[qU h2 g1];exact⟨c2,e2,dF.at g2⟩
 clear hR;obtain⟨b0,hb1,hb2⟩:=hx.2 0 _ (Gp m0);have l0:=(hrow _ (Ik m0)).1;refine⟨_,rfl,a,_,_,_,rfl,rfl,SqL.of (sm1.at ha),cR (j:=0) hb1,b0,_,rfl, .inl (SqL.of (sm1.at hb2)),_,rfl,by rw[F3];lia,by rw[F3];lia,?_⟩;rw[F3,l0,F6];have mapped:∀ (L:List (List Int)) (c:Nat) (kk:Nat),(Van m kk ((L.map (cu m)).map bH) (List.range' c (n-c))->Van m kk (L.map bH) (List.range' c (n-c)))/\(Mnr m kk ((L.map (cu m)).map bH) (List.range' c (n-c))->Mnr m kk (L.map bH) (List.range' c (n-c))):=λL c kk=>by
  have e:(L.map (cu m)).map bH=(L.map bH).map (A4 m):=by rw[Hc,Hc];exact HP λr _=>xH m r
  rw[e];exact⟨Ce λr _ j _=>sX m r j,Ck λr _ j _=>sX m r j⟩
 refine bK (n:=n) (λc σ H'=>Same H H'/\∃ (q:Addr) (ys:List V) (L:List (List Int)) (rk:Nat) (d:Int) (v5 v6 v7:Option V),H' q=some (.lst ys)/\aK H' ys L/\L.length+rk=M.length/\(∀r∈L,gz n (eT rk) r)/\(0<m->∀r∈L,∀z∈r,0<=z/\z<m)/\d≠0/\d.natAbs<2^eT (rk-1)/\¬m∣d/\(m≠0->d=1)/\lE d (L.map bH) (List.range' c (n-c))/\
  (∀kk,Van m kk (L.map bH) (List.range' c (n-c))->Van m (rk+kk) (M.map bH) (List.range n))/\(∀kk,Mnr m kk (L.map bH) (List.range' c (n-c))->Mnr m (rk+kk) (M.map bH) (List.range n))/\
  σ=[some (.ref a),some (.int m),some (.ref q),some (.int (rk:Int)),some (.int d),v5,v6,v7]) ⟨sm1,q,ys,M.map (cu m),0,1,none,none,none,hq1,hy1,by rw[F3];rfl,λr hr'=> ?_,λhp r hr'=> ?_,by decide,by decide,pm.one,λ_=>rfl,gv _ _,λkk v=> ?_,λkk v=> ?_,rfl⟩ ?_ ?_
 .obtain⟨r0,hr0,rfl⟩:=Gz.mp hr';exact sE pm.nn pm.lt (by decide) (hrow r0 hr0)
 .obtain⟨r0,hr0,rfl⟩:=Gz.mp hr';exact wo hp
 .have:=(mapped M 0 kk).1 v;rw[show List.range' 0 (n-0)=List.range n by rw[Ky];rfl]at this;rw[Jo];exact this
 .have:=(mapped M 0 kk).2 v;rw[show List.range' 0 (n-0)=List.range n by rw[Ky];rfl]at this;rw[Jo];exact this
 .rintro c σ H' hc ⟨sm',q',ys',L,rk,d,v5,v6,v7,hq',hy',hL,hB,hin,hd,hdb,hmd,hd1,good,hVan,hSub,rfl⟩;rw[Io];rw[uM hc]at good hVan hSub;refine⟨_,rfl,_,rfl,q',ys',L,c,n,rfl,hq',hy',λr hr'=>(hB r hr').1,hc,λi pr H2 sm2 hi hne=> ?_,λhall H2 sm2=> ?_⟩
  .have prm:=Ge hi;have hq2:=sm2.at hq';have hy2:=hy'.same sm2;have il:=(Ga.mp hi).1;have hcut:=BN hi;have hcut2:L.map bH=(L.take i).map bH++bH pr::(L.drop (i+1)).map bH:=by
    conv=>lhs;rw[hcut]
    rw[GO,GP]
   have hmp:¬m∣pr.getD c 0:=Ey pm.nn (λhp=>hin hp pr prm _ (Ct hne)) hne;have G2:=yP good hd (show bH pr∈L.map bH from Gz.mpr ⟨pr,prm,rfl⟩) hne (L:=(L.take i).map bH++(L.drop (i+1)).map bH) λr hr'=>by
    rw[hcut2];rcases Gu.mp hr' with h|h
    .exact Gu.mpr (.inl h)
    .exact Gu.mpr (.inr (Gm _ h))
   have eN:((L.take i).map bH++(L.drop (i+1)).map bH).map (bB d (bH pr) c)=((L.take i++L.drop (i+1)).map λr=>jm d pr r c).map bH:=by
    rw[<-GO,Hc,Hc];refine HP λr hr'=> ?_;have rm:r∈L:=by
     rcases Gu.mp hr' with h|h
     .exact Jm h
     .exact KH h
    exact(Am (hB pr prm).1 (hB r rm).1 hc).symm
   have VS:∀kk,Van m kk (((L.take i++L.drop (i+1)).map λr=>jm d pr r c).map bH) (List.range' (c+1) (n- (c+1)))->Van m (rk+1+kk) (M.map bH) (List.range n):=λkk v=>by
    rw[<-eN]at v;have:=hVan _ (mE pm.mul good hd hcut2 hmp v)
    rwa [show rk+(kk+1)=rk+1+kk by lia]at this
   have US:∀kk,Mnr m kk (((L.take i++L.drop (i+1)).map λr=>jm d pr r c).map bH) (List.range' (c+1) (n- (c+1)))->Mnr m (rk+1+kk) (M.map bH) (List.range n):=λkk v=>by
    rw[<-eN]at v;have:=hSub _ (mI pm.mul pm.one good hd hmd hcut2 hmp v)
    rwa [show rk+(kk+1)=rk+1+kk by lia]at this
   rw[eN]at G2;have bN:∀r∈(L.take i++L.drop (i+1)).map λr=>jm d pr r c,gz n (eT (rk+1)) r:=λx hx'=>by
    obtain⟨r,hr',rfl⟩:=Gz.mp hx';have rm:r∈L:=by
     rcases Gu.mp hr' with h|h
     .exact Jm h
     .exact KH h
    exact Dq (hB pr prm) (hB r rm)
   have lN:((L.take i++L.drop (i+1)).map λr=>jm d pr r c).length+(rk+1)=M.length:=by rw[F3,Gr,GJ,Ja];lia
   obtain⟨b,hb1',hb2'⟩:=hy2.2 i pr hi;have ar:atI (pr.map V.int) (c:Int)=some (.int (pr.getD c 0)):=bA (by rw[(hB pr prm).1];exact hc);have cfd:2<=L.length->CFd 0 d:=λh2=>⟨hd,ED hdb (rp _ (by lia)) hd⟩;have rk8:rk<9:=by lia
   refine⟨_,rfl,rfl,_,rfl,kD ?_⟩;refine⟨_,rfl,_,rfl,q',_,_,_,rfl,rfl,SqL.of hq2,cR hb1',_,rfl,b,_,_,_,rfl,rfl,SqL.of hb2',ar,?_⟩;generalize hN:(L.take i++L.drop (i+1)).map (λr=>jm d pr r c)=N at*;refine⟨_,rfl,_,rfl,_,rfl,_,rfl,q',ys',L,i,c,n,eT rk,d,pr,rfl,hq2,hy2,hB,by lia,hi,hc,by lia,zu rk rk8,cfd,λu H4 zs sm4 hu hu4 hz4=> ?_⟩;rw[hN]at hz4;have zl:=hz4.1;refine⟨u,rfl,⟨_,SqL.of hu4⟩,?_⟩;refine nH (λx y G=>∃ (b' c':Addr) (r:List Int),x= .ref b'/\y= .ref c'/\H4 b'=some (.lst (r.map V.int))/\G c'=some (.lst ((cu m r).map V.int))) (λx y G G' e h=>by obtain⟨b',c',r,e1,e2,g1,g2⟩:=h;exact⟨b',c',r,e1,e2,g1,e.at g2⟩) (SqL.of hu4) (Gd (show zs.length<=100 by lia) (by decide)) (λj x vs D H' R S hxj hv sm hD hk=> ?_) λq5 H5 ws hq5 sm5 hq5' hlen5 hR=> ?_
   .obtain⟨v,rfl⟩:=aW hv;obtain⟨b',r,hr',rfl,hb'⟩:=hz4.at hxj;obtain⟨l,hl⟩:=hD;simp only[aS,fK,F7];refine⟨_,rfl,_,rfl,b',r,m,rfl,SqL.of (sm.at hb'),pm.nn,by rw[(bN r (Ge hr')).1];lia,λu H4 sm4 hu hu4=> ?_⟩;refine hk _ [some (.ref b')] _ ⟨b',u,r,rfl,rfl,hb',?_⟩ rfl sm4;rw[c8 (az hl hu).symm];exact hu4
   have hw5:aK H5 ws (N.map (cu m)):=by
    refine aK.of (by rw[hlen5,F3];exact zl) λj r' y hr' hy=> ?_;rw[Gs]at hr';cases hN':N[j]? with
    |none=>rw[hN']at hr';cases hr'
    |some r=>
     rw[hN']at hr';cases hr';obtain⟨b',h1,h2⟩:=hz4.2 j r hN';obtain⟨b2,c2,r2,e1,e2,g1,g2⟩:=hR j _ y h1 hy;cases e1;rw[qU h2 g1];exact⟨c2,e2,dF.at g2⟩
   clear hR;have smA:Same H H5:=((sm'.trans sm2).trans sm4).trans sm5;have fB:∀r∈N.map (cu m),gz n (eT (rk+1)) r:=λr hr'=>by obtain⟨r0,hr0,rfl⟩:=Gz.mp hr';exact sE pm.nn pm.lt (gO _) (bN r0 hr0)
   have fI:0<m->∀r∈N.map (cu m),∀z∈r,0<=z/\z<m:=λhp r hr'=>by obtain⟨r0,hr0,rfl⟩:=Gz.mp hr';exact wo hp
   have fV:=λkk v=>VS kk ((mapped N (c+1) kk).1 v);have fU:=λkk v=>US kk ((mapped N (c+1) kk).2 v);refine⟨_,rfl,_,_,rfl,rfl,?_⟩;rw[show(rk:Int)+1=((rk+1:Nat):Int) by lia];refine⟨_,rfl,rfl,_,rfl,bJ (λz=> ?_) λz=> ?_⟩
   .have e:m=0:=V.int.inj (Gx z);have eM:N.map (cu m)=N:=by
     have:cu m=id:=by funext r;unfold cu;rw[F7 e];rfl
     rw[this,Jk]
    refine⟨_,rfl,smA,q5,ws,N.map (cu m),rk+1,pr.getD c 0,_,_,_,hq5',hw5,by rw[F3];exact lN,fB,fI,hne,(hB pr prm).at c,hmp,λh=>absurd e h,?_,fV,fU,rfl⟩;rw[eM];exact G2
   .have e:m≠0:=λe=>z (F5 (by rw[e]));have ed:=hd1 e;subst ed;exact⟨smA,q5,ws,N.map (cu m),rk+1,1,_,_,_,hq5',hw5,by rw[F3];exact lN,fB,fI,by decide,F9 (show(1:Int).natAbs<2^7 by decide) (Gv (by decide) (gO _)),pm.one,λ_=>rfl,gv _ _,fV,fU,rfl⟩
  .refine⟨_,rfl,rfl,_,rfl,dQ ?_⟩;have zr:∀r∈L.map bH,m∣r c:=λr hr'=>by obtain⟨l,hl,rfl⟩:=Gz.mp hr';have:bH l c=0:=hall l hl;rw[this];exact Jz m
   refine⟨sm'.trans sm2,q',ys',L,rk,d,_,_,_,sm2.at hq',hy'.same sm2,hL,hB,hin,hd,hdb,hmd,hd1,?_,λkk v=>hVan kk (jv zr v),λkk v=>hSub kk (rS v),rfl⟩;exact λS T kk hS hT=>good S T kk hS λt ht=>Gm _ (hT t ht)
 .rintro σ H' ⟨sm',q',ys',L,rk,d,v5,v6,v7,hq',hy',hL,hB,hin,hd,hdb,hmd,hd1,good,hVan,hSub,rfl⟩;rw[Lb]at hVan hSub;exact⟨_,rfl,k rk H' sm' (hVan 1 (qk m _)) (hSub 0 (qo pm.one _ _))⟩
def i8(p:Int)(b:Bool):List Int:=if b=true then(List.range' 1 (p.toNat-1)).map λi:Nat=>(i:Int)else [0]
def fM(p:Int)(found:List (List Int))(b:Bool):List (List Int):=found.flatMap λcol=>(i8 p b).map λz=>col++[z]
def cv(p:Int)(bs:List Bool):List (List Int):=bs.foldl (fM p) [[]]
theorem jX(h:p<=3)(b:Bool):(i8 p b).length<=2:=by
 unfold i8;split
 .rw[F3,List.length_range'];lia
 .decide
theorem iy{α β:Type}{f:α->List β}{k:Nat}(h:∀a,(f a).length<=k):∀l:List α,(l.flatMap f).length<=l.length*k
 | []=>by simp
 |a::l=>by rw[List.flatMap_cons,Gr,GA,Nat.succ_mul];have:=h a;have:=iy h l;lia
theorem yY(h:p<=3)(bs:List Bool):(cv p bs).length<=2^bs.length:=by
 have go:∀ (bs:List Bool) (found:List (List Int)),(bs.foldl (fM p) found).length<=found.length*2^bs.length:=λbs=>by
  induction bs with
  |nil=>intro found;simp
  |cons b bs ih=>
   intro found;rw[II,GA,JN];have h1:=ih (fM p found b);have h2:(fM p found b).length<=found.length*2:=iy (λa=>by rw[F3];exact jX h b) found;have h3:=Nat.mul_le_mul_right (2^bs.length) h2;rw[Ls,Nat.mul_comm 2]at h3;lia
 have:=go bs [[]];unfold cv;simpa using this
theorem oe(p:Int){bs:List Bool}(h:bs[i]?=some b):cv p (bs.take (i+1))=fM p (cv p (bs.take i)) b:=by unfold cv;rw[Hz,h,IK];rfl
theorem yw:x∈fM p found b↔∃col∈found,∃z∈i8 p b,x=col++[z]:=by
 unfold fM;rw[List.mem_flatMap];constructor
 .rintro⟨col,hc,h⟩;obtain⟨z,hz,rfl⟩:=Gz.mp h;exact⟨col,hc,z,hz,rfl⟩
 .rintro⟨col,hc,z,hz,rfl⟩;exact⟨col,hc,Gz.mpr ⟨z,hz,rfl⟩⟩
theorem tm(hp:0<p):z∈i8 p b↔0<=z/\z<p/\(b=true↔¬z=0):=by
 unfold i8;cases b with
 |true=>
  rw[F7 rfl,Gz];constructor
  .rintro⟨i,hi,rfl⟩;obtain⟨j,hj,rfl⟩:=List.mem_range'.mp hi;exact⟨by lia,by lia,λ_=>by lia,λ_=>rfl⟩
  .rintro⟨h1,h2,h3⟩;have h3:=h3.mp rfl;exact⟨z.toNat,List.mem_range'.mpr ⟨z.toNat-1,by lia,by lia⟩,by lia⟩
 |false=>
  rw[F8 Gj,Gw];constructor
  .rintro rfl;exact⟨by lia,hp,λz=>(nomatch z),λz=>absurd rfl z⟩
  .rintro⟨_,_,h3⟩;exact Hq λz=>(nomatch h3.mpr z)
theorem gs(hp:0<p)(bs:List Bool)(x:List Int):x∈cv p bs↔x.length=bs.length/\∀ (i:Nat) (b:Bool),bs[i]?=some b->0<=x.getD i 0/\x.getD i 0<p/\(b=true↔¬x.getD i 0=0):=by
 have go:∀ (k:Nat) (x:List Int),k<=bs.length->(x∈cv p (bs.take k)↔x.length=k/\∀ (i:Nat) (b:Bool),i<k->bs[i]?=some b->0<=x.getD i 0/\x.getD i 0<p/\(b=true↔¬x.getD i 0=0)):=λk=>by
  induction k with
  |zero=>
   intro x _;rw[List.take_zero];show x∈[[]]↔_;rw[Gw];exact⟨λe=>⟨by rw[e];rfl,λi b h=>absurd h (J2 _)⟩,λh=>JK h.1⟩
  |succ k ih=>
   intro x hk;have hb:bs[k]?=some bs[k]:=Gp (by lia);rw[oe p hb,yw];constructor
   .rintro⟨col,hc,z,hz,rfl⟩;obtain⟨h1,h2⟩:=(ih col (by lia)).mp hc;have hz:=(tm hp).mp hz;refine⟨by rw[Gr,h1];rfl,λi b hi hb'=> ?_⟩;by_cases e:i=k
    .subst e;rw[hb]at hb';cases hb';have:(col++[z]).getD i 0=z:=by rw[Gb,GI (by lia),h1,Lb];rfl
     rw[this];exact hz
    .have:(col++[z]).getD i 0=col.getD i 0:=by rw[Gb,GH (by lia),<-Gb]
     rw[this];exact h2 i b (by lia) hb'
   .rintro⟨h1,h2⟩;have hx:x=x.take k++[x.getD k 0]:=by
     have hk:k<x.length:=by lia
     have:x.getD k 0=x[k]:=by simp[hk]
     rw[this];have e1:x.take (k+1)=x:=Jf (by lia)
     conv=>lhs;rw[<-e1,Hz,Gp hk]
     rfl
    refine⟨x.take k,(ih _ (by lia)).mpr ⟨by rw[GJ];lia,λi b hi hb'=> ?_⟩,_,(tm hp).mpr (h2 k _ (by lia) hb),hx⟩;have:(x.take k).getD i 0=x.getD i 0:=by rw[Gb,I0 hi,<-Gb]
    rw[this];exact h2 i b (by lia) hb'
 have:=go bs.length x (Gf _);rw[HN]at this;rw[this];refine and_congr_right λ_=>⟨λh i b hb=>h i b (Ga.mp hb).1 hb,λh i b _ hb=>h i b hb⟩
inductive uz(K:PySem.W.Frag)(vs:List V)(H:Hp)(Q:VK):Prop
 |mk (a:Addr) (bs:List Bool) (p:Int) (y_0:vs=[.ref a, .int p]) (y_1:SqL K H a (bs.map V.bl)) (y_2:bs.length<=8) (y_3:0<p) (y_4:p<=3) (y_5:∀l xs H',Same H H'->H l=none->H' l=some (.lst xs)->aK H' xs (cv p bs)->Q (.ref l) H'):uz K vs H Q
def we(K:PySem.W.Frag):Sp:=λvs H Q _=>uz K vs H Q
theorem kQ(h:aK H xs M)(g:aK H ys N):aK H (xs++ys) (M++N):=by
 refine⟨by rw[Gr,Gr,h.1,g.1],λi r hr=> ?_⟩;by_cases hi:i<M.length
 .rw[GH hi]at hr;obtain⟨a,h1,h2⟩:=h.2 i r hr;exact⟨a,by rw[GH (by rw[h.1];exact hi)];exact h1,h2⟩
 .rw[GI (by lia)]at hr;obtain⟨a,h1,h2⟩:=g.2 _ r hr;exact⟨a,by rw[GI (by rw[h.1];lia),h.1];exact h1,h2⟩
theorem sc_columns_with:aB ["filled","prime","found","is_filled","numbers","longer","column"] ["filled","prime"] (ak s_columns_with):=sc_of
theorem lG(T:Tb K mg)(D:aU K mg "columns_with" s_columns_with ["filled","prime"]):Cal P w K mg base 1 "columns_with" ["filled","prime"] (we K):=by
 refine D.cal sc_columns_with (λvs H Q E h=>by obtain⟨n,bs,p,rfl,_⟩:=h;rfl) λf cdv A outer σs H vs Q E hr h=> ?_;obtain⟨a,bs,p,rfl,hf,b8,p0,p3,k⟩:=h;refine⟨_,(ab (wset 2 sc_columns_with.nd (cI (aa (cI af) af)))
   (ab (wfor (wil K (pv 0)) (wname 3 sc_columns_with.nd)
     (ab (wset 4 sc_columns_with.nd (jQ (Aw (pv 3) (by intro _;rfl)) (cF (tX (by rfl)) (by rfl) T.list_ IY (aa (CJ (by rfl) T.range_ (aa ae (aa (pv 1) af))) af)) (cI (aa ae af))))
     (ab (wset 5 sc_columns_with.nd (cI af))
     (ab (wfor (wil K (pv 2)) (wname 6 sc_columns_with.nd)
       (ah (bR (dW (K:=K) (by rfl) HU PySem.F.slot_list_extend PySem.F.type_list_extend yo (pv 5) (aa (wlc ["number"] ["column"] [6] (wil K (pv 4)) (wnC 0) bw (aq kB (pv 1) (cI (aa (pv 0) af)))) af)))))
     (ah (wset 2 sc_columns_with.nd (pv 5)))))))
   (ah (aw (pv 2))))),?_⟩
 refine⟨by decide,λq0 hq0=>⟨Gd (Gf 1) (by decide),λp0' hp0=> ?_⟩⟩;have sm0:Same H (upd (upd H q0 (.lst [])) p0' (.lst [.ref q0])):=(Same.new hq0).trans (Same.new hp0);have hp0':H p0'=none:=(Same.new hq0).free hp0;have ne0:q0≠p0':=λz=>by rw[<-z,aj]at hp0;cases hp0
 refine⟨_,rfl,a,rfl,⟨_,sm0.seq hf⟩,?_⟩;have cl:∀j,(cv p (bs.take j)).length<=256:=λj=>Gd (yY p3 _) (show 2^(bs.take j).length<=2^8 from Gv (by decide) (by rw[GJ];lia));refine bz (K:=K) (a:=a) (xs:=bs.map V.bl) (λi σ H2=>∃ (l:Addr) (xs:List V) (v3 v4 v5 v6:Option V),Same H H2/\H l=none/\H2 l=some (.lst xs)/\aK H2 xs (cv p (bs.take i))/\σ=[some (.ref a),some (.int p),some (.ref l),v3,v4,v5,v6])
  ⟨p0',[.ref q0],none,none,none,none,sm0,hp0',aj,aK.of rfl (λj r y h1 h2=>by
   cases j with
   |zero=>
    cases h1;cases h2;exact⟨q0,rfl,by rw[av ne0,aj];rfl⟩
   |succ j=>simp at h2),rfl⟩ (λi σ H2 _ h=>by obtain⟨_,_,_,_,_,_,sm,_⟩:=h;exact sm.seq hf) ?_ ?_
 .rintro i x σ H2 hi ⟨l,xs,v3,v4,v5,v6,sm,hl,hxs,hR,rfl⟩;rw[Gs]at hi;obtain⟨b,hb,rfl⟩:=Kh.mp hi;dsimp only[aS];refine eg (λσ' H'=>∃nm:Addr,Same H2 H'/\H' nm=some (.lst ((i8 p b).map V.int))/\σ'=[some (.ref a),some (.int p),some (.ref l),some (.bl b),some (.ref nm),v5,v6]) ?_ ?_
  .rintro σ' H3 ⟨nm,sm3,hn,rfl⟩;refine⟨by decide,λlg hlg=> ?_⟩;have sm4:Same H3 (upd H3 lg (.lst [])):=Same.new hlg;have hx3:=sm3.at hxs;have hR3:=hR.same sm3;refine⟨_,rfl,l,rfl,⟨_,SqL.of (sm4.at hx3)⟩,?_⟩;refine bz (K:=K) (a:=l) (xs:=xs) (λj σ H5=>∃ (ys:List V) (v6:Option V),Same H3 H5/\H5 lg=some (.lst ys)/\aK (hide H5 lg) ys (fM p ((cv p (bs.take i)).take j) b)/\σ=[some (.ref a),some (.int p),some (.ref l),some (.bl b),some (.ref nm),some (.ref lg),v6])
    ⟨[],v6,sm4,aj,⟨rfl,λi r hr=>by simp[fM]at hr⟩,rfl⟩ (λj σ H5 _ h=>by obtain⟨_,_,sm5,_⟩:=h;exact SqL.of (sm5.at hx3)) ?_ ?_
   .rintro j x σ H5 hj ⟨ys,v6,sm5,hL,hY,rfl⟩;obtain⟨ca,col,hcol,rfl,hca⟩:=hR3.at hj;have hca5:=sm5.at hca;dsimp only[aS];refine⟨_,rfl, .inl ⟨rfl,_,SqL.of hL⟩,?_⟩;have hn5:=sm5.at hn;refine⟨_,rfl,nm,rfl,⟨_,SqL.of hn5⟩,?_⟩;have jl:j<(cv p (bs.take i)).length:=(Ga.mp hcol).1;have cl8:col.length<=8:=by have:=((gs p0 _ col).mp (Ge hcol)).1;rw[this,GJ];lia
    refine Bj (λm y Hh=>∃ (c:Addr) (z:Int),y= .ref c/\H5 c=none/\(i8 p b)[m]?=some z/\Hh c=some (.lst ((col++[z]).map V.int))) (λ_ y Hh H' e ⟨c,z,h1,h0,h3,h2⟩=>⟨c,z,h1,h0,h3,e.at h2⟩) (SqL.of hn5) (by rw[F3];exact Gd (jX p3 b) (by decide)) (λm x vs D H6 R S hx hv sm6 hD hk=> ?_) λD6 H6 zs hD6 sm6 hl6 hyl hys=> ?_
    .obtain⟨v,rfl⟩:=aW hv;obtain⟨z,rfl,hz⟩:=aY hx;simp only[aS,fK,F7];obtain⟨dl,hDl⟩:=hD;refine⟨_,rfl,_,rfl,Gd (Gf 1) (by decide),λu hu=> ?_⟩;have hc6:=(Same.new (o:= .lst [.int z]) hu).at (sm6.at hca5);refine⟨ca,u,_,_,rfl,rfl,hc6,aj,by rw[F3];exact Gd (Nat.add_le_add_right cl8 1) (by decide),λc hc=> ?_⟩;have hD6:=(Same.new (o:= .lst [.int z]) hu).at hDl;refine hk (.ref c) [some (.int z)] _ ⟨c,z,rfl,(sm6.trans (Same.new hu)).free hc,hz,?_⟩ rfl ((Same.new hu).trans (Same.new hc));rw[c8 (λz=>by rw[z,hD6]at hc;cases hc),aj,GO];rfl
    .have hR6:aK (hide H6 lg) zs ((i8 p b).map λz=>col++[z]):=by
      refine aK.of (by rw[hyl,F3,F3]) λm r y h1 h2=> ?_;obtain⟨c,z,rfl,h0,h3,h4⟩:=hys m y h2;rw[Gs,h3]at h1;cases h1;have nc:c≠lg:=λz=>by rw[z,hL]at h0;cases h0
      exact⟨c,rfl,by rw[c8 nc];exact dF.at h4⟩
     have el:ys.length+zs.length<=sizeLine:=by have e1:=hY.1;have e2:(fM p ((cv p (bs.take i)).take j) b).length<=((cv p (bs.take i)).take j).length*2:=iy (λa=>by rw[F3];exact jX p3 b) _;have e3:=jX p3 b;have e4:=cl i;rw[GJ]at e2;rw[F3]at hyl;exact Gd (show ys.length+zs.length<=1000 by lia) (by decide)
     refine⟨lg,D6,ys,zs,rfl,rfl,sm6.at hL,hl6,el,?_⟩;refine⟨ys++zs,_,(sm5.trans sm6).upd hlg,aj,?_,rfl⟩;rw[iw,Hz,hcol];have e5:fM p ((cv p (bs.take i)).take j++[col]) b=fM p ((cv p (bs.take i)).take j) b++(i8 p b).map λz=>col++[z]:=by unfold fM;rw[List.flatMap_append,List.flatMap_cons,List.flatMap_nil,Ic]
     show aK (hide H6 lg) (ys++zs) (fM p ((cv p (bs.take i)).take j++[col]) b);rw[e5];exact kQ (hY.same (gu sm6)) hR6
   .rintro σ H5 ⟨ys,v6,sm5,hL,hY,rfl⟩;have hlH:H lg=none:=sm.free (sm3.free hlg);rw[hR3.1,HN]at hY;refine⟨_,rfl,lg,ys,_,_,_,_,(sm.trans sm3).trans sm5,hlH,hL,?_,rfl⟩;rw[oe p hb];exact hY.same dF
  .intro hrest;refine⟨_,rfl,b,rfl,?_⟩;cases b with
   |true=>
    refine kD ?_;refine⟨_,rfl,1,p,rfl,λr hr1=>⟨r,p.toNat-1,rfl,by rw[aj,show((p.toNat-1+1:Nat):Int)=p by lia],by lia,λnm hnm=> ?_⟩⟩;exact hrest _ _ ⟨nm,(Same.new hr1).trans (Same.new hnm),aj,rfl⟩
   |false=>
    refine dQ ?_;exact⟨Gd (Gf 1) (by decide),λnm hnm=>hrest _ _ ⟨nm,Same.new hnm,aj,rfl⟩⟩
 .rintro σ H2 ⟨l,xs,v3,v4,v5,v6,sm,hl,hxs,hR,rfl⟩;rw[F3,HN]at hR;exact⟨_,rfl,k l xs H2 sm hl hxs hR⟩
def cX(r:Nat->Nat)(R B y:Nat):List Bool:=(bits B).map λz=>decide (r (j6 B z.toNat y)=R)
inductive qd(Z:Hs)(vs:List V)(H:Hp)(Q:VK):Prop
 |mk (h d:Addr) (n R G B y:Nat) (p:Int) (r:Nat->Nat) (ks:List Nat) (q:Nat->Addr) (c:Nat->List Int) (y_0:vs=[.ref h, .int p, .ref d, .int (B:Int), .int (y:Int)]) (y_1:Z.ho H h n r) (y_2:n<=8) (y_3:r (2^n-1)=R) (y_4:R<=8) (y_5:bP p) (y_6:0<p) (y_7:p<=3) (y_8:eV H d ks q c) (y_9:rH p R G ks c) (y_10:G<2^n) (y_11:y<n) (y_12:G.testBit y=false) (y_13:B<2^n) (y_14:sz B=R) (y_15:(∀q' col H',Same H H'->H' q'=some (.lst (col.map V.int))->col∈cv p (cX r R B y)->jt p R r (cf c y col) G y->Q (.ref q') H')) (y_16:(∀H',Same H H'->(∀col∈cv p (cX r R B y),¬jt p R r (cf c y col) G y)->Q .non H')):qd Z vs H Q
def so(Z:Hs):Sp:=λvs H Q _=>qd Z vs H Q
theorem BF(hB:B<2^n)(hy:y<n):j6 B t y<2^n:=aQ (Gq (iV _ _) hB) hy
theorem sc_column_for:aB ["house","prime","columns","base","thing","whole","filled","column"] ["house","prime","columns","base","thing"] (ak s_column_for):=sc_of
theorem oH{Z:Hs}(T:Tb K mg)(zok:eJ Z)(hc:∀C,Z.dom C->HC K C_House C)(D:aU K mg "column_for" s_column_for ["house","prime","columns","base","thing"])(ay:∀C,Z.dom C->bV P w K mg base 4 C "rank" ["self","s"] (fL Z C))
  (ai:Cal P w K mg base 5 "whole_rank" ["house"] (d9 Z)) (ax:Cal P w K mg base 2 "things" ["s"] ee) (ar:Cal P w K mg base 2 "exchanged" ["s","thing","y"] kP) (ag:Cal P w K mg base 1 "columns_with" ["filled","prime"] (we K)) (aA:Cal P w K mg base 6 "fits" ["house","prime","columns","thing","column"] (Ai Z)):
  Cal P w K mg base 7 "column_for" ["house","prime","columns","base","thing"] (so Z):=by
 refine D.cal sc_column_for (λvs H Q E h=>by obtain⟨h,d,n,R,G,B,y,p,r,ks,q,c,rfl,_⟩:=h;rfl) λf cdv A outer σs H vs Q E hr h=> ?_;obtain⟨h,d,n,R,G,B,y,p,r,ks,q,c,rfl,hX,n8,rR,R8,pm,p0,p3,hC,hK,hG,yn,hyG,hB,zB,k1,k2⟩:=h;refine⟨_,(ab (wset 5 sc_column_for.nd (wcal ai hr (aa (pv 0) af)))
   (ab (wls 6 sc_column_for.nd ["old"] ["whole","house","base","thing"] [5,0,3,4] (wil K (wcal ax hr (aa (pv 3) af))) (wnC 0) bw (wpe aO (dq ay hr (by decide) (pv 2) (aa (wcal ar hr (aa (pv 3) (aa (pv 0) (aa (pv 4) af)))) af)) (pv 1)))
   (ab (wfor (wil K (wcal ag hr (aa (pv 6) (aa (pv 1) af)))) (wname 7 sc_column_for.nd)
     (ah (aX (cH (wcal aA hr (aa (pv 0) (aa (pv 1) (aa (pv 2) (aa (pv 4) (aa (pv 7) af)))))))
       (ah (aw (pv 7)))
       aF)))
   (ah (aw fz))))),?_⟩
 have B8:B<256:=s_lt n8 hB;refine⟨_,rfl,h,n,r,rfl,hX,n8,λH1 sm1=> ?_⟩;rw[rR];refine⟨_,rfl,(B:Int),rfl,by lia,by lia,λpt H2 sm2 hpt hl2=>⟨pt,rfl,⟨_,SqL.of hl2⟩,?_⟩⟩;rw[F6]at hl2;refine bo (λx=>(λ_=>true) (aZ x)) (λx=>V.bl ((λz:Int=>decide (r (j6 B z.toNat y)=R)) (aZ x))) (SqL.of hl2) (by rw[F3];exact Gd (aN _) (by decide)) (λj x vs H' R' S' hx hv sm hk=> ?_) λD3 H3 hD3 sm3 hl3=> ?_
 .obtain⟨v,rfl⟩:=aW hv;obtain⟨z,rfl,hz'⟩:=aY hx;obtain⟨t,t8,tb,rfl⟩:=bO.mp (Ge hz');simp only[aS,fK,F7];have hX':=zok.same (sm1.trans (sm2.trans sm)) hX;obtain⟨C,dm,hsh⟩:=zok.shown hX';obtain⟨dx,fs,hh,fr,fe,fm⟩:=hsh.ex;refine⟨_,rfl,h,C,dx,fs,rfl,hh,dm,fr,_,rfl,_,rfl,_,rfl,B,t,y,rfl,t8,by lia,?_⟩;refine⟨h,n,j6 B t y,r,rfl,hX',⟨dx,fs,hh⟩,n8,BF hB yn,λH5 sm5=> ?_⟩;have q1:=hk [some (.int (t:Int))] H5 rfl sm5;rw[F7 rfl]at q1;refine⟨_,rfl,rfl,?_⟩;rw[aJ];exact q1
 replace hl3:=hl3.trans (GQ (λl=>some (HO.lst l)) (kA (λz:Int=>decide (r (j6 B z.toNat y)=R)) (bits B)));refine⟨_,rfl,_,rfl,D3,cX r R B y,p,rfl,SqL.of hl3,by unfold cX;rw[F3];exact aN _,p0,p3,λl xs H4 sm4 hl hxs hR=> ?_⟩;refine⟨l,rfl,⟨_,SqL.of hxs⟩,?_⟩;have smB:Same H H4:=sm1.trans (sm2.trans (sm3.trans sm4));have fl:(cX r R B y).length=R:=by unfold cX;rw[F3];exact zB
 refine bz (K:=K) (a:=l) (xs:=xs) (λi σ H5=>∃v7:Option V,Same H4 H5/\(∀col∈(cv p (cX r R B y)).take i,¬jt p R r (cf c y col) G y)/\σ=[some (.ref h),some (.int p),some (.ref d),some (.int (B:Int)),some (.int (y:Int)),some (.int (R:Int)),some (.ref D3),v7]) ⟨none,Same.refl _,λS hS=>absurd hS Hv,rfl⟩ (λi σ H5 _ h=>by obtain⟨_,sm,_⟩:=h;exact SqL.of (sm.at hxs)) ?_ ?_
 .rintro i x σ H5 hi ⟨v7,sm5,hall,rfl⟩;obtain⟨a,col,hcol,rfl,ha⟩:=hR.at hi;have mc:=Ge hcol;obtain⟨m1,m2⟩:=(gs p0 _ col).mp mc;dsimp only[aS];have sm05:=smB.trans sm5;refine⟨_,rfl,_,rfl,_,rfl,_,rfl,_,rfl,h,d,a,n,R,G,y,p,r,ks,q,c,col,rfl,zok.same sm05 hX,n8,rR,R8,pm,p0,hC.same sm05,hK,hG,yn,hyG,sm5.at ha,m1.trans fl,λz hz=> ?_,λb H6 sm6 hb=> ?_⟩
  .obtain⟨j,hj⟩:=Hk hz;have jl:j<(cX r R B y).length:=by rw[<-m1];exact(Ga.mp hj).1
   have:=m2 j _ (Gp jl);rw[Gb,hj]at this;exact⟨this.1,this.2.1⟩
  .refine⟨b,rfl,bJ (λh1=> ?_) λh1=> ?_⟩
   .exact⟨_,rfl,k1 a col H6 (sm05.trans sm6) (sm6.at (sm5.at ha)) mc (hb.mp h1)⟩
   .refine⟨some (.ref a),sm5.trans sm6,λcol' hc'=> ?_,rfl⟩;rw[Hz,hcol]at hc';rcases Gu.mp hc' with h2|h2
    .exact hall col' h2
    .have h2:col'=col:=by simpa using h2
     rw[h2];exact λz=>h1 (hb.mpr z)
 .rintro σ H5 ⟨v7,sm5,hall,rfl⟩;rw[hR.1,HN]at hall;exact k2 H5 (smB.trans sm5) hall
def gR(R p:Nat):List Int:=(List.range R).map λj=>if j=p then 1 else 0
theorem rL(hj:j<R):(gR R p).getD j 0=if j=p then 1 else 0:=by unfold gR;rw[Gb,Gs,Iy hj];rfl
theorem mU(l:List Nat):(List.range l.length).map (λi=>l.getD i 0)=l:=by refine List.ext_getElem (by rw[F3,Gy]) λi h1 h2=> ?_;rw[K8,List.getElem_range];simp[h2]
theorem iD(S:Nat):(aD S).Nodup:=Jc.filter _
structure gT(p:Int)(R B G:Nat)(r:Nat->Nat)(c:Nat->List Int):Prop where
 sub:Sub B G
 unit:∀i t:Nat,(aD B)[i]?=some t->c t=gR R i
 fill:∀t,G.testBit t=true->B.testBit t=false->c t∈cv p (cX r R B t)
 good:∀S,Sub S G->sz S=R->(dU p (bZ (iE c) (List.range R)) S=R↔r S=R)
theorem xj(pm:bP p)(zB:sz B=R)(unit:∀i t:Nat,(aD B)[i]?=some t->c t=gR R i):dU p (bZ (iE c) (List.range R)) B=R:=by
 have lB:(aD B).length=R:=(cq B).trans zB;obtain⟨J',h1,h2,h3⟩:=iM pm (iE c) (λi=>(aD B).getD i 0) (List.range R) (List.range R) Jc Jc (λi h=>h) λi hi j hj=>by
  have hi':i<(aD B).length:=by rw[lB];exact Gk.mp hi
  have e:(aD B).getD i 0=(aD B)[i]:=by simp[hi']
  show(c ((aD B).getD i 0)).getD j 0=_;rw[e,unit i _ (Gp hi'),rL (Gk.mp hj)]
 have e:J'=[]:=by
  cases J' with
  |nil=>rfl
  |cons a l=>
   have:=(h2 a).mp Gn;exact absurd this.1 this.2
 have:=h3 [];have e2:(List.range R).map (λi=>(aD B).getD i 0)=aD B:=by have:=mU (aD B);rw[lB]at this;exact this
 rw[e,eZ pm,Ic,Gy,Jo,e2]at this;exact this
theorem Cu(pm:bP p){R S y:Nat}(zS:sz S=R)(hy:S.testBit y=false):dU p (bZ (iE (cf c y col)) (List.range R)) S=R↔dU p (bZ (iE c) (List.range R)) S=R:=by
 have l1:∀f:Nat->Nat->Int,(bZ f (List.range R)).length=R:=λf=>by unfold bZ;rw[F3,Gy]
 have lS:(aD S).length=R:=(cq S).trans zS;show rho p _ (aD S)=R↔rho p _ (aD S)=R;rw[ft pm (l1 _) lS,ft pm (l1 _) lS,fg (aD S) (bZ (iE (cf c y col)) (List.range R)) (bZ (iE c) (List.range R)) (by rw[l1,l1]) λi j hj=> ?_];by_cases hi:i<R
 .have e:∀f:Nat->Nat->Int,(bZ f (List.range R)).getD i rw0 j=f j i:=λf=>by unfold bZ;rw[Gb,Gs,Iy hi];rfl
  rw[e,e];have ne:¬j=y:=λz=>by have:=(ba.mp hj).2;rw[z,hy]at this;cases this
  show(cf c y col j).getD i 0=(c j).getD i 0;unfold cf;rw[F8 ne]
 .rw[Gb,Gb,Ks (by rw[l1];lia),Ks (by rw[l1];lia)]
theorem gT.start(pm:bP p)(B8:B<256)(zB:sz B=R)(rB:r B=R)(unit:∀i t:Nat,(aD B)[i]?=some t->c t=gR R i):gT p R B B r c:=by refine⟨Sub.refl _,unit,λt h1 h2=>(by rw[h1]at h2;cases h2),λS hS zS=> ?_⟩;have e:S=B:=z6 (hS.lt (n:=8) B8) B8 (λk _ h=>hS k h) (zS.trans zB.symm);rw[e,xj pm zB unit,rB]
theorem gT.put(pm:bP p){R B G y:Nat}(h:gT p R B G r c)(G8:G<256)(y8:y<8)(hy:G.testBit y=false)(hc:col∈cv p (cX r R B y))(hf:jt p R r (cf c y col) G y):gT p R B (G|||2^y) r (cf c y col):=by
 have nB:B.testBit y=false:=by
  cases e:B.testBit y with
  |false=>rfl
  |true=>rw[h.sub y e]at hy;cases hy
 have b2:∀t,(G|||2^y).testBit t=true->t≠y->G.testBit t=true:=λt ht ne=>by
  rw[a7,Im]at ht;rcases ht with z|z
  .exact z
  .exact absurd (Gx z).symm ne
 refine⟨λt ht=>by rw[a7,h.sub t ht];rfl,λi t ht=> ?_,λt h1 h2=> ?_,λS hS zS=> ?_⟩
 .have tb:=(ba.mp (Ge ht)).2;have ne:¬t=y:=λz=>by rw[z,nB]at tb;cases tb
  show cf c y col t=_;unfold cf;rw[F8 ne];exact h.unit i t ht
 .show cf c y col t∈_;unfold cf;by_cases e:t=y
  .rw[F7 e,e];exact hc
  .rw[F8 e];exact h.fill t (b2 t h1 e) h2
 .cases e:S.testBit y with
  |false=>
   have hS':Sub S G:=λt ht=>b2 t (hS t ht) λz=>by rw[z,e]at ht;cases ht
   exact(Cu pm zS e).trans (h.good S hS' zS)
  |true=>
   have hS':Sub (S^^^2^y) G:=λt ht=>by
    rw[fF e,GL]at ht;exact b2 t (hS t ht.1) λz=>by have:=ht.2;rw[z]at this;simp at this
   have l8:S<256:=Sub.lt (n:=8) hS (Iw (n:=8) G8 (Je (by decide) y8));have z1:=lW S l8 y y8 e;have:=hf (S^^^2^y) hS' (by lia);rw[kI e]at this;exact this
def nT(n:Nat)(r:Nat->Nat):List Nat:=(List.range (2^n)).filter λs=>decide (r s=sz s)
def jq(n:Nat)(r:Nat->Nat):List Nat:=(nT n r).filter λs=>decide (sz s=r (2^n-1))
inductive qc(Z:Hs)(vs:List V)(H:Hp)(Q:VK):Prop
 |mk (a:Addr) (n:Nat) (r:Nat->Nat) (y_0:vs=[.ref a]) (y_1:Z.ho H a n r) (y_2:n<=8) (y_3:∀p H',Same H H'->H p=none->H' p=some (.lst ((bq (nT n r)).map V.int))->Q (.ref p) H'):qc Z vs H Q
def sk(Z:Hs):Sp:=λvs H Q _=>qc Z vs H Q
inductive qe(Z:Hs)(vs:List V)(H:Hp)(Q:VK):Prop
 |mk (a:Addr) (n:Nat) (r:Nat->Nat) (y_0:vs=[.ref a]) (y_1:Z.ho H a n r) (y_2:n<=8) (y_3:∀p H',Same H H'->H p=none->H' p=some (.lst ((bq (jq n r)).map V.int))->Q (.ref p) H'):qe Z vs H Q
def sr(Z:Hs):Sp:=λvs H Q _=>qe Z vs H Q
theorem vo(n8:n<=8)(r:Nat->Nat):(nT n r).length<=256:=Gd (Ie _ _) (by rw[Gy];exact jg n8)
theorem sc_frees:aB ["house"] ["house"] (ak s_frees):=sc_of
theorem AU{Z:Hs}(zok:eJ Z)(hc:∀C,Z.dom C->HC K C_House C)(D:aU K mg "frees" s_frees ["house"])(ar:∀C,Z.dom C->bV P w K mg base 4 C "rank" ["self","s"] (fL Z C))(ag:∀C,Z.dom C->bV P w K mg base 2 C "everything" ["self"] (cJ K))
  (ai:Cal P w K mg base 3 "parts" ["s"] lX) (ax:Cal P w K mg base 3 "size" ["s"] hJ):Cal P w K mg base 5 "frees" ["house"] (sk Z):=by
 refine D.cal sc_frees (λvs H Q E h=>by obtain⟨a,n,r,rfl,_⟩:=h;rfl) λf cdv A outer σs H vs Q E hr h=> ?_;obtain⟨a,n,r,rfl,hX,n8,k⟩:=h;refine⟨_,(ah (aw (wlc ["s"] ["house"] [0] (wil K (wcal ai hr (aa (dk ag hr (by decide) (pv 0)) af))) (wnC 0) (bW (wpt aO (dq ar hr (by decide) (pv 1) (aa (pv 0) af)) (wcal ax hr (aa (pv 0) af)))) (pv 0)))),?_⟩;obtain⟨C,dm,hsh⟩:=zok.shown hX;obtain⟨dx,fs,ha,fr,fe,fm⟩:=hsh.ex;obtain⟨cl,nM,_,_⟩:=hc C dm;have hp:=jg n8;refine⟨_,rfl,a,C,dx,fs,rfl,ha,dm,fe,a,C,dx,fs,n,rfl,ha,cl,nM,fm,by lia,by lia,?_⟩;rw[eD];refine⟨_,rfl,by lia,by lia,λp H1 sm1 hp1 hl1=>⟨p,rfl,⟨_,SqL.of hl1⟩,?_⟩⟩;rw[F6,kz n (by lia)]at hl1;refine bo (λx=>(λz:Int=>decide (r z.toNat=sz z.toNat)) (aZ x)) (λx=> .int ((λz:Int=>z) (aZ x))) (SqL.of hl1) (by rw[F3,F3,Gy];exact Gd hp (by decide)) (λi x vs H' R S hx hv sm hk=> ?_) λD H' hD sm hl=> ?_
 .obtain⟨v,rfl⟩:=aW hv;obtain⟨z,rfl,hz⟩:=aY hx;obtain⟨s,hs,rfl⟩:=Gz.mp (Ge hz);have hs':=Gk.mp hs;have hX':=zok.same (sm1.trans sm) hX;obtain⟨C2,dm2,hsh2⟩:=zok.shown hX';obtain⟨dx2,fs2,ha2,fr2,fe2,fm2⟩:=hsh2.ex;refine⟨_,rfl,a,C2,dx2,fs2,rfl,ha2,dm2,fr2,_,rfl,a,n,s,r,rfl,hX',⟨dx2,fs2,ha2⟩,n8,hs',λH2 sm2=> ?_⟩;refine⟨_,rfl,_,rfl,by lia,by lia,λH3 sm3=>⟨rfl,_,rfl,?_⟩⟩;have q:=hk [some (.int (s:Int))] H3 rfl (sm2.trans sm3);rw[F6,aJ];have q':if decide (r s=sz s)=true then R (.int (s:Int)) _ H3 else S _ H3:=q;show if decide (r s=sz s)=true then _ else _;by_cases hc:decide (r s=sz s)=true
  .rw[F7 hc]at q'⊢;exact⟨_,rfl,q'⟩
  .rw[F8 hc]at q'⊢;exact q'
 replace hl:=hl.trans (GQ (λl=>some (HO.lst l)) (a8 (λz:Int=>decide (r z.toNat=sz z.toNat)) (λz:Int=>z) ((List.range (2^n)).map λk:Nat=>(k:Int))));rw[show(λz:Int=>z)=id from rfl,Jk]at hl;refine k D H' (sm1.trans sm) (sm1.free hD) (hl.trans ?_);have e:=c7 (List.range (2^n)) (λz:Int=>decide (r z.toNat=sz z.toNat));exact GQ (λl:List Int=>some (HO.lst (l.map V.int))) e
theorem sc_bases:aB ["house","whole"] ["house"] (ak s_bases):=sc_of
theorem AV(zok:eJ Z)(D:aU K mg "bases" s_bases ["house"])(ag:Cal P w K mg base 5 "whole_rank" ["house"] (d9 Z))(ai:Cal P w K mg base 5 "frees" ["house"] (sk Z))(ar:Cal P w K mg base 3 "size" ["s"] hJ):Cal P w K mg base 6 "bases" ["house"] (sr Z):=by
 refine D.cal sc_bases (λvs H Q E h=>by obtain⟨a,n,r,rfl,_⟩:=h;rfl) λf cdv A outer σs H vs Q E hr h=> ?_;obtain⟨a,n,r,rfl,hX,n8,k⟩:=h;refine⟨_,(ab (wset 1 sc_bases.nd (wcal ag hr (aa (pv 0) af)))
   (ah (aw (wlc ["s"] ["whole"] [1] (wil K (wcal ai hr (aa (pv 0) af))) (wnC 0) (bW (wpt aO (wcal ar hr (aa (pv 0) af)) (pv 1))) (pv 0))))),?_⟩
 have hp:=jg n8;refine⟨_,rfl,a,n,r,rfl,hX,n8,λH0 sm0=> ?_⟩;refine⟨_,rfl,a,n,r,rfl,zok.same sm0 hX,n8,λp H1 sm1 hp1 hl1=>⟨p,rfl,⟨_,SqL.of hl1⟩,?_⟩⟩;refine bo (λx=>(λz:Int=>decide (sz z.toNat=r (2^n-1))) (aZ x)) (λx=> .int ((λz:Int=>z) (aZ x))) (SqL.of hl1) (by rw[F3,bg];exact Gd (vo n8 r) (by decide)) (λi x vs H' R S hx hv sm hk=> ?_) λD H' hD sm hl=> ?_
 .obtain⟨v,rfl⟩:=aW hv;obtain⟨z,rfl,hz⟩:=aY hx;obtain⟨s,hs,rfl⟩:=ck (Ge hz);have hs':=Gk.mp (GN.mp hs).1;refine⟨_,rfl,_,rfl,by lia,by lia,λH3 sm3=>⟨_,rfl,rfl,_,rfl,?_⟩⟩;have q:=hk [some (.int (s:Int))] H3 rfl sm3;rw[F6,aJ];have q':if decide (sz s=r (2^n-1))=true then R (.int (s:Int)) _ H3 else S _ H3:=q;show if decide (sz s=r (2^n-1))=true then _ else _;by_cases hc:decide (sz s=r (2^n-1))=true
  .rw[F7 hc]at q'⊢;exact⟨_,rfl,q'⟩
  .rw[F8 hc]at q'⊢;exact q'
 replace hl:=hl.trans (GQ (λl=>some (HO.lst l)) (a8 (λz:Int=>decide (sz z.toNat=r (2^n-1))) (λz:Int=>z) (bq (nT n r))));rw[show(λz:Int=>z)=id from rfl,Jk,c7]at hl;exact k D H' (sm0.trans (sm1.trans sm)) (sm0.free (sm1.free hD)) hl
theorem jj:B∈jq n r↔B<2^n/\r B=sz B/\sz B=r (2^n-1):=by unfold jq nT;rw[GN,GN,Gk,GF,GF,and_assoc]
theorem lp(M:Mat n r):∃B,B∈jq n r:=by obtain⟨g,_,h2,h3,h4⟩:=M.extend (s:=0) (t:=2^n-1) (λk hk=>by rw[HS]at hk;cases hk) (cQ n) (by rw[M.zero,gC]);exact⟨g,jj.mpr ⟨h2.lt (cQ n),h3,h3.symm.trans h4⟩⟩
theorem eV.put{ks:List Nat}(h:eV H d ks q c){col:List Int}(ht:t∉ks)(k8:ks.length<=8)(ha:H a=some (.lst (col.map V.int))):
  ∃o,uB H d (.int (t:Int)) (.ref a) (upd H d o)/\eV (upd H d o) d (ks++[t]) (λs=>if s=t then a else q s) (cf c t col):=by
 have e1:CC (ks.map λt:Nat=>((t:Int),V.ref (q t))) (t:Int) (.ref a)=(ks++[t]).map λs:Nat=>((s:Int),V.ref (if s=t then a else q s)):=by
  unfold CC;rw[F8 (λz=>by
   obtain⟨x,hx,e⟩:=JS.mp z;obtain⟨s,hs,rfl⟩:=Gz.mp hx;have e2:(s:Int)=(t:Int):=Gx e;have e3:s=t:=by lia
   exact ht (e3▸hs)),GO]
  have e4:ks.map (λt:Nat=>((t:Int),V.ref (q t)))=ks.map λs:Nat=>((s:Int),V.ref (if s=t then a else q s)):=HP λs hs=>by have:¬s=t:=λz=>ht (z▸hs);rw[F8 this]
  rw[e4];show _=_++[((t:Int),V.ref (if t=t then a else q t))];rw[F7 rfl]
 have p1:=uB.k (v:= .ref a) (k:=Sum.inl (t:Int)) h.dict (by unfold i0;rw[F3,F3];exact Gq k8 (by decide));rw[Ec,e1]at p1;have nd:∀b xs,H b=some (.lst xs)->b≠d:=λb xs e=>gr e h.dict (λz=>by cases z);refine⟨_,p1,aj,λs hs=> ?_⟩;show upd H d _ (if s=t then a else q s)=some (.lst ((cf c t col s).map V.int));unfold cf;by_cases e:s=t
 .rw[F7 e,F7 e,av (nd a _ ha)];exact ha
 .have hs':s∈ks:=by
   rcases Gu.mp hs with z|z
   .exact z
   .exact absurd (Gw.mp z) e
  rw[F8 e,F8 e,av (nd _ _ (h.cols s hs'))];exact h.cols s hs'
def gS(c:Nat->List Int)(n R:Nat):List (List Int):=(List.range R).map λi=>(List.range n).map λt=>(c t).getD i 0
inductive pS(vs:List V)(H:Hp)(Q:VK):Prop
 |mk (n p:Nat) (y_0:vs=[.int (n:Int), .int (p:Int)]) (y_1:n<=8) (y_2:∀q H',Same H H'->H q=none->H' q=some (.lst ((gR n p).map V.int))->Q (.ref q) H'):pS vs H Q
def r8:Sp:=λvs H Q _=>pS vs H Q
inductive pQ(Z:Hs)(vs:List V)(H:Hp)(Q:VK):Prop
 |mk (h:Addr) (n R:Nat) (p:Int) (r:Nat->Nat) (y_0:vs=[.ref h, .int p]) (y_1:Z.ho H h n r) (y_2:Mat n r) (y_3:r (2^n-1)=R) (y_4:bP p) (y_5:0<p) (y_6:p<=3) (y_7:(∀B c l xs H',Same H H'->H l=none->H' l=some (.lst xs)->aK (hide H' l) xs (gS c n R)->(∀x∈xs,∃a,x= .ref a/\H a=none)->B<2^n->sz B=R->r B=R->gT p R B (2^n-1) r c->(∀t,t<n->(c t).length=R/\∀z∈c t,0<=z/\z<p)->Q (.ref l) H')) (y_8:(∀B G y c H',Same H H'->B<2^n->sz B=R->r B=R->G<2^n->y<n->G.testBit y=false->gT p R B G r c->(∀col∈cv p (cX r R B y),¬jt p R r (cf c y col) G y)->Q .non H')):pQ Z vs H Q
def rZ(Z:Hs):Sp:=λvs H Q _=>pQ Z vs H Q
theorem sc_table_for:aB ["house","prime","base","whole","columns","place","thing","column"] ["house","prime"] (ak s_table_for):=sc_of
theorem qN{Z:Hs}(T:Tb K mg)(zok:eJ Z)(hc:∀C,Z.dom C->HC K C_House C)(D:aU K mg "table_for" s_table_for ["house","prime"])(ag:∀C,Z.dom C->bV P w K mg base 2 C "everything" ["self"] (cJ K))
  (ai:Cal P w K mg base 5 "whole_rank" ["house"] (d9 Z)) (ar:Cal P w K mg base 2 "things" ["s"] ee) (a0:Cal P w K mg base 1 "less" ["s","t"] kr) (aA:Cal P w K mg base 6 "bases" ["house"] (sr Z)) (ay:Cal P w K mg base 1 "single" ["many","place"] r8) (ax:Cal P w K mg base 7 "column_for" ["house","prime","columns","base","thing"] (so Z)):
  Cal P w K mg base 8 "table_for" ["house","prime"] (rZ Z):=by
 refine D.cal sc_table_for (λvs H Q E h=>by obtain⟨h,n,R,p,r,rfl,_⟩:=h;rfl) λf cdv A outer σs H vs Q E hr h=> ?_;obtain⟨h,n,R,p,r,rfl,hX,M,rR,pm,p0,p3,k1,k2⟩:=h;refine⟨_,(ab (wset 2 sc_table_for.nd (bS K (wcal aA hr (aa (pv 0) af)) ae))
   (ab (wset 3 sc_table_for.nd (wcal ai hr (aa (pv 0) af)))
   (ab (wset 4 sc_table_for.nd AE)
   (ab (wfor (mY (K:=K) (by rfl) (by rfl) T.enumerate_ (aa (wcal ar hr (aa (pv 2) af)) af)) (iQ (K:=K) (n:=2) (by rfl) (by rfl) (cD (wname 5 sc_table_for.nd) (cD (wname 6 sc_table_for.nd) iP)))
     (ah (wx (Gq (JY (by decide) _) hr.units) (pv 4) (pv 6) (wcal ay hr (aa (pv 3) (aa (pv 5) af))) (by rfl))))
   (ab (wfor (wil K (wcal ar hr (aa (wcal a0 hr (aa (dk ag hr (by decide) (pv 0)) (aa (pv 2) af))) af))) (wname 6 sc_table_for.nd)
     (ab (wset 7 sc_table_for.nd (wcal ax hr (aa (pv 0) (aa (pv 1) (aa (pv 4) (aa (pv 2) (aa (pv 6) af)))))))
     (ab (aX (wpt Eu (pv 7) fz)
       (ah (aw fz))
       aF)
     (ah (wx (Gq (JY (by decide) _) hr.units) (pv 4) (pv 6) (pv 7) (by rfl))))))
   (ah (aw (wlc ["row"] ["columns","house"] [4,0] (wrng T.range_ (pv 3)) (wnC 0) bw (wlc ["thing"] ["row","columns"] [0,1] (wrng T.range_ (wfld K (pv 2))) (wnC 0) bw (bS K (wB (Gq (JY (by decide) _) hr.units) (pv 2) (pv 0) (by intro _ _;rfl)) (pv 1))))))))))),?_⟩
 have n8:=M.n8;have hp:=jg n8;have R8:R<=8:=by have:=M.k9 (2^n-1) (cQ n);have h2:sz (2^n-1)<=8:=aN _;lia
 refine⟨_,rfl,h,n,r,rfl,hX,n8,λpb H1 sm1 hpb hl1=> ?_⟩;obtain⟨B,Bs,eB⟩:∃B Bs,jq n r=B::Bs:=by
  obtain⟨g,hg⟩:=lp M;cases e:jq n r with
  |nil=>rw[e]at hg;exact absurd hg Hv
  |cons B Bs=>exact⟨B,Bs,rfl⟩
 obtain⟨hB,rB0,zB0⟩:=jj.mp (eB▸Gn:B∈jq n r);have zB:sz B=R:=zB0.trans rR;have rB:r B=R:=rB0.trans zB;have B8:B<256:=s_lt n8 hB;refine⟨pb,_,_,_,rfl,rfl,SqL.of hl1,by rw[eB];exact ij (j:=0) rfl,?_⟩;refine⟨_,rfl,h,n,r,rfl,zok.same sm1 hX,n8,λH2 sm2=> ?_⟩;rw[rR];intro d hd;have smd:Same H (upd H2 d (.dK [])):=sm1.trans (sm2.trans (Same.new hd));have hdH:H d=none:=sm1.free (sm2.free hd);refine⟨_,rfl,(B:Int),rfl,by lia,by lia,λpt H3 sm3 hpt hl3=>⟨pt,rfl,⟨_,hl3⟩,?_⟩⟩;rw[F6]at hl3;refine tN (K:=K) (a:=pt) (xs:=(bits B).map V.int) (λi σ H4=>∃ (q:Nat->Addr) (c:Nat->List Int) (v5 v6:Option V),Same H H4/\H4 pt=some (.lst ((bits B).map V.int))/\eV H4 d ((aD B).take i) q c/\(∀j t:Nat,j<i->(aD B)[j]?=some t->c t=gR R j)/\σ=[some (.ref h),some (.int p),some (.int (B:Int)),some (.int (R:Int)),some (.ref d),v5,v6,none])
  ⟨λ_=>0,λ_=>[],none,none,smd.trans sm3,hl3,⟨sm3.at aj,λt ht=>absurd ht Hv⟩,λj t hj=>absurd hj (J2 _),rfl⟩ (λi σ H4 _ h=>by obtain⟨_,_,_,_,_,e,_⟩:=h;exact SqL.of e) ?_ ?_
 .rintro i x t0 σ H4 hi ht0 ⟨q,c,v5,v6,sm4,hpt4,hC4,hu,rfl⟩;obtain⟨z,rfl,hz⟩:=aY hi;obtain⟨t,ht,rfl⟩:∃t:Nat,(aD B)[i]?=some t/\z=(t:Int):=by unfold bits at hz;rw[Gs]at hz;obtain⟨t,ht,e⟩:=Kh.mp hz;exact⟨t,ht,e.symm⟩
  have smt:Same H4 (upd H4 t0 (.tup [.int (i:Int), .int (t:Int)])):=Same.new ht0;refine⟨t0,_,rfl,SqT.of aj,rfl,_,_,rfl,_,_,rfl,rfl,?_⟩;refine⟨_,rfl,_,rfl,R,i,rfl,R8,λqa H5 sm5 hq hl5=> ?_⟩;have hC5:=hC4.same (smt.trans sm5);have nd:=iD B;have il:i<(aD B).length:=(Ga.mp ht).1;have tn:t∉ (aD B).take i:=λhm=>by
   obtain⟨j,hj⟩:=Hk hm;have jl:j<i:=by have:=(Ga.mp hj).1;rw[GJ]at this;lia
   rw[I0 jl]at hj;have:=(Kf (by lia) nd).mp (hj.trans ht.symm);lia
  obtain⟨o,g1,g2⟩:=hC5.put tn (by rw[GJ,cq];lia) hl5;refine⟨_,rfl,_,rfl,d,_,rfl,g1,?_⟩;have hpt5:=sm5.at (smt.at hpt4);refine⟨_,_,some (.int (i:Int)),some (.int (t:Int)),(sm4.trans (smt.trans sm5)).upd hdH,?_,by rw[Hz,ht];exact g2,λj s hj hs=> ?_,rfl⟩
  .rw[av (gr hpt5 hC5.dict λz=>by cases z)];exact hpt5
  .unfold cf;by_cases e:j=i
   .subst e;rw[ht]at hs;cases hs;rw[F7 rfl]
   .have ne:¬s=t:=λz=>by rw[z]at hs;exact e ((Kf (by have:=(Ga.mp hs).1;lia) nd).mp (hs.trans ht.symm))
    rw[F8 ne];exact hu j s (by lia) hs
 .rintro σ H4 ⟨q,c,v5,v6,sm4,hpt4,hC4,hu,rfl⟩;have el:((bits B).map V.int).length=(aD B).length:=by rw[F3];unfold bits aD;rw[F3]
  rw[el,HN]at hC4;have lB:(aD B).length=R:=(cq B).trans zB;have hu':∀i t:Nat,(aD B)[i]?=some t->c t=gR R i:=λi t ht=>hu i t (by rw[el];exact(Ga.mp ht).1) ht;have st0:gT p R B B r c:=gT.start pm B8 zB rB hu';have ul:∀i,(gR R i).length=R:=λi=>by unfold gR;rw[F3,Gy]
  have ok0:rH p R B (aD B) c:=⟨λt=>⟨λht=>(ba.mp ht).2,λht=>ba.mpr ⟨by have:=bU hB ht;lia,ht⟩⟩,iD B,λt ht=>by
   obtain⟨i,hi⟩:=Hk ht;rw[hu' i t hi,ul],λt ht z hz=>by
   obtain⟨i,hi⟩:=Hk ht;rw[hu' i t hi]at hz;unfold gR at hz;obtain⟨j,_,rfl⟩:=Gz.mp hz;have:1<p:=by
    by_cases e:p=1
    .exact absurd (by rw[e];exact Int.dvd_refl 1) pm.one
    .lia
   split<;>lia⟩
  have hX4:=zok.same sm4 hX;obtain⟨C,dm,hsh⟩:=zok.shown hX4;obtain⟨dx,fs,hh,fr,fe,fm⟩:=hsh.ex;obtain⟨clC,nM,_,_⟩:=hc C dm;refine⟨_,rfl,h,C,dx,fs,rfl,hh,dm,fe,h,C,dx,fs,n,rfl,hh,clC,nM,fm,by lia,by lia,?_⟩;rw[eD];have ll:aC (2^n-1) B<2^n:=iU;refine⟨_,rfl,2^n-1,B,rfl,((aC (2^n-1) B:Nat):Int),rfl,by lia,by lia,λpl H5 sm5 hpl hl5=>⟨pl,rfl,⟨_,SqL.of hl5⟩,?_⟩⟩;rw[F6]at hl5;have lb:∀t,(aC (2^n-1) B).testBit t=true↔t<n/\B.testBit t=false:=λt=>by rw[br,GD];cases B.testBit t<;>simp
  refine bz (K:=K) (a:=pl) (xs:=(bits (aC (2^n-1) B)).map V.int) (λi σ H6=>∃ (G:Nat) (ks:List Nat) (q:Nat->Addr) (c:Nat->List Int) (v5 v6 v7:Option V),Same H H6/\H6 pl=some (.lst ((bits (aC (2^n-1) B)).map V.int))/\eV H6 d ks q c/\rH p R G ks c/\gT p R B G r c/\(∀t:Nat,G.testBit t=true↔B.testBit t=true\/(t:Int)∈(bits (aC (2^n-1) B)).take i)/\σ=[some (.ref h),some (.int p),some (.int (B:Int)),some (.int (R:Int)),some (.ref d),v5,v6,v7])
   ⟨B,aD B,q,c,v5,v6,none,sm4.trans sm5,hl5,hC4.same sm5,ok0,st0,λt=>by simp,rfl⟩ (λi σ H6 _ h=>by obtain⟨_,_,_,_,_,_,_,_,e,_⟩:=h;exact SqL.of e) ?_ ?_
  .rintro i x σ H6 hi ⟨G,ks,q,c,v5,v6,v7,sm6,hl6,hC6,ok6,st6,gb,rfl⟩;obtain⟨z,rfl,hz⟩:=aY hi;obtain⟨y,y8,yb,rfl⟩:=bO.mp (Ge hz);obtain⟨yn,yB⟩:=(lb y).mp yb;have hG:G<2^n:=Jj _ λt ht=>by
    cases e:G.testBit t with
    |false=>rfl
    |true=>
     rcases(gb t).mp e with g|g
     .have:=bU hB g;lia
     .obtain⟨t',_,tb,e2⟩:=bO.mp (Jm g);have:t=t':=by lia
      have:=((lb t).mp (this▸tb)).1;lia
   have il:i<(bits (aC (2^n-1) B)).length:=(Ga.mp hz).1;have yG:G.testBit y=false:=by
    cases e:G.testBit y with
    |false=>rfl
    |true=>
     rcases(gb y).mp e with g|g
     .rw[yB]at g;cases g
     .obtain⟨j,hj⟩:=Hk g;have jl:j<i:=by have:=(Ga.mp hj).1;rw[GJ]at this;lia
      rw[I0 jl]at hj;have:=(Kf (by lia) (ot _)).mp (hj.trans hz.symm);lia
   dsimp only[aS];refine⟨_,rfl,_,rfl,_,rfl,_,rfl,_,rfl,h,d,n,R,G,B,y,p,r,ks,q,c,rfl,zok.same sm6 hX,n8,rR,R8,pm,p0,p3,hC6,ok6,hG,yn,yG,hB,zB,λqa col H7 sm7 hq hcol hfit=> ?_,λH7 sm7 hno=> ?_⟩
   .refine⟨_,rfl,rfl,_,rfl,bJ (λhn=>(nomatch Gx hn)) λ_=> ?_⟩;have hC7:=hC6.same sm7;have tn:y∉ks:=λz=>by rw[(ok6.keys y).mp z]at yG;cases yG
    have kl:ks.length<=8:=by have:=f9 (a:=ks) (b:=List.range 8) ok6.nod (λt ht=>Gk.mpr (by have:=bU hG ((ok6.keys t).mp ht);lia));rw[Gy]at this;exact this
    obtain⟨o,g1,g2⟩:=hC7.put tn kl hq;refine⟨_,rfl,_,rfl,_,rfl,d,_,rfl,g1,?_⟩;have hl7:=sm7.at hl6;obtain⟨m1,m2⟩:=(gs p0 _ col).mp hcol;have fl:(cX r R B y).length=R:=by unfold cX;rw[F3];exact zB
    refine⟨G|||2^y,ks++[y],_,cf c y col,v5,some (.int (y:Int)),some (.ref qa),(sm6.trans sm7).upd hdH,?_,g2,?_,st6.put pm (s_lt n8 hG) y8 yG hcol hfit,λt=> ?_,rfl⟩
    .rw[av (gr hl7 hC7.dict λz=>by cases z)];exact hl7
    .refine⟨λt=> ?_,?_,λt ht=> ?_,λt ht=> ?_⟩
     .rw[Gu,Gw,a7,Im,GF,ok6.keys t];exact KO eq_comm
     .rw[JL];exact⟨ok6.nod,by simp,λa ha b hb e=>by rw[Gw]at hb;exact tn (hb▸e▸ha)⟩
     .unfold cf;by_cases e:t=y
      .rw[F7 e];exact m1.trans fl
      .rw[F8 e];exact ok6.len t (by rcases Gu.mp ht with z|z;exact z;exact absurd (Gw.mp z) e)
     .unfold cf;by_cases e:t=y
      .rw[F7 e];intro z hz;obtain⟨j,hj⟩:=Hk hz;have jl:j<(cX r R B y).length:=by rw[<-m1];exact(Ga.mp hj).1
       have:=m2 j _ (Gp jl);rw[Gb,hj]at this;exact⟨this.1,this.2.1⟩
      .rw[F8 e];exact ok6.num t (by rcases Gu.mp ht with z|z;exact z;exact absurd (Gw.mp z) e)
    .rw[a7,Im,GF,gb t,Hz,hz,Gu,or_assoc];refine KO (KO ?_);show y=t↔(t:Int)∈[(y:Int)];rw[Gw];lia
   .exact⟨_,rfl,rfl,_,rfl,bJ (λ_=>k2 B G y c H7 (sm6.trans sm7) hB zB rB hG yn yG st6 hno) λhn=>absurd (F5 rfl) hn⟩
  .rintro σ H6 ⟨G,ks,q,c,v5,v6,v7,sm6,hl6,hC6,ok6,st6,gb,rfl⟩;have eG:G=2^n-1:=Gi λt=>by
    rw[GD];have:=gb t;rw[F3,HN]at this;cases e:G.testBit t with
    |true=>
     rcases this.mp e with g|g
     .exact(F5 (bU hB g)).symm
     .obtain⟨t',_,tb,e2⟩:=bO.mp g;have e3:t=t':=by lia
      exact(F5 ((lb t).mp (e3▸tb)).1).symm
    |false=>
     by_cases tn:t<n
     .exfalso;have:G.testBit t=true:=this.mpr (by
       cases e4:B.testBit t with
       |true=>exact .inl rfl
       |false=>exact .inr ((jY (by lia)).mpr ((lb t).mpr ⟨tn,e4⟩)))
      rw[e]at this;cases this
     .rw[F4 tn]
   subst eG;have lenC:∀t,t<n->t∈ks:=λt ht=>(ok6.keys t).mpr (by rw[GD];exact F5 ht);have hX6:=zok.same sm6 hX;refine⟨_,rfl,_,rfl,by lia,by lia,?_⟩;rw[F6];refine yE (λi y Hh=>∃a,y= .ref a/\H6 a=none/\Hh a=some (.lst (((List.range n).map λt=>(c t).getD i 0).map V.int))) (λi y Ha Hb e ⟨a,h1,h0,h2⟩=>⟨a,h1,h0,e.at h2⟩) (Gd R8 (by decide)) (λi vs D H' Rk S hi hv sm hD hk=> ?_) λD H' ys hD sm hl hyl hys=> ?_
   .obtain⟨v,rfl⟩:=aW hv;simp only[aS,fK,F7];have hX':=zok.same sm hX6;obtain⟨C',dm',hsh'⟩:=zok.shown hX';obtain⟨dx',fs',hh',fr',fe',fm'⟩:=hsh'.ex;obtain⟨clC',nM',_,_⟩:=hc C' dm';refine⟨_,rfl,h,C',dx',fs',_,rfl,hh',clC',nM',fm',_,rfl,by lia,by lia,?_⟩;rw[F6];obtain⟨dl,hDl⟩:=hD;refine cG (λ_=>true) (λt=> .int ((c t).getD i 0)) (Gd n8 (by decide)) (λt vs2 H'' R2 S2 ht hv2 sm2 hk2=> ?_) λD2 H2' hD2 sm2 hl2=> ?_
    .obtain⟨v2,rfl⟩:=aW hv2;simp only[aS,fK,F7];have q2:=hk2 [some (.int (0+(t:Nat)))] H'' rfl (Same.refl _);rw[F7 rfl]at q2;have tk:=lenC t ht;have hC':=hC6.same (sm.trans sm2);have ci:i<(c t).length:=by rw[ok6.len t tk];exact hi
     refine⟨_,rfl,_,rfl,d,_,rfl,by have:=hC'.get tk;rw[Io];exact this,?_⟩;refine⟨_,rfl,q t,_,_,_,rfl,rfl,SqL.of (hC'.cols t tk),by rw[Io];exact bA ci,q2⟩
    .refine hk (.ref D2) [some (.int (0+(i:Nat)))] H2' ⟨D2,rfl,sm.free hD2,?_⟩ rfl sm2;have nD:D2≠D:=λz=>by rw[z,hDl]at hD2;cases hD2
     rw[c8 nD,hl2];unfold dB;rw[Iq.mpr (λ_ _=>rfl),Hc];rfl
   .refine k1 B c D ys H' (sm6.trans sm) (sm6.free hD) hl ?_ (λx hx=> ?_) hB zB rB st6 λt ht=>⟨ok6.len t (lenC t ht),ok6.num t (lenC t ht)⟩
    .refine aK.of (by rw[hyl];unfold gS;rw[F3,Gy]) λj rr y h1 h2=> ?_;obtain⟨a,rfl,h0,h3⟩:=hys j y h2;have jl:j<R:=by rw[<-hyl];exact(Ga.mp h2).1
     unfold gS at h1;rw[Gs,Iy jl]at h1;cases h1;exact⟨a,rfl,h3⟩
    .obtain⟨j,hj⟩:=Hk hx;obtain⟨a,rfl,h0,_⟩:=hys j x hj;exact⟨a,rfl,sm6.free h0⟩
theorem An(M:Mat n r):vG n r where
 le:=M.k9
 mono:=λs t _ ht h=>M.mono (jC.mp h) ht
 unit:=λs hs=>by have h1:=M.wI (x:=aC (2^n-1) s) (b:=2^n-1) (λk hk=>by rw[br,GL]at hk;exact hk.1) (cQ n);have h2:=vP M.n8 hs;have h3:=vP M.n8 (cQ n);lia
theorem wG{n k w:Nat}(hk:k<2^n)(hw:Sub w (aC (2^n-1) k)):aC (2^n-1) (aC (aC (2^n-1) k) w|||w)=k:=Gi λt=>by
 have h1:=hw t;rw[br]at h1;rw[br,GC,br,br];by_cases ht:t<n
 .have e:(2^n-1).testBit t=true:=by rw[GD];exact F5 ht
  rw[e]at h1⊢;cases h3:k.testBit t<;>cases h2:w.testBit t<;>rw[h3]at h1<;>first|rfl|exact absurd (h1 h2) (by decide)
 .have e:(2^n-1).testBit t=false:=by rw[GD];exact F4 ht
  have e2:k.testBit t=false:=by
   cases e2:k.testBit t with
   |false=>rfl
   |true=>exact absurd (bU hk e2) ht
  rw[e,e2];rfl
inductive w8(Z:Hs)(vs:List V)(H:Hp)(Q:VK):Prop
 |mk (h:Addr) (n m d:Nat) (kd:Str) (r:Nat->Nat) (y_0:vs=[.ref h, .str kd, .int (m:Int), .int (d:Int)]) (y_1:Z.ho H h n r) (y_2:Mat n r) (y_3:(∀k w t H',Same H H'->H t=none->H' t=some (.tup [.str "barred", .int (aC (aC (2^n-1) k) w:Nat), .int (w:Int), .str kd])->k<2^n->Sub w (aC (2^n-1) k)->eu (sz k) (eo r k w)= .str kd->Q (.ref t) H')) (y_4:(∀H',Same H H'->(∀k w,k<2^n->sz k=m->Sub w (aC (2^n-1) k)->((sz w:Nat):Int)=(r (2^n-1):Nat) - (d:Nat)->¬eu (sz k) (eo r k w)= .str kd)->Q .non H')):w8 Z vs H Q
def Ad(Z:Hs):Sp:=λvs H Q _=>w8 Z vs H Q
theorem sc_left_barred:aB ["house","kind","many","rank","kept","rest","drawn","out"] ["house","kind","many","rank"] (ak s_left_barred):=sc_of
theorem nr{Z:Hs}(T:Tb K mg)(zok:eJ Z)(hc:∀C,Z.dom C->HC K C_House C)(D:aU K mg "left_barred" s_left_barred ["house","kind","many","rank"])(hj:5<=j)(ag:∀C,Z.dom C->bV P w K mg base 2 C "everything" ["self"] (cJ K))
  (ar:Cal P w K mg base 5 "whole_rank" ["house"] (d9 Z)) (ai:Cal P w K mg base 4 "choices" ["s","k"] gn) (ax:Cal P w K mg base 1 "less" ["s","t"] kr) (aA:qg P w K mg base 5 "Minor" cM ["self","house","out","drawn"] (sj Z cM)) (ay:Cal P w K mg base (j+1) "kind_of" ["house"] (sg (lK Z cM))):
  Cal P w K mg base (j+2) "left_barred" ["house","kind","many","rank"] (Ad Z):=by
 refine D.cal sc_left_barred (λvs H Q E h=>by obtain⟨h,n,m,d,kd,r,rfl,_⟩:=h;rfl) λf cdv A outer σs H vs Q E hr h=> ?_;obtain⟨h,n,m,d,kd,r,rfl,hX,M,k1,k2⟩:=h;refine⟨_,(ab (wfor (wil K (wcal ai hr (aa (dk ag hr (by lia) (pv 0)) (aa (pv 2) af)))) (wname 4 sc_left_barred.nd)
     (ab (wset 5 sc_left_barred.nd (wcal ax hr (aa (dk ag hr (by lia) (pv 0)) (aa (pv 4) af))))
     (ah (wfor (wil K (wcal ai hr (aa (pv 5) (aa (aq dO (wcal ar hr (aa (pv 0) af)) (pv 3)) af)))) (wname 6 sc_left_barred.nd)
       (ab (wset 7 sc_left_barred.nd (wcal ax hr (aa (pv 5) (aa (pv 6) af))))
       (ah (aX (wpt aO (wcal ay hr (aa (ky aA hr (by lia) (by rfl) (aa (pv 0) (aa (pv 7) (aa (pv 6) af)))) af)) (pv 1))
         (ah (aw (ie (aa fv (aa (pv 7) (aa (pv 6) (aa (pv 1) af)))))))
         aF)))))))
   (ah (aw fz))),?_⟩
 have n8:=M.n8;have hp:=jg n8;have ppos:0<2^n:=ID (by lia);obtain⟨C,dm,hsh⟩:=zok.shown hX;obtain⟨dx,fs,hh,fr,fe,fm⟩:=hsh.ex;obtain⟨clC,nM,_,_⟩:=hc C dm;refine⟨_,rfl,h,C,dx,fs,rfl,hh,dm,fe,h,C,dx,fs,n,rfl,hh,clC,nM,fm,by lia,by lia,?_⟩;rw[eD];refine⟨_,rfl,((2^n-1:Nat):Int),(m:Int),rfl,by lia,by lia,λpc H1 sm1 hpc hl1=>⟨pc,rfl,⟨_,SqL.of hl1⟩,?_⟩⟩;rw[F6]at hl1;refine bz (K:=K) (a:=pc) (xs:=(cZ (2^n-1) (m:Int)).map V.int) (λi σ H2=>∃v4 v5 v6 v7:Option V,Same H1 H2/\(∀k w:Nat,(k:Int)∈(cZ (2^n-1) (m:Int)).take i->Sub w (aC (2^n-1) k)->((sz w:Nat):Int)=(r (2^n-1):Nat) - (d:Nat)->¬eu (sz k) (eo r k w)= .str kd)/\σ=[some (.ref h),some (.str kd),some (.int (m:Int)),some (.int (d:Int)),v4,v5,v6,v7])
  ⟨none,none,none,none,Same.refl _,λk w hk=>absurd hk Hv,rfl⟩ (λi σ H2 _ h=>by obtain⟨_,_,_,_,sm,_⟩:=h;exact SqL.of (sm.at hl1)) ?_ ?_
 .rintro i x σ H2 hi ⟨v4,v5,v6,v7,sm2,hall,rfl⟩;obtain⟨z,rfl,hz⟩:=aY hi;obtain⟨k,rfl,hk,zk⟩:=(dE (by lia)).mp (Ge hz);have kl:k<2^n:=hk.lt (cQ n);have zk':sz k=m:=by lia
  dsimp only[aS];have sm02:=sm1.trans sm2;have hh2:=sm02.at hh;refine⟨_,rfl,h,C,dx,fs,rfl,hh2,dm,fe,h,C,dx,fs,n,rfl,hh2,clC,nM,fm,by lia,by lia,?_⟩;rw[eD];have ll:aC (2^n-1) k<2^n:=iU;refine⟨_,rfl,2^n-1,k,rfl,?_⟩;refine⟨_,rfl,_,rfl,h,n,r,rfl,zok.same sm02 hX,n8,λH3 sm3=> ?_⟩;refine⟨_,rfl,_,_,rfl,rfl,((aC (2^n-1) k:Nat):Int),(r (2^n-1):Nat) - (d:Nat),rfl,by lia,by lia,λpd H4 sm4 hpd hl4=>⟨pd,rfl,⟨_,SqL.of hl4⟩,?_⟩⟩;rw[F6]at hl4;have sm04:=sm02.trans (sm3.trans sm4);have l8:aC (2^n-1) k<256:=by lia
  refine bz (K:=K) (a:=pd) (xs:=(cZ (aC (2^n-1) k) ((r (2^n-1):Nat) - (d:Nat):Int)).map V.int) (λi' σ H5=>∃v6 v7:Option V,Same H4 H5/\(∀w:Nat,(w:Int)∈(cZ (aC (2^n-1) k) ((r (2^n-1):Nat) - (d:Nat):Int)).take i'->¬eu (sz k) (eo r k w)= .str kd)/\σ=[some (.ref h),some (.str kd),some (.int (m:Int)),some (.int (d:Int)),some (.int (k:Int)),some (.int (aC (2^n-1) k:Nat)),v6,v7])
   ⟨v6,v7,Same.refl _,λw hw=>absurd hw Hv,rfl⟩ (λi' σ H5 _ h=>by obtain⟨_,_,sm,_⟩:=h;exact SqL.of (sm.at hl4)) ?_ ?_
  .rintro i' x σ H5 hi' ⟨v6,v7,sm5,hall',rfl⟩;obtain⟨z,rfl,hz'⟩:=aY hi';obtain⟨dw,rfl,hw,zw⟩:=(dE l8).mp (Ge hz');have wl:dw<2^n:=hw.lt ll;dsimp only[aS];refine⟨_,rfl,_,rfl,aC (2^n-1) k,dw,rfl,?_⟩;have sm05:=sm04.trans sm5;have hX5:=zok.same sm05 hX;refine⟨_,rfl,_,rfl,_,rfl,λpo dxo npo ndo neo=>⟨po,dxo,h,n,aC (aC (2^n-1) k) dw,dw,r,rfl,aj,zok.same (ku npo ndo) hX5,n8,wl,λH6 oth hpo=>⟨rfl,?_⟩⟩⟩;rw[wG kl hw]at hpo;have sm6:Same H5 H6:=λb o e=>oth b o (by rw[av (az e npo),av (az e ndo)];exact e) (az e npo);have hM:FF cM H6 (Z.ho H6) po (sz k) (eo r k dw):=⟨dxo,h,n,k,dw,r,hpo,zok.same sm6 hX5,rfl,n8,kl,wl,λs _=>M.min_int kl wl s⟩;refine⟨po,sz k,eo r k dw,rfl,hM,aN _,An (M.minor kl wl),λH7 sm7=> ?_⟩;have fl:scal (eu (sz k) (eo r k dw)) (.str kd)=true:=by
    unfold eu;split
    .rfl
    split
    .rfl
    split
    .rfl
    split
    .rfl
    split<;>rfl
   refine⟨_,rfl,fl,_,rfl,bJ (λh1=> ?_) λh1=> ?_⟩
   .have e1:eu (sz k) (eo r k dw)= .str kd:=Gx h1;refine⟨_,rfl,_,rfl,_,rfl,Gd (Gf 4) (by decide),λt ht=> ?_⟩;exact k1 k dw t _ ((sm05.trans (sm6.trans sm7)).trans (Same.new ht)) ((sm05.trans (sm6.trans sm7)).free ht) aj kl hw e1
   .have e1:¬eu (sz k) (eo r k dw)= .str kd:=λz=>h1 (F5 z);refine⟨_,_,sm5.trans (sm6.trans sm7),λw hw'=> ?_,rfl⟩;rw[Hz,hz']at hw';rcases Gu.mp hw' with h2|h2
    .exact hall' w h2
    .have h2:(w:Int)=(dw:Int):=by simpa using h2
     have e:w=dw:=by lia
     rw[e];exact e1
  .rintro σ H5 ⟨v6,v7,sm5,hall',rfl⟩;refine⟨some (.int (k:Int)),some (.int (aC (2^n-1) k:Nat)),v6,v7,sm2.trans (sm3.trans (sm4.trans sm5)),λk' w hk' hw zw=> ?_,rfl⟩;rw[Hz,hz]at hk';rcases Gu.mp hk' with h2|h2
   .exact hall k' w h2 hw zw
   .have h2:(k':Int)=(k:Int):=by simpa using h2
    have e:k'=k:=by lia
    subst e;refine hall' w ?_;rw[F3,HN];exact(dE l8).mpr ⟨w,rfl,hw,zw⟩
 .rintro σ H2 ⟨v4,v5,v6,v7,sm2,hall,rfl⟩;refine k2 H2 (sm1.trans sm2) λk w hk zk hw zw=>hall k w ?_ hw zw;rw[F3,HN];exact(dE (by lia)).mpr ⟨k,rfl,jB hk,by lia⟩
def wX(H:Hp)(xs:List V):Prop:=∀x∈xs,∃a,x= .ref a/\H a=none
def mD(H:Hp)(a:Addr)(ks:List (Str×Nat×Nat)):Prop:=∃xs,H a=some (.lst xs)/\xs.length=ks.length/\∀ (i:Nat) (k:Str×Nat×Nat),ks[i]?=some k->∃b,xs[i]?=some (.ref b)/\H b=some (.tup [.str k.1, .int (k.2.1:Int), .int (k.2.2:Int)])
theorem mD.same(h:mD H a ks)(e:Same H H'):mD H' a ks:=by obtain⟨xs,h1,h2,h3⟩:=h;exact⟨xs,e.at h1,h2,λi k hk=>by obtain⟨b,g1,g2⟩:=h3 i k hk;exact⟨b,g1,e.at g2⟩⟩
structure rz(p:Int)(n R:Nat)(r:Nat->Nat)(c:Nat->List Int):Prop where
 ex:∃B,B<2^n/\sz B=R/\r B=R/\gT p R B (2^n-1) r c
 len:∀t,t<n->(c t).length=R
 num:∀t,t<n->∀z∈c t,0<=z/\z<p
def DP(p:Int)(n R:Nat)(r:Nat->Nat):Prop:=∃B G y c,B<2^n/\sz B=R/\r B=R/\G<2^n/\y<n/\G.testBit y=false/\gT p R B G r c/\∀col∈cv p (cX r R B y),¬jt p R r (cf c y col) G y
def vI(n R:Nat)(r:Nat->Nat)(k:Str×Nat×Nat):Prop:=∀s w,s<2^n->sz s=k.2.1->Sub w (aC (2^n-1) s)->((sz w:Nat):Int)=(R:Nat) - (k.2.2:Nat)->¬eu (sz s) (eo r s w)= .str k.1
inductive lA(Z:Hs)(vs:List V)(H:Hp)(Q:VK):Prop
 |mk (h a:Addr) (n R:Nat) (p:Int) (r:Nat->Nat) (ks:List (Str×Nat×Nat)) (y_0:vs=[.ref h, .int p, .ref a]) (y_1:Z.ho H h n r) (y_2:Mat n r) (y_3:r (2^n-1)=R) (y_4:bP p) (y_5:0<p) (y_6:p<=3) (y_7:mD H a ks) (y_8:(∀c l xs t H',Same H H'->H t=none->H' t=some (.tup [.str "table", .ref l])->H l=none->H' l=some (.lst xs)->aK (hide H' l) xs (gS c n R)->wX H xs->rz p n R r c->Q (.ref t) H')) (y_9:(∀k s w t H',Same H H'->H t=none->H' t=some (.tup [.str "barred", .int (aC (aC (2^n-1) s) w:Nat), .int (w:Int), .str k])->(∃m d,(k,m,d)∈ks)->s<2^n->Sub w (aC (2^n-1) s)->eu (sz s) (eo r s w)= .str k->Q (.ref t) H')) (y_10:(∀H',Same H H'->DP p n R r->(∀k∈ks,vI n R r k)->Q .non H')):lA Z vs H Q
def mN(Z:Hs):Sp:=λvs H Q _=>lA Z vs H Q
theorem sc_told_over:aB ["house","prime","kinds","known","rows","kind","found"] ["house","prime","kinds"] (ak s_told_over):=sc_of
theorem qM(T:Tb K mg)(zok:eJ Z)(zK:eJ (hsN cK))(D:aU K mg "told_over" s_told_over ["house","prime","kinds"])(hj:8<=j)(ar:qg P w K mg base 8 "Known" cK ["self","house"] (wd Z cK))
  (ai:Cal P w K mg base 8 "table_for" ["house","prime"] (rZ (hsN cK))) (ag:Cal P w K mg base j "left_barred" ["house","kind","many","rank"] (Ad (hsN cK))):
  Cal P w K mg base (j+2) "told_over" ["house","prime","kinds"] (mN Z):=by
 refine D.cal sc_told_over (λvs H Q E h=>by obtain⟨h,a,n,R,p,r,ks,rfl,_⟩:=h;rfl) λf cdv A outer σs H vs Q E hr h=> ?_;obtain⟨h,a,n,R,p,r,ks,rfl,hX,M,rR,pm,p0,p3,hks,k1,k2,k3⟩:=h;refine⟨_,(ab (wset 3 sc_told_over.nd (ky ar hr (by lia) (by rfl) (aa (pv 0) af)))
   (ab (wset 4 sc_told_over.nd (wcal ai hr (aa (pv 3) (aa (pv 1) af))))
   (ab (aX (wpt qK (pv 4) fz)
     (ah (aw (ie (aa fv (aa (pv 4) af)))))
     aF)
   (ab (wfor (wil K (pv 2)) (wname 5 sc_told_over.nd)
     (ab (wset 6 sc_told_over.nd (wcal ag hr (aa (pv 3) (aa (fh K (pv 5) ae) (aa (fh K (pv 5) ae) (aa (fh K (pv 5) ae) af))))))
     (ah (aX (wpt qK (pv 6) fz)
       (ah (aw (pv 6)))
       aF))))
   (ah (aw fz)))))),?_⟩
 have n8:=M.n8;refine⟨_,rfl,λpo dxo npo ndo neo=>⟨po,dxo,h,n,r,rfl,aj,zok.same (ku npo ndo) hX,n8,λtt H1 htt oth htp hpo=>⟨rfl,?_⟩⟩⟩;have sm1:Same H H1:=λb o e=>oth b o (by rw[av (az e npo),av (az e ndo)];exact e) (az e npo);have hKn:(hsN cK).ho H1 po n r:=⟨dxo,tt,hpo,htp⟩;refine⟨_,rfl,_,rfl,po,n,R,p,r,rfl,hKn,M,rR,pm,p0,p3,λB c l xs H2 sm2 hl hxs hR hN hB zB rB st lc=> ?_,λB G y c H2 sm2 hB zB rB hG yn yG st no=> ?_⟩
 .refine⟨_,rfl,rfl,_,rfl,bJ (λ_=> ?_) λhn=>absurd rfl hn⟩;refine⟨_,rfl,Gd (Gf 2) (by decide),λt ht=> ?_⟩;have tl:t≠l:=λe=>by rw[e,hxs]at ht;cases ht
  refine k1 c l xs t _ (sm1.trans (sm2.trans (Same.new ht))) (sm1.free (sm2.free ht)) aj (sm1.free hl) (by rw[av tl.symm];exact hxs) (hR.same λb o e=> ?_) (λx hx=>by obtain⟨a,h1,h2⟩:=hN x hx;exact⟨a,h1,sm1.free h2⟩) ⟨⟨B,hB,zB,rB,st⟩,λt ht=>(lc t ht).1,λt ht=>(lc t ht).2⟩;by_cases e2:b=l
  .subst e2;unfold hide at e;rw[F7 rfl]at e;cases e
  .rw[c8 e2]at e⊢;rw[av (az e ht)];exact e
 .refine⟨_,rfl,rfl,_,rfl,bJ (λhn=>(nomatch hn)) λ_=> ?_⟩;have hk2:=hks.same (sm1.trans sm2);obtain⟨xs,hxs,xl,hat⟩:=hk2;refine⟨_,rfl,a,rfl,⟨_,SqL.of hxs⟩,?_⟩;refine bz (K:=K) (a:=a) (xs:=xs) (λi σ H3=>∃v5 v6:Option V,Same H2 H3/\(∀k∈ks.take i,vI n R r k)/\σ=[some (.ref h),some (.int p),some (.ref a),some (.ref po),some .non,v5,v6])
   ⟨none,none,Same.refl _,λk hk=>absurd hk Hv,rfl⟩ (λi σ H3 _ h=>by obtain⟨_,_,sm,_⟩:=h;exact SqL.of (sm.at hxs)) ?_ ?_
  .rintro i x σ H3 hi ⟨v5,v6,sm3,hall,rfl⟩;have il:i<ks.length:=by rw[<-xl];exact(Ga.mp hi).1
   have hk:=Gp il;obtain⟨b,hb,htb⟩:=hat i _ hk;rw[hi]at hb;cases hb;generalize ks[i]=k at hk htb;obtain⟨kd,m,d⟩:=k;have htb3:=sm3.at htb;dsimp only[aS];refine⟨_,rfl,_,rfl,b,_,_,_,rfl,rfl,SqT.of htb3,rfl,_,rfl,b,_,_,_,rfl,rfl,SqT.of htb3,rfl,_,rfl,b,_,_,_,rfl,rfl,SqT.of htb3,rfl,?_⟩;refine⟨po,n,m,d,kd,r,rfl,zK.same (sm2.trans sm3) hKn,M,λs w t H4 sm4 ht htt4 hs hw hkd=> ?_,λH4 sm4 hno=> ?_⟩
   .refine⟨_,rfl,rfl,_,rfl,bJ (λ_=> ?_) λhn=>absurd rfl hn⟩;have smA:=sm1.trans (sm2.trans sm3);exact⟨_,rfl,k2 kd s w t H4 (smA.trans sm4) (smA.free ht) htt4 ⟨m,d,Ge hk⟩ hs hw hkd⟩
   .refine⟨_,rfl,rfl,_,rfl,bJ (λhn=>(nomatch hn)) λ_=> ?_⟩;refine⟨_,_,sm3.trans sm4,λk' hk'=> ?_,rfl⟩;rw[Hz,hk]at hk';rcases Gu.mp hk' with h2|h2
    .exact hall k' h2
    .have h2:k'=(kd,m,d):=by simpa using h2
     rw[h2];exact λs w hs zs hw zw=>hno s w hs zs hw (by rw[rR];exact zw)
  .rintro σ H3 ⟨v5,v6,sm3,hall,rfl⟩;rw[xl,HN]at hall;exact k3 H3 (sm1.trans (sm2.trans sm3)) ⟨B,G,y,c,hB,zB,rB,hG,yn,yG,st,no⟩ hall
theorem ER(C:Addr):eJ (hsN C) where
 same:=λe h=>h.same e
 shown:=λh=>by obtain⟨dx,t,h1,h2⟩:=h;exact⟨C,rfl,dx,_,h1,Bq _ _,yH _ _,Bt _ _⟩
theorem D1(vs:List V)(H:Hp)(Q:VK)(E:XK)(h:fL (hsN C) C vs H Q E):vV C vs H Q E:=by obtain⟨a,n,s,r,e,h1,_,n8,hs,k⟩:=h;exact⟨a,n,s,r,e,h1,n8,hs,k H (Same.refl _)⟩
theorem Fy{B t y:Nat}(h:B.testBit t=true):j6 B t y=exB B t y:=by
 unfold j6 exB;refine GQ (· |||2^y) (Gi λj=> ?_);rw[br,Ho,Gg];by_cases e:t=j
 .subst e;simp[h]
 .simp[e]
theorem xS(B8:B<256)(zB:sz B=R):rE B R (λi=>(aD B).getD i 0):=by
 have lB:(aD B).length=R:=(cq B).trans zB;have at_:∀i,i<R->(aD B)[i]?=some ((aD B).getD i 0):=λi hi=>by
  have hi':i<(aD B).length:=by rw[lB];exact hi
  rw[Gp hi'];simp[hi']
 refine⟨λi hi=>(ba.mp (Ge (at_ i hi))).2,λi j hi hj e=> ?_,λt ht=> ?_⟩
 .have h1:=at_ i hi;have h2:=at_ j hj;have e':(aD B).getD i 0=(aD B).getD j 0:=e;rw[e']at h1;exact(Kf (by lia) (iD B)).mp (h1.trans h2.symm)
 .obtain⟨i,hi⟩:=Hk (ba.mpr ⟨bU (n:=8) B8 ht,ht⟩);have il:i<R:=by rw[<-lB];exact(Ga.mp hi).1
  exact⟨i,il,GY ((at_ i il).symm.trans hi)⟩
theorem Dg(zB:sz B=R)(hi:i<R):(cX r R B y)[i]?=some (decide (r (exB B ((aD B).getD i 0) y)=R)):=by
 have lB:(aD B).length=R:=(cq B).trans zB;have hi':i<(aD B).length:=by rw[lB];exact hi
 have e:(aD B).getD i 0=(aD B)[i]:=by simp[hi']
 unfold cX;rw[show bits B=(aD B).map λt:Nat=>(t:Int)from rfl,Hc,Gs,Gp hi',e];show some (decide (r (j6 B ((aD B)[i]:Int).toNat y)=R))=_;rw[F6,Fy (ba.mp (Ik hi')).2]
theorem uX(M:Mat n r)(hf:r (2^n-1)=R)(h:DP 2 n R r)(hk:vI n R r (aI,4,2)):False:=by
 obtain⟨B,G,y,c,hB,zB,rB,hG,yn,yG,st,no⟩:=h;have n8:=M.n8;have B8:B<256:=s_lt n8 hB;have hG':G|||2^y<2^n:=aQ hG yn;have P:=xS B8 zB;have lB:(aD B).length=R:=(cq B).trans zB;have fl:(cX r R B y).length=R:=by unfold cX;rw[F3];exact zB
 have m0:(cX r R B y).map (λb=>if b=true then(1:Int)else 0)∈cv 2 (cX r R B y):=(gs (by decide) _ _).mpr ⟨F3 _,λi b hb=>by rw[Gb,Gs,hb];cases b<;>exact⟨by decide,by decide,by decide⟩⟩
 generalize (cX r R B y).map (λb=>if b=true then(1:Int)else 0)=col at m0;have nB:B.testBit y=false:=by
  cases e:B.testBit y with
  |false=>rfl
  |true=>rw[st.sub y e]at yG;cases yG
 have cm:∀t,(G|||2^y).testBit t=true->B.testBit t=false->cf c y col t∈cv 2 (cX r R B t):=λt h1 h2=>by
  unfold cf;by_cases e:t=y
  .rw[F7 e,e];exact m0
  .rw[F8 e];rw[a7,Im]at h1;exact st.fill t (by rcases h1 with z|z;exact z;exact absurd (Gx z).symm e) h2
 have TB:Dw r (G|||2^y) B R (λi=>(aD B).getD i 0) (iE (cf c y col)):=by
  refine⟨λi j hi hj=> ?_,λt i h1 h2 hi=> ?_⟩
  .have hi':i<(aD B).length:=by rw[lB];exact hi
   have e:(aD B).getD i 0=(aD B)[i]:=by simp[hi']
   have tb:=(ba.mp (Ik hi')).2;have ne:¬(aD B)[i]=y:=λz=>by rw[z,nB]at tb;cases tb
   show(cf c y col ((aD B).getD i 0)).getD j 0=_;unfold cf;rw[e,F8 ne,st.unit i _ (Gp hi'),rL hj]
  .have:=((gs (by decide) _ _).mp (cm t h1 h2)).2 i _ (Dg zB hi);show(cf c y col t).getD i 0=_;obtain⟨a1,a2,a3⟩:=this;by_cases e:r (exB B ((aD B).getD i 0) t)=R
   .rw[F7 e];have:=a3.mp (F5 e);lia
   .rw[F8 e];exact Hq λz=>e (Gx (a3.mpr z))
 have nf:¬gP r (G|||2^y) R:=λnf=>no col m0 λS hS zS=>by
  have hy:S.testBit y=false:=by
   cases e:S.testBit y with
   |false=>rfl
   |true=>rw[hS y e]at yG;cases yG
  have z1:=jd (s_lt n8 (hS.lt hG)) (show y<8 by lia) hy;refine(xp M hf hG' (λt ht=>by rw[a7,st.sub t ht];rfl) zB rB P TB nf (Z:=S|||2^y) (λt ht=> ?_) (by lia)).symm;rw[a7,Im]at ht⊢;rcases ht with z|z
  .exact .inl (hS t z)
  .exact .inr z
 obtain⟨k,w,hk1,hw1,zk,dj,zw,ev⟩:=yQ M hG' hf nf;refine hk k w hk1 zk (λt ht=> ?_) (show((sz w:Nat):Int)=(R:Nat) - ((2:Nat):Int) by lia) ?_
 .rw[br,GD,F5 (bU hw1 ht),Hl];cases e:k.testBit t with
  |false=>rfl
  |true=>rw[dj t e]at ht;cases ht
 .rw[zk];unfold eu;rw[F7 ev]
inductive oz(Z:Hs)(vs:List V)(H:Hp)(Q:VK):Prop
 |mk (h:Addr) (n R:Nat) (r:Nat->Nat) (y_0:vs=[.ref h]) (y_1:Z.ho H h n r) (y_2:Mat n r) (y_3:r (2^n-1)=R) (y_4:(∀c l xs t H',Same H H'->H t=none->H' t=some (.tup [.str "table", .ref l])->H l=none->H' l=some (.lst xs)->aK (hide H' l) xs (gS c n R)->wX H xs->rz 2 n R r c->Q (.ref t) H')) (y_5:(∀s w t H',Same H H'->H t=none->H' t=some (.tup [.str "barred", .int (aC (aC (2^n-1) s) w:Nat), .int (w:Int), .str aI])->s<2^n->Sub w (aC (2^n-1) s)->eu (sz s) (eo r s w)= .str aI->Q (.ref t) H')):oz Z vs H Q
def o5(Z:Hs):Sp:=λvs H Q _=>oz Z vs H Q
theorem sc_over_two:aB ["house"] ["house"] (ak s_over_two):=sc_of
theorem sP(zok:eJ Z)(D:aU K mg "over_two" s_over_two ["house"])(ag:mg "TWO_OF_FOUR"=some (.str aI t1))(ai:Cal P w K mg base j "told_over" ["house","prime","kinds"] (mN Z)):Cal P w K mg base (j+1) "over_two" ["house"] (o5 Z):=by
 refine D.cal sc_over_two (λvs H Q E h=>by obtain⟨h,n,R,r,rfl,_⟩:=h;rfl) λf cdv A outer σs H vs Q E hr h=> ?_;obtain⟨h,n,R,r,rfl,hX,M,rR,k1,k2⟩:=h;refine⟨_,(ah (aw (wcal ai hr (aa (pv 0) (aa ae (aa (cI (aa (ie (aa (dN (v:= .str aI) (by rfl) ag ⟨_,rfl⟩) (aa ae (aa ae af)))) af)) af)))))),?_⟩;refine⟨_,rfl,Gd (Gf 3) (by decide),λb hb=>⟨Gd (Gf 1) (by decide),λa ha=> ?_⟩⟩;have sb:Same H (upd H b (.tup [.str aI, .int 4, .int 2])):=Same.new hb;have sa:=sb.trans (Same.new (o:= .lst [.ref b]) ha);have ne:b≠a:=λe=>by rw[<-e,aj]at ha;cases ha
 refine⟨h,a,n,R,2,r,[(aI,4,2)],rfl,zok.same sa hX,M,rR,c6,by decide,by decide,⟨[.ref b],aj,rfl,λi k hk=> ?_⟩,λc l xs t H' sm ht htt hl hxs hR hN ho=> ?_,λk s w t H' sm ht htt hk hs hw hkd=> ?_,λH' sm nt nk=> ?_⟩
 .cases i with
  |zero=>cases hk;exact⟨b,rfl,by rw[av ne,aj];rfl⟩
  |succ i=>simp at hk
 .exact k1 c l xs t H' (sa.trans sm) (sa.free ht) htt (sa.free hl) hxs hR (λx hx=>by obtain⟨a,h1,h2⟩:=hN x hx;exact⟨a,h1,sa.free h2⟩) ho
 .obtain⟨m,d,hk⟩:=hk;cases Gw.mp hk;exact k2 s w t H' (sa.trans sm) (sa.free ht) htt hs hw hkd
 .exact(uX M rR nt (nk _ Gn)).elim
theorem sc_fits:aB ["house","prime","columns","thing","column","whole","some","table"] ["house","prime","columns","thing","column"] (ak s_fits):=sc_of
theorem CV{Z:Hs}(T:Tb K mg)(zok:eJ Z)(hc:∀C,Z.dom C->HC K C_House C)(D:aU K mg "fits" s_fits ["house","prime","columns","thing","column"])(aA:∀C,Z.dom C->bV P w K mg base 4 C "rank" ["self","s"] (fL Z C))
  (ag:Cal P w K mg base 5 "whole_rank" ["house"] (d9 Z)) (ai:Cal P w K mg base 4 "choices" ["s","k"] gn) (ax:Cal P w K mg base 1 "set_of" ["some"] (qr K)) (ay:Cal P w K mg base 2 "things" ["s"] ee) (ar:Cal P w K mg base 3 "rank_of" ["rows","prime"] (se K)):
  Cal P w K mg base 6 "fits" ["house","prime","columns","thing","column"] (Ai Z):=by
 refine D.cal sc_fits (λvs H Q E h=>by obtain⟨h,d,a,n,R,G,y,p,r,ks,q,c,col,rfl,_⟩:=h;rfl) λf cdv A outer σs H vs Q E hr h=> ?_;obtain⟨h,d,a,n,R,G,y,p,r,ks,q,c,col,rfl,hX,n8,rR,R8,pm,p0,hC,hK,hG,yn,hyG,ha,cl,cn,k⟩:=h;refine⟨_,(ab (wset 5 sc_fits.nd (wcal ag hr (aa (pv 0) af)))
   (ab (wfor (wil K (wcal ai hr (aa (wcal ax hr (aa (cF (tY (by rfl)) (by rfl) T.list_ IY (aa (pv 2) af)) af)) (aa (aq dO (pv 5) ae) af)))) (wname 6 sc_fits.nd)
     (ab (wset 7 sc_fits.nd (aq kB (wlc ["before"] ["columns"] [2] (wil K (wcal ay hr (aa (pv 6) af))) (wnC 0) bw (wB (Gq (JY (by decide) _) hr.units) (pv 1) (pv 0) (by intro _ _;rfl))) (cI (aa (pv 4) af))))
     (ah (aX (wpt eX (wpe aO (wcal ar hr (aa (pv 7) (aa (pv 1) af))) (pv 5)) (wpe aO (dq aA hr (by decide) (pv 0) (aa (aq jS (pv 6) (aq bY ae (pv 3))) af)) (pv 5)))
       (ah (aw eh))
       aF))))
   (ah (aw eh)))),?_⟩
 have hp:=jg n8;have G8:G<256:=s_lt n8 hG;refine⟨_,rfl,h,n,r,rfl,hX,n8,λH1 sm1=> ?_⟩;rw[rR];have hC1:=hC.same sm1;refine⟨_,rfl,d,_,rfl,hC1.dict,λl hl=> ?_⟩;have ek:(List.map (λt:Nat=>((t:Int),V.ref (q t))) ks).map (·.1)=bq ks:=by rw[Hc];rfl
 rw[ek];have sm2:Same H1 (upd H1 l (.lst ((bq ks).map V.int))):=Same.new hl;have kb:∀t∈ks,t<8:=λt ht=>by have:=bU hG ((hK.keys t).mp ht);lia
 refine⟨l,bq ks,rfl,SqL.of aj,λz hz=>by obtain⟨s,hs,rfl⟩:=ck hz;have:=kb s hs;lia,?_⟩;rw[Bv hK.keys];refine⟨_,rfl,_,_,rfl,rfl,?_⟩;refine⟨(G:Int),(R:Int) -1,rfl,by lia,by lia,λpc H3 sm3 hpc hl3=> ?_⟩;rw[F6]at hl3;have sm13:Same H1 H3:=sm2.trans sm3;refine⟨pc,rfl,⟨_,SqL.of hl3⟩,?_⟩;refine bz (K:=K) (a:=pc) (xs:=(cZ G ((R:Int) -1)).map V.int) (λi σ H4=>∃v6 v7:Option V,Same H3 H4/\(∀S:Nat,(S:Int)∈(cZ G ((R:Int) -1)).take i->(dU p (bZ (iE (cf c y col)) (List.range R)) (S|||2^y)=R↔r (S|||2^y)=R))/\σ=[some (.ref h),some (.int p),some (.ref d),some (.int (y:Int)),some (.ref a),some (.int (R:Int)),v6,v7]) ⟨none,none,Same.refl _,λS hS=>absurd hS Hv,rfl⟩ (λi σ H4 _ h=>by obtain⟨_,_,sm,_⟩:=h;exact SqL.of (sm.at hl3)) ?_ ?_
 .rintro i x σ H4 hi ⟨v6,v7,sm4,hall,rfl⟩;obtain⟨z,rfl,hz⟩:=aY hi;obtain⟨S,rfl,hS,zS⟩:=(dE G8).mp (Ge hz);have S8:S<256:=hS.lt (n:=8) G8;have zR:sz S+1=R:=by lia
  dsimp only[aS];have hC4:=hC1.same (sm13.trans sm4);refine⟨_,rfl,(S:Int),rfl,by lia,by lia,λpt H5 sm5 hpt hl5=>⟨pt,rfl,⟨_,SqL.of hl5⟩,?_⟩⟩;rw[F6]at hl5;refine bo (λx=>(λ_=>true) (aZ x)) (λx=>V.ref (q (aZ x).toNat)) (SqL.of hl5) (by rw[F3];exact Gd (aN _) (by decide)) (λj x vs H' R' S' hx hv sm hk=> ?_) λD6 H6 hD6 sm6 hl6=> ?_
  .obtain⟨v,rfl⟩:=aW hv;obtain⟨z,rfl,hz'⟩:=aY hx;obtain⟨t,t8,tb,rfl⟩:=bO.mp (Ge hz');simp only[aS,fK,F7];have tk:t∈ks:=(hK.keys t).mpr (hS t tb);have q1:=hk [some (.int (t:Int))] H' rfl (Same.refl _);rw[F7 rfl]at q1;exact⟨_,rfl,_,rfl,d,_,rfl,(hC4.same (sm5.trans sm)).get tk,q1⟩
  have ha6:=(sm1.trans (sm13.trans (sm4.trans (sm5.trans sm6)))).at ha;have e6:dC (λx=>(λ_=>true) (aZ x)) (λx=>V.ref (q (aZ x).toNat)) ((bits S).map V.int)=(aD S).map λt=>V.ref (q t):=by unfold dC bits aD;rw[Iq.mpr (λ_ _=>rfl),Hc,Hc];rfl
  rw[e6]at hl6;refine⟨_,rfl,Gd (Gf 1) (by decide),λu hu=> ?_⟩;have l8:(aD S).length<=8:=by rw[cq];lia
  have smu:Same H6 (upd H6 u (.lst [.ref a])):=Same.new hu;refine⟨D6,u,_,_,rfl,rfl,smu.at hl6,aj,by rw[F3];exact Gd (Nat.add_le_add_right l8 1) (by decide),λtb htb=> ?_⟩;have sm7:Same H6 (upd (upd H6 u (.lst [.ref a])) tb (.lst ((aD S).map (λt=>V.ref (q t))++[.ref a]))):=smu.trans (Same.new htb);have smA:=sm4.trans (sm5.trans (sm6.trans sm7));have hC7:=hC1.same (sm13.trans smA);have ts:∀t∈aD S,t∈ks:=λt ht=>(hK.keys t).mpr (hS t (ba.mp ht).2);have rows:=xG (H:=upd (upd H6 u (.lst [.ref a])) tb (.lst ((aD S).map (λt=>V.ref (q t))++[.ref a]))) (q:=q) (c:=c) (col:=col) (a:=a) (y:=y) (cs:=aD S) (λt ht=>⟨hC7.cols t (ts t ht),λz=>by rw[<-z,hS t (ba.mp ht).2]at hyG;cases hyG⟩) (sm7.at ha6);generalize hH7:upd (upd H6 u (.lst [.ref a])) tb (.lst ((aD S).map (λt=>V.ref (q t))++[.ref a]))=H7 at*;have htb7:H7 tb=some (.lst ((aD S).map (λt=>V.ref (q t))++[.ref a])):=by rw[<-hH7];exact aj
  have len7:(aD S++[y]).length=R:=by rw[Gr,cq];exact zR
  refine⟨_,rfl,_,rfl,tb,_,(aD S++[y]).map (cf c y col),R,p,rfl,htb7,rows,by rw[F3,len7];exact R8,R8,λrr hrr=> ?_,pm,λkk H8 sm8 hV hM=> ?_⟩
  .obtain⟨t,ht,rfl⟩:=Gz.mp hrr;have key:(cf c y col t).length=R/\∀z∈cf c y col t,0<=z/\z<p:=by
    unfold cf;by_cases e:t=y
    .rw[F7 e];exact⟨cl,cn⟩
    .rw[F8 e];have tk:t∈ks:=ts t (by rcases Gu.mp ht with z|z;exact z;exact absurd (Gw.mp z) e);exact⟨hK.len t tk,hK.num t tk⟩
   refine⟨key.1,λz hz=> ?_⟩;have:=key.2 z hz;have:=pm.lt;exact F9 (show z.natAbs<2^7 by lia) (Gv (by decide) (by decide))
  have hX8:=zok.same (sm1.trans (sm13.trans (smA.trans sm8))) hX;obtain⟨C,dm,hsh⟩:=zok.shown hX8;obtain⟨dx,fs,hh,fr,fe,fm⟩:=hsh.ex;have sl:S|||2^y<2^n:=aQ (hS.lt hG) yn;refine⟨_,rfl,rfl,?_⟩;refine⟨_,rfl,h,C,dx,fs,rfl,hh,dm,fr,_,rfl,_,rfl,_,_,rfl,rfl,⟨by lia,by lia,by decide⟩,_,_,rfl,rfl,?_⟩;refine⟨h,n,S|||2^y,r,?_,hX8,⟨dx,fs,hh⟩,n8,sl,λH9 sm9=> ?_⟩
  ·(try dsimp only);rw[jG,dH]
  refine⟨_,rfl,rfl,?_⟩;rw[Hc]at hV hM;have sq:=rW pm (iE (cf c y col)) len7 hV hM;have e8:rho p (bZ (iE (cf c y col)) (List.range R)) (aD S++[y])=dU p (bZ (iE (cf c y col)) (List.range R)) (S|||2^y):=fP pm λj=>by rw[iC (by lia),Gu,Gw,Gh];exact Or.comm
  rw[e8]at sq;rw[aJ,aJ];refine⟨rfl,_,rfl,bJ (λh1=> ?_) λh1=> ?_⟩
  .have ne:¬(dU p (bZ (iE (cf c y col)) (List.range R)) (S|||2^y)=R↔r (S|||2^y)=R):=λz=>by have:decide (kk=R)=decide (r (S|||2^y)=R):=Iu.mpr (sq.trans z);rw[this]at h1;simp at h1
   exact k false H9 (sm1.trans (sm13.trans (smA.trans (sm8.trans sm9)))) ⟨λz=>(nomatch z),λz=>absurd (z S hS zR) ne⟩
  .have e9:decide (kk=R)=decide (r (S|||2^y)=R):=by cases h3:decide (kk=R)<;>cases h4:decide (r (S|||2^y)=R)<;>rw[h3,h4]at h1<;>first|rfl|exact absurd rfl h1
   refine⟨some (.int (S:Int)),some (.ref tb),smA.trans (sm8.trans sm9),λS2 h2=> ?_,rfl⟩;rw[Hz,hz]at h2;rcases Gu.mp h2 with h2|h2
   .exact hall S2 h2
   .have h2:(S2:Int)=(S:Int):=by simpa using h2
    have:S2=S:=by lia
    rw[this];exact sq.symm.trans (Iu.mp e9)
 .rintro σ H4 ⟨v6,v7,sm4,hall,rfl⟩;refine k true H4 (sm1.trans (sm13.trans sm4)) ⟨λ_ S hS zS=> ?_,λ_=>rfl⟩;refine hall S ?_;rw[F3,HN];exact(dE G8).mpr ⟨S,rfl,hS,by lia⟩
theorem sc_single:aB ["many","place"] ["many","place"] (ak s_single):=sc_of
theorem yh(T:Tb K mg)(D:aU K mg "single" s_single ["many","place"]):Cal P w K mg base 1 "single" ["many","place"] r8:=by
 refine D.cal sc_single (λvs H Q E h=>by obtain⟨n,p,rfl,_⟩:=h;rfl) λf cdv A outer σs H vs Q E hr h=> ?_;obtain⟨n,p,rfl,n8,k⟩:=h;refine⟨_,(ah (aw (wlc ["row"] ["place"] [1] (wrng T.range_ (pv 0)) (wnC 0) bw (jQ (wpt aO (pv 0) (pv 1)) ae ae)))),?_⟩;refine⟨_,rfl,_,rfl,by lia,by lia,?_⟩;rw[F6];refine cG (λ_=>true) (λi=> .int (if i=p then 1 else 0)) (Gd n8 (by decide)) (λi vs H' R S hi hv sm hk=> ?_) λq H1 hq sm1 hl1=> ?_
 .obtain⟨v,rfl⟩:=aW hv;simp only[aS,fK,F7];refine⟨_,rfl,_,rfl,rfl,_,rfl,?_⟩;have:=hk [some (.int (0+(i:Nat)))] H' rfl (Same.refl _);rw[F7 rfl]at this;by_cases e:i=p
  .subst e;rw[F7 (F5 (by rw[Io]))];rw[F7 rfl]at this;exact this
  .rw[F8 (λz=>e (by have:=V.int.inj (Gx z);lia))];rw[F8 e]at this;exact this
 .refine k q H1 sm1 hq (hl1.trans ?_);unfold dB gR;rw[Iq.mpr (λ_ _=>rfl),Hc];rfl
theorem sc_Minor___init__:aB ["self","house","out","drawn","kept"] ["self","house","out","drawn"] (ak s_Minor___init__):=sc_of
theorem jU{Z:Hs}(D:eI K "__init__" "Minor.__init__" s_Minor___init__ ["self","house","out","drawn"] f)(ar:mg "House"=some (.ref C_House))(cl:Cls K cM)(n1:aV K cM "many")(n2:aV K cM "house")(n3:aV K cM "kept")(n4:aV K cM "drawn")(n5:aV K cM "drawn_rank")
  (z:eJ Z) (hc:∀C,Z.dom C->HC K C_House C) (hj:3<=j) (ag:zA P w K mg base 1 C_House "__init__" ["self","n"] (iO K)) (ax:Cal P w K mg base 1 "less" ["s","t"] kr) (ay:Cal P w K mg base 3 "size" ["s"] hJ) (ai:∀C,Z.dom C->bV P w K mg base 2 C "everything" ["self"] (cJ K)) (aA:∀C,Z.dom C->bV P w K mg base j C "rank" ["self","s"] (fL Z C)):
  eU P w K mg base (j+1) f ["self","house","out","drawn"] (sj Z cM):=by
 refine D.fn sc_Minor___init__ (λvs H Q E h=>by obtain⟨p,dx,h,n,o,w,r,rfl,_⟩:=h;rfl) λcdv A outer σs H vs Q E hr h=> ?_;obtain⟨p,dx,h,n,o,dw,r,rfl,hp,hX,n8,hw,k⟩:=h;refine⟨_,(ab (wset 4 sc_Minor___init__.nd (wcal ax hr (aa (dk ai hr (by lia) (pv 1)) (aa (aq jS (pv 2) (pv 3)) af))))
   (ab (bR (jR ag hr (by lia) (dN (v:= .ref C_House) (by rfl) ar rfl) (aa (pv 0) (aa (wcal ay hr (aa (pv 4) af)) af))))
   (ab (wsf K (pv 0) (pv 1))
   (ab (wsf K (pv 0) (pv 4))
   (ab (wsf K (pv 0) (pv 3))
   (ah (wsf K (pv 0) (dq aA hr (by lia) (pv 1) (aa (pv 3) af))))))))),?_⟩
 obtain⟨C,dm,hsh⟩:=z.shown hX;have hhp:h≠p:=mQ hsh;obtain⟨dxh,fs,hh0,fr0,fe0,fm0⟩:=hsh.ex;have hh:H h=some (.ins C dxh fs):=(c8 (H:=H) hhp).symm.trans hh0;obtain⟨clC,nMC,tyC,isC⟩:=hc C dm;have ppos:0<2^n:=ID (by lia);have p8:=jM n8;have ef:(1*2^((n:Nat):Int).toNat-1:Int)=((2^n-1:Nat):Int):=by rw[bL];lia
 have kl:aC (2^n-1) (o|||dw)<2^n:=iU;refine⟨_,rfl,h,C,dxh,fs,rfl,hh,dm,fe0,h,C,dxh,fs,(n:Int),rfl,hh,clC,nMC,fm0,by lia,by lia,_,rfl,_,rfl,_,_,rfl,rfl,2^n-1,o|||dw,?_,?_⟩
 ·(try dsimp only);rw[ef,dH];rfl
 generalize aC (2^n-1) (o|||dw)=kp at*;refine⟨rfl,_,rfl,_,rfl,(kp:Int),rfl,by lia,by lia,λH1 sm1=> ?_⟩;refine⟨p,cM,dx,_,rfl,sm1.at hp,cl,n1,?_⟩;rw[F6];have up:∀ {o:HO},upd H1 p o h=some (.ins C dxh fs):=λ{o}=>by rw[av hhp];exact sm1.at hh
 refine⟨_,rfl,_,rfl,p,cM,dx,_,rfl,aj,cl,n2,Gq (aH _ _ _) (by show 0+1<1000;decide),?_⟩;rw[iL];refine⟨_,rfl,_,rfl,p,cM,dx,_,rfl,aj,cl,n3,Gq (aH _ _ _) (Gq (Iv (aH _ _ _)) (by show 0+1+1<1000;decide)),?_⟩;rw[iL];refine⟨_,rfl,_,rfl,p,cM,dx,_,rfl,aj,cl,n4,Gq (aH _ _ _) (Gq (Iv (aH _ _ _)) (Gq (Iv (Iv (aH _ _ _))) (by show 0+1+1+1<1000;decide))),?_⟩;rw[iL];have smh:∀ {o:HO},Same (hide H p) (upd H1 p o):=λ{o} b o' e=>by
  unfold hide at e;split at e
  .cases e
  .rename_i hb;rw[av hb];exact sm1.at e
 refine⟨_,rfl,h,C,dxh,fs,rfl,up,dm,fr0,_,rfl,h,n,dw,r,rfl,z.same smh hX,⟨dxh,fs,up⟩,n8,hw,λH5 sm5=> ?_⟩;refine⟨_,rfl,p,cM,dx,_,rfl,sm5.at aj,cl,n5,?_,?_⟩
 .exact Gq (aH _ _ _) (Gq (Iv (aH _ _ _)) (Gq (Iv (Iv (aH _ _ _))) (Gq (Iv (Iv (Iv (aH _ _ _)))) (by show 0+1+1+1+1<1000;decide))))
 refine k _ (λb o e hb=> ?_) aj;rw[av hb];exact sm5.at (by rw[av hb];exact sm1.at e)
theorem sc_Minor_rank:aB ["self","s"] ["self","s"] (ak s_Minor_rank):=sc_of
theorem oQ{Z:Hs}(D:eI K "rank" "Minor.rank" s_Minor_rank ["self","s"] f)(cl:Cls K cM)(n2:aV K cM "house")(n3:aV K cM "kept")(n4:aV K cM "drawn")(n5:aV K cM "drawn_rank")(z:eJ Z)(hj:3<=j)
  (ag:Cal P w K mg base 3 "spread" ["s","kept"] r6) (ai:∀C,Z.dom C->bV P w K mg base j C "rank" ["self","s"] (fL Z C)):
  eU P w K mg base (j+1) f ["self","s"] (fL (lK Z cM) cM):=by
 refine D.fn sc_Minor_rank (λvs H Q E h=>by obtain⟨a,n,s,r,rfl,_⟩:=h;rfl) λcdv A outer σs H vs Q E hr h=> ?_;obtain⟨a,n,s,r,rfl,hX,⟨dx0,fs0,ha0⟩,n8,hs,k⟩:=h;refine⟨_,(ah (aw (aq dO (dq ai hr (by lia) (wfld K (pv 0)) (aa (aq jS (wcal ag hr (aa (pv 1) (aa (wfld K (pv 0)) af))) (wfld K (pv 0))) af)) (wfld K (pv 0))))),?_⟩;obtain⟨dx,h,n',kp,dw,r',ha,hX',en,n8',hk,hw,hrr⟩:=hX;have s2:=s_lt n8 hs;have k2:=s_lt n8' hk;obtain⟨C,dm,hsh⟩:=z.shown hX';obtain⟨dxh,fs,hh,fr,fe,fm⟩:=hsh.ex;have sl:aT s kp|||dw<2^n':=Iw ((fo s kp).lt hk) hw;refine⟨_,rfl,a,cM,dx,_,_,rfl,ha,cl,n2,yr _ _ _ _ _,h,C,dxh,fs,rfl,hh,dm,fr,?_⟩;refine⟨_,rfl,_,rfl,a,cM,dx,_,_,rfl,ha,cl,n3,A9 _ _ _ _ _,(s:Int),(kp:Int),rfl,by lia,by lia,by lia,λH1 sm1=> ?_⟩;have hX1:=z.same sm1 hX';refine⟨_,rfl,a,cM,dx,_,_,rfl,sm1.at ha,cl,n4,yt _ _ _ _ _,_,_,rfl,rfl,h,n',aT s kp|||dw,r',?_,hX1,⟨dxh,fs,sm1.at hh⟩,n8',sl,λH2 sm2=> ?_⟩
 ·(try dsimp only);rw[F6,F6,dH]
 refine⟨_,rfl,a,cM,dx,_,_,rfl,sm2.at (sm1.at ha),cl,n5,EB _ _ _ _ _,_,_,rfl,rfl,?_⟩;have:=k H2 (sm1.trans sm2);rw[hrr s hs]at this;exact this
theorem sc_Other___init__:aB ["self","house"] ["self","house"] (ak s_Other___init__):=sc_of
theorem jT{Z:Hs}(D:eI K "__init__" "Other.__init__" s_Other___init__ ["self","house"] f)(ar:mg "House"=some (.ref C_House))(cl:Cls K cO)(n1:aV K cO "many")(n2:aV K cO "house")(n3:aV K cO "full")(n4:aV K cO "full_rank")
  (hc:∀C,Z.dom C->HC K C_House C) (zok:eJ Z) (hj:2<=j) (ag:zA P w K mg base 1 C_House "__init__" ["self","n"] (iO K)) (ai:∀C,Z.dom C->bV P w K mg base 2 C "everything" ["self"] (cJ K)) (ax:∀C,Z.dom C->bV P w K mg base j C "rank" ["self","s"] (fL Z C)):
  eU P w K mg base (j+1) f ["self","house"] (si Z cO):=by
 refine D.fn sc_Other___init__ (λvs H Q E h=>by obtain⟨p,dx,h,n,r,rfl,_⟩:=h;rfl) λcdv A outer σs H vs Q E hr h=> ?_;obtain⟨p,dx,h,n,r,rfl,hp,hX,n8,k⟩:=h;refine⟨_,(ab (bR (jR ag hr (by lia) (dN (v:= .ref C_House) (by rfl) ar rfl) (aa (pv 0) (aa (wfld K (pv 1)) af))))
   (ab (wsf K (pv 0) (pv 1))
   (ab (wsf K (pv 0) (dk ai hr (by lia) (pv 1)))
   (ah (wsf K (pv 0) (dq ax hr (by lia) (pv 1) (aa (wfld K (pv 0)) af))))))),?_⟩
 obtain⟨C,dm,hsh⟩:=zok.shown hX;have hhp:h≠p:=mQ hsh;obtain⟨dxh,fs,hh0,fr0,fe0,fm0⟩:=hsh.ex;have hh:H h=some (.ins C dxh fs):=(c8 (H:=H) hhp).symm.trans hh0;obtain⟨clC,nMC,tyC,isC⟩:=hc C dm;have ppos:0<2^n:=ID (by lia);refine⟨rfl,_,rfl,_,rfl,h,C,dxh,fs,_,rfl,hh,clC,nMC,fm0,p,cO,dx,_,rfl,hp,cl,n1,?_⟩;have up:∀ {o:HO},upd H p o h=some (.ins C dxh fs):=λ{o}=>by rw[av hhp];exact hh
 have hp1:upd H p (.ins cO dx (bc "many" (.int (n:Int)) [])) p=some (.ins cO dx (bc "many" (.int (n:Int)) [])):=aj;refine⟨_,rfl,_,rfl,p,cO,dx,_,rfl,hp1,cl,n2,Gq (aH _ _ _) (by show 0+1<1000;decide),?_⟩;rw[iL];refine⟨_,rfl,h,C,dxh,fs,rfl,up,dm,fe0,h,C,dxh,fs,(n:Int),rfl,up,clC,nMC,fm0,by lia,by lia,_,rfl,p,cO,dx,_,rfl,aj,cl,n3,?_,?_⟩
 .exact Gq (aH _ _ _) (Gq (Iv (aH _ _ _)) (by show 0+1+1<1000;decide))
 rw[iL];have ef:(1*2^((n:Nat):Int).toNat-1:Int)=((2^n-1:Nat):Int):=by rw[bL];lia
 rw[ef];have lk:(bc "full" (V.int ((2^n-1:Nat):Int)) (bc "house" (V.ref h) (bc "many" (V.int (n:Int)) []))).lookup ("full":Str)=some (.int ((2^n-1:Nat):Int)):=aG _ _ _;have smh:∀ {o:HO},Same (hide H p) (upd H p o):=λ{o} b o' e=>by
  unfold hide at e;split at e
  .cases e
  .rename_i hb;rw[av hb];exact e
 refine⟨_,rfl,h,C,dxh,fs,rfl,up,dm,fr0,_,rfl,p,cO,dx,_,_,rfl,aj,cl,n3,lk,h,n,2^n-1,r,rfl,zok.same smh hX,⟨dxh,fs,up⟩,n8,by lia,λH5 sm5=> ?_⟩;refine⟨_,rfl,p,cO,dx,_,rfl,sm5.at aj,cl,n4,?_,?_⟩
 .exact Gq (aH _ _ _) (Gq (Iv (aH _ _ _)) (Gq (Iv (Iv (aH _ _ _))) (by show 0+1+1+1<1000;decide)))
 refine k _ (λb o e hb=> ?_) aj;rw[av hb];exact sm5.at (by rw[av hb];exact e)
theorem sc_Other_rank:aB ["self","s","outside"] ["self","s"] (ak s_Other_rank):=sc_of
theorem oO{f C_House cO:Addr}{Z:Hs}{j:Nat}(D:eI K "rank" "Other.rank" s_Other_rank ["self","s"] f)(cl:Cls K cO)(n2:aV K cO "house")(n3:aV K cO "full")(n4:aV K cO "full_rank")(zok:eJ Z)(hne:∀C,Z.dom C->cO≠C)(hj:3<=j)
  (ag:Cal P w K mg base 1 "less" ["s","t"] kr) (ai:Cal P w K mg base 3 "size" ["s"] hJ) (ar:∀C,Z.dom C->bV P w K mg base j C "rank" ["self","s"] (fL Z C)):
  eU P w K mg base (j+1) f ["self","s"] (fL (hsO Z cO) cO):=by
 refine D.fn sc_Other_rank (λvs H Q E h=>by obtain⟨a,n,s,r,rfl,_⟩:=h;rfl) λcdv A outer σs H vs Q E hr h=> ?_;obtain⟨a,n,s,r,rfl,hX,⟨dx0,fs0,ha0⟩,n8,hs,k⟩:=h;refine⟨_,(ab (wset 2 sc_Other_rank.nd (wcal ag hr (aa (wfld K (pv 0)) (aa (pv 1) af))))
   (ah (aw (aq dO (aq dg (wcal ai hr (aa (pv 1) af)) (dq ar hr (by lia) (wfld K (pv 0)) (aa (pv 2) af))) (wfld K (pv 0)))))),?_⟩
 rcases hX with hX|⟨dx,h,r',ha,hX',hrr⟩
 .obtain⟨C,dm,hsh⟩:=zok.shown hX;obtain⟨dx',fs',ha',_⟩:=hsh.ex;exact absurd (mq ha0 ha') (hne C dm)
 .have s2:=s_lt n8 hs;refine⟨_,rfl,a,cO,dx,_,_,rfl,ha,cl,n3,AL _ _ _ _,_,rfl,2^n-1,s,rfl,?_⟩;refine⟨_,rfl,(s:Int),rfl,by lia,by lia,λH1 sm1=> ?_⟩;rw[F6];have hX1:=zok.same sm1 hX';obtain⟨C,dm,hsh⟩:=zok.shown hX1;obtain⟨dxh,fs,hh,fr,fe,fm⟩:=hsh.ex;refine⟨_,rfl,a,cO,dx,_,_,rfl,sm1.at ha,cl,n2,yc _ _ _ _,h,C,dxh,fs,rfl,hh,dm,fr,_,rfl,h,n,aC (2^n-1) s,r',rfl,hX1,⟨dxh,fs,hh⟩,n8,iU,λH2 sm2=> ?_⟩;refine⟨_,_,rfl,rfl,_,rfl,a,cO,dx,_,_,rfl,sm2.at (sm1.at ha),cl,n4,Et _ _ _ _,_,_,rfl,rfl,?_⟩;have:=k H2 (sm1.trans sm2);rw[hrr s hs]at this;exact this
theorem sc_choices:aB ["s","k"] ["s","k"] (ak s_choices):=sc_of
theorem uW(T:Tb K mg)(D:aU K mg "choices" s_choices ["s","k"])(ag:Cal P w K mg base 3 "parts" ["s"] lX)(ai:Cal P w K mg base 3 "size" ["s"] hJ):Cal P w K mg base 4 "choices" ["s","k"] gn:=by
 refine D.cal sc_choices (λvs H Q E h=>by obtain⟨s,k,rfl,_⟩:=h;rfl) λf cdv A outer σs H vs Q E hr h=> ?_;obtain⟨s,kk,rfl,h0,h1,k⟩:=h;refine⟨_,(ah (aw (wlc ["part"] ["k"] [1] (wil K (wcal ag hr (aa (pv 0) af))) (wnC 0) (bW (wpt aO (wcal ai hr (aa (pv 0) af)) (pv 1))) (pv 0)))),?_⟩;refine⟨_,rfl,s,rfl,h0,h1,λp H1 sm1 hp1 hl1=>⟨p,rfl,⟨_,SqL.of hl1⟩,?_⟩⟩;have hlen:=xW s.toNat;have hrg:=sM (show s.toNat<256 by lia);refine bo (λx=>(λz:Int=>decide ((((bits z.toNat).length:Nat):Int)=kk)) (aZ x)) (λx=> .int ((λz:Int=>z) (aZ x))) (SqL.of hl1) (by rw[F3];exact Gd hlen (by decide)) (λi x vs H' R S hx hv sm hk=> ?_) λD H' hD sm hl=> ?_
 .obtain⟨v,rfl⟩:=aW hv;obtain⟨z,rfl,hz⟩:=aY hx;obtain⟨z0,z1⟩:=hrg z (Ge hz);refine⟨_,rfl,z,rfl,z0,z1,λH2 sm2=>⟨_,rfl,rfl,_,rfl,?_⟩⟩;have q:=hk [some (.int z)] H2 rfl sm2;have q':if decide ((((bits z.toNat).length:Nat):Int)=kk)=true then R (.int z) _ H2 else S _ H2:=q;have e:decide (V.int (((bits z.toNat).length:Nat):Int)=V.int kk)=decide ((((bits z.toNat).length:Nat):Int)=kk):=Iu.mpr ⟨λz=>V.int.inj z,λz=>by rw[z]⟩;rw[e];show if decide ((((bits z.toNat).length:Nat):Int)=kk)=true then _ else _;by_cases hc:decide ((((bits z.toNat).length:Nat):Int)=kk)=true
  .rw[F7 hc]at q'⊢;exact⟨_,rfl,q'⟩
  .rw[F8 hc]at q'⊢;exact q'
 replace hl:=hl.trans (GQ (λl=>some (HO.lst l)) (a8 (λz:Int=>decide ((((bits z.toNat).length:Nat):Int)=kk)) (λz:Int=>z) (fZ s.toNat)));rw[show(λz:Int=>z)=id from rfl,Jk]at hl;exact k D H' (sm1.trans sm) (sm1.free hD) hl
theorem sc_holders:aB ["sets","s"] ["sets","s"] (ak s_holders):=sc_of
theorem uV(T:Tb K mg)(D:aU K mg "holders" s_holders ["sets","s"])(ag:Cal P w K mg base 1 "within" ["s","t"] rY):Cal P w K mg base 2 "holders" ["sets","s"] (o7 K):=by
 refine D.cal sc_holders (λvs H Q E h=>by obtain⟨a,p,L,rfl,_⟩:=h;rfl) λf cdv A outer σs H vs Q E hr h=> ?_;obtain⟨a,p,L,rfl,ha,hL,k⟩:=h;refine⟨_,(ah (aw (wlc ["t"] ["s"] [1] (wil K (pv 0)) (wnC 0) (bW (cH (wcal ag hr (aa (pv 1) (aa (pv 0) af))))) (pv 0)))),?_⟩;refine⟨_,rfl,a,rfl,⟨_,ha⟩,?_⟩;refine bo (λx=>(λz:Int=>decide (p&&&z.toNat=p)) (aZ x)) (λx=> .int ((λz:Int=>z) (aZ x))) ha (by rw[F3,bg];exact Gd hL (by decide)) (λi x vs H' R S hx hv sm hk=> ?_) λD H' hD sm hl=> ?_
 .obtain⟨v,rfl⟩:=aW hv;obtain⟨z,rfl,hz⟩:=aY hx;obtain⟨t,ht,rfl⟩:=ck (Ge hz);have q:=hk [some (.int (t:Int))] H' rfl (Same.refl _);refine⟨_,rfl,_,rfl,(p:Int),(t:Int),rfl,by lia,by lia,_,rfl,?_⟩;rw[F6,F6];have q':if decide (p&&&t=p)=true then R (.int (t:Int)) _ H' else S _ H':=q;show if decide (p&&&t=p)=true then _ else _;by_cases hc:decide (p&&&t=p)=true
  .rw[F7 hc]at q'⊢;exact⟨_,rfl,q'⟩
  .rw[F8 hc]at q'⊢;exact q'
 replace hl:=hl.trans (GQ (λl=>some (HO.lst l)) (a8 (λz:Int=>decide (p&&&z.toNat=p)) (λz:Int=>z) (bq L)));rw[show(λz:Int=>z)=id from rfl,Jk,c7]at hl;exact k D H' sm hD hl
theorem sc_whole_rank:aB ["house"] ["house"] (ak s_whole_rank):=sc_of
theorem f6{Z:Hs}(zok:eJ Z)(hc:∀C,Z.dom C->HC K C_House C)(D:aU K mg "whole_rank" s_whole_rank ["house"])(hj:2<=j)(ag:∀C,Z.dom C->bV P w K mg base 2 C "everything" ["self"] (cJ K))(ai:∀C,Z.dom C->bV P w K mg base j C "rank" ["self","s"] (fL Z C)):Cal P w K mg base (j+1) "whole_rank" ["house"] (d9 Z):=by refine D.cal sc_whole_rank (λvs H Q E h=>by obtain⟨a,n,r,rfl,_⟩:=h;rfl) λf cdv A outer σs H vs Q E hr h=> ?_;obtain⟨a,n,r,rfl,hX,n8,k⟩:=h;refine⟨_,(ah (aw (dq ai hr (by lia) (pv 0) (aa (dk ag hr (by lia) (pv 0)) af)))),?_⟩;obtain⟨C,dm,hsh⟩:=zok.shown hX;obtain⟨dx,fs,ha,fr,fe,fm⟩:=hsh.ex;obtain⟨cl,nM,_,_⟩:=hc C dm;have hp:=jg n8;have ppos:0<2^n:=ID (by lia);refine⟨_,rfl,a,C,dx,fs,rfl,ha,dm,fr,_,rfl,a,C,dx,fs,rfl,ha,dm,fe,a,C,dx,fs,n,rfl,ha,cl,nM,fm,by lia,by lia,?_⟩;rw[eD];exact⟨a,n,2^n-1,r,rfl,hX,⟨dx,fs,ha⟩,n8,by lia,k⟩
theorem sc_is_even:aB ["house","n","k"] ["house","n","k"] (ak s_is_even):=sc_of
theorem uU{Z:Hs}(T:Tb K mg)(zok:eJ Z)(hc:∀C,Z.dom C->HC K C_House C)(D:aU K mg "is_even" s_is_even ["house","n","k"])(hj:4<=j)(ag:∀C,Z.dom C->bV P w K mg base 2 C "everything" ["self"] (cJ K))(ax:∀C,Z.dom C->bV P w K mg base j C "rank" ["self","s"] (fL Z C))(ai:Cal P w K mg base (j+1) "whole_rank" ["house"] (d9 Z))(ar:Cal P w K mg base 4 "choices" ["s","k"] gn):Cal P w K mg base (j+2) "is_even" ["house","n","k"] (sh Z):=by
 refine D.cal sc_is_even (λvs H Q E h=>by obtain⟨a,n,m,k,r,rfl,_⟩:=h;rfl) λf cdv A outer σs H vs Q E hr h=> ?_;obtain⟨a,n,m,kk,r,rfl,hX,n8,k⟩:=h;refine⟨_,(ab (aX (PW.pt (fQ (wpt eX (wfld K (pv 0)) (pv 1)) (gF (wpt eX (wcal ai hr (aa (pv 0) af)) (pv 2)))))
     (ah (aw eh))
     aF)
   (ah (aw (cj (oq (K:=K) (by rfl) (by rfl)) (by rfl) T.all_ PyProof.Rows.boot_all (aa (wlc ["s"] ["k","house"] [2,0] (wil K (wcal ar hr (aa (dk ag hr (by lia) (pv 0)) (aa (pv 2) af)))) (wnC 0) bw (wpe aO (dq ax hr (by lia) (pv 2) (aa (pv 0) af)) (pv 1))) af))))),?_⟩
 obtain⟨C,dm,hsh⟩:=zok.shown hX;obtain⟨dx,fs,ha,fr,fe,fm⟩:=hsh.ex;obtain⟨cl,nM,_,_⟩:=hc C dm;have hp:=jg n8;have ppos:0<2^n:=ID (by lia);refine⟨_,rfl,a,C,dx,fs,_,rfl,ha,cl,nM,fm,_,rfl,rfl,_,rfl,bJ (λh1=>kD ?_) λh1=> ?_⟩
 .rw[aJ]at h1;have hn:¬n=m:=by simpa using h1
  have:=k H (Same.refl _);unfold fW at this;rw[F4 hn,Hj,Hj]at this;exact this
 rw[aJ]at h1;have hn:n=m:=by simpa using h1
 refine⟨_,rfl,a,n,r,rfl,hX,n8,λH1 sm1=>⟨_,rfl,rfl,_,rfl,bJ (λh2=> ?_) λh2=> ?_⟩⟩
 .rw[aJ]at h2;have hn2:¬r (2^n-1)=kk:=by simpa using h2
  have:=k H1 sm1;unfold fW at this;rw[F4 hn2,Hu,Hj]at this;exact this
 rw[aJ]at h2;have hk2:r (2^n-1)=kk:=by simpa using h2
 have hX1:=zok.same sm1 hX;obtain⟨C1,dm1,hsh1⟩:=zok.shown hX1;obtain⟨dx1,fs1,ha1,fr1,fe1,fm1⟩:=hsh1.ex;obtain⟨cl1,nM1,_,_⟩:=hc C1 dm1;refine⟨_,rfl,a,C1,dx1,fs1,rfl,ha1,dm1,fe1,a,C1,dx1,fs1,n,rfl,ha1,cl1,nM1,fm1,by lia,by lia,?_⟩;rw[eD];refine⟨_,rfl,((2^n-1:Nat):Int),(kk:Int),rfl,by lia,by lia,λp H2 sm2 hp2 hl2=>⟨p,rfl,⟨_,SqL.of hl2⟩,?_⟩⟩;rw[F6,iH n8]at hl2;refine bo (λx=>(λ_=>true) (aZ x)) (λx=>V.bl ((λz:Int=>decide (r z.toNat=kk)) (aZ x))) (SqL.of hl2) (by rw[F3,bg];exact Gd (mB n kk n8) (by decide)) (λi x vs H' R S hx hv sm hk=> ?_) λD H' hD sm hl=> ?_
 .obtain⟨v,rfl⟩:=aW hv;obtain⟨z,rfl,hz⟩:=aY hx;obtain⟨s,hs,rfl⟩:=ck (Ge hz);obtain⟨s1,s2⟩:=d5.mp hs;have hX':=zok.same (sm2.trans sm) hX1;obtain⟨C',dm',hsh'⟩:=zok.shown hX';obtain⟨dx',fs',ha',fr',fe',fm'⟩:=hsh'.ex;simp only[aS,fK,F7];refine⟨_,rfl,a,C',dx',fs',rfl,ha',dm',fr',_,rfl,a,n,s,r,rfl,hX',⟨dx',fs',ha'⟩,n8,s1,λH3 sm3=>⟨_,rfl,rfl,?_⟩⟩;have q:=hk [some (.int (s:Int))] H3 rfl sm3;rw[F7 rfl]at q;rw[aJ];exact q
 replace hl:=hl.trans (GQ (λl=>some (HO.lst l)) (kA (λz:Int=>decide (r z.toNat=kk)) (bq (cA n kk))));refine⟨D,_,rfl,SqL.of hl,?_⟩;rw[uc];have:=k H' (sm1.trans (sm2.trans sm));unfold fW at this;rw[F5 hn,F5 hk2,Hl,Hl]at this;exact this
theorem sc_is_seven:aB ["house","everything","lines"] ["house"] (ak s_is_seven):=sc_of
theorem sQ{Z:Hs}(T:Tb K mg)(zok:eJ Z)(hc:∀C,Z.dom C->HC K C_House C)(D:aU K mg "is_seven" s_is_seven ["house"])(hj:4<=j)(ai:∀C,Z.dom C->bV P w K mg base 2 C "everything" ["self"] (cJ K))(ay:∀C,Z.dom C->bV P w K mg base j C "rank" ["self","s"] (fL Z C))(ar:Cal P w K mg base (j+1) "whole_rank" ["house"] (d9 Z))(ag:Cal P w K mg base 4 "choices" ["s","k"] gn)(aA:Cal P w K mg base 3 "size" ["s"] hJ)
  (ax:Cal P w K mg base 2 "holders" ["sets","s"] (o7 K)):Cal P w K mg base (j+2) "is_seven" ["house"] (o6 Z):=by
 refine D.cal sc_is_seven (λvs H Q E h=>by obtain⟨a,n,r,rfl,_⟩:=h;rfl) λf cdv A outer σs H vs Q E hr h=> ?_;obtain⟨a,n,r,rfl,hX,n8,k⟩:=h;refine⟨_,(ab (aX (PW.pt (fQ (wpt eX (wfld K (pv 0)) ae) (gF (wpt eX (wcal ar hr (aa (pv 0) af)) ae))))
     (ah (aw eh))
     aF)
   (ab (wset 1 sc_is_seven.nd (dk ai hr (by lia) (pv 0)))
   (ab (wset 2 sc_is_seven.nd (wlc ["s"] ["house"] [0] (wil K (wcal ag hr (aa (pv 1) (aa ae af)))) (wnC 0) (bW (wpt kU (dq ay hr (by lia) (pv 1) (aa (pv 0) af)) (wcal aA hr (aa (pv 0) af)))) (pv 0)))
   (ah (aw (cj (oq (K:=K) (by rfl) (by rfl)) (by rfl) T.all_ PyProof.Rows.boot_all (aa (wlc ["pair"] ["lines"] [2] (wil K (wcal ag hr (aa (pv 1) (aa ae af)))) (wnC 0) bw (wpe aO (wlen K T.len_ (wcal ax hr (aa (pv 1) (aa (pv 0) af)))) ae)) af))))))),?_⟩
 obtain⟨C,dm,hsh⟩:=zok.shown hX;obtain⟨dx,fs,ha,fr,fe,fm⟩:=hsh.ex;obtain⟨cl,nM,_,_⟩:=hc C dm;have hp:=jg n8;have ppos:0<2^n:=ID (by lia);refine⟨_,rfl,a,C,dx,fs,_,rfl,ha,cl,nM,fm,rfl,_,rfl,bJ (λh1=>kD ?_) λh1=> ?_⟩
 .have h1':(!decide (V.int (n:Int)=V.int ((7:Nat):Int)))=true:=h1;rw[aJ]at h1';have hn:¬n=7:=by simpa using h1'
  have:=k H (Same.refl _);unfold bT at this;rw[F4 hn,Hj,Hj]at this;exact this
 have h1':¬(!decide (V.int (n:Int)=V.int ((7:Nat):Int)))=true:=h1;rw[aJ]at h1';have hn:n=7:=by simpa using h1'
 refine⟨_,rfl,a,n,r,rfl,hX,n8,λH1 sm1=>⟨rfl,_,rfl,bJ (λh2=> ?_) λh2=> ?_⟩⟩
 .have h2':(!decide (V.int ((r (2^n-1):Nat):Int)=V.int ((3:Nat):Int)))=true:=h2;rw[aJ]at h2';have hn2:¬r (2^n-1)=3:=by simpa using h2'
  have:=k H1 sm1;unfold bT at this;rw[F4 hn2,Hu,Hj]at this;exact this
 have h2':¬(!decide (V.int ((r (2^n-1):Nat):Int)=V.int ((3:Nat):Int)))=true:=h2;rw[aJ]at h2';have hk2:r (2^n-1)=3:=by simpa using h2'
 have hX1:=zok.same sm1 hX;obtain⟨C1,dm1,hsh1⟩:=zok.shown hX1;obtain⟨dx1,fs1,ha1,fr1,fe1,fm1⟩:=hsh1.ex;obtain⟨cl1,nM1,_,_⟩:=hc C1 dm1;refine⟨_,rfl,a,C1,dx1,fs1,rfl,ha1,dm1,fe1,a,C1,dx1,fs1,n,rfl,ha1,cl1,nM1,fm1,by lia,by lia,?_⟩;rw[eD];refine⟨_,rfl,((2^n-1:Nat):Int),((3:Nat):Int),rfl,by lia,by lia,λp H2 sm2 hp2 hl2=>⟨p,rfl,⟨_,SqL.of hl2⟩,?_⟩⟩;rw[F6,iH n8]at hl2;refine bo (λx=>(λz:Int=>decide (r z.toNat<sz z.toNat)) (aZ x)) (λx=> .int ((λz:Int=>z) (aZ x))) (SqL.of hl2) (by rw[F3,bg];exact Gd (mB n 3 n8) (by decide)) (λi x vs H' R S hx hv sm hk=> ?_) λpl H3 hpl sm3 hl3=> ?_
 .obtain⟨v,rfl⟩:=aW hv;obtain⟨z,rfl,hz⟩:=aY hx;obtain⟨s,hs,rfl⟩:=ck (Ge hz);obtain⟨s1,s2⟩:=d5.mp hs;have hX':=zok.same (sm2.trans sm) hX1;obtain⟨C',dm',hsh'⟩:=zok.shown hX';obtain⟨dx',fs',ha',fr',fe',fm'⟩:=hsh'.ex;refine⟨_,rfl,a,C',dx',fs',rfl,ha',dm',fr',_,rfl,a,n,s,r,rfl,hX',⟨dx',fs',ha'⟩,n8,s1,λH3 sm3=>⟨_,rfl,(s:Int),rfl,by lia,by lia,λH4 sm4=>⟨_,_,rfl,rfl,_,rfl,?_⟩⟩⟩;rw[F6];have q:=hk [some (.int (s:Int))] H4 rfl (sm3.trans sm4);have q':if decide (r s<sz s)=true then R (.int (s:Int)) _ H4 else S _ H4:=q;have e:decide (((r s:Nat):Int)<(((bits s).length:Nat):Int))=decide (r s<sz s):=Iu.mpr ⟨λz=>by show r s<(bits s).length;lia,λz=>by have:r s<(bits s).length:=z;lia⟩;rw[e];show if decide (r s<sz s)=true then _ else _;by_cases hc:decide (r s<sz s)=true
  .rw[F7 hc]at q'⊢;exact⟨_,rfl,q'⟩
  .rw[F8 hc]at q'⊢;exact q'
 replace hl3:=hl3.trans (GQ (λl=>some (HO.lst l)) (a8 (λz:Int=>decide (r z.toNat<sz z.toNat)) (λz:Int=>z) (bq (cA n 3))));rw[show(λz:Int=>z)=id from rfl,Jk,c7]at hl3;have eL:((cA n 3).filter λs:Nat=>decide (r (s:Int).toNat<sz (s:Int).toNat))=dZ n r:=rfl;rw[eL]at hl3;have lL:(dZ n r).length<=1000:=Gd (Ie _ _) (Gd (mB n 3 n8) (by decide));refine⟨_,rfl,((2^n-1:Nat):Int),((2:Nat):Int),rfl,by lia,by lia,λp4 H4 sm4 hp4 hl4=>⟨p4,rfl,⟨_,SqL.of hl4⟩,?_⟩⟩;rw[F6,iH n8]at hl4;refine bo (λx=>(λ_=>true) (aZ x)) (λx=>V.bl ((λz:Int=>decide (((dZ n r).filter λt=>decide (z.toNat&&&t=z.toNat)).length=1)) (aZ x))) (SqL.of hl4) (by rw[F3,bg];exact Gd (mB n 2 n8) (by decide)) (λi x vs H' R S hx hv sm hk=> ?_) λD H' hD sm hl=> ?_
 .obtain⟨v,rfl⟩:=aW hv;obtain⟨z,rfl,hz⟩:=aY hx;obtain⟨s,hs,rfl⟩:=ck (Ge hz);simp only[aS,fK,F7];refine⟨_,rfl,_,rfl,pl,s,dZ n r,rfl,SqL.of ((sm4.trans sm).at hl3),lL,λq H5 sm5 hq5 hl5=>⟨q,_,rfl, .inl (SqL.of hl5),rfl,?_⟩⟩;have qq:=hk [some (.int (s:Int))] H5 rfl sm5;rw[F7 rfl]at qq;rw[F3,bg];have e:=aJ ((dZ n r).filter λt=>decide (s&&&t=s)).length 1;have e':decide (V.int ((((dZ n r).filter λt=>decide (s&&&t=s)).length:Nat):Int)=V.int 1)=decide (((dZ n r).filter λt=>decide (s&&&t=s)).length=1):=e;rw[e'];exact qq
 replace hl:=hl.trans (GQ (λl=>some (HO.lst l)) (kA (λz:Int=>decide (((dZ n r).filter λt=>decide (z.toNat&&&t=z.toNat)).length=1)) (bq (cA n 2))));refine⟨D,_,rfl,SqL.of hl,?_⟩;rw[uc];have:=k H' (sm1.trans (sm2.trans (sm3.trans (sm4.trans sm))));unfold bT at this;rw[F5 hn,F5 hk2,Hl,Hl]at this;exact this
theorem sc_kind_of:aB ["house"] ["house"] (ak s_kind_of):=sc_of
theorem uT{Z:Hs}{cO C_House:Addr}{j:Nat}(zok:eJ Z)(D:aU K mg "kind_of" s_kind_of ["house"])(hj:4<=j){t1 t2 t3 t4 t5:Tok}(ax:mg "TWO_OF_FOUR"=some (.str aI t1))(ay:mg "TWO_OF_FIVE"=some (.str dh t2))(ai:mg "THREE_OF_FIVE"=some (.str cB t3))(a0:mg "SEVEN"=some (.str jx t4))(aA:mg "OTHER_SEVEN"=some (.str di t5))
  (ag:Cal P w K mg base (j+2) "is_even" ["house","n","k"] (sh Z)) (a3:qg P w K mg base (j+1) "Other" cO ["self","house"] (si Z cO)) (ar:Cal P w K mg base (j+3) "is_seven" ["house"] (o6 (hsO Z cO))):Cal P w K mg base (j+4) "kind_of" ["house"] (sg Z):=by
 refine D.cal sc_kind_of (λvs H Q E h=>by obtain⟨a,n,r,rfl,_⟩:=h;rfl) λf cdv A outer σs H vs Q E hr h=> ?_;obtain⟨a,n,r,rfl,hX,n8,rk,k⟩:=h;refine⟨_,(ab (aX (cH (wcal ag hr (aa (pv 0) (aa ae (aa ae af)))))
     (ah (aw (dN (v:= .str aI) (by rfl) ax ⟨_,rfl⟩)))
     aF)
   (ab (aX (cH (wcal ag hr (aa (pv 0) (aa ae (aa ae af)))))
     (ah (aw (dN (v:= .str dh) (by rfl) ay ⟨_,rfl⟩)))
     aF)
   (ab (aX (cH (wcal ag hr (aa (pv 0) (aa ae (aa ae af)))))
     (ah (aw (dN (v:= .str cB) (by rfl) ai ⟨_,rfl⟩)))
     aF)
   (ab (aX (cH (wcal ar hr (aa (pv 0) af)))
     (ah (aw (dN (v:= .str jx) (by rfl) a0 ⟨_,rfl⟩)))
     aF)
   (ab (aX (cH (wcal ar hr (aa (ky a3 hr (by lia) (by rfl) (aa (pv 0) af)) af)))
     (ah (aw (dN (v:= .str di) (by rfl) aA ⟨_,rfl⟩)))
     aF)
   (ah (aw fz))))))),?_⟩
 unfold eu at k;refine⟨_,rfl,a,n,4,2,r,rfl,hX,n8,λH1 sm1=>⟨_,rfl,bJ (λh1=> ?_) λh1=> ?_⟩⟩
 .have:=k H1 sm1;rw[F7 h1]at this;exact this
 rw[F8 h1]at k;have hX1:=zok.same sm1 hX;refine⟨_,rfl,a,n,5,2,r,rfl,hX1,n8,λH2 sm2=>⟨_,rfl,bJ (λh2=> ?_) λh2=> ?_⟩⟩
 .have:=k H2 (sm1.trans sm2);rw[F7 h2]at this;exact this
 rw[F8 h2]at k;have hX2:=zok.same sm2 hX1;refine⟨_,rfl,a,n,5,3,r,rfl,hX2,n8,λH3 sm3=>⟨_,rfl,bJ (λh3=> ?_) λh3=> ?_⟩⟩
 .have:=k H3 (sm1.trans (sm2.trans sm3));rw[F7 h3]at this;exact this
 rw[F8 h3]at k;have hX3:=zok.same sm3 hX2;refine⟨_,rfl,a,n,r,rfl, .inl hX3,n8,λH4 sm4=>⟨_,rfl,bJ (λh4=> ?_) λh4=> ?_⟩⟩
 .have:=k H4 (sm1.trans (sm2.trans (sm3.trans sm4)));rw[F7 h4]at this;exact this
 rw[F8 h4]at k;have hX4:=zok.same sm4 hX3;have smA:=sm1.trans (sm2.trans (sm3.trans sm4));refine⟨_,rfl,λpo dxo npo ndo neo=>⟨po,dxo,a,n,r,rfl,aj,zok.same (ku npo ndo) hX4,n8,λH5 oth hpo=>⟨rfl,?_⟩⟩⟩;have sm5:Same H4 H5:=λb o e=>oth b o (by rw[av (az e npo),av (az e ndo)];exact e) (az e npo);have hO:FD cO H5 (Z.ho H5) po n (eY n r):=⟨dxo,a,r,hpo,zok.same sm5 hX4,λs hs=>by have:=rk.unit s hs;unfold eY;lia⟩
 refine⟨po,n,eY n r,rfl, .inr hO,n8,λH6 sm6=>⟨_,rfl,bJ (λh5=> ?_) λh5=> ?_⟩⟩
 .have:=k H6 (smA.trans (sm5.trans sm6));rw[F7 h5]at this;exact this
 .have:=k H6 (smA.trans (sm5.trans sm6));rw[F8 h5]at this;exact this
theorem sc_Known_rank:aB ["self","s"] ["self","s"] (ak s_Known_rank):=sc_of
theorem oR(D:eI K "rank" "Known.rank" s_Known_rank ["self","s"] f)(cl:Cls K C)(n2:aV K C "told"):eU P w K mg base 1 f ["self","s"] (vV C):=by refine D.fn sc_Known_rank (λvs H Q E h=>by obtain⟨a,n,s,r,rfl,_⟩:=h;rfl) λcdv A outer σs H vs Q E hr h=> ?_;obtain⟨a,n,s,r,rfl,⟨dx,t,ha,ht⟩,n8,hs,k⟩:=h;refine⟨_,(ah (aw (fh K (wfld K (pv 0)) (pv 1)))),?_⟩;refine⟨_,rfl,a,C,dx,_,_,rfl,ha,cl,n2,Bp _ _,?_⟩;exact⟨_,rfl,t,_,_,_,rfl,rfl,SqT.of ht,ij (by unfold dJ;rw[Gs,Iy hs];rfl),k⟩
theorem sc_Known___init__:aB ["self","house"] ["self","house"] (ak s_Known___init__):=sc_of
theorem jV{Z:Hs}(T:Tb K mg)(D:eI K "__init__" "Known.__init__" s_Known___init__ ["self","house"] f)(ai:mg "House"=some (.ref C_House))(cl:Cls K C)(n1:aV K C "many")(n2:aV K C "told")
  (z:eJ Z) (hc:∀C,Z.dom C->HC K C_House C) (ag:zA P w K mg base 1 C_House "__init__" ["self","n"] (iO K)) (ar:Cal P w K mg base 7 "ranks" ["house"] (sd Z)):
  eU P w K mg base 8 f ["self","house"] (wd Z C):=by
 refine D.fn sc_Known___init__ (λvs H Q E h=>by obtain⟨p,dx,h,n,r,rfl,_⟩:=h;rfl) λcdv A outer σs H vs Q E hr h=> ?_;obtain⟨p,dx,h,n,r,rfl,hp,hX,n8,k⟩:=h;refine⟨_,(ab (bR (jR ag hr (by decide) (dN (v:= .ref C_House) (by rfl) ai rfl) (aa (pv 0) (aa (wfld K (pv 1)) af))))
   (ah (wsf K (pv 0) (cF (fG (K:=K) (by rfl)) (by rfl) T.tuple_ JD (aa (wcal ar hr (aa (pv 1) af)) af))))),?_⟩
 obtain⟨C',dm,hsh⟩:=z.shown hX;have hhp:h≠p:=mQ hsh;obtain⟨dxh,fs,hh0,fr0,fe0,fm0⟩:=hsh.ex;have hh:H h=some (.ins C' dxh fs):=(c8 (H:=H) hhp).symm.trans hh0;obtain⟨clC,nMC,tyC,isC⟩:=hc C' dm;refine⟨rfl,_,rfl,_,rfl,h,C',dxh,fs,_,rfl,hh,clC,nMC,fm0,p,C,dx,_,rfl,hp,cl,n1,?_⟩;have smh:∀ {o:HO},Same (hide H p) (upd H p o):=λ{o} b o' e=>by
  unfold hide at e;split at e
  .cases e
  .rename_i hb;rw[av hb];exact e
 refine⟨_,rfl,h,n,r,rfl,z.same smh hX,n8,λq H2 sm2 hq hl2=> ?_⟩;refine⟨q,_,rfl, .inl ⟨SqL.of hl2,λt ht=> ?_⟩⟩;have hp2:=sm2.at (aj (H:=H) (a:=p) (o:= .ins C dx (bc "many" (.int (n:Int)) [])));have tp:t≠p:=λe=>by rw[e,hp2]at ht;cases ht
 have ht0:H t=none:=by
  cases e:H t with
  |none=>rfl
  |some o=>rw[sm2.at (by rw[av tp];exact e)]at ht;cases ht
 refine⟨_,rfl,p,C,dx,_,rfl,(by rw[av tp.symm];exact hp2),cl,n2,?_,?_⟩
 .exact Gq (aH _ _ _) (by show 0+1<1000;decide)
 refine k t _ ht0 (λb o e hb=> ?_) (by rw[av tp,aj]) aj;rw[av hb,av (az e ht0)];exact sm2.at (by rw[av hb];exact e)
theorem sc_ranks:aB ["house"] ["house"] (ak s_ranks):=sc_of
theorem AQ{Z:Hs}(z:eJ Z)(D:aU K mg "ranks" s_ranks ["house"])(hc:∀C,Z.dom C->HC K C_House C)(ar:∀C,Z.dom C->bV P w K mg base 6 C "rank" ["self","s"] (fL Z C))(ag:∀C,Z.dom C->bV P w K mg base 2 C "everything" ["self"] (cJ K))
  (ai:Cal P w K mg base 3 "parts" ["s"] lX):Cal P w K mg base 7 "ranks" ["house"] (sd Z):=by
 refine D.cal sc_ranks (λvs H Q E h=>by obtain⟨a,n,r,rfl,_⟩:=h;rfl) λf cdv A outer σs H vs Q E hr h=> ?_;obtain⟨a,n,r,rfl,hB,n8,k⟩:=h;refine⟨_,(ah (aw (wlc ["s"] ["house"] [0] (wil K (wcal ai hr (aa (dk ag hr (by decide) (pv 0)) af))) (wnC 0) bw (dq ar hr (by decide) (pv 1) (aa (pv 0) af))))),?_⟩;have p8:=jM n8;have ppos:0<2^n:=ID (by lia);obtain⟨C,dm,hsh⟩:=z.shown hB;obtain⟨dx,fs,hh,fr,fe,fm⟩:=hsh.ex;obtain⟨cl,nM,ty,isH⟩:=hc C dm;refine⟨_,rfl,a,_,dx,fs,rfl,hh,dm,fe,a,_,dx,fs,(n:Int),rfl,hh,cl,nM,fm,by lia,by lia,?_⟩;rw[eD];refine⟨_,rfl,by lia,by lia,λp H1 sm1 hp1 hl1=>⟨p,rfl,⟨_,SqL.of hl1⟩,?_⟩⟩;rw[F6,kz n (by lia)]at hl1;refine bo (λx=>(λ_=>true) (aZ x)) (λx=> .int ((λz:Int=>((r z.toNat:Nat):Int)) (aZ x))) (SqL.of hl1) (by rw[F3,F3,Gy];exact Gd p8 (by decide)) (λi x vs H' R S hx hv sm hk=> ?_) λD H' hD sm hl=> ?_
 .obtain⟨v,rfl⟩:=aW hv;obtain⟨z,rfl,hz⟩:=aY hx;obtain⟨s,hs,rfl⟩:=Gz.mp (Ge hz);have hs':=Gk.mp hs;simp only[aS,fK,F7];have hB':=z.same sm (z.same sm1 hB);refine⟨_,rfl,a,_,dx,fs,rfl,sm.at (sm1.at hh),dm,fr,_,rfl,a,n,s,r,rfl,hB',⟨dx,fs,sm.at (sm1.at hh)⟩,n8,hs',λH2 sm2=> ?_⟩;have q:=hk [some (.int (s:Int))] H2 rfl sm2;rw[F7 rfl]at q;exact q
 replace hl:=hl.trans (GQ (λl=>some (HO.lst l)) (a8 (λ_=>true) (λz:Int=>((r z.toNat:Nat):Int)) ((List.range (2^n)).map λk:Nat=>(k:Int))));have e:List.map (λz:Int=>((r z.toNat:Nat):Int)) (List.map (λk:Nat=>(k:Int)) (List.range (2^n)))=dJ n r:=by unfold dJ;rw[Hc];rfl
 rw[Iq.mpr (λ_ _=>rfl),e]at hl;exact k D H' (sm1.trans sm) (sm1.free hD) hl
theorem sc__law_whole:aB ["_law_found"] ["_law_found"] (ak s__law_whole):=sc_of
theorem oI(T:Tb K mg)(D:aU K mg "_law_whole" s__law_whole ["_law_found"]):Cal P w K mg base 1 "_law_whole" ["_law_found"] qp:=by refine D.cal sc__law_whole (λvs H Q E h=>by obtain⟨i,rfl,_⟩:=h;rfl) λf cdv A outer σs H vs Q E hr h=> ?_;obtain⟨i,rfl,k⟩:=h;refine⟨_,(ah (aw (qH (cj (c9 (K:=K) (by rfl)) (by rfl) T.isinstance_ IQ (aa (pv 0) (aa (iS (v:= .ty "int") (by rfl) T.int_ PyProof.Rows.boot_int rfl) af))) (uO (Em (cj (c9 (K:=K) (by rfl)) (by rfl) T.isinstance_ IQ (aa (pv 0) (aa (iS (v:= .ty "bool") (by rfl) T.bool_ PyProof.Rows.boot_bool rfl) af)))))))),?_⟩;refine⟨_,rfl,_,_,_,true,rfl, .int _,T.kII,true,rfl,kD ?_⟩;exact⟨_,rfl,_,_,_,false,rfl, .int _,T.kIB,false,rfl,k⟩
theorem sc__law_size:aB ["_law_s","_law_many"] ["_law_s"] (ak s__law_size):=sc_of
theorem qP(D:aU K mg "_law_size" s__law_size ["_law_s"]):Cal P w K mg base 1 "_law_size" ["_law_s"] fO:=by
 refine D.cal sc__law_size (λvs H Q E h=>by obtain⟨s,rfl,_⟩:=h;rfl) λf cdv A outer σs H vs Q E hr h=> ?_;obtain⟨s,rfl,h0,h1,k⟩:=h;refine⟨_,(ab (wset 1 sc__law_size.nd ae)
   (ab (Ax PassesOwn.never (wpt nj (pv 0) ae)
     (ab (wset 1 sc__law_size.nd (aq dg (pv 1) (aq bD (pv 0) ae)))
     (ah (wset 0 sc__law_size.nd (aq gI (pv 0) ae)))))
   (ah (aw (pv 1))))),?_⟩
 refine⟨λm σ H2=>H2=H/\∃ (n c:Nat),n<256/\n=m/\c+(bits n).length=(bits s.toNat).length/\σ=[some (.int (n:Int)),some (.int (c:Int))],⟨s.toNat,rfl,s.toNat,0,by lia,rfl,by lia,?_⟩,?_⟩
 .show [some (V.int s),some (.int 0)]=_;rw[JZ h0];rfl
 .intro m σ H2 hw;obtain⟨e,n,c,hn,em,hc,es⟩:=hw;subst e em es;refine⟨_,rfl,_,_,rfl,rfl,_,rfl,bJ (λhp=> ?_) λhp=> ?_⟩
  .have np:0<n:=by have:=Gx hp;lia
   have hs:=xB n hn;refine⟨λσ' H'=>H'=H2/\σ'=[some (.int ((n/2:Nat):Int)),some (.int ((c+n % 2:Nat):Int))],λσ' H' q=>⟨n/2,by lia,q.1,n/2,c+n % 2,by lia,rfl,by lia,q.2⟩,?_⟩;refine⟨_,rfl,_,rfl,_,_,rfl,rfl,(by show(0:Int)<2;decide),_,_,rfl,rfl,?_⟩;refine⟨_,rfl,_,_,rfl,rfl,⟨by decide,by decide⟩,rfl,?_⟩;show [some (V.int ((n:Int) /2)),some (V.int ((c:Int)+(n:Int) % 2))]=_;have e1:(n:Int) /2=((n/2:Nat):Int):=by lia
   have e2:(c:Int)+(n:Int) % 2=((c+n % 2:Nat):Int):=by lia
   rw[e1,e2]
  .have n0:n=0:=by have:=J6 (IE.mpr hp);lia
   subst n0;have e0:(bits 0).length=0:=by decide+kernel
   rw[e0,Nat.add_zero]at hc;refine⟨_,rfl,?_⟩;rw[hc];exact k
theorem sc__law_far:aB ["_law_cells","_law_many","_law_rank","_law_some","_law_picked","_law_cell","_law_one","_law_near"] ["_law_cells","_law_many","_law_rank"] (ak s__law_far):=sc_of
theorem sU(T:Tb K mg)(D:aU K mg "_law_far" s__law_far ["_law_cells","_law_many","_law_rank"])(ag:Cal P w K mg base 1 "_law_size" ["_law_s"] fO):Cal P w K mg base 2 "_law_far" ["_law_cells","_law_many","_law_rank"] (DD K):=by
 refine D.cal sc__law_far (λvs H Q E h=>by obtain⟨a,cs,n,r,rfl,_⟩:=h;rfl) λf cdv A outer σs H vs Q E hr h=> ?_;obtain⟨a,cs,n,r,rfl,ha,hc0,hc64,hn,hrn,k⟩:=h;refine⟨_,(ab (wls 3 sc__law_far.nd ["_law_s"] ["_law_rank"] [2] (wrng T.range_ (aq bY ae (pv 1))) (wnC 0) (bW (wpt aO (wcal ag hr (aa (pv 0) af)) (pv 1))) (pv 0))
   (ab (wset 4 sc__law_far.nd (cI af))
   (ab (aX (PW.pt (cV (wpt nj (pv 2) ae) (cV (wpt kU (pv 2) (pv 1)) (d0 (wpt nj (aq bD (aq bD (aq gH (bS K (pv 0) ae) ae) ae) ae) ae)))))
     (ah (wfor (wil K (ig (hU (K:=K) (by rfl)) (pv 0) jP (jO (aq bD (aq gI (aq bD (aq gH (bS K (pv 0) ae) ae) ae) ae) (wlen K T.len_ (pv 0)))))) (wname 5 sc__law_far.nd)
       (ab (wset 6 sc__law_far.nd (bS K (pv 3) (aq bD (aq bD (aq gH (pv 5) ae) ae) (wlen K T.len_ (pv 3)))))
       (ab (wls 7 sc__law_far.nd ["_law_s"] ["_law_rank","_law_one"] [2,6] (wil K (pv 4)) (wnC 0) (bW (wpt nj (wcal ag hr (aa (aq dy (pv 0) (pv 2)) af)) (aq dO (pv 1) ae))) (pv 0))
       (ah (aX (wpt aO (wlen K T.len_ (pv 7)) ae)
         (ah (bR (dW (K:=K) (by rfl) HU HV HW bI (pv 4) (aa (pv 6) af))))
         aF))))))
     aF)
   (ah (aw (wlc ["_law_s"] ["_law_picked"] [4] (wil K (pv 3)) (wnC 0) (bW (qF (i7 (K:=K) (by rfl)) (pv 0) (pv 1) (by rfl))) (pv 0))))))),?_⟩
 have p8:=jg hn;have ppos:=two_pow_pos n;refine⟨_,rfl,_,_,rfl,rfl,⟨by lia,by lia,by decide⟩,_,rfl,?_⟩;rw[bL];refine⟨by lia,by lia,?_⟩;rw[F6];refine cG (λi=>decide (sz i=r)) (λi=> .int (0+(i:Nat))) (Gd p8 (by decide)) (λi vs H' R S hi hv sm hk=> ?_) λp3 H1 hp3 sm1 hl1=> ?_
 .obtain⟨v,rfl⟩:=aW hv;have q:=hk [some (.int (0+(i:Nat)))] H' rfl (Same.refl _);refine⟨_,rfl,_,rfl,by lia,by lia,_,rfl,rfl,_,rfl,?_⟩;have e:(0+(i:Int)).toNat=i:=by lia
  rw[e];have e2:decide (V.int ((((bits i).length:Nat):Int))=V.int (r:Int))=decide (sz i=r):=by
   by_cases h:sz i=r
   .have h':(bits i).length=r:=h;rw[F5 h,h',F5 rfl]
   .rw[F4 h,F4 λz=>h (by have:=V.int.inj z;show(bits i).length=r;lia)]
  rw[e2];show if decide (sz i=r)=true then _ else _;by_cases hc:decide (sz i=r)=true
  .rw[F7 hc]at q⊢;exact⟨_,rfl,q⟩
  .rw[F8 hc]at q⊢;exact q
 rw[dY]at hl1;generalize hsome:(List.map (λs:Nat=>(s:Int)) (List.filter (λi=>decide (sz i=r)) (List.range (2^n))))=sets at hl1;have msome:∀z∈sets,∃s:Nat,s<2^n/\z=s:=λz hz=>by rw[<-hsome]at hz;obtain⟨s,hs,rfl⟩:=Gz.mp hz;exact⟨s,Gk.mp (GN.mp hs).1,rfl⟩
 have lsome:sets.length<=256:=by rw[<-hsome,F3];exact Gd (Ie _ _) (by rw[Gy];exact p8)
 have psome:0<sets.length:=by
  obtain⟨s,h1,h2,_⟩:=Cg (ps:=[]) hn hrn (.inl rfl);have:(s:Int)∈sets:=by rw[<-hsome];exact Gz.mpr ⟨s,GN.mpr ⟨Gk.mpr h1,F5 h2⟩,rfl⟩
  exact Jn this
 refine⟨Hy _,λq hq=> ?_⟩;have smq:Same H1 (upd H1 q (.lst [])):=Same.new hq;have hq1:upd H1 q (.lst []) q=some (.lst (([]:List Int).map V.int)):=aj;have hl2:=smq.at hl1;have sm2:Same H (upd H1 q (.lst [])):=sm1.trans smq;have hqH:H q=none:=sm1.free hq;generalize upd H1 q (.lst [])=H2 at*;(try dsimp only);refine ph (λσ' H'=>∃ (ps:List Int) (v5 v6 v7:Option V),Same H H'/\H' p3=some (.lst (sets.map V.int))/\H' q=some (.lst (ps.map V.int))/\(ps=[]\/(0<r/\r<n/\Far r ps))/\
  σ'=[some (.ref a),some (.int (n:Int)),some (.int (r:Int)),some (.ref p3),some (.ref q),v5,v6,v7]) ?_ ?_
 .rintro σ' H' ⟨ps,v5,v6,v7,smr,h3,hq',far,rfl⟩;refine⟨_,rfl,p3,rfl,⟨_,SqL.of h3⟩,?_⟩;refine bo (λx=>(λz:Int=> !decide (z∈ps)) (aZ x)) (λx=> .int ((λz:Int=>z) (aZ x))) (SqL.of h3) (by rw[F3];exact Gd lsome (by decide)) (λi x vs H'' R S hx hv sm hk=> ?_) λD H'' hD sm hl=> ?_
  .obtain⟨v,rfl⟩:=aW hv;obtain⟨z,rfl,hz⟩:=aY hx;have qq:=hk [some (.int z)] H'' rfl (Same.refl _);refine⟨_,rfl,_,rfl,q,_,rfl, .inl (SqL.of (sm.at hq')),rfl,pB _,_,rfl,?_⟩;have qq':if(!decide (z∈ps))=true then R (.int z) _ H'' else S _ H'':=qq;show if(!inV (.int z) (ps.map V.int))=true then _ else _;rw[tJ];by_cases hc:(!decide (z∈ps))=true
   .rw[F7 hc]at qq'⊢;exact⟨_,rfl,qq'⟩
   .rw[F8 hc]at qq'⊢;exact qq'
  replace hl:=hl.trans (GQ (λl=>some (HO.lst l)) (a8 (λz:Int=> !decide (z∈ps)) (λz:Int=>z) sets));rw[show(λz:Int=>z)=id from rfl,Jk]at hl;refine k D H'' ps (smr.trans sm) (smr.free hD) (hl.trans ?_) far;have e:sets.filter (λz:Int=> !decide (z∈ps))=dI n r ps:=by rw[<-hsome];unfold dI;rw[JG,Jr];refine GQ (List.map λs:Nat=>(s:Int)) (Ih λs _=> ?_);unfold mH;show((!decide ((s:Int)∈ps))&&decide (sz s=r))=_;rw[Lu];by_cases h:(s:Int)∈ps<;>simp[h]
  rw[e]
 .intro hrest;have stop:∀H',H'=H2->(∃ (ps:List Int) (v5 v6 v7:Option V),Same H H'/\H' p3=some (.lst (sets.map V.int))/\H' q=some (.lst (ps.map V.int))/\(ps=[]\/(0<r/\r<n/\Far r ps))/\
   [some (V.ref a),some (.int (n:Int)),some (.int (r:Int)),some (.ref p3),some (.ref q),none,none,none]=[some (V.ref a),some (.int (n:Int)),some (.int (r:Int)),some (.ref p3),some (.ref q),v5,v6,v7]):=λH' e=>by
   subst e;exact⟨[],none,none,none,sm2,hl2,hq1, .inl rfl,rfl⟩
  have at0:atI (cs.map V.int) 0=some (.int (cs.getD 0 0)):=bA (j:=0) hc0;have ha2:=sm2.seq ha;refine⟨_,rfl,_,_,rfl,rfl,_,rfl,bJ (λhc=> ?_) λhc=>dQ (hrest _ _ (stop _ rfl))⟩;have r0:0<r:=by have:=Gx hc;lia
  refine⟨_,rfl,_,rfl,_,_,rfl,rfl,_,rfl,bJ (λhc=> ?_) λhc=>dQ (hrest _ _ (stop _ rfl))⟩;have r1:r<n:=by have:=Gx hc;lia
  refine⟨_,rfl,a,_,_,_,rfl,rfl,ha2,at0,_,_,rfl,rfl, .inr ⟨by decide,by decide⟩,_,_,rfl,rfl,(by show(0:Int)<65521;decide),_,_,rfl,rfl,(by show(0:Int)<3;decide),_,_,rfl,rfl,_,rfl,bJ (λhc=> ?_) λhc=>hrest _ _ (stop _ rfl)⟩;refine⟨_,rfl,_,rfl,a,_,_,_,rfl,rfl,ha2,at0,_,_,rfl,rfl, .inr ⟨by decide,by decide⟩,_,_,rfl,rfl,(by show(0:Int)<65521;decide),_,_,rfl,rfl,⟨by decide,by decide⟩,_,rfl,a,_,rfl, .inl ha2,_,_,rfl,rfl,?_,_,rfl,a,_,rfl,ha2,λpc hpc=> ?_⟩
  .show(0:Int)<(((cs.map V.int).length:Nat):Int);rw[F3];lia
  obtain⟨ds,ed,hdl⟩:=BP cs none (some (cs.getD 0 0*16807 % 65521/3 % (((cs.map V.int).length:Nat):Int)));rw[ed];have hpc1:upd H2 pc (.lst (ds.map V.int)) pc=some (.lst (ds.map V.int)):=aj;have smc:Same H2 (upd H2 pc (.lst (ds.map V.int))):=Same.new hpc;generalize upd H2 pc (.lst (ds.map V.int))=H3 at*;have hqne:q≠p3:=λe=>by have h1:=sm1.free hq;rw[e]at h1;have:=hq;rw[e,hl1]at this;cases this
  have hqpc:q≠pc:=λe=>by rw[e,hpc]at hq1;cases hq1
  refine⟨pc,rfl,⟨_,SqL.of hpc1⟩,?_⟩;refine bz (K:=K) (a:=pc) (xs:=ds.map V.int) (λi σ H'=>∃ (ps:List Int) (v5 v6 v7:Option V),Same H H'/\H' p3=some (.lst (sets.map V.int))/\H' pc=some (.lst (ds.map V.int))/\H' q=some (.lst (ps.map V.int))/\ps.length<=i/\(∀z∈ps,z∈sets)/\Far r ps/\
   σ=[some (.ref a),some (.int (n:Int)),some (.int (r:Int)),some (.ref p3),some (.ref q),v5,v6,v7])
   ⟨[],none,none,none,sm2.trans smc,smc.at hl2,hpc1,smc.at hq1,Gf _,(λz hz=>by cases hz),Dh _,rfl⟩ (λi σ H' _ ⟨_,_,_,_,_,_,h,_⟩=>SqL.of h) ?_ ?_
  .rintro i y σ H' hi ⟨ps,v5,v6,v7,sm',h3,hpc',hq',hlen,hsub,far,rfl⟩;obtain⟨c,rfl,hcat⟩:=aY hi;have hil:i<ds.length:=(Ga.mp hcat).1;have lpos:(0:Int)<(((sets.map V.int).length:Nat):Int):=by rw[F3];lia
   have j0:0<=c*48271 % 2147483647 % (((sets.map V.int).length:Nat):Int):=IV _ (by lia);have j1:c*48271 % 2147483647 % (((sets.map V.int).length:Nat):Int)<(((sets.map V.int).length:Nat):Int):=IJ _ lpos;obtain⟨j,hj⟩:=IF j0;have hjl:j<sets.length:=by rw[hj,F3]at j1;lia
   have at1:atI (sets.map V.int) (c*48271 % 2147483647 % (((sets.map V.int).length:Nat):Int))=some (.int (sets[j]'hjl)):=by rw[hj];exact ij (by simp[hjl])
   refine⟨_,rfl,_,rfl,_,_,rfl,rfl, .inr ⟨by decide,by decide⟩,_,_,rfl,rfl,(by show(0:Int)<2147483647;decide),_,rfl,p3,_,rfl, .inl (SqL.of h3),_,_,rfl,rfl,lpos,p3,_,_,_,rfl,rfl,SqL.of h3,at1,?_⟩;have hone:sets[j]'hjl∈sets:=Ik hjl;generalize sets[j]'hjl=one at*;obtain⟨o,ho,rfl⟩:=msome one hone;have o256:o<256:=F9 ho p8;refine⟨_,rfl,q,rfl,⟨_,SqL.of hq'⟩,?_⟩;refine bo (λx=>(λz:Int=>decide ((sz (z.toNat&&& (o:Int).toNat):Int)>(r:Int) -2)) (aZ x)) (λx=> .int ((λz:Int=>z) (aZ x))) (SqL.of hq') (by rw[F3];exact Gd (show ps.length<=64 by lia) (by decide)) (λi x vs H'' R S hx hv sm hk=> ?_) λpn H4 hpn sm4 hl4=> ?_
   .obtain⟨v,rfl⟩:=aW hv;obtain⟨z,rfl,hz⟩:=aY hx;obtain⟨u,hu,rfl⟩:=msome z (hsub z (Ge hz));have qq:=hk [some (.int (u:Int))] H'' rfl (Same.refl _);have ea:Builtin.bitAnd (u:Int) (o:Int)=((u&&&o:Nat):Int):=by rw[de (Hr _) (Hr _),F6,F6]
    have la:u&&&o<256:=BZ (F9 hu p8);refine⟨_,rfl,_,rfl,_,_,rfl,rfl,Builtin.bitAnd (u:Int) (o:Int),rfl,(by rw[ea];lia),(by rw[ea];lia),_,rfl,_,_,rfl,rfl,_,_,rfl,rfl,_,rfl,?_⟩;rw[ea,F6];have qq':if decide ((sz (u&&&o):Int)>(r:Int) -2)=true then R (.int (u:Int)) _ H'' else S _ H'':=qq;show if decide ((sz (u&&&o):Int)>(r:Int) -2)=true then _ else _;by_cases hc:decide ((sz (u&&&o):Int)>(r:Int) -2)=true
    .rw[F7 hc]at qq'⊢;exact⟨_,rfl,qq'⟩
    .rw[F8 hc]at qq'⊢;exact qq'
   replace hl4:=hl4.trans (GQ (λl=>some (HO.lst l)) (a8 (λz:Int=>decide ((sz (z.toNat&&& (o:Int).toNat):Int)>(r:Int) -2)) (λz:Int=>z) ps));rw[show(λz:Int=>z)=id from rfl,Jk]at hl4;refine⟨_,rfl,pn,_,rfl, .inl (SqL.of hl4),rfl,_,rfl,bJ (λhc=> ?_) λhc=> ?_⟩
   .have h0:(ps.filter λz:Int=>decide ((sz (z.toNat&&& (o:Int).toNat):Int)>(r:Int) -2))=[]:=by have h:=V.int.inj (Gx hc);rw[F3]at h;exact JK (by lia)
    have hq4:=sm4.at hq';refine⟨_,rfl, .inl ⟨rfl,_,SqL.of hq4⟩,_,rfl,q,_,_,rfl,rfl,hq4,(by rw[F3];exact Gq (show ps.length<=64 by lia) (by decide)),?_⟩;refine⟨ps++[(o:Int)],_,_,_,(sm'.trans sm4).upd hqH,?_,?_,?_,?_,?_,?_,rfl⟩
    .rw[av hqne.symm];exact sm4.at h3
    .rw[av hqpc.symm];exact sm4.at hpc'
    .rw[aj,GO];rfl
    .rw[Gr];show ps.length+1<=i+1;lia
    .intro z hz;rcases Gu.mp hz with hz|hz
     .exact hsub z hz
     .have:z=(o:Int):=by simpa using hz
      rw[this];exact hone
    .refine BE far λz hz hgt=> ?_;have:z∈ps.filter λz:Int=>decide ((sz (z.toNat&&& (o:Int).toNat):Int)>(r:Int) -2):=GN.mpr ⟨hz,F5 hgt⟩;rw[h0]at this;cases this
   .exact⟨ps,_,_,_,sm'.trans sm4,sm4.at h3,sm4.at hpc',sm4.at hq',by lia,hsub,far,rfl⟩
  .rintro σ H' ⟨ps,v5,v6,v7,sm',h3,hpc',hq',hlen,hsub,far,rfl⟩;exact hrest _ _ ⟨ps,v5,v6,v7,sm',h3,hq', .inr ⟨r0,r1,far⟩,rfl⟩
theorem sc__law_ranks:aB ["_law_many","_law_told","_law_levels","_law_s","_law_rank","_law_k"] ["_law_many","_law_told"] (ak s__law_ranks):=sc_of
theorem oM(T:Tb K mg)(D:aU K mg "_law_ranks" s__law_ranks ["_law_many","_law_told"])(ag:Cal P w K mg base 1 "_law_size" ["_law_s"] fO):Cal P w K mg base 2 "_law_ranks" ["_law_many","_law_told"] (sf K):=by
 refine D.cal sc__law_ranks (λvs H Q E h=>by obtain⟨a,ms,n,rfl,_⟩:=h;rfl) λf cdv A outer σs H vs Q E hr h=> ?_;obtain⟨a,ms,n,rfl,ha,hne,hms,hml,hn,k⟩:=h;refine⟨_,(ab (wset 2 sc__law_ranks.nd (cI af))
   (ab (wfor (wrng T.range_ (aq bY ae (pv 0))) (wname 3 sc__law_ranks.nd)
     (ab (wset 4 sc__law_ranks.nd ae)
     (ab (aX (wpt nj (wlen K T.len_ (wlc ["_law_one"] ["_law_s"] [3] (wil K (pv 1)) (wnC 0) (bW (wpt aO (aq dy (pv 0) (pv 1)) (pv 1))) (pv 0))) ae)
       (ah (wset 4 sc__law_ranks.nd (wcal ag hr (aa (pv 3) af))))
       (ah (wfor (wrng T.range_ (pv 0)) (wname 5 sc__law_ranks.nd)
         (ah (aX (wpt aO (aq dy (aq fC (pv 3) (pv 5)) ae) ae)
           (ah (wset 4 sc__law_ranks.nd (cj (zi (by rfl)) (by rfl) T.max_ PyProof.Rows.boot_max (aa (pv 4) (aa (bS K (pv 2) (aq uQ (pv 3) (aq bY ae (pv 5)))) af)))))
           aF)))))
     (ah (bR (dW (K:=K) (by rfl) HU HV HW bI (pv 2) (aa (pv 4) af)))))))
   (ah (aw (pv 2))))),?_⟩
 have p8:=jg hn;have ppos:=two_pow_pos n;refine⟨Hy _,λq hq=> ?_⟩;refine⟨_,rfl,_,_,rfl,rfl,⟨by lia,by lia,by decide⟩,_,rfl,?_⟩;rw[bL];refine⟨by lia,by lia,?_⟩;rw[F6];refine bK (n:=2^n) (λi σ H2=>∃ (v3 v4 v5:Option V),Same H H2/\H2 q=some (.lst (((List.range i).map λs=>((bF ms s:Nat):Int)).map V.int))/\σ=[some (.int (n:Int)),some (.ref a),some (.ref q),v3,v4,v5])
  ⟨none,none,none,Same.new hq,aj,rfl⟩ ?_ ?_
 .rintro i σ H2 hi ⟨v3,v4,v5,sm2,hq2,rfl⟩;generalize hlv:((List.range i).map λs=>((bF ms s:Nat):Int))=lv at hq2;have llv:lv.length=i:=by rw[<-hlv,F3,Gy]
  have glv:∀t,t<i->lv.getD t 0=((bF ms t:Nat):Int):=λt ht=>by rw[<-hlv,Gb,Gs,Iy ht];rfl
  have i256:i<256:=by lia
  refine Aj (λσ' H'=>∃v5:Option V,Same H2 H'/\σ'=[some (.int (n:Int)),some (.ref a),some (.ref q),some (.int (0+(i:Nat))),some (.int ((bF ms i:Nat):Int)),v5]) ?_ ?_
  .rintro σ' H' ⟨v5,sm',rfl⟩;have hq3:=sm'.at hq2;refine⟨_,rfl, .inl ⟨rfl,_,SqL.of hq3⟩,_,rfl,q,_,_,rfl,rfl,hq3,(by rw[F3,llv];exact J5 i256 (by decide)),?_⟩;refine⟨_,_,_,(sm2.trans sm').upd hq,?_,rfl⟩;rw[aj,IC,GO,hlv,GO];rfl
  .intro hrest;have e0:(0+(i:Int)).toNat=i:=by lia
   refine⟨_,rfl,a,rfl,⟨_,sm2.seq ha⟩,?_⟩;refine bo (λx=>(λm:Int=>decide (m.toNat&&&i=i)) (aZ x)) (λx=> .int ((λz:Int=>z) (aZ x))) (sm2.seq ha) (by rw[F3];exact Gd hml (by decide)) (λj x vs H' R S hx hv sm hk=> ?_) λpn H3 hpn sm3 hl3=> ?_
   .obtain⟨v,rfl⟩:=aW hv;obtain⟨m,rfl,hm⟩:=aY hx;obtain⟨m0,m1⟩:=hms m (Ge hm);have qq:=hk [some (.int m)] H' rfl (Same.refl _);have ea:Builtin.bitAnd m (0+(i:Int))=((m.toNat&&&i:Nat):Int):=by rw[de m0 (by lia),e0]
    refine⟨_,rfl,_,rfl,_,_,rfl,rfl,_,rfl,rfl,_,rfl,?_⟩;show if decide (V.int (Builtin.bitAnd m (0+(i:Int)))=V.int (0+(i:Int)))=true then _ else _;rw[ea];have e2:decide (V.int ((m.toNat&&&i:Nat):Int)=V.int (0+(i:Int)))=decide (m.toNat&&&i=i):=by rw[Io];exact aJ _ _
    rw[e2];have qq':if decide (m.toNat&&&i=i)=true then R (.int m) _ H' else S _ H':=qq;show if decide (m.toNat&&&i=i)=true then _ else _;by_cases hc:decide (m.toNat&&&i=i)=true
    .rw[F7 hc]at qq'⊢;exact⟨_,rfl,qq'⟩
    .rw[F8 hc]at qq'⊢;exact qq'
   replace hl3:=hl3.trans (GQ (λl=>some (HO.lst l)) (a8 (λm:Int=>decide (m.toNat&&&i=i)) (λz:Int=>z) ms));rw[show(λz:Int=>z)=id from rfl,Jk]at hl3;refine⟨pn,_,rfl, .inl (SqL.of hl3),_,_,rfl,rfl,_,rfl,bJ (λhc=> ?_) λhc=> ?_⟩
   .have hex:∃m∈ms,m.toNat&&&i=i:=by
     have h:=Gx hc;rw[F3]at h;have:0<(ms.filter λm:Int=>decide (m.toNat&&&i=i)).length:=by lia
     obtain⟨m,hm⟩:=List.exists_mem_of_length_pos this;exact⟨m,(GN.mp hm).1,Gx (GN.mp hm).2⟩
    refine⟨_,rfl,_,rfl,by lia,by lia,?_⟩;refine hrest _ _ ⟨v5,sm3,?_⟩;rw[e0,<-Fp hex];rfl
   .have hno:∀m∈ms,¬(m.toNat&&&i=i):=λm hm e=>by have h:=J6 (IE.mpr hc);rw[F3]at h;have:m∈ms.filter λm:Int=>decide (m.toNat&&&i=i):=GN.mpr ⟨hm,F5 e⟩;have:=Jn this;lia
    refine⟨_,rfl,_,rfl,by lia,by lia,?_⟩;rw[F6];have hq3:=sm3.at hq2;refine bK (n:=n) (λj σ H4=>H4=H3/\∃v,σ=[some (.int (n:Int)),some (.ref a),some (.ref q),some (.int (0+(i:Nat))),some (.int (dP lv i j)),v]) ⟨rfl,_,rfl⟩ ?_ ?_
    .intro j σ H4 hj hw;obtain⟨eH,v,es⟩:=hw;subst es;subst eH;refine⟨_,rfl,_,rfl,_,_,rfl,rfl,(by show(0:Int)<=0+(j:Int);lia),_,_,rfl,rfl,rfl,_,rfl,?_⟩;have eb:decide (V.int (Builtin.bitAnd ((0+(i:Int)) /2^(0+(j:Int)).toNat) 1)=V.int 1)=i.testBit j:=by rw[Io];exact jF
     rw[eb];have es:=kY lv i j;refine bJ (λhb=> ?_) λhb=> ?_
     .rw[F7 hb]at es;have j8:j<8:=by lia
      have dl:=e7 i i256 j j8 hb;obtain⟨x1,x2⟩:=kT i i256 j j8;have e1:(0+(j:Int)).toNat=j:=by lia
      have e2:(1*2^(0+(j:Int)).toNat:Int)=((2^j:Nat):Int):=by rw[e1,Jg];simp
      have ex:Builtin.bitXor (0+(i:Int)) (1*2^(0+(j:Int)).toNat)=((i^^^2^j:Nat):Int):=by unfold Builtin.bitXor;rw[e2,Io,iJ (Hr _) (Hr _),de (Hr _) (Hr _),F6,F6];lia
      have at1:atI (lv.map V.int) (Builtin.bitXor (0+(i:Int)) (1*2^(0+(j:Int)).toNat))=some (.int (lv.getD (i^^^2^j) 0)):=by rw[ex];exact bA (by lia)
      refine⟨_,rfl,_,rfl,_,rfl,_,rfl,_,_,rfl,rfl,⟨by lia,by lia,by decide⟩,_,_,rfl,rfl,q,_,_,_,rfl,rfl,SqL.of hq3,at1,_,_,rfl,rfl,some (.int (0+(j:Nat))),?_⟩;rw[es];rfl
     .rw[F8 hb]at es;refine⟨rfl,some (.int (0+(j:Nat))),?_⟩;rw[es];rfl
    .intro σ H4 hw;obtain⟨eH,v,es⟩:=hw;subst es;subst eH;refine hrest _ _ ⟨v,sm3,?_⟩;rw[C3 hn hi hne hno glv]
 .rintro σ H2 ⟨v3,v4,v5,sm2,hq2,rfl⟩;exact⟨_,rfl,k q H2 sm2 hq hq2⟩
theorem sc__law_seven:aB ["_law_told","_law_lines","_law_j","_law_k"] ["_law_told"] (ak s__law_seven):=sc_of
theorem oJ(T:Tb K mg)(D:aU K mg "_law_seven" s__law_seven ["_law_told"])(ag:Cal P w K mg base 1 "_law_size" ["_law_s"] fO):Cal P w K mg base 2 "_law_seven" ["_law_told"] (r9 K):=by
 refine D.cal sc__law_seven (λvs H Q E h=>by obtain⟨a,told,rfl,_⟩:=h;rfl) λf cdv A outer σs H vs Q E hr h=> ?_;obtain⟨a,told,rfl,ha,k⟩:=h;refine⟨_,(ab (wls 1 sc__law_seven.nd ["_law_s"] ["_law_told"] [0] (wrng T.range_ ae) (wnC 0) (bW (PW.pt (cV (wpt aO (wcal ag hr (aa (pv 0) af)) ae) (d0 (qF (i7 (K:=K) (by rfl)) (pv 0) (pv 1) (by rfl)))))) (pv 0))
   (ab (aX (PW.pt (fQ (wpt eX (wlen K T.len_ (pv 0)) ae) (gF (wpt eX (wlen K T.len_ (pv 1)) ae))))
     (ah (aw eh))
     aF)
   (ab (wfor (wrng T.range_ ae) (wname 2 sc__law_seven.nd)
     (ah (wfor (wrng T.range_ (pv 2)) (wname 3 sc__law_seven.nd)
       (ah (aX (wpt eX (wlen K T.len_ (wlc ["_law_s"] ["_law_j","_law_k"] [2,3] (wil K (pv 1)) (wnC 0) (bW (wpt aO (aq dy (aq dy (aq fC (pv 0) (pv 1)) (aq fC (pv 0) (pv 2))) ae) ae)) (pv 0))) ae)
         (ah (aw eh))
         aF)))))
   (ah (aw eh))))),?_⟩
 refine⟨128,rfl,by decide,by decide,?_⟩;refine cG (n:=128) (λs=>decide (sz s=3)&& !decide (s∈told)) (λi=> .int (0+(i:Nat))) (by decide) (λi vs H' R S hi hv sm hk=> ?_) λp1 H1 hp1 sm1 hl1=> ?_
 .obtain⟨v,rfl⟩:=aW hv;have q:=hk [some (.int (0+(i:Nat)))] H' rfl (Same.refl _);have e:(0+(i:Int)).toNat=i:=by lia
  have hi':i<128:=hi;refine⟨_,rfl,_,rfl,by lia,by lia,rfl,_,rfl,?_⟩;rw[e,lint];have e3:decide ((((bits i).length:Nat):Int)=3)=decide (sz i=3):=Iu.mpr ⟨λz=>by show(bits i).length=3;lia,λz=>by have:(bits i).length=3:=z;lia⟩;rw[e3];by_cases h3:sz i=3
  .rw[F5 h3,Hl]at q;rw[F5 h3,F7 rfl];refine⟨_,rfl,_,rfl,a,_,rfl, .inl (sm.seq ha),rfl,pB _,_,rfl,?_⟩;rw[Io]at q⊢;rw[Dd];show if(!decide (i∈told))=true then _ else _;by_cases hc:(!decide (i∈told))=true
   .rw[F7 hc]at q⊢;exact⟨_,rfl,q⟩
   .rw[F8 hc]at q⊢;exact q
  .rw[F4 h3,Hj,F8 (by decide)]at q;rw[F4 h3,F8 (by decide)];exact q
 rw[dY]at hl1;have hl1':H1 p1=some (.lst ((bq (eO told)).map V.int)):=hl1;have ha1:=sm1.seq ha;have lL:(eO told).length<=128:=Gd (Ie _ _) (by rw[Gy];exact Gf _);have mL:∀t∈eO told,t<128:=λt ht=>Gk.mp (GN.mp ht).1;refine⟨_,rfl,a,_,rfl, .inl ha1,rfl,_,rfl,bJ (λh1=>kD ?_) λh1=> ?_⟩
 .rw[F3,bg,lint]at h1;have:=k H1 sm1;unfold cU at this;rw[F4 (by intro z;rw[z]at h1;exact absurd h1 (by decide)),Hj]at this;exact this
 rw[F3,bg,lint]at h1;have h28:told.length=28:=by
  have h1':decide ((told.length:Int)=28)=true:=by simpa using h1
  have:=Gx h1';lia
 refine⟨_,rfl,p1,_,rfl, .inl (SqL.of hl1'),rfl,_,rfl,bJ (λh2=> ?_) λh2=> ?_⟩
 .rw[F3,bg,lint]at h2;have:=k H1 sm1;unfold cU at this;rw[F4 (p:=(eO told).length=7) (by intro z;rw[z]at h2;exact absurd h2 (by decide)),Hj,Hu]at this;exact this
 rw[F3,bg,lint]at h2;have h7:(eO told).length=7:=by
  have h2':decide (((eO told).length:Int)=7)=true:=by simpa using h2
  have:=Gx h2';lia
 have ek:cU told=(List.range 7).all λj=>(List.range j).all λk=>decide (((eO told).filter λt=>t.testBit j&&t.testBit k).length=1):=by unfold cU;rw[F5 h28,F5 h7,Hl,Hl]
 rw[ek]at k;generalize hL:eO told=L at*;refine⟨7,rfl,by decide,by decide,bK (n:=7) (λj σ H'=>Same H1 H'/\(∀i,i<j->((List.range i).all λk=>decide ((L.filter λt=>t.testBit i&&t.testBit k).length=1))=true)/\∃v2 v3,σ=[some (.ref a),some (.ref p1),v2,v3]) ⟨Same.refl _,(λi hi=>by lia),none,none,rfl⟩ ?_ ?_⟩
 .rintro j σ H2 hj ⟨sm2,hall,v2,v3,rfl⟩;refine⟨_,rfl,_,rfl,by lia,by lia,?_⟩;have ej:(0+(j:Int)).toNat=j:=by lia
  rw[ej];refine bK (n:=j) (λk σ H'=>Same H1 H'/\(∀i,i<k->decide ((L.filter λt=>t.testBit j&&t.testBit i).length=1)=true)/\∃v3,σ=[some (.ref a),some (.ref p1),some (.int (0+(j:Int))),v3]) ⟨sm2,(λi hi=>by lia),v3,rfl⟩ ?_ ?_
  .rintro kk σ H3 hk3 ⟨sm3,hk,v3,rfl⟩;refine⟨_,rfl,p1,rfl,⟨_,SqL.of (sm3.at hl1')⟩,?_⟩;refine bo (λx=>(λz:Int=>z.toNat.testBit j&&z.toNat.testBit kk) (aZ x)) (λx=> .int ((λz:Int=>z) (aZ x))) (SqL.of (sm3.at hl1')) (by rw[F3,bg];exact Gd lL (by decide)) (λi x vs H' R S hx hv sm hk=> ?_) λD H4 hD sm4 hl4=> ?_
   .obtain⟨v,rfl⟩:=aW hv;obtain⟨z,rfl,hz⟩:=aY hx;obtain⟨t,ht,rfl⟩:=ck (Ge hz);have q:=hk [some (.int (t:Int))] H' rfl (Same.refl _);refine⟨_,rfl,_,rfl,_,_,rfl,rfl,(by lia),_,rfl,_,rfl,_,_,rfl,rfl,(by lia),_,_,rfl,rfl,_,_,rfl,rfl,rfl,_,rfl,?_⟩;have e1:(0+(j:Int)).toNat=j:=by lia
    have e2:(0+(kk:Int)).toNat=kk:=by lia
    have eb:decide (V.int (Builtin.bitAnd (Builtin.bitAnd ((t:Int) /2^(0+(j:Int)).toNat) ((t:Int) /2^(0+(kk:Int)).toNat)) 1)=V.int 1)=(t.testBit j&&t.testBit kk):=by
     rw[e1,e2];have a1:((t:Int) /2^j)=((t/2^j:Nat):Int):=by simp
     have a2:((t:Int) /2^kk)=((t/2^kk:Nat):Int):=by simp
     rw[a1,a2,fH];have a3:Builtin.bitAnd (((t/2^j&&&t/2^kk:Nat)):Int) 1=(((t/2^j&&&t/2^kk)&&&1:Nat):Int):=fH _ 1;rw[a3,lint,dA,dA,KZ];have a4:(t/2^j&&&t/2^kk) % 2=1↔(t/2^j) % 2=1/\(t/2^kk) % 2=1:=by have:=Hw (t/2^j) (t/2^kk) 0;rw[Lc,Lc,Lc,IS,GL,GF,GF,GF]at this;exact this
     rw[IS,GL,GF,GF,GF,<-a4];lia
    rw[eb];have q':if(t.testBit j&&t.testBit kk)=true then R (.int (t:Int)) _ H' else S _ H':=q;show if(t.testBit j&&t.testBit kk)=true then _ else _;by_cases hc:(t.testBit j&&t.testBit kk)=true
    .rw[F7 hc]at q'⊢;exact⟨_,rfl,q'⟩
    .rw[F8 hc]at q'⊢;exact q'
   replace hl4:=hl4.trans (GQ (λl=>some (HO.lst l)) (a8 (λz:Int=>z.toNat.testBit j&&z.toNat.testBit kk) (λz:Int=>z) (bq L)));rw[show(λz:Int=>z)=id from rfl,Jk,c7]at hl4;refine⟨D,_,rfl, .inl (SqL.of hl4),rfl,_,rfl,?_⟩;rw[F3,bg,lint];have ef:(L.filter λs:Nat=>(s:Int).toNat.testBit j&&(s:Int).toNat.testBit kk)=L.filter λt=>t.testBit j&&t.testBit kk:=rfl;rw[ef];refine bJ (λh5=> ?_) λh5=> ?_
   .have hne:decide ((L.filter λt=>t.testBit j&&t.testBit kk).length=1)=false:=F4 λz=>by rw[z]at h5;exact absurd h5 (by decide)
    have e:((List.range 7).all λj=>(List.range j).all λk=>decide ((L.filter λt=>t.testBit j&&t.testBit k).length=1))=false:=IE.mpr λz=>by have:=GW.mp (GW.mp z j (Gk.mpr hj)) kk (Gk.mpr hk3);rw[hne]at this;cases this
    rw[e]at k;exact k H4 (sm1.trans (sm3.trans sm4))
   .refine⟨sm3.trans sm4,λi hi=> ?_,_,rfl⟩;by_cases hik:i<kk
    .exact hk i hik
    .have:i=kk:=by lia
     subst this;have h5':decide (((L.filter λt=>t.testBit j&&t.testBit i).length:Int)=1)=true:=by simpa using h5
     have:=Gx h5';exact F5 (by lia)
  .rintro σ H3 ⟨sm3,hk,v3,rfl⟩;refine⟨sm3,λi hi=> ?_,_,_,rfl⟩;by_cases hij:i<j
   .exact hall i hij
   .have:i=j:=by lia
    subst this;exact GW.mpr λk hk'=>hk k (Gk.mp hk')
 .rintro σ H2 ⟨sm2,hall,v2,v3,rfl⟩;have e:((List.range 7).all λj=>(List.range j).all λk=>decide ((L.filter λt=>t.testBit j&&t.testBit k).length=1))=true:=GW.mpr λj hj=>hall j (Gk.mp hj);rw[e]at k;exact k H2 (sm1.trans sm2)
theorem sc__law_kind:aB ["_law_levels","_law_told"] ["_law_levels"] (ak s__law_kind):=sc_of
theorem qQ(T:Tb K mg)(D:aU K mg "_law_kind" s__law_kind ["_law_levels"])(ai:Cal P w K mg base 1 "_law_size" ["_law_s"] fO)(ag:Cal P w K mg base 2 "_law_seven" ["_law_told"] (r9 K)):Cal P w K mg base 3 "_law_kind" ["_law_levels"] (vY K):=by
 refine D.cal sc__law_kind (λvs H Q E h=>by obtain⟨a,n,r,rfl,_⟩:=h;rfl) λf cdv A outer σs H vs Q E hr h=> ?_;obtain⟨a,n,r,rfl,ha,hn,k⟩:=h;refine⟨_,(ab (wls 1 sc__law_kind.nd ["_law_s"] ["_law_levels"] [0] (wrng T.range_ (wlen K T.len_ (pv 0))) (wnC 0) (bW (PW.pt (cV (wpt aO (bS K (pv 1) (pv 0)) (wcal ai hr (aa (pv 0) af))) (d0 (wpt aO (bS K (pv 1) (pv 0)) (bS K (pv 1) (gq dS ae))))))) (pv 0))
   (ab (aX (PW.pt (cV (wpt aO (wlen K T.len_ (pv 0)) ae) (cV (wpt aO (bS K (pv 0) (gq dS ae)) ae) (d0 (wpt aO (wlen K T.len_ (pv 1)) ae)))))
     (ah (aw fv))
     aF)
   (ab (aX (PW.pt (cV (wpt aO (wlen K T.len_ (pv 0)) ae) (cV (wpt aO (bS K (pv 0) (gq dS ae)) ae) (d0 (wpt aO (wlen K T.len_ (pv 1)) ae)))))
     (ah (aw fv))
     aF)
   (ab (aX (PW.pt (cV (wpt aO (wlen K T.len_ (pv 0)) ae) (cV (wpt aO (bS K (pv 0) (gq dS ae)) ae) (d0 (wpt aO (wlen K T.len_ (pv 1)) ae)))))
     (ah (aw fv))
     aF)
   (ab (aX (PW.pt (cV (wpt aO (wlen K T.len_ (pv 0)) ae) (cV (wpt aO (bS K (pv 0) (gq dS ae)) ae) (d0 (cH (wcal ag hr (aa (pv 1) af)))))))
     (ah (aw fv))
     aF)
   (ab (aX (PW.pt (cV (wpt aO (wlen K T.len_ (pv 0)) ae) (cV (wpt aO (bS K (pv 0) (gq dS ae)) ae) (d0 (cH (wcal ag hr (aa (wlc ["_law_s"] [] [] (wil K (pv 1)) (wnC 0) bw (aq dO ae (pv 0))) af)))))))
     (ah (aw fv))
     aF)
   (ah (aw fz)))))))),?_⟩
 have p8:=jg hn;have ppos:=two_pow_pos n;have llen:((ib n r).map V.int).length=2^n:=by unfold ib;rw[F3,F3,Gy]
 have atr:∀s:Nat,s<2^n->atI ((ib n r).map V.int) (s:Int)=some (.int ((r s:Nat):Int)):=λs hs=>ij (by unfold ib;rw[Gs,Iy hs];rfl);have atl:atI ((ib n r).map V.int) (-1)=some (.int ((r (2^n-1):Nat):Int)):=Dt (by
  rw[llen,Gs];unfold ib;rw[Gs,Iy (by lia)];rfl)
 refine⟨_,rfl,a,_,rfl, .inl ha,_,rfl,?_⟩;rw[llen];refine⟨by lia,by lia,?_⟩;rw[F6];refine cG (n:=2^n) (λs=>decide (r s=sz s)&&decide (r s=r (2^n-1))) (λi=> .int (0+(i:Nat))) (Gd p8 (by decide)) (λi vs H' R S hi hv sm hk=> ?_) λp1 H1 hp1 sm1 hl1=> ?_
 .obtain⟨v,rfl⟩:=aW hv;have q:=hk [some (.int (0+(i:Nat)))] H' rfl (Same.refl _);have e:(0+(i:Int)).toNat=i:=by lia
  have at1:atI ((ib n r).map V.int) (0+(i:Int))=some (.int ((r i:Nat):Int)):=by rw[Io];exact atr i hi
  have ha':=sm.seq ha;refine⟨_,rfl,_,rfl,a,_,_,_,rfl,rfl,ha',at1,_,rfl,_,rfl,by lia,by lia,rfl,_,rfl,?_⟩;rw[e,aJ];show if decide (r i=sz i)=true then _ else _;by_cases h3:r i=sz i
  .rw[F5 h3,Hl]at q;rw[F5 h3,F7 rfl];refine⟨_,rfl,_,rfl,a,_,_,_,rfl,rfl,ha',at1,_,rfl,_,rfl,a,_,_,_,rfl,rfl,ha',atl,rfl,_,rfl,?_⟩;rw[aJ];show if decide (r i=r (2^n-1))=true then _ else _;by_cases hc:decide (r i=r (2^n-1))=true
   .rw[F7 hc]at q⊢;exact⟨_,rfl,q⟩
   .rw[F8 hc]at q⊢;exact q
  .rw[F4 h3,Hj,F8 (by decide)]at q;rw[F4 h3,F8 (by decide)];exact q
 rw[dY]at hl1;have hl1':H1 p1=some (.lst ((bq (bj n r)).map V.int)):=hl1;have mT:∀t∈bj n r,t<2^n:=λt ht=>Gk.mp (GN.mp ht).1;have lT:(bj n r).length<=256:=Gd (Ie _ _) (by rw[Gy];exact p8);unfold tG at k;have ec0:(kinds n r).getD 0 false=(decide (n=4)&&(decide (r (2^n-1)=2)&&decide ((bj n r).length=6))):=rfl;(try dsimp only);refine ph (λσ' H'=>Same H1 H'/\(kinds n r).getD 0 false=false/\σ'=[some (.ref a),some (.ref p1)]) ?_ ?_
 rotate_left
 .intro hrest;have haA:=sm1.seq ha;refine⟨_,rfl,a,_,rfl, .inl haA,rfl,_,rfl,?_⟩;rw[llen];have g1:decide (V.int ((2^n:Nat):Int)=V.int 16)=decide (n=4):=(aJ (2^n) 16).trans ((mW hn).1);rw[g1];by_cases c1:n=4
  rotate_left
  .rw[F4 c1,F8 (by decide)];exact dQ (hrest _ _ ⟨(Same.refl _),by rw[ec0,F4 c1];rfl,rfl⟩)
  rw[F5 c1,F7 rfl];refine⟨_,rfl,_,rfl,a,_,_,_,rfl,rfl,haA,atl,rfl,_,rfl,?_⟩;have g2:decide (V.int ((r (2^n-1):Nat):Int)=V.int 2)=decide (r (2^n-1)=2):=aJ _ 2;rw[g2];by_cases c2:r (2^n-1)=2
  rotate_left
  .rw[F4 c2,F8 (by decide)];exact dQ (hrest _ _ ⟨(Same.refl _),by rw[ec0,F4 c2,Hj,Hu],rfl⟩)
  rw[F5 c2,F7 rfl];refine⟨_,rfl,p1,_,rfl, .inl (SqL.of (hl1')),rfl,_,rfl,?_⟩;rw[F3,bg];have g3:decide (V.int (((bj n r).length:Nat):Int)=V.int 6)=decide ((bj n r).length=6):=aJ _ 6;rw[g3];by_cases c3:(bj n r).length=6
  rotate_left
  .rw[F4 c3,F8 (by decide)];exact hrest _ _ ⟨(Same.refl _),by rw[ec0,F4 c3,Hu,Hu],rfl⟩
  rw[F5 c3,F7 rfl];have:=k H1 sm1;rw[F7 (by rw[ec0,F5 c1,F5 c2,F5 c3];rfl)]at this;exact this
 rintro σ' HX ⟨smX,cf0,rfl⟩;rw[F8 (by rw[cf0];decide)]at k;have ec1:(kinds n r).getD 1 false=(decide (n=5)&&(decide (r (2^n-1)=2)&&decide ((bj n r).length=10))):=rfl;(try dsimp only);refine eg (λσ' H'=>Same H1 H'/\(kinds n r).getD 1 false=false/\σ'=[some (.ref a),some (.ref p1)]) ?_ ?_
 rotate_left
 .intro hrest;have haA:=(sm1.trans smX).seq ha;refine⟨_,rfl,a,_,rfl, .inl haA,rfl,_,rfl,?_⟩;rw[llen];have g1:decide (V.int ((2^n:Nat):Int)=V.int 32)=decide (n=5):=(aJ (2^n) 32).trans ((mW hn).2.1);rw[g1];by_cases c1:n=5
  rotate_left
  .rw[F4 c1,F8 (by decide)];exact dQ (hrest _ _ ⟨smX,by rw[ec1,F4 c1];rfl,rfl⟩)
  rw[F5 c1,F7 rfl];refine⟨_,rfl,_,rfl,a,_,_,_,rfl,rfl,haA,atl,rfl,_,rfl,?_⟩;have g2:decide (V.int ((r (2^n-1):Nat):Int)=V.int 2)=decide (r (2^n-1)=2):=aJ _ 2;rw[g2];by_cases c2:r (2^n-1)=2
  rotate_left
  .rw[F4 c2,F8 (by decide)];exact dQ (hrest _ _ ⟨smX,by rw[ec1,F4 c2,Hj,Hu],rfl⟩)
  rw[F5 c2,F7 rfl];refine⟨_,rfl,p1,_,rfl, .inl (SqL.of (smX.at hl1')),rfl,_,rfl,?_⟩;rw[F3,bg];have g3:decide (V.int (((bj n r).length:Nat):Int)=V.int 10)=decide ((bj n r).length=10):=aJ _ 10;rw[g3];by_cases c3:(bj n r).length=10
  rotate_left
  .rw[F4 c3,F8 (by decide)];exact hrest _ _ ⟨smX,by rw[ec1,F4 c3,Hu,Hu],rfl⟩
  rw[F5 c3,F7 rfl];have:=k HX (sm1.trans smX);rw[F7 (by rw[ec1,F5 c1,F5 c2,F5 c3];rfl)]at this;exact this
 clear smX;rintro σ' HX ⟨smX,cf1,rfl⟩;rw[F8 (by rw[cf1];decide)]at k;have ec2:(kinds n r).getD 2 false=(decide (n=5)&&(decide (r (2^n-1)=3)&&decide ((bj n r).length=10))):=rfl;(try dsimp only);refine eg (λσ' H'=>Same H1 H'/\(kinds n r).getD 2 false=false/\σ'=[some (.ref a),some (.ref p1)]) ?_ ?_
 rotate_left
 .intro hrest;have haA:=(sm1.trans smX).seq ha;refine⟨_,rfl,a,_,rfl, .inl haA,rfl,_,rfl,?_⟩;rw[llen];have g1:decide (V.int ((2^n:Nat):Int)=V.int 32)=decide (n=5):=(aJ (2^n) 32).trans ((mW hn).2.1);rw[g1];by_cases c1:n=5
  rotate_left
  .rw[F4 c1,F8 (by decide)];exact dQ (hrest _ _ ⟨smX,by rw[ec2,F4 c1];rfl,rfl⟩)
  rw[F5 c1,F7 rfl];refine⟨_,rfl,_,rfl,a,_,_,_,rfl,rfl,haA,atl,rfl,_,rfl,?_⟩;have g2:decide (V.int ((r (2^n-1):Nat):Int)=V.int 3)=decide (r (2^n-1)=3):=aJ _ 3;rw[g2];by_cases c2:r (2^n-1)=3
  rotate_left
  .rw[F4 c2,F8 (by decide)];exact dQ (hrest _ _ ⟨smX,by rw[ec2,F4 c2,Hj,Hu],rfl⟩)
  rw[F5 c2,F7 rfl];refine⟨_,rfl,p1,_,rfl, .inl (SqL.of (smX.at hl1')),rfl,_,rfl,?_⟩;rw[F3,bg];have g3:decide (V.int (((bj n r).length:Nat):Int)=V.int 10)=decide ((bj n r).length=10):=aJ _ 10;rw[g3];by_cases c3:(bj n r).length=10
  rotate_left
  .rw[F4 c3,F8 (by decide)];exact hrest _ _ ⟨smX,by rw[ec2,F4 c3,Hu,Hu],rfl⟩
  rw[F5 c3,F7 rfl];have:=k HX (sm1.trans smX);rw[F7 (by rw[ec2,F5 c1,F5 c2,F5 c3];rfl)]at this;exact this
 clear smX;rintro σ' HX ⟨smX,cf2,rfl⟩;rw[F8 (by rw[cf2];decide)]at k;have ec3:(kinds n r).getD 3 false=(decide (n=7)&&(decide (r (2^n-1)=3)&&cU (bj n r))):=rfl;(try dsimp only);refine eg (λσ' H'=>Same H1 H'/\(kinds n r).getD 3 false=false/\σ'=[some (.ref a),some (.ref p1)]) ?_ ?_
 rotate_left
 .intro hrest;have haA:=(sm1.trans smX).seq ha;refine⟨_,rfl,a,_,rfl, .inl haA,rfl,_,rfl,?_⟩;rw[llen];have g1:decide (V.int ((2^n:Nat):Int)=V.int 128)=decide (n=7):=(aJ (2^n) 128).trans ((mW hn).2.2);rw[g1];by_cases c1:n=7
  rotate_left
  .rw[F4 c1,F8 (by decide)];exact dQ (hrest _ _ ⟨smX,by rw[ec3,F4 c1];rfl,rfl⟩)
  rw[F5 c1,F7 rfl];refine⟨_,rfl,_,rfl,a,_,_,_,rfl,rfl,haA,atl,rfl,_,rfl,?_⟩;have g2:decide (V.int ((r (2^n-1):Nat):Int)=V.int 3)=decide (r (2^n-1)=3):=aJ _ 3;rw[g2];by_cases c2:r (2^n-1)=3
  rotate_left
  .rw[F4 c2,F8 (by decide)];exact dQ (hrest _ _ ⟨smX,by rw[ec3,F4 c2,Hj,Hu],rfl⟩)
  rw[F5 c2,F7 rfl];refine⟨_,rfl,p1,bj n r,rfl,SqL.of (smX.at hl1'),λHY smY=>⟨_,rfl,?_⟩⟩;by_cases c3:cU (bj n r)=true
  rotate_left
  .rw[F8 c3];exact hrest _ _ ⟨smX.trans smY,by rw[ec3,IE.mpr c3,Hu,Hu],rfl⟩
  rw[F7 c3];have:=k HY (sm1.trans (smX.trans smY));rw[F7 (by rw[ec3,F5 c1,F5 c2,c3];rfl)]at this;exact this
 clear smX;rintro σ' HX ⟨smX,cf3,rfl⟩;rw[F8 (by rw[cf3];decide)]at k;have ec4:(kinds n r).getD 4 false=(decide (n=7)&&(decide (r (2^n-1)=4)&&cU ((bj n r).map (127- ·)))):=rfl;(try dsimp only);refine eg (λσ' H'=>Same H1 H'/\(kinds n r).getD 4 false=false/\σ'=[some (.ref a),some (.ref p1)]) ?_ ?_
 rotate_left
 .intro hrest;have haA:=(sm1.trans smX).seq ha;refine⟨_,rfl,a,_,rfl, .inl haA,rfl,_,rfl,?_⟩;rw[llen];have g1:decide (V.int ((2^n:Nat):Int)=V.int 128)=decide (n=7):=(aJ (2^n) 128).trans ((mW hn).2.2);rw[g1];by_cases c1:n=7
  rotate_left
  .rw[F4 c1,F8 (by decide)];exact dQ (hrest _ _ ⟨smX,by rw[ec4,F4 c1];rfl,rfl⟩)
  rw[F5 c1,F7 rfl];refine⟨_,rfl,_,rfl,a,_,_,_,rfl,rfl,haA,atl,rfl,_,rfl,?_⟩;have g2:decide (V.int ((r (2^n-1):Nat):Int)=V.int 4)=decide (r (2^n-1)=4):=aJ _ 4;rw[g2];by_cases c2:r (2^n-1)=4
  rotate_left
  .rw[F4 c2,F8 (by decide)];exact dQ (hrest _ _ ⟨smX,by rw[ec4,F4 c2,Hj,Hu],rfl⟩)
  rw[F5 c2,F7 rfl];refine⟨_,rfl,p1,rfl,⟨_,SqL.of (smX.at hl1')⟩,?_⟩;refine bo (λx=>(λ_=>true) (aZ x)) (λx=> .int ((λz:Int=>127-z) (aZ x))) (SqL.of (smX.at hl1')) (by rw[F3,bg];exact Gd lT (by decide)) (λi x vs H' R S hx hv sm hk=> ?_) λD HY hD smY hlY=> ?_
  .obtain⟨v,rfl⟩:=aW hv;obtain⟨z,rfl,hz⟩:=aY hx;have q:=hk [some (.int z)] H' rfl (Same.refl _);rw[F7 rfl]at q;simp only[aS,fK,F7];exact⟨_,rfl,_,_,rfl,rfl,q⟩
  replace hlY:=hlY.trans (GQ (λl=>some (HO.lst l)) (a8 (λ_=>true) (λz:Int=>127-z) (bq (bj n r))));rw[Iq.mpr (λ_ _=>rfl)]at hlY;have em:(bq (bj n r)).map (λz:Int=>127-z)=bq ((bj n r).map (127- ·)):=by unfold bq;rw[Hc,Hc];refine HP λt ht=> ?_;have:=mT t ht;rw[c1]at this;show(127:Int) - (t:Int)=((127-t:Nat):Int);have h7:2^7=128:=rfl;lia
  rw[em]at hlY;refine⟨D,(bj n r).map (127- ·),rfl,SqL.of hlY,λHZ smZ=>⟨_,rfl,?_⟩⟩;by_cases c3:cU ((bj n r).map (127- ·))=true
  rotate_left
  .rw[F8 c3];exact hrest _ _ ⟨smX.trans (smY.trans smZ),by rw[ec4,IE.mpr c3,Hu,Hu],rfl⟩
  rw[F7 c3];have:=k HZ (sm1.trans (smX.trans (smY.trans smZ)));rw[F7 (by rw[ec4,F5 c1,F5 c2,c3];rfl)]at this;exact this
 clear smX;rintro σ' HX ⟨smX,cf4,rfl⟩;rw[F8 (by rw[cf4];decide)]at k;exact k HX (sm1.trans smX)
theorem sc__law_determinant:aB ["_law_rows","_law_told","_law_s","_law_row","_law_total","_law_turn","_law_k"] ["_law_rows"] (ak s__law_determinant):=sc_of
theorem iY(T:Tb K mg)(D:aU K mg "_law_determinant" s__law_determinant ["_law_rows"])(ag:Cal P w K mg base 1 "_law_size" ["_law_s"] fO):Cal P w K mg base 2 "_law_determinant" ["_law_rows"] (Ag K):=by
 refine D.cal sc__law_determinant (λvs H Q E h=>by obtain⟨a,xs,M,n,rfl,_⟩:=h;rfl) λf cdv A outer σs H vs Q E hr h=> ?_;obtain⟨a,xs,M,n,rfl,ha,hx,hM,n8,hrow,k⟩:=h;refine⟨_,(ab (wset 1 sc__law_determinant.nd (cI (aa ae af)))
   (ab (wfor (xT (by rfl) T.range_ (aa ae (aa (aq bY ae (wlen K T.len_ (pv 0))) af))) (wname 2 sc__law_determinant.nd)
     (ab (wset 3 sc__law_determinant.nd (bS K (pv 0) (aq dO (wcal ag hr (aa (pv 2) af)) ae)))
     (ab (wset 4 sc__law_determinant.nd ae)
     (ab (wset 5 sc__law_determinant.nd ae)
     (ab (wfor (Eh (by rfl) T.reversed_ (aa (AD (by rfl) T.range_ (aa (wlen K T.len_ (pv 0)) af)) af)) (wname 6 sc__law_determinant.nd)
       (ah (aX (wpt aO (aq dy (aq fC (pv 2) (pv 6)) ae) ae)
         (ab (wset 4 sc__law_determinant.nd (aq dg (pv 4) (aq md (aq md (pv 5) (bS K (pv 3) (pv 6))) (bS K (pv 1) (aq uQ (pv 2) (aq bY ae (pv 6)))))))
         (ah (wset 5 sc__law_determinant.nd (gq dS (pv 5)))))
         aF)))
     (ah (bR (dW (K:=K) (by rfl) HU HV HW bI (pv 1) (aa (pv 4) af)))))))))
   (ah (aw (bS K (pv 1) (gq dS ae)))))),?_⟩
 have hxl:=hx.1;have p8:=jg n8;have ppos:=two_pow_pos n;refine⟨(show(1:Nat)<=sizeLine by decide),λq hq=> ?_⟩;have hq0:upd H q (.lst [V.int 1]) q=some (.lst [V.int 1]):=aj;refine⟨_,rfl,a,_,rfl, .inl ((Same.new hq).seq ha),?_⟩;rw[hxl,hM];refine⟨_,_,rfl,rfl,⟨by lia,by lia,by decide⟩,_,_,rfl,?_⟩;rw[bL];refine⟨⟨by lia,by lia,by lia,by lia⟩,?_⟩;rw[show(((2^n:Nat):Int) -1).toNat=2^n-1 by lia];refine bK (n:=2^n-1) (λi σ H'=>∃v3 v4 v5 v6 v7:Option V,Same H H'/\H' q=some (.lst (((List.range (i+1)).map (dpD M n)).map V.int))/\σ=[some (.ref a),some (.ref q),v3,v4,v5,v6,v7]) ⟨none,none,none,none,none,Same.new hq,?_,rfl⟩ ?_ ?_
 .rw[hq0];have:dpD M n 0=1:=by
   have e:ao n 0=[]:=by unfold ao;simp
   unfold dpD;rw[e];rfl
  show _=some (HO.lst [V.int (dpD M n 0)]);rw[this]
 .rintro i σ H2 hi ⟨v3,v4,v5,v6,v7,sm2,hq2,rfl⟩;have es:(1:Int)+(i:Int)=((i+1:Nat):Int):=by lia
  rw[es];have hs:i+1<2^n:=by lia
  generalize hsv:i+1=s at*;have s256:s<256:=by lia
  have cb:=yX n8 hs;have cp:=BQ hs (show 0<s by lia);have cl:=rg n s;have hN:(ao n s).length-1<M.length:=by lia
  have gN:M[(ao n s).length-1]?=some (M.getD ((ao n s).length-1) []):=by simp[hN]
  obtain⟨b,hb1,hb2⟩:=(hx.same sm2).2 _ _ gN;have rb:=hrow (M.getD ((ao n s).length-1) []) (Ge gN);have atr:atI xs (((bits ((s:Int)).toNat).length:Nat) -1:Int)=some (.ref b):=by rw[F6,cb,show(((ao n s).length:Nat):Int) -1=(((ao n s).length-1:Nat):Int) by lia];exact cR hb1
  refine⟨_,rfl,_,rfl,_,rfl,by lia,by lia,_,_,rfl,rfl,a,_,_,_,rfl,rfl,sm2.seq ha,atr,?_⟩;refine⟨_,rfl,a,_,rfl, .inl (sm2.seq ha),?_⟩;rw[hxl,hM];refine⟨_,rfl,λp hp=>⟨p,(n:Int),rfl,aj,by lia,by lia,?_⟩⟩;rw[F6];have smp:Same H2 (upd H2 p (.rng 0 (n:Int))):=Same.new hp;generalize upd H2 p (.rng 0 (n:Int))=H3 at*;have hq3:=smp.at hq2;have hb3:=smp.at hb2;have ltold:((List.range s).map (dpD M n)).length=s:=by rw[F3,Gy]
  refine vq (n:=n) (λi σ H4=>H4=H3/\∃v7:Option V,σ=[some (.ref a),some (.ref q),some (.int (s:Int)),some (.ref b),some (.int (aP (ao n s).length (dpG M n s) -aP (ao (n-i) s).length (dpG M n s))),some (.int (sgn ((ao n s).length- (ao (n-i) s).length))),v7]) ⟨rfl,v7,?_⟩ ?_ ?_
  .rw[Nat.sub_zero,JO,Lb];rfl
  .rintro i σ H4 hin ⟨rfl,v7,rfl⟩;have ek:(n:Int) -1+(i:Int)*(-1)=((n- (i+1):Nat):Int):=by lia
   rw[ek];have hm:n- (i+1)<n:=by lia
   have em:n-i=n- (i+1)+1:=by lia
   rw[em];generalize n- (i+1)=m at*;refine⟨_,rfl,_,rfl,_,_,rfl,rfl,(by show(0:Int)<=(m:Int);lia),_,_,rfl,rfl,rfl,_,rfl,?_⟩;rw[sx];refine bJ (λhb=> ?_) λhb=> ?_
   .obtain⟨d1,d2,d3,d4⟩:=Dm (M:=M) hm hb;have dl:=e7 s s256 m (by lia) hb;have atk:atI ((M.getD ((ao n s).length-1) []).map V.int) (m:Int)=some (.int ((M.getD ((ao n s).length-1) []).getD m 0)):=bA (by rw[rb.1];exact hm);have att:atI (((List.range s).map (dpD M n)).map V.int) (Builtin.bitXor (s:Int) (1*2^((m:Nat):Int).toNat))=some (.int (dpD M n (s^^^2^m))):=by rw[zD s256 (by lia)];exact ij (by rw[Gs,Iy dl];rfl)
    rw[d1,Gr,List.length_singleton]at*;have m1:fJ (sgn ((ao n s).length- ((ao m s).length+1))) ((M.getD ((ao n s).length-1) []).getD m 0):=fJ.of (k:=1) (by rw[qw];decide) (rb.at m) (by decide);have m2:fJ (sgn ((ao n s).length- ((ao m s).length+1))*(M.getD ((ao n s).length-1) []).getD m 0) (dpD M n (s^^^2^m)):=fJ.of (rq (k:=1) (by rw[qw];decide) (rb.at m)) (EW hM n8 hrow _) (by decide);refine⟨_,rfl,_,rfl,_,rfl,_,rfl,b,_,_,_,rfl,rfl,SqL.of hb3,atk,_,_,rfl,rfl,m1,_,rfl,_,rfl,_,rfl,_,_,rfl,rfl,⟨by lia,by lia,by decide⟩,_,_,rfl,rfl,q,_,_,_,rfl,rfl,SqL.of hq3,att,_,_,rfl,rfl,m2,_,_,rfl,rfl,?_⟩;refine⟨_,rfl,_,rfl,rfl,some (.int (m:Int)),?_⟩;have e1:aP (ao n s).length (dpG M n s) -aP ((ao m s).length+1) (dpG M n s)+sgn ((ao n s).length- ((ao m s).length+1))*(M.getD ((ao n s).length-1) []).getD m 0*dpD M n (s^^^2^m)=aP (ao n s).length (dpG M n s) -aP (ao m s).length (dpG M n s):=by have d4':dpG M n s (ao m s).length=sgn ((ao n s).length- ((ao m s).length+1))*(M.getD ((ao n s).length-1) []).getD m 0*dpD M n (s^^^2^m):=d4;rw[<-d4',aP];lia
    have e2: -sgn ((ao n s).length- ((ao m s).length+1))=sgn ((ao n s).length- (ao m s).length):=by rw[<-h9,show(ao n s).length- ((ao m s).length+1)+1=(ao n s).length- (ao m s).length by lia]
    rw[<-e1,<-e2];rfl
   .refine⟨rfl,some (.int (m:Int)),?_⟩;rw[cY,F8 hb,Ic];rfl
  .rintro σ H4 ⟨rfl,v7,rfl⟩;rw[Lb];have e0:(ao 0 s).length=0:=rfl;rw[e0,show aP 0 (dpG M n s)=0 from rfl,Int.sub_zero,<-EU hM cp];refine⟨_,rfl, .inl ⟨rfl,_,SqL.of hq3⟩,_,rfl,q,_,_,rfl,rfl,hq3,(by rw[F3,ltold];exact J5 s256 (by decide)),?_⟩;refine⟨_,_,_,_,_,(sm2.trans smp).upd hq,?_,rfl⟩;rw[aj,IC,GO,GO];rfl
 .rintro σ H2 ⟨v3,v4,v5,v6,v7,sm2,hq2,rfl⟩;rw[show 2^n-1+1=2^n by lia]at hq2;have ll:((List.range (2^n)).map (dpD M n)).length=2^n:=by rw[F3,Gy]
  have atl:atI (((List.range (2^n)).map (dpD M n)).map V.int) (-1)=some (.int (aE (M.map bH) (List.range n))):=by
   rw[vE (by rw[ll];lia) (by decide),ll,show((-1:Int)+((2^n:Nat):Int)).toNat=2^n-1 by lia,<-EV hM];have h2:2^n-1<2^n:=by lia
   simp[h2]
  exact⟨_,rfl,_,rfl,q,_,_,_,rfl,rfl,SqL.of hq2,atl,k H2 sm2⟩
theorem yx(M:Mat n r)(h:∀s,s<2^n->r' s=r s):Mat n r':=by
 refine⟨M.n8,by rw[h 0 (ID (by lia)),M.zero],λs k hs hk=> ?_,λs j k hs hj hk h1 h2=> ?_⟩
 .rw[h s hs,h _ (aQ hs hk)];exact M.step s k hs hk
 .rw[h _ (aQ (aQ hs hj) hk),h s hs];rw[h _ (aQ hs hj),h s hs]at h1;rw[h _ (aQ hs hk),h s hs]at h2;exact M.sub s j k hs hj hk h1 h2
theorem rO(hn:n<=8):sz (2^n-1)=n:=by show(bits (2^n-1)).length=n;rw[zq n (by lia),F3,Gy]
theorem pC(hn:n<=8)(hm:m<=n)(h:oE n m ps)(z:Int):
  z∈dI n m ps↔∃b:Nat,b<2^n/\z=(b:Int)/\rkG m ps b=sz b/\rkG m ps b=rkG m ps (2^n-1):=by
 have ef:rkG m ps (2^n-1)=m:=by
  unfold rkG;rw[rO hn];rcases h.mid with e|⟨h1,h2⟩
  .rw[e,F8 (by simp)];lia
  .rw[F8 (h.not (by rw[rO hn];lia))];lia
 rw[yu,ef];constructor
 .rintro⟨s,h1,h2,h3,rfl⟩;refine⟨s,h1,rfl,?_,?_⟩<;>(unfold rkG;rw[F8 h3];lia)
 .rintro⟨b,h1,rfl,h2,h3⟩;refine⟨b,h1,by lia,λhmem=> ?_,rfl⟩;obtain⟨s,_,e,hs⟩:=h.size _ hmem;have:b=s:=by lia
  subst this;unfold rkG at h2 h3;rw[F7 hmem]at h2 h3;rcases h.mid with e|⟨h4,h5⟩
  .rw[e]at hmem;cases hmem
  .lia
theorem rN:∃qs:List Int,dI n m ps=dI n m qs/\(∀z∈qs,z∈ps)/\∀z∈qs,∃s:Nat,s<2^n/\z=(s:Int)/\sz s=m:=by
 refine⟨ps.filter λz=>decide (0<=z/\z.toNat<2^n/\sz z.toNat=m),?_,λz hz=>(GN.mp hz).1,λz hz=> ?_⟩
 .unfold dI;refine GQ (List.map λs:Nat=>(s:Int)) (Ih λs hs=> ?_);have hs':=Gk.mp hs;unfold mH;by_cases e:sz s=m
  .have:((s:Int)∈ps.filter λz=>decide (0<=z/\z.toNat<2^n/\sz z.toNat=m))↔(s:Int)∈ps:=by rw[GN,GF,F6];exact⟨λh=>h.1,λh=>⟨h,by lia,hs',e⟩⟩
   exact GQ (λx=>decide (sz s=m)&&x) (Iu.mpr (not_congr this.symm))
  .simp[e]
 .have:=Gx (GN.mp hz).2;exact⟨z.toNat,this.2.1,by lia,this.2.2⟩
theorem Di{n m:Nat}{ps:List Int}(hn:n<=8)(hm:m<=n)(h:ps=[]\/(0<m/\m<n/\Far m ps)):
  Mat n (bF (dI n m ps))/\∀b,b∈(List.range (2^n)).filter (mH m ps)↔xh n (bF (dI n m ps)) b:=by
 obtain⟨qs,e,hsub,hsz⟩:=rN (n:=n) (m:=m) (ps:=ps);have G:oE n m qs:=by
  refine⟨hsz,?_,?_⟩
  .rcases h with rfl|⟨_,_,h3⟩
   .intro a ha;exact absurd (hsub a ha) (by simp)
   .exact λa ha b hb=>h3 a (hsub a ha) b (hsub b hb)
  .rcases h with rfl|⟨h1,h2,_⟩
   .exact .inl (KI.mpr λa ha=>absurd (hsub a ha) (by simp))
   .exact .inr ⟨h1,h2⟩
 have M:=Ba hn G;have er:∀s,s<2^n->bF (dI n m ps) s=rkG m qs s:=λs hs=>by rw[e];exact M.t6 (pC hn hm G) hs
 refine⟨yx M er,λb=> ?_⟩;have hb:=pC hn hm G (b:Int);rw[<-e]at hb;have h1:b∈(List.range (2^n)).filter (mH m ps)↔(b:Int)∈dI n m ps:=by
  unfold dI;constructor
  .intro h;exact Gz.mpr ⟨b,h,rfl⟩
  .intro h;obtain⟨c,hc,ec⟩:=Gz.mp h;have:c=b:=by lia
   exact this▸hc
 rw[h1,hb];constructor
 .rintro⟨c,h2,ec,h3,h4⟩;have:b=c:=by lia
  subst this;exact⟨h2,by rw[er b h2];exact h3,by rw[er b h2,er _ (cQ n)];exact h4⟩
 .rintro⟨h2,h3,h4⟩;rw[er b h2]at h3;rw[er b h2,er _ (cQ n)]at h4;exact⟨b,h2,rfl,h3,h4⟩
inductive xa(K:PySem.W.Frag)(vs:List V)(H:Hp)(Q:VK):Prop
 |mk (b:Addr) (n o w:Nat) (r:Nat->Nat) (y_0:vs=[.int (n:Int), .ref b, .int (o:Int), .int (w:Int)]) (y_1:SqL K H b ((dJ n r).map V.int)) (y_2:Mat n r) (y_3:o<2^n) (y_4:w<2^n) (y_5:∀p H',Same H H'->H p=none->H' p=some (.lst ((dJ (sz (aC (2^n-1) (o|||w))) (eo r (aC (2^n-1) (o|||w)) w)).map V.int))->Q (.ref p) H'):xa K vs H Q
def Af(K:PySem.W.Frag):Sp:=λvs H Q _=>xa K vs H Q
theorem yD{n s:Nat}(n8:n<=8):((List.range n).filter λj:Nat=>decide (V.int (Builtin.bitAnd ((s:Int) /2^(0+(j:Int)).toNat) 1)=V.int 0)).map (λj:Nat=>(j:Int))=bits (aC (2^n-1) s):=by
 have e1:(λj:Nat=>decide (V.int (Builtin.bitAnd ((s:Int) /2^(0+(j:Int)).toNat) 1)=V.int 0))=λj=> !s.testBit j:=by
  funext j;have e2:(0+(j:Int)).toNat=j:=by lia
  have e3:((s:Int) /2^j)=((s/2^j:Nat):Int):=by simp
  rw[e2,e3,de (Hr _) (by decide),F6,show((1:Int).toNat)=1 from rfl,KZ,dA];by_cases hb:s/2^j % 2=1
  .rw[hb];rfl
  .have:s/2^j % 2=0:=by lia
   rw[this];rfl
 rw[e1];unfold bits;refine GQ _ ?_;have e4:∀m,n<=m->(List.range m).filter (aC (2^n-1) s).testBit=(List.range n).filter λj=> !s.testBit j:=λm=>by
  induction m with
  |zero=>intro h;rw[show n=0 by lia];rfl
  |succ m ih=>
   intro h;by_cases e:n=m+1
   .rw[e];refine Ih λj hj=> ?_;rw[br,GD,F5 (Gk.mp hj)];rfl
   .rw[IC,Jb,ih (by lia)];have:(aC (2^n-1) s).testBit m=false:=by rw[br,GD,F4 (by lia)];rfl
    simp[this]
 exact(e4 8 n8).symm
theorem sc__law_minor:aB ["_law_many","_law_levels","_law_out","_law_drawn","_law_left","_law_found","_law_s","_law_wide","_law_j"] ["_law_many","_law_levels","_law_out","_law_drawn"] (ak s__law_minor):=sc_of
theorem oN(T:Tb K mg)(D:aU K mg "_law_minor" s__law_minor ["_law_many","_law_levels","_law_out","_law_drawn"]):Cal P w K mg base 1 "_law_minor" ["_law_many","_law_levels","_law_out","_law_drawn"] (Af K):=by
 refine D.cal sc__law_minor (λvs H Q E h=>by obtain⟨b,n,o,w,r,rfl,_⟩:=h;rfl) λf cdv A outer σs H vs Q E hr h=> ?_;obtain⟨b,n,o,dw,r,rfl,hb,M,ho,hw,k⟩:=h;refine⟨_,(ab (wls 4 sc__law_minor.nd ["_law_k"] ["_law_out","_law_drawn"] [2,3] (wrng T.range_ (pv 0)) (wnC 0) (bW (wpt aO (aq dy (aq fC (aq jS (pv 1) (pv 2)) (pv 0)) ae) ae)) (pv 0))
   (ab (wset 5 sc__law_minor.nd (cI af))
   (ab (wfor (wrng T.range_ (aq bY ae (wlen K T.len_ (pv 4)))) (wname 6 sc__law_minor.nd)
     (ab (wset 7 sc__law_minor.nd (pv 3))
     (ab (wfor (wrng T.range_ (wlen K T.len_ (pv 4))) (wname 8 sc__law_minor.nd)
       (ah (aX (wpt aO (aq dy (aq fC (pv 6) (pv 8)) ae) ae)
         (ah (wset 7 sc__law_minor.nd (aq jS (pv 7) (aq bY ae (bS K (pv 4) (pv 8))))))
         aF)))
     (ah (bR (dW (K:=K) (by rfl) HU HV HW bI (pv 5) (aa (aq dO (bS K (pv 1) (pv 7)) (bS K (pv 1) (pv 3))) af)))))))
   (ah (aw (pv 5)))))),?_⟩
 have n8:=M.n8;have p8:=jM n8;refine⟨_,rfl,_,rfl,by lia,by lia,?_⟩;rw[F6];refine cG (λj=>decide (V.int (Builtin.bitAnd (((o|||dw:Nat):Int) /2^(0+(j:Int)).toNat) 1)=V.int 0)) (λj=> .int (0+(j:Nat))) (Gd n8 (by decide)) (λj vs H' R S hj hv sm hk=> ?_) λq H1 hq sm1 hl1=> ?_
 .obtain⟨v,rfl⟩:=aW hv;have q1:=hk [some (.int (0+(j:Nat)))] H' rfl (Same.refl _);refine⟨_,rfl,_,rfl,_,_,rfl,rfl,_,rfl,_,_,rfl,rfl,by show(0:Int)<=0+(j:Int);lia,_,_,rfl,rfl,rfl,_,rfl,?_⟩;(try dsimp only);rw[dH];show if decide (V.int (Builtin.bitAnd (((o|||dw:Nat):Int) /2^(0+(j:Int)).toNat) 1)=V.int 0)=true then _ else _;by_cases hc:decide (V.int (Builtin.bitAnd (((o|||dw:Nat):Int) /2^(0+(j:Int)).toNat) 1)=V.int 0)=true
  .rw[F7 hc]at q1⊢;exact⟨_,rfl,q1⟩
  .rw[F8 hc]at q1⊢;exact q1
 have el:dB (λj=>decide (V.int (Builtin.bitAnd (((o|||dw:Nat):Int) /2^(0+(j:Int)).toNat) 1)=V.int 0)) (λj=>V.int (0+(j:Nat))) n=(bits (aC (2^n-1) (o|||dw))).map V.int:=by rw[<-yD n8];exact dY _ n
 rw[el]at hl1;have kl:aC (2^n-1) (o|||dw)<2^n:=iU;generalize aC (2^n-1) (o|||dw)=kp at*;refine⟨Hy _,λl hl=> ?_⟩;have sml:Same H1 (upd H1 l (.lst [])):=Same.new hl;have hq0:upd H1 l (.lst []) l=some (.lst (((List.range 0).map λs=>((eo r kp dw s:Nat):Int)).map V.int)):=aj;generalize upd H1 l (.lst [])=H2 at*;have hb2:=(sm1.trans sml).seq hb;have hq2:=sml.at hl1;have zl:((bits kp).map V.int).length=sz kp:=F3 _;have z8:sz kp<=8:=aN kp;have pz:=jM z8;have ppos:0<2^sz kp:=ID (by lia);refine⟨_,rfl,q,_,rfl, .inl (SqL.of hq2),?_⟩;rw[zl];refine⟨_,_,rfl,rfl,⟨by lia,by lia,by decide⟩,_,rfl,?_⟩;rw[bL];refine⟨by lia,by lia,?_⟩;rw[F6];refine bK (n:=2^sz kp) (λi σ H'=>∃v6 v7 v8:Option V,Same H1 H'/\H' l=some (.lst (((List.range i).map λs=>((eo r kp dw s:Nat):Int)).map V.int))/\σ=[some (.int (n:Int)),some (.ref b),some (.int (o:Int)),some (.int (dw:Int)),some (.ref q),some (.ref l),v6,v7,v8]) ⟨none,none,none,sml,hq0,rfl⟩ ?_ ?_
 .rintro i σ H3 hi ⟨v6,v7,v8,sm3,hl3,rfl⟩;dsimp only[aS];rw[Io];have hq3:=sm3.at hl1;refine⟨_,rfl,_,rfl,q,_,rfl, .inl (SqL.of hq3),?_⟩;rw[zl];refine⟨_,rfl,by lia,by lia,?_⟩;rw[F6];refine bK (n:=sz kp) (λj σ H'=>H'=H3/\∃ (W:Nat) (v8:Option V),W<2^n/\(∀t:Nat,W.testBit t=true↔dw.testBit t=true\/∃m,m<j/\(bits kp)[m]?=some (t:Int)/\i.testBit m=true)/\σ=[some (.int (n:Int)),some (.ref b),some (.int (o:Int)),some (.int (dw:Int)),some (.ref q),some (.ref l),some (.int (i:Int)),some (.int (W:Int)),v8]) ⟨rfl,dw,v8,hw,λt=>by simp,rfl⟩ ?_ ?_
  .rintro j σ H4 hj ⟨rfl,W,v8,hW,hb4,rfl⟩;dsimp only[aS];have hjl:j<(bits kp).length:=hj;have gj:=Gp hjl;obtain⟨t,t8,tb,et⟩:=bO.mp (Ik hjl);rw[et]at gj;have tn:=bU kl tb;refine⟨_,rfl,_,rfl,_,_,rfl,rfl,(by show(0:Int)<=0+(j:Int);lia),_,_,rfl,rfl,rfl,_,rfl,?_⟩;rw[jF];refine bJ (λhbit=> ?_) λhbit=> ?_
   .refine⟨_,rfl,_,rfl,_,rfl,q,_,_,_,rfl,rfl,SqL.of hq3,by rw[Io];exact ij gj,_,_,rfl,rfl,⟨by lia,by lia,by decide⟩,_,_,rfl,rfl,rfl,W|||2^t,some (.int (0+(j:Nat))),aQ hW tn,λs=> ?_,?_⟩
    .rw[a7,Im,GF,hb4 s];constructor
     .rintro((h|⟨m,h1,h2,h3⟩)|h)
      .exact .inl h
      .exact .inr ⟨m,by lia,h2,h3⟩
      .exact .inr ⟨j,by lia,by rw[<-h];exact gj,hbit⟩
     .rintro(h|⟨m,h1,h2,h3⟩)
      .exact .inl (.inl h)
      .by_cases e:m=j
       .subst e;rw[gj]at h2;have:=GY h2;exact .inr (by lia)
       .exact .inl (.inr ⟨m,by lia,h2,h3⟩)
    .show [_,_,_,_,_,_,_,some (V.int (Builtin.bitOr (W:Int) (1*2^((t:Nat):Int).toNat))),_]=_;rw[jG,dH]
   .refine⟨rfl,W,_,hW,λs=> ?_,rfl⟩;rw[hb4 s];refine KO ⟨λ⟨m,h1,h2,h3⟩=>⟨m,by lia,h2,h3⟩,λ⟨m,h1,h2,h3⟩=>⟨m,?_,h2,h3⟩⟩;by_cases e:m=j
    .subst e;exact absurd h3 hbit
    .lia
  .rintro σ H4 ⟨rfl,W,v8,hW,hb4,rfl⟩;have eW:W=aT i kp|||dw:=Gi λt=>by
    rw[IS,hb4 t,GC,Im,cT];constructor
    .rintro(h|⟨m,h1,h2,h3⟩)
     .exact .inr h
     .exact .inl ⟨m,h2,h3⟩
    .rintro(⟨m,h2,h3⟩|h)
     .exact .inr ⟨m,(Ga.mp h2).1,h2,h3⟩
     .exact .inl h
   subst eW;have hb3:=(sm1.trans sm3).seq hb;refine⟨_,rfl, .inl ⟨rfl,_,SqL.of hl3⟩,_,rfl,_,rfl,b,_,_,_,rfl,rfl,hb3,jz r hW,_,rfl,_,rfl,b,_,_,_,rfl,rfl,hb3,jz r hw,_,_,rfl,rfl,l,_,_,rfl,rfl,hl3,?_,?_⟩
   .rw[F3,F3,Gy];exact F9 hi (Gd pz (by decide))
   .refine⟨_,_,_,sm3.upd hl,?_,rfl⟩;rw[aj,IC,GO,GO,<-M.min_int kl hw i];rfl
 .rintro σ H3 ⟨v6,v7,v8,sm3,hl3,rfl⟩;exact⟨_,rfl,k l H3 (sm1.trans sm3) (sm1.free hl) hl3⟩
theorem ql(hi:i<R):(gS c n R)[i]?=some ((List.range n).map λt=>(c t).getD i 0):=by unfold gS;rw[Gs,Iy hi];rfl
theorem lR(c:Nat->List Int)(n R:Nat):(gS c n R).length=R:=by unfold gS;rw[F3,Gy]
theorem pq(r:Nat->Nat):atI ((dJ n r).map V.int) (-1)=some (.int (r (2^n-1):Nat)):=by
 have pp:=two_pow_pos n;rw[vE (by rw[jy];lia) (by decide),jy];have e:((-1:Int)+((2^n:Nat):Int)).toNat=2^n-1:=by lia
 rw[e];have h2:2^n-1<2^n:=by lia
 unfold dJ;simp[h2]
def dX(c:Nat->List Int)(R S:Nat):List (List Int):=(List.range R).map λi=>(aD S).map λt=>(c t).getD i 0
theorem AF(zS:sz S=R):aE ((dX c R S).map bH) (List.range R)=aE (bZ (iE c) (List.range R)) (aD S):=by
 have lS:(aD S).length=R:=(cq S).trans zS;have e2:=n9 (λj=>(aD S).getD j 0) (List.range R) (bZ (iE c) (List.range R));have e3:=mU (aD S);rw[lS]at e3;rw[e3]at e2;rw[<-e2];refine fg (List.range R) _ _ (by unfold dX bZ;simp) λi j hj=> ?_;have hj':j<(aD S).length:=by rw[lS];exact Gk.mp hj
 unfold dX bZ;rw[Hc,Hc,Gb,Gb,Gs,Gs];by_cases hi:i<R
 .rw[Iy hi];show((aD S).map λt=>(c t).getD i 0).getD j 0=(c ((aD S).getD j 0)).getD i 0;simp[hj']
 .rw[Ks (by rw[Gy];lia)];rfl
theorem xX{c:Nat->List Int}{n R S:Nat}(n8:n<=8)(hS:S<2^n){i:Nat}:((List.range n).filter S.testBit).map (λt=>((List.range n).map λt=>(c t).getD i 0).getD t 0)=(aD S).map λt=>(c t).getD i 0:=by rw[mV n8 hS];refine HP λt ht=> ?_;have tn:=bU hS (ba.mp ht).2;simp[tn]
inductive wZ(K:PySem.W.Frag)(vs:List V)(H:Hp)(Q:VK):Prop
 |mk (l b:Addr) (xs:List V) (n R:Nat) (r:Nat->Nat) (c:Nat->List Int) (y_0:vs=[.ref l, .int (n:Int), .ref b]) (y_1:H l=some (.lst xs)) (y_2:aK H xs (gS c n R)) (y_3:SqL K H b ((dJ n r).map V.int)) (y_4:Mat n r) (y_5:r (2^n-1)=R) (y_6:rz 2 n R r c) (y_7:∀H',Same H H'->Q (.bl true) H'):wZ K vs H Q
def Ac(K:PySem.W.Frag):Sp:=λvs H Q _=>wZ K vs H Q
theorem sc__law_table_right:aB ["_law_rows","_law_many","_law_levels","_law_row","_law_number","_law_s","_law_part"] ["_law_rows","_law_many","_law_levels"] (ak s__law_table_right):=sc_of
theorem iX(T:Tb K mg)(D:aU K mg "_law_table_right" s__law_table_right ["_law_rows","_law_many","_law_levels"])(ar:Cal P w K mg base 1 "_law_size" ["_law_s"] fO)(ai:Cal P w K mg base 1 "_law_whole" ["_law_found"] qp)(ag:Cal P w K mg base 2 "_law_determinant" ["_law_rows"] (Ag K)):
  Cal P w K mg base 3 "_law_table_right" ["_law_rows","_law_many","_law_levels"] (Ac K):=by
 refine D.cal sc__law_table_right (λvs H Q E h=>by obtain⟨l,b,xs,n,R,r,c,rfl,_⟩:=h;rfl) λf cdv A outer σs H vs Q E hr h=> ?_;obtain⟨l,b,xs,n,R,r,c,rfl,hl,hR,hb,M,rR,⟨⟨B,hB,zB,rB,st⟩,lenC,numC⟩,k⟩:=h;refine⟨_,(ab (aX (PW.pt (fQ (jf (cH (cj (c9 (K:=K) (by rfl)) (by rfl) T.isinstance_ IQ (aa (pv 0) (aa (iS (v:= .ty "list") (by rfl) T.list_ IY rfl) af))))) (gF (wpt eX (wlen K T.len_ (pv 0)) (bS K (pv 2) (gq dS ae))))))
     (ah (aw eh))
     aF)
   (ab (wfor (wil K (pv 0)) (wname 3 sc__law_table_right.nd)
     (ab (aX (PW.pt (fQ (jf (cH (cj (c9 (K:=K) (by rfl)) (by rfl) T.isinstance_ IQ (aa (pv 3) (aa (iS (v:= .ty "list") (by rfl) T.list_ IY rfl) af))))) (gF (wpt eX (wlen K T.len_ (pv 3)) (pv 1)))))
       (ah (aw eh))
       aF)
     (ah (wfor (wil K (pv 3)) (wname 4 sc__law_table_right.nd)
       (ah (aX (PW.pt (fQ (jf (cH (wcal ai hr (aa (pv 4) af)))) (fQ (wpt kU (pv 4) ae) (gF (wpt nj (pv 4) ae)))))
         (ah (aw eh))
         aF))))))
   (ab (wfor (wrng T.range_ (aq bY ae (pv 1))) (wname 5 sc__law_table_right.nd)
     (ah (aX (wpt aO (wcal ar hr (aa (pv 5) af)) (wlen K T.len_ (pv 0)))
       (ab (wset 6 sc__law_table_right.nd (cI af))
       (ab (wfor (wil K (pv 0)) (wname 3 sc__law_table_right.nd)
         (ah (bR (dW (K:=K) (by rfl) HU HV HW bI (pv 6) (aa (wlc ["_law_k"] ["_law_row","_law_s"] [3,5] (wrng T.range_ (pv 1)) (wnC 0) (bW (wpt aO (aq dy (aq fC (pv 2) (pv 0)) ae) ae)) (bS K (pv 1) (pv 0))) af)))))
       (ah (aX (wpt eX (wpe eX (aq bD (wcal ag hr (aa (pv 6) af)) ae) ae) (wpe aO (bS K (pv 2) (pv 5)) (wlen K T.len_ (pv 0))))
         (ah (aw eh))
         aF))))
       aF)))
   (ah (aw eh))))),?_⟩
 have n8:=M.n8;have p8:=jM n8;have xl:xs.length=R:=by rw[hR.1,lR]
 have R8:R<=8:=by have:=M.k9 (2^n-1) (cQ n);have h2:sz (2^n-1)<=8:=aN _;lia
 refine⟨_,rfl,_,_,_,true,rfl, .lst hl,T.kLL,true,rfl,dQ ?_⟩;refine⟨_,rfl,l,_,rfl, .inl (SqL.of hl),_,rfl,1,rfl,b,_,_,_,rfl,rfl,hb,pq r,rfl,_,rfl,?_⟩;rw[xl,rR];refine pA rfl ?_;refine⟨_,rfl,l,rfl,⟨_,SqL.of hl⟩,?_⟩;refine bz (K:=K) (a:=l) (xs:=xs) (λi σ H2=>H2=H/\∃v3 v4,σ=[some (.ref l),some (.int (n:Int)),some (.ref b),v3,v4,none,none]) ⟨rfl,none,none,rfl⟩ (λi σ H2 _ h=>by rw[h.1];exact SqL.of hl) ?_ ?_
 .rintro i x σ H2 hi ⟨rfl,v3,v4,rfl⟩;obtain⟨a,rw_,hr1,rfl,ha⟩:=hR.at hi;have iR:i<R:=by rw[<-xl];exact(Ga.mp hi).1
  rw[ql iR]at hr1;cases hr1;dsimp only[aS];refine⟨_,rfl,_,_,_,true,rfl, .lst ha,T.kLL,true,rfl,dQ ?_⟩;refine⟨_,rfl,a,_,rfl, .inl (SqL.of ha),_,rfl,rfl,_,rfl,?_⟩;rw[F3,F3,Gy];refine pA rfl ?_;refine⟨_,rfl,a,rfl,⟨_,SqL.of ha⟩,?_⟩;refine bz (K:=K) (a:=a) (xs:=((List.range n).map λt=>(c t).getD i 0).map V.int) (λj σ H3=>H3=H2/\∃v4,σ=[some (.ref l),some (.int (n:Int)),some (.ref b),some (.ref a),v4,none,none]) ⟨rfl,v4,rfl⟩ (λj σ H3 _ h=>by rw[h.1];exact SqL.of ha) ?_ ?_
  .rintro j x σ H3 hj ⟨rfl,v4,rfl⟩;obtain⟨z,rfl,hz⟩:=aY hj;obtain⟨t,ht,ez⟩:=Gz.mp (Ge hz);have tn:=Gk.mp ht;have ci:i<(c t).length:=by rw[lenC t tn];exact iR
   have:=numC t tn z (by rw[<-ez];simp[ci]);dsimp only[aS];refine⟨_,rfl,z,rfl,_,rfl,dQ ?_⟩;refine⟨_,rfl,_,_,rfl,rfl,_,rfl,?_⟩;rw[F8 (by simp;lia)];refine⟨_,rfl,_,_,rfl,rfl,_,rfl,?_⟩;rw[F8 (by simp;lia)];exact⟨rfl,_,rfl⟩
  .rintro σ H3 ⟨rfl,v4,rfl⟩;exact⟨rfl,_,_,rfl⟩
 .rintro σ H2 ⟨rfl,v3,v4,rfl⟩;have ppos:=two_pow_pos n;refine⟨_,rfl,_,_,rfl,rfl,⟨by lia,by lia,by decide⟩,_,rfl,?_⟩;rw[bL];refine⟨by lia,by lia,?_⟩;rw[F6];refine bK (n:=2^n) (λi σ H3=>Same H2 H3/\∃v3 v4 v5 v6:Option V,σ=[some (.ref l),some (.int (n:Int)),some (.ref b),v3,v4,v5,v6]) ⟨Same.refl _,v3,v4,none,none,rfl⟩ ?_ ?_
  .rintro S σ H3 hS ⟨sm3,v3,v4,v5,v6,rfl⟩;dsimp only[aS];rw[Io];have hl3:=sm3.at hl;have hR3:=hR.same sm3;refine⟨_,rfl,(S:Int),rfl,by lia,by lia,_,rfl,l,_,rfl, .inl (SqL.of hl3),rfl,_,rfl,?_⟩;rw[xl,F6,aJ];refine bJ (λhz=> ?_) λhz=>⟨sm3,v3,v4,_,v6,rfl⟩;have zS:sz S=R:=Gx hz;refine⟨Hy _,λq hq=> ?_⟩;have smq:Same H3 (upd H3 q (.lst [])):=Same.new hq;have hq0:upd H3 q (.lst []) q=some (.lst []):=aj;have hq0':aK (hide (upd H3 q (.lst [])) q) [] ((dX c R S).take 0):=⟨rfl,λi r hr=>by simp at hr⟩;generalize upd H3 q (.lst [])=H4 at*;refine⟨_,rfl,l,rfl,⟨_,SqL.of (smq.at hl3)⟩,?_⟩;have pl:(dX c R S).length=R:=by unfold dX;rw[F3,Gy]
   refine bz (K:=K) (a:=l) (xs:=xs) (λi σ H5=>∃ (ys:List V) (v3:Option V),Same H3 H5/\H5 q=some (.lst ys)/\aK (hide H5 q) ys ((dX c R S).take i)/\σ=[some (.ref l),some (.int (n:Int)),some (.ref b),v3,v4,some (.int (S:Int)),some (.ref q)]) ⟨[],v3,smq,hq0,hq0',rfl⟩ (λi σ H5 _ h=>by obtain⟨_,_,sm,_⟩:=h;exact SqL.of (sm.at hl3)) ?_ ?_
   .rintro i x σ H5 hi ⟨ys,v3,sm5,hq5,hY,rfl⟩;obtain⟨a,rw_,hr1,rfl,ha⟩:=(hR3.same sm5).at hi;have iR:i<R:=by rw[<-xl];exact(Ga.mp hi).1
    rw[ql iR]at hr1;cases hr1;dsimp only[aS];refine⟨_,rfl, .inl ⟨rfl,_,SqL.of hq5⟩,_,rfl,_,rfl,by lia,by lia,?_⟩;rw[F6];refine cG S.testBit (λt=> .int (((List.range n).map λt=>(c t).getD i 0).getD t 0)) (Gd n8 (by decide)) (λt vs H' Rk Sk ht hv sm hk=> ?_) λD6 H6 hD6 sm6 hl6=> ?_
    .obtain⟨v,rfl⟩:=aW hv;have q1:=hk [some (.int (0+(t:Nat)))] H' rfl (Same.refl _);refine⟨_,rfl,_,rfl,_,_,rfl,rfl,(by show(0:Int)<=0+(t:Int);lia),_,_,rfl,rfl,rfl,_,rfl,?_⟩;rw[jF];by_cases hb:S.testBit t=true
     .rw[F7 hb]at q1⊢;refine⟨_,rfl,_,rfl,a,_,_,_,rfl,rfl,SqL.of (sm.at ha),by rw[Io];exact bA (by rw[F3,Gy];exact ht),q1⟩
     .rw[F8 hb]at q1⊢;exact q1
    .have e6:dB S.testBit (λt=>V.int (((List.range n).map λt=>(c t).getD i 0).getD t 0)) n=((aD S).map λt=>(c t).getD i 0).map V.int:=by rw[<-xX (R:=R) n8 hS];unfold dB;rw[Hc];rfl
     rw[e6]at hl6;have yl:ys.length=i:=by rw[hY.1,GJ,pl];lia
     have nD:D6≠q:=λz=>by rw[z,hq5]at hD6;cases hD6
     refine⟨q,_,_,rfl,rfl,sm6.at hq5,by rw[yl];exact F9 (F9 iR R8) (by decide),?_⟩;refine⟨ys++[.ref D6],_,(sm5.trans sm6).upd hq,aj,?_,rfl⟩;have gi:(dX c R S)[i]?=some ((aD S).map λt=>(c t).getD i 0):=by unfold dX;rw[Gs,Iy iR];rfl
     rw[iw,Hz,gi];refine kQ (hY.same (gu sm6)) ⟨rfl,λj r hr=> ?_⟩;cases j with
     |zero=>cases hr;exact⟨D6,rfl,by rw[c8 nD];exact hl6⟩
     |succ j=>simp at hr
   .rintro σ H5 ⟨ys,v3,sm5,hq5,hY,rfl⟩;rw[xl,Jf (Nat.le_of_eq pl)]at hY;have hY':=hY.same dF;have gd:=st.good S (jB hS) zS;have lS:(aD S).length=R:=(cq S).trans zS;have sq:=(ft c6 (L:=bZ (iE c) (List.range R)) (cs:=aD S) (R:=R) (by unfold bZ;rw[F3,Gy]) lS);rw[<-AF zS]at sq;have iff:¬(2:Int)∣aE ((dX c R S).map bH) (List.range R)↔r S=R:=sq.symm.trans gd;refine⟨_,rfl,q,ys,dX c R S,R,rfl,SqL.of hq5,hY',pl,R8,λrr hrr=> ?_,λH6 sm6=> ?_⟩
    .unfold dX at hrr;obtain⟨i,hi,rfl⟩:=Gz.mp hrr;have iR:=Gk.mp hi;refine⟨by rw[F3,lS],λz hz=> ?_⟩;obtain⟨t,ht,rfl⟩:=Gz.mp hz;have tn:=bU hS (ba.mp ht).2;have ci:i<(c t).length:=by rw[lenC t tn];exact iR
     have:=numC t tn ((c t).getD i 0) (by simp[ci]);exact F9 (show((c t).getD i 0).natAbs<2^7 by lia) (Gv (by decide) (by decide))
    generalize aE ((dX c R S).map bH) (List.range R)=dt at*;have hb6:=(sm3.trans (sm5.trans sm6)).seq hb;refine⟨_,_,rfl,rfl,(by decide),rfl,_,rfl,_,rfl,b,_,_,_,rfl,rfl,hb6,jz r hS,_,rfl,l,_,rfl, .inl (SqL.of (sm6.at (sm5.at hl3))),rfl,rfl,_,rfl,?_⟩;rw[xl,aJ];have e1:(!decide (V.int (dt % 2)=V.int 0))=decide (r S=R):=by
     by_cases h1:r S=R
     .have h2:=iff.mpr h1;have h3:¬dt % 2=0:=λz=>h2 (Int.dvd_of_emod_eq_zero z);rw[F5 h1,F4 (λz=>h3 (V.int.inj z))];rfl
     .have h2:dt % 2=0:=by have h3:(2:Int)∣dt:=Hq λz=>h1 (iff.mp z);exact Int.emod_eq_zero_of_dvd h3
      rw[F4 h1,h2];rfl
    rw[e1];refine pA rfl ?_;exact⟨sm3.trans (sm5.trans sm6),_,_,_,_,rfl⟩
  .rintro σ H3 ⟨sm3,v3,v4,v5,v6,rfl⟩;exact k H3 sm3
inductive uf(K:PySem.W.Frag)(vs:List V)(H:Hp)(Q:VK):Prop
 |mk (t b:Addr) (n R:Nat) (r:Nat->Nat) (y_0:vs=[.ref t, .int (n:Int), .ref b]) (y_1:SqL K H b ((dJ n r).map V.int)) (y_2:Mat n r) (y_3:r (2^n-1)=R) (y_4:((∃l xs c,H t=some (.tup [.str "table", .ref l])/\H l=some (.lst xs)/\aK H xs (gS c n R)/\rz 2 n R r c)\/(∃s w,H t=some (.tup [.str "barred", .int (aC (aC (2^n-1) s) w:Nat), .int (w:Int), .str aI])/\s<2^n/\Sub w (aC (2^n-1) s)/\eu (sz s) (eo r s w)= .str aI))) (y_5:∀H',Same H H'->Q (.bl true) H'):uf K vs H Q
def vR(K:PySem.W.Frag):Sp:=λvs H Q _=>uf K vs H Q
theorem sc__law_right:aB ["_law_found","_law_many","_law_levels","_law_out","_law_drawn","_law_kind_here"] ["_law_found","_law_many","_law_levels"] (ak s__law_right):=sc_of
theorem oK(T:Tb K mg)(D:aU K mg "_law_right" s__law_right ["_law_found","_law_many","_law_levels"])(ag:Cal P w K mg base 1 "_law_whole" ["_law_found"] qp)(ax:Cal P w K mg base 3 "_law_kind" ["_law_levels"] (vY K))(ar:Cal P w K mg base 1 "_law_minor" ["_law_many","_law_levels","_law_out","_law_drawn"] (Af K))(ai:Cal P w K mg base 3 "_law_table_right" ["_law_rows","_law_many","_law_levels"] (Ac K)):
  Cal P w K mg base 4 "_law_right" ["_law_found","_law_many","_law_levels"] (vR K):=by
 refine D.cal sc__law_right (λvs H Q E h=>by obtain⟨t,b,n,R,r,rfl,_⟩:=h;rfl) λf cdv A outer σs H vs Q E hr h=> ?_;obtain⟨t,b,n,R,r,rfl,hb,M,rR,h1,k⟩:=h;refine⟨_,(ab (aX (PW.pt (fQ (jf (cH (cj (c9 (K:=K) (by rfl)) (by rfl) T.isinstance_ IQ (aa (pv 0) (aa (iS (v:= .ty "tuple") (by rfl) T.tuple_ JD rfl) af))))) (gF (wpt kU (wlen K T.len_ (pv 0)) ae))))
     (ah (aw eh))
     aF)
   (ab (aX (wpt aO (fh K (pv 0) ae) fv)
     (ah (aw (qH (wpe aO (wlen K T.len_ (pv 0)) ae) (uO (wcal ai hr (aa (fh K (pv 0) ae) (aa (pv 1) (aa (pv 2) af))))))))
     aF)
   (ab (aX (PW.pt (fQ (wpt eX (fh K (pv 0) ae) fv) (fQ (wpt eX (wlen K T.len_ (pv 0)) ae) (fQ (jf (cH (wcal ag hr (aa (fh K (pv 0) ae) af)))) (gF (jf (cH (wcal ag hr (aa (fh K (pv 0) ae) af)))))))))
     (ah (aw eh))
     aF)
   (ab (wset 3 sc__law_right.nd (fh K (pv 0) ae))
   (ab (wset 4 sc__law_right.nd (fh K (pv 0) ae))
   (ab (aX (PW.pt (fQ (wpt kU (pv 3) ae) (fQ (wpt kU (pv 4) ae) (fQ (wpt Fo (aq jS (pv 3) (pv 4)) (aq bY ae (pv 1))) (gF (wpt eX (aq dy (pv 3) (pv 4)) ae))))))
     (ah (aw eh))
     aF)
   (ab (wset 5 sc__law_right.nd (wcal ax hr (aa (wcal ar hr (aa (pv 1) (aa (pv 2) (aa (pv 3) (aa (pv 4) af))))) af)))
   (ah (aw (qH (cj (c9 (K:=K) (by rfl)) (by rfl) T.isinstance_ IQ (aa (fh K (pv 0) ae) (aa (iS (v:= .ty "str") (by rfl) T.str_ PyProof.Rows.boot_str rfl) af))) (qH (wpe aO (fh K (pv 0) ae) (pv 5)) (uO (wC (uR (K:=K) (by rfl)) (pv 5) (ie (aa fv af)) (by rfl)))))))))))))),?_⟩
 rcases h1 with ⟨l,xs,c,ht,hl,hR,ho⟩|⟨s,dw,ht,hs,hw,hkd⟩
 .refine⟨_,rfl,_,_,_,true,rfl, .tup ht,T.kTT,true,rfl,dQ ?_⟩;refine⟨_,rfl,t,_,rfl, .inr (SqT.of ht),_,_,rfl,rfl,_,rfl,dQ ?_⟩;refine⟨_,rfl,t,_,_,_,rfl,rfl,SqT.of ht,rfl,rfl,_,rfl,kD ?_⟩;refine⟨_,rfl,t,_,rfl, .inr (SqT.of ht),rfl,?_⟩;refine⟨_,rfl,kD ?_⟩;exact⟨_,rfl,t,_,_,_,rfl,rfl,SqT.of ht,rfl,_,rfl,_,rfl,l,b,xs,n,R,r,c,rfl,hl,hR,hb,M,rR,ho,k⟩
 .have n8:=M.n8;have p8:=jM n8;have ll:aC (2^n-1) s<2^n:=iU;have wl:dw<2^n:=hw.lt ll;have ol:aC (aC (2^n-1) s) dw<2^n:=Gq (iV _ _) ll;have dj:aC (aC (2^n-1) s) dw&&&dw=0:=Gi λj=>by rw[Hw,br,HS];cases dw.testBit j<;>simp
  have ke:=wG hs hw;have orl:aC (aC (2^n-1) s) dw|||dw<2^n:=Iw ol wl;generalize aC (aC (2^n-1) s) dw=o at*;refine⟨_,rfl,_,_,_,true,rfl, .tup ht,T.kTT,true,rfl,dQ ?_⟩;refine⟨_,rfl,t,_,rfl, .inr (SqT.of ht),_,_,rfl,rfl,_,rfl,dQ ?_⟩;refine⟨_,rfl,t,_,_,_,rfl,rfl,SqT.of ht,rfl,rfl,_,rfl,bJ (λhc=> ?_) λ_=> ?_⟩
  .exact absurd (Gx hc) (by intro z;exact absurd (V.str.inj z) (by decide+kernel))
  refine⟨_,rfl,t,_,_,_,rfl,rfl,SqT.of ht,rfl,rfl,_,rfl,pA rfl ?_⟩;refine⟨_,rfl,t,_,rfl, .inr (SqT.of ht),rfl,_,rfl,pA rfl ?_⟩;refine⟨_,rfl,t,_,_,_,rfl,rfl,SqT.of ht,rfl,_,rfl,_,rfl,dQ ?_⟩;refine⟨_,rfl,t,_,_,_,rfl,rfl,SqT.of ht,rfl,_,rfl,_,rfl,dQ ?_⟩;refine⟨_,rfl,t,_,_,_,rfl,rfl,SqT.of ht,rfl,?_⟩;refine⟨_,rfl,t,_,_,_,rfl,rfl,SqT.of ht,rfl,?_⟩;refine⟨_,rfl,_,_,rfl,rfl,_,rfl,?_⟩;rw[F8 (by simp)];refine⟨_,rfl,_,_,rfl,rfl,_,rfl,?_⟩;rw[F8 (by simp)];refine⟨_,rfl,_,rfl,_,_,rfl,rfl,_,rfl,_,_,rfl,rfl,⟨by lia,by lia,by decide⟩,_,_,rfl,rfl,_,rfl,?_⟩;refine bJ (λhc=> ?_) λ_=> ?_
  .have:=Gx hc;rw[jG,dH]at this;lia
  refine⟨_,rfl,_,rfl,_,_,rfl,rfl,rfl,_,rfl,?_⟩;rw[fH,dj];refine pA rfl ?_;refine⟨_,rfl,_,rfl,_,rfl,_,rfl,b,n,o,dw,r,rfl,hb,M,ol,wl,λp H1 sm1 hp hl1=> ?_⟩;rw[ke]at hl1;have kd:tG (sz s) (eo r s dw)= .str aI:=(C7 (An (M.minor hs wl))).symm.trans hkd;refine⟨p,sz s,eo r s dw,rfl,SqL.of hl1,aN _,λH2 sm2=> ?_⟩;rw[kd];have ht2:=sm2.at (sm1.at ht);refine⟨_,rfl,t,_,_,_,rfl,rfl,SqT.of ht2,rfl,_,_,_,true,rfl, .str _,T.kSS,_,rfl,kD ?_⟩;refine⟨_,rfl,t,_,_,_,rfl,rfl,SqT.of ht2,rfl,_,rfl,rfl,_,rfl,bJ (λ_=> ?_) λhn=>absurd (F5 rfl) hn⟩;refine⟨_,rfl,Gd (Gf 1) (by decide),λu hu=> ?_⟩;refine⟨u,_,rfl, .inr (SqT.of aj),rfl,rfl,?_⟩;have e:inV (V.str aI) [V.str "two of four"]=true:=by
   have e0:(("two of four":Str))=aI:=by decide+kernel
   rw[e0];simp[inV,eqV]
  show Q (.bl (inV (V.str aI) [V.str "two of four"])) _;rw[e];exact k _ (sm1.trans (sm2.trans (Same.new hu)))
structure cc(n:Nat)(r:Nat->Nat)(ms:List Int):Prop where
 mat:Mat n r
 mem:∀z,z∈ms↔∃b:Nat,b<2^n/\z=(b:Int)/\sz b=r (2^n-1)/\r b=r (2^n-1)
 few:ms.length<=2^n
def i3(kd:Int)(n p:Nat)(r:Nat->Nat)(s:Nat):Nat:=if kd=1 then r (bE p s)+(if s.testBit p=true then 1 else 0)else if kd=2/\p<n then r (fb p s)else r (bE p s)
def fY(kd:Int)(n p s:Nat):List Int:=(if kd=1 then [((bh p s+2^p:Nat):Int)]else [((bh p s:Nat):Int)])++if kd=2/\p<n/\s.testBit p=true then [((bh p s-2^p:Nat):Int)]else []
theorem sI(kd:Int)(n p s:Nat):(fY kd n p s).length<=2:=by unfold fY;rw[Gr];split<;>split<;>simp
theorem kj(hp:p<=n):bE p (2^(n+1) -1)=2^n-1:=Gi λj=>by
 rw[cS,GD,GD,GD];by_cases h:j<p
 .rw[F7 h,F5 (by lia),F5 (by lia)]
 .rw[F8 h];exact Iu.mpr (by lia)
theorem BW(hp:p<n):fb p (2^(n+1) -1)=2^n-1:=by unfold fb;rw[kj (by lia),GD,F5 (by lia),F7 rfl];exact dn (by rw[GD];exact F5 hp)
theorem Dj(M:Mat n r)(hp:p<=n)(n8:n<8)(kd:Int):Mat (n+1) (i3 kd n p r):=by
 by_cases h1:kd=1
 .have e:i3 kd n p r=λs=>r (bE p s)+if s.testBit p=true then 1 else 0:=funext λs=>by unfold i3;rw[F7 h1]
  rw[e];exact M.inAll hp n8
 .by_cases h2:kd=2/\p<n
  .have e:i3 kd n p r=λs=>r (fb p s):=funext λs=>by unfold i3;rw[F8 h1,F7 h2]
   rw[e];exact M.beside h2.2 n8
  .have e:i3 kd n p r=λs=>r (bE p s):=funext λs=>by unfold i3;rw[F8 h1,F8 h2]
   rw[e];exact M.loop hp n8
theorem yS{ms:List Int}(h:cc n r ms)(hp:p<=n)(n8:n<8)(kd:Int):cc (n+1) (i3 kd n p r) (ms.flatMap λz=>fY kd n p z.toNat):=by
 have M:=h.mat;have top:∀s,s<2^n->r s<=r (2^n-1):=λs hs=>M.mono (jB hs) (cQ n);refine⟨Dj M hp n8 kd,λz=> ?_,?_⟩
 .have key:∀ (R':Nat) (g:Nat->Nat) (Pt:Nat->Nat->Prop),R'=g (2^(n+1) -1)->(∀t,t<2^(n+1)->((sz t=R'/\g t=R')↔∃s,s<2^n/\sz s=r (2^n-1)/\r s=r (2^n-1)/\Pt s t))->(∀s t,s<2^n->Pt s t->t<2^(n+1))->
    (∀s,s<2^n->∀z,z∈fY kd n p s↔∃t:Nat,Pt s t/\z=(t:Int))->(z∈ms.flatMap (λz=>fY kd n p z.toNat)↔∃b:Nat,b<2^(n+1)/\z=(b:Int)/\sz b=g (2^(n+1) -1)/\g b=g (2^(n+1) -1)):=λR' g Pt eR h1 h2 h3=>by
   subst eR;rw[List.mem_flatMap];constructor
   .rintro⟨y,hy,hz⟩;obtain⟨b,b1,rfl,b2,b3⟩:=(h.mem y).mp hy;rw[F6]at hz;obtain⟨t,t1,t2⟩:=(h3 b b1 z).mp hz;have tl:=h2 b t b1 t1;obtain⟨q1,q2⟩:=(h1 t tl).mpr ⟨b,b1,b2,b3,t1⟩;exact⟨t,tl,t2,q1,q2⟩
   .rintro⟨t,tl,rfl,q1,q2⟩;obtain⟨s,s1,s2,s3,s4⟩:=(h1 t tl).mp ⟨q1,q2⟩;exact⟨(s:Int),(h.mem _).mpr ⟨s,s1,rfl,s2,s3⟩,by rw[F6];exact(h3 s s1 _).mpr ⟨t,s4,rfl⟩⟩
  by_cases h1:kd=1
  .have e:i3 kd n p r=λs=>r (bE p s)+if s.testBit p=true then 1 else 0:=funext λs=>by unfold i3;rw[F7 h1]
   rw[e];refine key (r (2^n-1)+1) _ (λs t=>t=bh p s+2^p) ?_ (λt ht=>M.inAll_bases top hp n8 ht) (λs t hs e=> ?_) λs hs z=> ?_
   .rw[kj hp,GD,F5 (by lia),F7 rfl]
   .rw[e,rJ s (nF n8 hs) p (by lia)];exact aQ (qj hs hp) (by lia)
   .unfold fY;rw[F7 h1,F8 (λz=>by have:=z.1;lia),Ic,Gw];exact⟨λe=>⟨_,rfl,e⟩,λ⟨t,e1,e2⟩=>by rw[e2,e1]⟩
  .by_cases h2:kd=2/\p<n
   .have e:i3 kd n p r=λs=>r (fb p s):=funext λs=>by unfold i3;rw[F8 h1,F7 h2]
    rw[e];refine key (r (2^n-1)) _ (λs t=>t=bh p s\/s.testBit p=true/\t=bh p s-2^p) ?_ (λt ht=>M.beside_bases h2.2 n8 ht) (λs t hs e=> ?_) λs hs z=> ?_
    .rw[BW h2.2]
    .have:=qj hs hp;rcases e with e|⟨_,e⟩
     .rw[e];exact this
     .rw[e];exact Gq (Nat.sub_le _ _) this
    .unfold fY;rw[F8 h1,Gu,Gw];by_cases hb:s.testBit p=true
     .rw[F7 ⟨h2.1,h2.2,hb⟩,Gw];constructor
      .rintro(e|e)
       .exact⟨_, .inl rfl,e⟩
       .exact⟨_, .inr ⟨hb,rfl⟩,e⟩
      .rintro⟨t,e1|⟨_,e1⟩,e2⟩
       .exact .inl (by rw[e2,e1])
       .exact .inr (by rw[e2,e1])
     .rw[F8 (λz=>hb z.2.2)];constructor
      .rintro(e|e)
       .exact⟨_, .inl rfl,e⟩
       .cases e
      .rintro⟨t,e1|⟨e0,_⟩,e2⟩
       .exact .inl (by rw[e2,e1])
       .exact absurd e0 hb
   .have e:i3 kd n p r=λs=>r (bE p s):=funext λs=>by unfold i3;rw[F8 h1,F8 h2]
    rw[e];refine key (r (2^n-1)) _ (λs t=>t=bh p s) ?_ (λt ht=>M.loop_bases hp n8 ht) (λs t hs e=>by rw[e];exact qj hs hp) λs hs z=> ?_
    .rw[kj hp]
    .unfold fY;rw[F8 h1,F8 (λz=>h2 ⟨z.1,z.2.1⟩),Ic,Gw];exact⟨λe=>⟨_,rfl,e⟩,λ⟨t,e1,e2⟩=>by rw[e2,e1]⟩
 .have:=iy (f:=λz:Int=>fY kd n p z.toNat) (k:=2) (λz=>sI _ _ _ _) ms;have:=h.few;rw[JN];lia
inductive B6(K:PySem.W.Frag)(vs:List V)(H:Hp)(Q:VK):Prop
 |mk (a:Addr) (ms:List Int) (n p:Nat) (kd:Int) (r:Nat->Nat) (y_0:vs=[.ref a, .int (n:Int), .int (p:Int), .int kd]) (y_1:SqL K H a (ms.map V.int)) (y_2:cc n r ms) (y_3:n<8) (y_4:p<=n) (y_5:∀q H',Same H H'->H q=none->H' q=some (.lst ((ms.flatMap λz=>fY kd n p z.toNat).map V.int))->Q (.ref q) H'):B6 K vs H Q
def DB(K:PySem.W.Frag):Sp:=λvs H Q _=>B6 K vs H Q
theorem zF{p s:Nat}:((s:Int) /2^((p:Nat):Int).toNat*2^(((p:Nat):Int)+1).toNat+(s:Int) % (1*2^((p:Nat):Int).toNat):Int)=((bh p s:Nat):Int):=by
 have e1:(((p:Nat):Int)+1).toNat=p+1:=by lia
 rw[bL,e1,F6];unfold bh;have e2:((s:Int) /2^p)=((s/2^p:Nat):Int):=by simp
 have e3:((2:Int)^(p+1))=((2^(p+1):Nat):Int):=by simp
 rw[e2,e3,Int.natCast_add,Int.natCast_mul,Int.natCast_emod,IX]
theorem sc__law_put:aB ["_law_told","_law_many","_law_at","_law_kind_here","_law_found","_law_s","_law_wide"] ["_law_told","_law_many","_law_at","_law_kind_here"] (ak s__law_put):=sc_of
theorem sS(D:aU K mg "_law_put" s__law_put ["_law_told","_law_many","_law_at","_law_kind_here"]):Cal P w K mg base 1 "_law_put" ["_law_told","_law_many","_law_at","_law_kind_here"] (DB K):=by
 refine D.cal sc__law_put (λvs H Q E h=>by obtain⟨a,ms,n,p,kd,r,rfl,_⟩:=h;rfl) λf cdv A outer σs H vs Q E hr h=> ?_;obtain⟨a,ms,n,p,kd,r,rfl,ha,hB,n8,hp,k⟩:=h;refine⟨_,(ab (wset 4 sc__law_put.nd (cI af))
   (ab (wfor (wil K (pv 0)) (wname 5 sc__law_put.nd)
     (ab (wset 6 sc__law_put.nd (aq dg (aq bY (aq fC (pv 5) (pv 2)) (aq dg (pv 2) ae)) (aq bD (pv 5) (aq bY ae (pv 2)))))
     (ab (aX (wpt aO (pv 3) ae)
       (ah (bR (dW (K:=K) (by rfl) HU HV HW bI (pv 4) (aa (aq dg (pv 6) (aq bY ae (pv 2))) af))))
       (ah (bR (dW (K:=K) (by rfl) HU HV HW bI (pv 4) (aa (pv 6) af)))))
     (ah (aX (PW.pt (cV (wpt aO (pv 3) ae) (cV (wpt kU (pv 2) (pv 1)) (d0 (wpt aO (aq dy (aq fC (pv 5) (pv 2)) ae) ae)))))
       (ah (bR (dW (K:=K) (by rfl) HU HV HW bI (pv 4) (aa (aq dO (pv 6) (aq bY ae (pv 2))) af))))
       aF)))))
   (ah (aw (pv 4))))),?_⟩
 refine⟨Hy _,λq hq=> ?_⟩;have smq:Same H (upd H q (.lst [])):=Same.new hq;have hq0:upd H q (.lst []) q=some (.lst (((ms.take 0).flatMap λz=>fY kd n p z.toNat).map V.int)):=aj;generalize upd H q (.lst [])=H0 at*;have few:∀i,((ms.take i).flatMap λz=>fY kd n p z.toNat).length<=512:=λi=>by have h1:=iy (f:=λz:Int=>fY kd n p z.toNat) (k:=2) (λz=>sI _ _ _ _) (ms.take i);have h2:=hB.few;have h3:=jM (show n<=8 by lia);rw[GJ]at h1;lia
 refine⟨_,rfl,a,rfl,⟨_,smq.seq ha⟩,?_⟩;refine bz (K:=K) (a:=a) (xs:=ms.map V.int) (λi σ H2=>∃v5 v6,Same H H2/\H2 q=some (.lst (((ms.take i).flatMap λz=>fY kd n p z.toNat).map V.int))/\σ=[some (.ref a),some (.int (n:Int)),some (.int (p:Int)),some (.int kd),some (.ref q),v5,v6]) ⟨none,none,smq,hq0,rfl⟩ (λi σ H2 _ h=>by obtain⟨_,_,sm,_⟩:=h;exact sm.seq ha) ?_ ?_
 .rintro i x σ H2 hi ⟨v5,v6,sm2,hq2,rfl⟩;obtain⟨z,rfl,hz⟩:=aY hi;obtain⟨s,s1,rfl,s2,s3⟩:=(hB.mem z).mp (Ge hz);dsimp only[aS];refine⟨_,rfl,_,rfl,_,_,rfl,rfl,(by show(0:Int)<=(p:Int);lia),?_⟩;have s8:s<256:=s_lt (show n<=8 by lia) s1;have e0:((s:Int) /2^((p:Nat):Int).toNat)=((s/2^p:Nat):Int):=by rw[F6];simp
  have e1:s/2^p<=s:=Nat.div_le_self _ _;have cp:FH ((s:Int) /2^((p:Nat):Int).toNat) ((p:Int)+1):=⟨by lia,by lia,by rw[e0,Int.natAbs_natCast];exact Gq e1 (J5 s8 (by decide))⟩;have pp:(0:Int)<1*2^((p:Nat):Int).toNat:=by rw[bL];exact Int.natCast_pos.mpr (two_pow_pos p)
  refine⟨_,rfl,_,_,rfl,rfl,_,_,rfl,rfl,cp,_,rfl,_,rfl,_,_,rfl,rfl,⟨by lia,by lia,by decide⟩,_,_,rfl,rfl,pp,_,_,rfl,rfl,?_⟩;rw[zF];have w1:=lU s (nF n8 s1) p (by lia);have tk:(ms.take (i+1)).flatMap (λz=>fY kd n p z.toNat)=((ms.take i).flatMap λz=>fY kd n p z.toNat)++fY kd n p s:=by rw[Hz,hz,List.flatMap_append];simp
  have fw:=few i;generalize hL:(ms.take i).flatMap (λz=>fY kd n p z.toNat)=L at*;unfold zU;dsimp only;refine eg (λσ' H'=>Same H H'/\H' q=some (.lst ((L++if kd=1 then [((bh p s+2^p:Nat):Int)]else [((bh p s:Nat):Int)]).map V.int))/\σ'=[some (.ref a),some (.int (n:Int)),some (.int (p:Int)),some (.int kd),some (.ref q),some (.int (s:Int)),some (.int ((bh p s:Nat):Int))]) ?_ ?_
  .rintro σ' H3 ⟨sm3,hq3,rfl⟩;have l3:(L++if kd=1 then [((bh p s+2^p:Nat):Int)]else [((bh p s:Nat):Int)]).length<=513:=by rw[Gr];split<;>simp<;>lia
   have no:∀ {A:Prop},¬(kd=2/\p<n/\s.testBit p=true)->(∃v5 v6,Same H H3/\H3 q=some (.lst (((ms.take (i+1)).flatMap λz=>fY kd n p z.toNat).map V.int))/\[some (V.ref a),some (.int (n:Int)),some (.int (p:Int)),some (.int kd),some (.ref q),some (.int (s:Int)),some (.int ((bh p s:Nat):Int))]=[some (.ref a),some (.int (n:Int)),some (.int (p:Int)),some (.int kd),some (.ref q),v5,v6]):=λ{A} hn=>by refine⟨_,_,sm3,?_,rfl⟩;rw[hq3,tk];unfold fY;rw[F8 hn,Ic]
   refine⟨_,rfl,rfl,_,rfl,bJ (λh2=> ?_) λh2=>no (A:=True) λz=>h2 (F5 (by rw[z.1]))⟩;refine⟨_,rfl,_,rfl,_,_,rfl,rfl,_,rfl,bJ (λh3=> ?_) λh3=>no (A:=True) λz=>h3 (F5 (by have:=z.2.1;lia))⟩;refine⟨_,rfl,_,rfl,_,_,rfl,rfl,(by show(0:Int)<=(p:Int);lia),_,_,rfl,rfl,rfl,_,rfl,?_⟩;rw[sx];refine bJ (λh4=> ?_) λh4=>no (A:=True) λz=>h4 z.2.2;have c2:kd=2:=V.int.inj (Gx h2);have c3:p<n:=by have:=Gx h3;lia
   have wb:2^p<=bh p s:=by
    have h5:s/2^p % 2=1:=by rw[dA]at h4;exact Gx h4
    have h6:1<=s/2^p:=Nat.one_le_iff_ne_zero.mpr λz=>by rw[z]at h5;cases h5
    have h7:=Nat.mul_le_mul_left (2^(p+1)) h6;unfold bh;rw[JN]at h7⊢;lia
   refine⟨_,rfl, .inl ⟨rfl,_,SqL.of hq3⟩,_,rfl,_,rfl,_,_,rfl,rfl,⟨by lia,by lia,by decide⟩,_,_,rfl,rfl,q,_,_,rfl,rfl,hq3,by rw[F3];exact Gq l3 (by decide),?_⟩;refine⟨_,_,sm3.upd hq,?_,rfl⟩;rw[aj,tk,bL];unfold fY;have c1:¬kd=1:=by lia
   rw[F8 c1,F7 (show kd=2/\p<n/\s.testBit p=true from⟨c2,c3,h4⟩),GO,GO,GO,Int.natCast_sub wb,IB];rfl
  .intro hrest;refine⟨_,rfl,rfl,_,rfl,bJ (λhc=> ?_) λhc=> ?_⟩
   .have h1:kd=1:=V.int.inj (Gx hc);refine⟨_,rfl, .inl ⟨rfl,_,SqL.of hq2⟩,_,rfl,_,rfl,_,_,rfl,rfl,⟨by lia,by lia,by decide⟩,_,_,rfl,rfl,q,_,_,rfl,rfl,hq2,by rw[F3];exact Gq fw (by decide),?_⟩;refine hrest _ _ ⟨sm2.upd hq,?_,rfl⟩;rw[aj,F7 h1,GO,bL];rfl
   .have h1:¬kd=1:=λz=>hc (F5 (by rw[z]));refine⟨_,rfl, .inl ⟨rfl,_,SqL.of hq2⟩,_,rfl,q,_,_,rfl,rfl,hq2,by rw[F3];exact Gq fw (by decide),?_⟩;refine hrest _ _ ⟨sm2.upd hq,?_,rfl⟩;rw[aj,F8 h1,GO];rfl
 .rintro σ H2 ⟨v5,v6,sm2,hq2,rfl⟩;rw[F3,HN]at hq2;exact⟨_,rfl,k q H2 sm2 hq hq2⟩
inductive Cb(n:Nat)(r:Nat->Nat):Nat->(Nat->Nat)->Prop where
 |base:Cb n r n r
 |step {m:Nat} {q:Nat->Nat} (kd:Int) (p:Nat):Cb n r m q->m<8->p<=m->Cb n r (m+1) (i3 kd m p q)
inductive xf(K:PySem.W.Frag)(vs:List V)(H:Hp)(Q:VK):Prop
 |mk (c a:Addr) (cs ms:List Int) (n:Nat) (r:Nat->Nat) (y_0:vs=[.ref c, .int (n:Int), .ref a]) (y_1:SqL K H c (cs.map V.int)) (y_2:0<cs.length) (y_3:H a=some (.lst (ms.map V.int))) (y_4:cc n r ms) (y_5:∀ (t a':Addr) (n':Nat) (r':Nat->Nat) (ms':List Int) H',Same H H'->H' t=some (.tup [.int (n':Int), .ref a'])->H' a'=some (.lst (ms'.map V.int))->cc n' r' ms'->Cb n r n' r'->Q (.ref t) H'):xf K vs H Q
def Ah(K:PySem.W.Frag):Sp:=λvs H Q _=>xf K vs H Q
theorem sc__law_idle:aB ["_law_cells","_law_many","_law_told","_law_turn","_law_k"] ["_law_cells","_law_many","_law_told"] (ak s__law_idle):=sc_of
theorem qR(T:Tb K mg)(D:aU K mg "_law_idle" s__law_idle ["_law_cells","_law_many","_law_told"])(ag:Cal P w K mg base 1 "_law_put" ["_law_told","_law_many","_law_at","_law_kind_here"] (DB K)):Cal P w K mg base 2 "_law_idle" ["_law_cells","_law_many","_law_told"] (Ah K):=by
 refine D.cal sc__law_idle (λvs H Q E h=>by obtain⟨c,a,cs,ms,n,r,rfl,_⟩:=h;rfl) λf cdv A outer σs H vs Q E hr h=> ?_;obtain⟨c,a,cs,ms,n,r,rfl,hc,c0,ha,hB,k⟩:=h;refine⟨_,(ab (wset 3 sc__law_idle.nd (aq bD (aq gH (bS K (pv 0) ae) ae) ae))
   (ab (wfor (wrng T.range_ (aq bD (pv 3) ae)) (wname 4 sc__law_idle.nd)
     (ah (aX (wpt kU (pv 1) ae)
       (ab (wset 2 sc__law_idle.nd (wcal ag hr (aa (pv 2) (aa (pv 1) (aa (aq bD (aq gI (pv 3) (aq dg ae (aq gH ae (pv 4)))) (aq dg (pv 1) ae)) (aa (aq bD (aq gI (pv 3) (aq dg ae (pv 4))) ae) af))))))
       (ah (wset 1 sc__law_idle.nd (aq dg (pv 1) ae))))
       aF)))
   (ah (aw (ie (aa (pv 1) (aa (pv 2) af))))))),?_⟩
 have at0:atI (cs.map V.int) 0=some (.int (cs.getD 0 0)):=bA (j:=0) c0;refine⟨_,rfl,c,_,_,_,rfl,rfl,hc,at0,_,_,rfl,rfl, .inr ⟨by decide,by decide⟩,_,_,rfl,rfl,(by decide),?_⟩;generalize ht:cs.getD 0 0*69621 % 65519=t;have t0:0<=t:=by rw[<-ht];exact IV _ (by decide)
 refine⟨_,rfl,_,_,rfl,rfl,(by decide),_,rfl,?_⟩;have m0:0<=t % 3:=IV _ (by decide);have m3:t % 3<3:=IJ _ (by decide);refine⟨by lia,by lia,?_⟩;refine bK (n:=(t % 3).toNat) (λi σ H2=>∃ (a':Addr) (n':Nat) (r':Nat->Nat) (ms':List Int) (v4:Option V),Same H H2/\H2 a'=some (.lst (ms'.map V.int))/\cc n' r' ms'/\Cb n r n' r'/\σ=[some (.ref c),some (.int (n':Int)),some (.ref a'),some (.int t),v4]) ⟨a,n,r,ms,none,Same.refl _,ha,hB, .base,rfl⟩ ?_ ?_
 .rintro i σ H2 hi ⟨a',n',r',ms',v4,sm2,ha2,hB2,ex,rfl⟩;dsimp only[aS];refine⟨_,rfl,_,_,rfl,rfl,_,rfl,bJ (λh1=> ?_) λh1=>⟨a',n',r',ms',_,sm2,ha2,hB2,ex,rfl⟩⟩;have n8:n'<8:=by have:=Gx h1;lia
  refine⟨_,rfl,_,rfl,?_⟩;refine⟨_,rfl,_,rfl,_,_,rfl,rfl, .inl ⟨by decide,by decide⟩,_,_,rfl,rfl,_,_,rfl,rfl,⟨by lia,by lia⟩,?_⟩;have p0:0<=t/(3+8*(0+(i:Int))) % ((n':Int)+1):=IV _ (by lia);have p1:t/(3+8*(0+(i:Int))) % ((n':Int)+1)<(n':Int)+1:=IJ _ (by lia);refine⟨_,rfl,_,_,rfl,rfl,_,_,rfl,rfl,(by lia),?_⟩;generalize hp:t/(3+8*(0+(i:Int))) % ((n':Int)+1)=p at*;refine⟨_,rfl,_,rfl,_,_,rfl,rfl,_,_,rfl,rfl,⟨by lia,by lia⟩,_,_,rfl,rfl,(by decide),?_⟩;generalize t/(27+(0+(i:Int))) % 3=kd;refine⟨a',ms',n',p.toNat,kd,r',by rw[JZ p0];rfl,SqL.of ha2,hB2,n8,by lia,λq H3 sm3 hq hl3=> ?_⟩;refine⟨_,rfl,_,_,rfl,rfl,q,n'+1,i3 kd n' p.toNat r',_,_,sm2.trans sm3,hl3,yS hB2 (by lia) n8 kd, .step kd p.toNat ex n8 (by lia),rfl⟩
 .rintro σ H2 ⟨a',n',r',ms',v4,sm2,ha2,hB2,ex,rfl⟩;refine⟨_,rfl,_,rfl,Gd (Gf 2) (by decide),λp hp=> ?_⟩;have np:a'≠p:=λe=>by rw[<-e,ha2]at hp;cases hp
  exact k p a' n' r' ms' _ (sm2.trans (Same.new hp)) aj (by rw[av np];exact ha2) hB2 ex
inductive w9(K:PySem.W.Frag)(cN:Addr)(vs:List V)(H:Hp)(Q:VK):Prop
 |mk (c:Addr) (cs:List Int) (n:Nat) (y_0:vs=[.ref c, .int (n:Int)]) (y_1:SqL K H c (cs.map V.int)) (y_2:0<cs.length) (y_3:cs.length<=64) (y_4:n<=8) (y_5:∀ (t q h:Addr) (p:Nat) (ts:List (Nat×Nat)) (ms:List Int) H',Same H H'->H' t=some (.tup [.ref q, .ref h])->H' q=some (.lst (ms.map V.int))->cc n (rkC (ts.map cz)) ms->FG cN H' h n (rkC (ts.map cz))->ts.length=n->jr p ts->Q (.ref t) H'):w9 K cN vs H Q
def Ae(K:PySem.W.Frag)(cN:Addr):Sp:=λvs H Q _=>w9 K cN vs H Q
theorem z7(ts:List (Nat×Nat)):(ts.map λt=>(t.2,t.1)).map cz=ts.map cz:=by rw[Hc];refine HP λt _=> ?_;show 2^t.2^^^2^t.1=2^t.1^^^2^t.2;exact Jp _ _
theorem uH(p:Nat):dB (λ_=>true) (λi=>V.int (0+(i:Nat))) p=(Bh.start p).map V.int:=by rw[dY];unfold Bh.start;rw[Iq.mpr (λ_ _=>rfl)]
theorem sY(p:Nat)(ts:List (Nat×Nat))(s i:Nat):(nA p ts s i).length=p:=iq _ _ _
def zQ(n:Nat)(r:Nat->Nat):List Nat:=(List.range (2^n)).filter λs=>decide (sz s=r (2^n-1))&&decide (r s=r (2^n-1))
theorem uF(M:Mat n r):cc n r (bq (zQ n r)):=by
 refine⟨M,λz=> ?_,?_⟩
 .unfold zQ;constructor
  .intro h;obtain⟨s,hs,rfl⟩:=ck h;have hs:=GN.mp hs;rw[GL,GF,GF]at hs;exact⟨s,Gk.mp hs.1,rfl,hs.2.1,hs.2.2⟩
  .rintro⟨b,h1,rfl,h2,h3⟩;exact Gz.mpr ⟨b,GN.mpr ⟨Gk.mpr h1,by rw[GL,GF,GF];exact⟨h2,h3⟩⟩,rfl⟩
 .rw[bg];exact Gd (Ie _ _) (by rw[Gy];exact Gf _)
theorem sc__law_net:aB ["_law_cells","_law_many","_law_points","_law_ties","_law_k","_law_mixed","_law_levels","_law_s","_law_heads","_law_at","_law_one","_law_other","_law_told"] ["_law_cells","_law_many"] (ak s__law_net):=sc_of
theorem sT(T:Tb K mg)(D:aU K mg "_law_net" s__law_net ["_law_cells","_law_many"])(ag:Cal P w K mg base 1 "_law_size" ["_law_s"] fO)(ar:qg P w K mg base 2 "Net" cN ["self","n","points","ties"] (vZ K cN)):Cal P w K mg base 4 "_law_net" ["_law_cells","_law_many"] (Ae K cN):=by
 refine D.cal sc__law_net (λvs H Q E h=>by obtain⟨c,cs,n,rfl,_⟩:=h;rfl) λf cdv A outer σs H vs Q E hr h=> ?_;obtain⟨c,cs,n,rfl,hc,c0,c64,n8,k⟩:=h;refine⟨_,(ab (wset 2 sc__law_net.nd (aq dg ae (aq bD (aq bD (aq gH (bS K (pv 0) ae) ae) ae) ae)))
   (ab (wset 3 sc__law_net.nd (cI af))
   (ab (wfor (wrng T.range_ (pv 1)) (wname 4 sc__law_net.nd)
     (ab (wset 5 sc__law_net.nd (aq bD (aq gH (aq dg (bS K (pv 0) (aq bD (pv 4) (wlen K T.len_ (pv 0)))) (pv 4)) (aq dg ae (aq gH (aq gH ae (pv 4)) (pv 4)))) ae))
     (ah (bR (dW (K:=K) (by rfl) HU HV HW bI (pv 3) (aa (ie (aa (aq bD (pv 5) (pv 2)) (aa (aq bD (aq gI (pv 5) ae) (pv 2)) af))) af))))))
   (ab (wset 6 sc__law_net.nd (cI af))
   (ab (wfor (wrng T.range_ (aq bY ae (pv 1))) (wname 7 sc__law_net.nd)
     (ab (wls 8 sc__law_net.nd ["_law_k"] [] [] (wrng T.range_ (pv 2)) (wnC 0) bw (pv 0))
     (ab (wfor (wrng T.range_ (pv 1)) (wname 9 sc__law_net.nd)
       (ah (aX (wpt aO (aq dy (aq fC (pv 7) (pv 9)) ae) ae)
         (ab (wset 10 sc__law_net.nd (bS K (pv 8) (fh K (bS K (pv 3) (pv 9)) ae)))
         (ab (wset 11 sc__law_net.nd (bS K (pv 8) (fh K (bS K (pv 3) (pv 9)) ae)))
         (ah (wls 8 sc__law_net.nd ["_law_head"] ["_law_one","_law_other"] [10,11] (wil K (pv 8)) (wnC 0) bw (jQ (wpt aO (pv 0) (pv 2)) (pv 1) (pv 0))))))
         aF)))
     (ah (bR (dW (K:=K) (by rfl) HU HV HW bI (pv 6) (aa (aq dO (pv 2) (cj oo (by rfl) T.len_ Lq (aa (cF (om (K:=K) (by rfl) (by rfl)) (by rfl) T.set_ PyProof.Rows.boot_set (aa (pv 8) af)) af))) af)))))))
   (ab (wls 12 sc__law_net.nd ["_law_s"] ["_law_levels"] [6] (wrng T.range_ (aq bY ae (pv 1))) (wnC 0) (bW (PW.pt (cV (wpt aO (wcal ag hr (aa (pv 0) af)) (bS K (pv 1) (gq dS ae))) (d0 (wpt aO (bS K (pv 1) (pv 0)) (bS K (pv 1) (gq dS ae))))))) (pv 0))
   (ah (aw (ie (aa (pv 12) (aa (ky ar hr (by decide) (by rfl) (aa (pv 1) (aa (pv 2) (aa (pv 3) af)))) af))))))))))),?_⟩
 have at0:atI (cs.map V.int) 0=some (.int (cs.getD 0 0)):=bA (j:=0) c0;refine⟨_,rfl,c,_,_,_,rfl,rfl,hc,at0,_,_,rfl,rfl, .inr ⟨by decide,by decide⟩,_,_,rfl,rfl,(by decide),_,_,rfl,rfl,(by decide),_,_,rfl,rfl,?_⟩;obtain⟨p,hp,p0,p6⟩:∃p:Nat,(1+cs.getD 0 0*16807 % 65521 % 6:Int)=(p:Int)/\0<p/\p<=6:=by have h1:=IV (cs.getD 0 0*16807 % 65521) (show(6:Int)≠0 by decide);have h2:=IJ (cs.getD 0 0*16807 % 65521) (show(0:Int)<6 by decide);exact⟨(1+cs.getD 0 0*16807 % 65521 % 6).toNat,by lia,by lia,by lia⟩
 rw[hp];refine⟨Hy _,λq hq=> ?_⟩;have smq:Same H (upd H q (.lst [])):=Same.new hq;have hq0:upd H q (.lst []) q=some (.lst []):=aj;generalize upd H q (.lst [])=H0 at*;refine⟨_,rfl,(n:Int),rfl,by lia,by lia,?_⟩;rw[F6];refine bK (n:=n) (λi σ H2=>∃ (ys:List V) (ts:List (Nat×Nat)) (v4 v5:Option V),Same H H2/\H2 q=some (.lst ys)/\bX H2 ys ts/\ts.length=i/\jr p ts/\σ=[some (.ref c),some (.int (n:Int)),some (.int (p:Int)),some (.ref q),v4,v5,none,none,none,none,none,none,none]) ⟨[],[],none,none,smq,hq0,bX.nil,rfl,λt ht=>absurd ht Hv,rfl⟩ ?_ ?_
 .rintro i σ H2 hi ⟨ys,ts,v4,v5,sm2,hq2,hP,hl,hok,rfl⟩;dsimp only[aS];rw[Io];have hc2:=sm2.seq hc;have il:(i:Int) % ((cs.map V.int).length:Nat)=((i % cs.length:Nat):Int):=by rw[F3];rfl
  have ai:atI (cs.map V.int) ((i:Int) % ((cs.map V.int).length:Nat))=some (.int (cs.getD (i % cs.length) 0)):=by rw[il];exact bA (Lr _ c0)
  refine⟨_,rfl,_,rfl,_,rfl,c,_,rfl, .inl hc2,_,_,rfl,rfl,by rw[F3];lia,c,_,_,_,rfl,rfl,hc2,ai,_,rfl,_,_,rfl,rfl,?_⟩;have i64:i<8:=by lia
  refine⟨_,rfl,_,_,rfl,rfl, .inl ⟨by decide,by decide⟩,_,rfl,_,_,rfl,rfl, .inr ⟨by lia,by lia⟩,_,_,rfl,rfl,_,_,rfl,rfl, .inr ⟨?_,?_⟩,_,_,rfl,rfl,(by decide),?_⟩
  .have:(0:Int)<=31*(i:Int)*(i:Int):=Int.mul_nonneg (by lia) (by lia);lia
  .have:31*(i:Int)*(i:Int)<=31*8*8:=Int.mul_le_mul (by lia) (by lia) (by lia) (by decide);lia
  generalize ((cs.getD (i % cs.length) 0+(i:Int))*(48271+31*(i:Int)*(i:Int)) % 2147483629)=mx;have pp:(0:Int)<(p:Int):=by lia
  have ylen:ys.length=i:=hP.1.trans hl;refine⟨_,rfl, .inl ⟨rfl,_,SqL.of hq2⟩,_,rfl,_,rfl,_,_,rfl,rfl,pp,_,rfl,_,_,rfl,rfl,⟨by decide,by decide⟩,_,rfl,_,_,rfl,rfl,pp,Gd (Gf 2) (by decide),λu hu=> ?_⟩;have m1:=IV mx (Int.ne_of_gt pp);have m2:=IJ mx pp;have m3:=IV (mx/1009) (Int.ne_of_gt pp);have m4:=IJ (mx/1009) pp;have smu:Same H2 (upd H2 u (.tup [.int (mx % (p:Int)), .int (mx/1009 % (p:Int))])):=Same.new hu;refine⟨q,_,_,rfl,rfl,smu.at hq2,by rw[ylen];exact F9 i64 (by decide),?_⟩;have nu:u≠q:=λe=>by rw[e,hq2]at hu;cases hu
  refine⟨ys++[.ref u],ts++[((mx % (p:Int)).toNat,(mx/1009 % (p:Int)).toNat)],_,_,(sm2.trans smu).upd hq,aj,bX.snoc (hP.ts λb xs e=> ?_) ?_,by rw[Gr,hl];rfl,λt ht=> ?_,rfl⟩
  .have:=smu.at e;rw[av (gr this (smu.at hq2) λz=>by cases z)];exact this
  .rw[av nu,aj];show some (HO.tup [V.int (mx % (p:Int)),V.int (mx/1009 % (p:Int))])=some (HO.tup [V.int ((mx % (p:Int)).toNat:Int),V.int ((mx/1009 % (p:Int)).toNat:Int)]);rw[JZ m1,JZ m3]
  .rcases Gu.mp ht with h|h
   .exact hok t h
   .rw[Gw.mp h];exact⟨by lia,by lia⟩
 .rintro σ H2 ⟨ys,ts,v4,v5,sm2,hq2,hP,hl,hok,rfl⟩;have okS:jr p (ts.map λt=>(t.2,t.1)):=λt ht=>by obtain⟨t',ht',rfl⟩:=Gz.mp ht;exact⟨(hok t' ht').2,(hok t' ht').1⟩
  have lS:(ts.map λt=>(t.2,t.1)).length=n:=by rw[F3];exact hl
  refine⟨Hy _,λlv hlv=> ?_⟩;have sml:Same H2 (upd H2 lv (.lst [])):=Same.new hlv;have hv0:upd H2 lv (.lst []) lv=some (.lst (((List.range 0).map λs=>((rkC (ts.map cz) s:Nat):Int)).map V.int)):=aj;generalize upd H2 lv (.lst [])=H3 at*;have p8:=jM n8;have ppos:=two_pow_pos n;refine⟨_,rfl,_,_,rfl,rfl,⟨by lia,by lia,by decide⟩,_,rfl,?_⟩;rw[bL];refine⟨by lia,by lia,?_⟩;rw[F6];refine bK (n:=2^n) (λs σ H4=>∃v7 v8 v9 v10 v11:Option V,Same H2 H4/\H4 lv=some (.lst (((List.range s).map λs=>((rkC (ts.map cz) s:Nat):Int)).map V.int))/\σ=[some (.ref c),some (.int (n:Int)),some (.int (p:Int)),some (.ref q),v4,v5,some (.ref lv),v7,v8,v9,v10,v11,none]) ⟨none,none,none,none,none,sml,hv0,rfl⟩ ?_ ?_
  .rintro s σ H4 hs ⟨v7,v8,v9,v10,v11,sm4,hv4,rfl⟩;dsimp only[aS];rw[Io];refine⟨_,rfl,(p:Int),rfl,by lia,by lia,?_⟩;rw[F6];refine cG (λ_=>true) (λi=> .int (0+(i:Nat))) (Gd p6 (by decide)) (λi vs H' R S hi hv sm hk=> ?_) λp1 H5 hp1 sm5 hl5=> ?_
   .obtain⟨v,rfl⟩:=aW hv;have q:=hk [some (.int (0+(i:Nat)))] H' rfl (Same.refl _);rw[F7 rfl]at q;simp only[aS,fK,F7];exact⟨_,rfl,q⟩
   rw[uH]at hl5;refine⟨_,rfl,(n:Int),rfl,by lia,by lia,?_⟩;rw[F6];refine bK (n:=n) (λi σ H6=>∃ (hq:Addr) (v9 v10 v11:Option V),Same H4 H6/\H6 hq=some (.lst ((nA p (ts.map λt=>(t.2,t.1)) s i).map V.int))/\σ=[some (.ref c),some (.int (n:Int)),some (.int (p:Int)),some (.ref q),v4,v5,some (.ref lv),some (.int (s:Int)),some (.ref hq),v9,v10,v11,none]) ⟨p1,v9,v10,v11,sm5,hl5,rfl⟩ ?_ ?_
   .rintro i σ H6 hi ⟨hq,v9,v10,v11,sm6,hh6,rfl⟩;dsimp only[aS];have ms:=yq p (ts.map λt=>(t.2,t.1)) s i;have ml:(nA p (ts.map λt=>(t.2,t.1)) s i).length=p:=sY _ _ _ _;refine⟨_,rfl,_,rfl,_,_,rfl,rfl,(by show(0:Int)<=0+(i:Int);lia),_,_,rfl,rfl,rfl,_,rfl,?_⟩;rw[jF];refine bJ (λhb=> ?_) λhb=> ?_
    .rw[F7 hb]at ms;have hit:i<ts.length:=by lia
     obtain⟨ca,hc1,hc2⟩:=hP.2 i ts[i] (Gp hit);have et:(ts.map λt=>(t.2,t.1)).getD i (0,0)=(ts[i].2,ts[i].1):=by simp[hit]
     have bt:=hok ts[i] (Ik hit);rw[et]at ms;generalize ts[i]=t at*;have sm26:=sm4.trans sm6;have hc2':=sm26.at hc2;have hq6:=sm26.at hq2;have at1:atI ys (0+(i:Int))=some (.ref ca):=by rw[Io];exact cR hc1
     have t0:atI [V.int (t.1:Int),V.int (t.2:Int)] 0=some (.int t.1):=cR (j:=0) rfl;have t1:atI [V.int (t.1:Int),V.int (t.2:Int)] 1=some (.int t.2):=cR (j:=1) rfl;generalize nA p (ts.map λt=>(t.2,t.1)) s i=hd at*;have ax:atI (hd.map V.int) (t.1:Int)=some (.int (hd.getD t.1 0)):=bA (by rw[ml];exact bt.1);have ay:atI (hd.map V.int) (t.2:Int)=some (.int (hd.getD t.2 0)):=bA (by rw[ml];exact bt.2);refine⟨_,rfl,_,rfl,_,rfl,q,_,_,_,rfl,rfl,SqL.of hq6,at1,ca,_,_,_,rfl,rfl,SqT.of hc2',t0,hq,_,_,_,rfl,rfl,SqL.of hh6,ax,?_⟩;refine⟨_,rfl,_,rfl,_,rfl,q,_,_,_,rfl,rfl,SqL.of hq6,at1,ca,_,_,_,rfl,rfl,SqT.of hc2',t1,hq,_,_,_,rfl,rfl,SqL.of hh6,ay,?_⟩;refine⟨_,rfl,hq,rfl,⟨_,SqL.of hh6⟩,?_⟩;refine bo (λx=>(λ_=>true) (aZ x)) (λv=> .int ((λh:Int=>if h=hd.getD t.2 0 then hd.getD t.1 0 else h) (aZ v))) (SqL.of hh6) (by rw[F3,ml];exact Gd p6 (by decide)) (λj v vs H' R S hv' hv sm hk=> ?_) λq2 H7 hq2' sm7 hl7=> ?_
     .obtain⟨v,rfl⟩:=aW hv;obtain⟨m,rfl,hm⟩:=aY hv';simp only[aS,fK,F7];have q':=hk [some (.int m)] _ rfl (Same.refl _);rw[F7 rfl]at q';replace q':R (V.int (if m=hd.getD t.2 0 then hd.getD t.1 0 else m)) _ _:=q';refine⟨_,rfl,_,rfl,rfl,_,rfl,bJ (λhc=> ?_) λhc=> ?_⟩
      .rw[F7 (V.int.inj (Gx hc))]at q';exact⟨_,rfl,q'⟩
      .rw[F8 (λz=>hc (F5 (by rw[z])))]at q';exact⟨_,rfl,q'⟩
     replace hl7:=hl7.trans (GQ (λl=>some (HO.lst l)) (a8 (λ_=>true) (λh:Int=>if h=hd.getD t.2 0 then hd.getD t.1 0 else h) hd));rw[Iq.mpr (λ_ _=>rfl)]at hl7;refine⟨q2,_,_,_,sm6.trans sm7,?_,rfl⟩;rw[ms];exact hl7
    .rw[F8 hb]at ms;exact⟨hq,_,_,_,sm6,by rw[ms];exact hh6,rfl⟩
   .rintro σ H6 ⟨hq,v9,v10,v11,sm6,hh6,rfl⟩;have ml:(nA p (ts.map λt=>(t.2,t.1)) s n).length=p:=sY _ _ _ _;have ea:=A5 (p:=p) (ts:=ts.map λt=>(t.2,t.1)) (s:=s) (by rw[lS];exact n8) (by rw[lS];exact hs);rw[lS]at ea;rw[ea]at hh6 ml;have rk:=AY (s:=s) okS (by rw[lS];exact hs);rw[z7]at rk;have hv6:=sm6.at hv4;refine⟨_,rfl, .inl ⟨rfl,_,SqL.of hv6⟩,_,rfl,_,rfl,hq,_,rfl,SqL.of hh6,by rw[ml];lia,λl hl2=>⟨l,_,_,rfl,aj,?_⟩⟩;rw[gK,ml];have sml2:∀ {o:HO},Same H6 (upd H6 l o):=λ{o}=>Same.new hl2;refine⟨_,_,rfl,rfl,lv,_,_,rfl,rfl,sml2.at hv6,by rw[F3,F3,Gy];exact F9 hs (Gd p8 (by decide)),?_⟩;refine⟨_,_,_,_,_,(sm4.trans (sm6.trans sml2)).upd hlv,?_,rfl⟩;rw[aj,IC,GO,GO];have e2:((rkC (ts.map cz) s:Nat):Int)=(p:Int) - (iG (λi=>(pj p (ts.map λt=>(t.2,t.1)) s).getD i 0) p:Nat):=rk;show _=some (HO.lst (_++[V.int ((rkC (ts.map cz) s:Nat):Int)]));rw[e2]
  .rintro σ H4 ⟨v7,v8,v9,v10,v11,sm4,hv4,rfl⟩;have M:Mat n (rkC (ts.map cz)):=Bb _ n8;have hv4':H4 lv=some (.lst ((dJ n (rkC (ts.map cz))).map V.int)):=hv4;have lt1:=pq (n:=n) (rkC (ts.map cz));refine⟨_,rfl,_,_,rfl,rfl,⟨by lia,by lia,by decide⟩,_,rfl,?_⟩;rw[bL];refine⟨by lia,by lia,?_⟩;rw[F6];refine cG (λs=>decide (sz s=rkC (ts.map cz) (2^n-1))&&decide (rkC (ts.map cz) s=rkC (ts.map cz) (2^n-1))) (λi=> .int (0+(i:Nat))) (Gd p8 (by decide)) (λs vs H' R S hs hv sm hk=> ?_) λtq H5 htq sm5 hl5=> ?_
   .obtain⟨v,rfl⟩:=aW hv;have q1:=hk [some (.int (0+(s:Nat)))] H' rfl (Same.refl _);rw[Io]at q1⊢;have hv':=SqL.of (K:=K) (sm.at hv4');refine⟨_,rfl,(s:Int),rfl,by lia,by lia,_,rfl,1,rfl,lv,_,_,_,rfl,rfl,hv',lt1,rfl,_,rfl,?_⟩;rw[F6,aJ];show if decide (sz s=rkC (ts.map cz) (2^n-1))=true then _ else _;by_cases c1:sz s=rkC (ts.map cz) (2^n-1)
    .rw[F5 c1,F7 rfl];rw[F5 c1,Hl]at q1;refine⟨_,rfl,_,rfl,lv,_,_,_,rfl,rfl,hv',jz _ hs,_,rfl,1,rfl,lv,_,_,_,rfl,rfl,hv',lt1,rfl,_,rfl,?_⟩;rw[aJ];by_cases c2:rkC (ts.map cz) s=rkC (ts.map cz) (2^n-1)
     .rw[F5 c2,F7 rfl]at q1⊢;exact⟨_,rfl,q1⟩
     .rw[F4 c2,F8 Gj]at q1⊢;exact q1
    .rw[F4 c1,F8 Gj];rw[F4 c1,Hj,F8 Gj]at q1;exact q1
   rw[dY]at hl5;have hl5':H5 tq=some (.lst ((bq (zQ n (rkC (ts.map cz)))).map V.int)):=hl5;have sm05:=sm2.trans (sm4.trans sm5);have hq5:=(sm4.trans sm5).at hq2;have hP5:=hP.ts (sm4.trans sm5).tups;refine⟨_,rfl,_,rfl,_,rfl,_,rfl,λpo dxo npo ndo neo=> ?_⟩;have smp:Same H5 (upd (upd H5 dxo (.own po)) po (.ins cN dxo [])):=λb o e=>by rw[av (az e npo),av (az e ndo)];exact e
   refine⟨po,dxo,q,(n:Int),(p:Int),ys,ts,rfl,aj,SqL.of (smp.at hq5),hP5.ts smp.tups,by rw[hP.1,hl];lia,λtt zs H6 htt oth hpo hzs hPz=> ?_⟩;have sm6:Same H5 H6:=λb o e=>oth b o (smp.at e) (az e npo);refine⟨rfl,Gd (Gf 2) (by decide),λu hu=> ?_⟩;have smu:Same H6 (upd H6 u (.tup [.ref tq, .ref po])):=Same.new hu;refine k u tq po p ts _ _ (sm05.trans (sm6.trans smu)) aj (smu.at (sm6.at hl5')) (uF M) ⟨p,ts,⟨dxo,tt,zs,smu.at hpo,smu.at hzs,hPz.ts smu.tups⟩,hok,by lia,hl,λs hs=>AY hok (by rw[hl];exact hs)⟩ hl hok
theorem ES{n m:Nat}{ps:List Int}(hn:n<=8)(hm:m<=n)(h:ps=[]\/(0<m/\m<n/\Far m ps)):cc n (bF (dI n m ps)) (dI n m ps):=by
 obtain⟨M,hb⟩:=Di hn hm h;refine⟨M,λz=> ?_,by unfold dI;rw[F3];exact Gd (Ie _ _) (by rw[Gy];exact Gf _)⟩;unfold dI;rw[Gz];constructor
 .rintro⟨b,h1,rfl⟩;obtain⟨g1,g2,g3⟩:=(hb b).mp h1;exact⟨b,g1,rfl,g2.symm.trans g3,g3⟩
 .rintro⟨b,g1,rfl,g2,g3⟩;exact⟨b,(hb b).mpr ⟨g1,g3.trans g2.symm,g3⟩,rfl⟩
theorem cc.ne(h:cc n r ms):ms≠[]:=by
 obtain⟨B,hB⟩:=lp h.mat;obtain⟨h1,h2,h3⟩:=jj.mp hB;exact λe=>by have:=(h.mem (B:Int)).mpr ⟨B,h1,rfl,h3,h2.trans h3⟩;rw[e]at this;cases this
theorem cc.bd(h:cc n r ms):∀m∈ms,0<=m/\m<256:=λm hm=>by obtain⟨b,h1,rfl,_⟩:=(h.mem m).mp hm;have:=s_lt h.mat.n8 h1;lia
theorem cc.rk(h:cc n r ms)(hl:∀z,z∈ls↔z∈ms)(hs:s<2^n):bF ls s=r s:=h.mat.t6 (λz=>by
 rw[hl,h.mem];constructor
 .rintro⟨b,h1,h2,h3,h4⟩;exact⟨b,h1,h2,h4.trans h3.symm,h4⟩
 .rintro⟨b,h1,h2,h3,h4⟩;exact⟨b,h1,h2,h3.symm.trans h4,h4⟩) hs
def vO:List Nat:=[4,5,6,5,6,7,3,8,2,1,0]
theorem DW:∀j:Nat,j<11->([4,5,6,5,6,7,3,8,2,1,0]:List Int)[j]?=some ((vO.getD j 0:Nat):Int):=by decide
theorem DV:∀j:Nat,j<11->vO.getD j 0<=8:=by decide
theorem sc_law:aB ["_law_script","_law_cells","_law_many","_law_told","_law_house","_law_turn","_law_levels","_law_found","_law_row"] ["_law_script"] (ak s_law):=sc_of
theorem Fg:PSp (rf CX0 P w K mg base ["_law_script","_law_cells","_law_many","_law_told","_law_house","_law_turn","_law_levels","_law_found","_law_row"] "law" (ak s_law) f cdv A outer s H E).nox ((aR s_law).getD 1 (.Pass ⟨0,0,0,0⟩))
  (uG (tOp (Av K) (E7 (DA [4,5,6,5,6,7,3,8,2,1,0])) (tOp (rI (λ_ j=>0<j) λi j=> .int (i % j)) (tOp (Av K) (DY 1) (tC (.int 0))) (tC (.int 11)))) (aS 2)):=by
 have hI:kM (vt (vD (Ap ((aR s_law).getD 1 (.Pass ⟨0,0,0,0⟩))))) [4,5,6,5,6,7,3,8,2,1,0]:=jZ (by decide+kernel);obtain⟨p1,p2,p3,p4,p5,p6,p7,p8,p9,j1,j2,e⟩:∃ (p1 p2 p3 p4 p5 p6 p7 p8 p9:Pos) (j1 j2:Nat),(aR s_law).getD 1 (.Pass ⟨0,0,0,0⟩)= .Assign [.Name "_law_many" p1] (.Subscript (.List (vt (vD (Ap ((aR s_law).getD 1 (.Pass ⟨0,0,0,0⟩))))) p2) (.BinOp (.Subscript (.Name "_law_cells" p3) (.Constant (.int 0) j1 p4) p5) .Mod (.Constant (.int 11) j2 p6) p7) p8) p9:=⟨_,_,_,_,_,_,_,_,_,_,_,rfl⟩;generalize vt (vD (Ap ((aR s_law).getD 1 (.Pass ⟨0,0,0,0⟩))))=es at hI e;rw[e];refine⟨?_⟩;exact Ay (i:=2) sc_law.nd (by rfl) (Kx rfl) (wA (nL (K:=K) (by rfl)) (cI (xZ hI)) (aq bD (wA (nL (K:=K) (by rfl)) (pv 1) ae (λ_ _=>rfl)) ae) (λ_ _=>rfl))
theorem FX:aR s_law=(aR s_law).getD 0 (.Pass ⟨0,0,0,0⟩)::(aR s_law).getD 1 (.Pass ⟨0,0,0,0⟩)::(aR s_law).drop 2:=by rfl
theorem FW:∃st1,st1=(aR s_law).getD 1 (.Pass ⟨0,0,0,0⟩)/\aR s_law=(aR s_law).getD 0 (.Pass ⟨0,0,0,0⟩)::st1::(aR s_law).drop 2:=⟨_,rfl,FX⟩
theorem Ex(F:Fun K "law" "law" s_law f fd)(T:Tb K mg)(ar:qg P w K mg base 2 "Listed" cL ["self","n","some"] (wc K cL))(a0:Cal P w K mg base 2 "_law_far" ["_law_cells","_law_many","_law_rank"] (DD K))(ax:Cal P w K mg base 2 "_law_ranks" ["_law_many","_law_told"] (sf K))
  (ay:Cal P w K mg base 2 "_law_idle" ["_law_cells","_law_many","_law_told"] (Ah K)) (a3:Cal P w K mg base 4 "_law_net" ["_law_cells","_law_many"] (Ae K cN)) (ai:Cal P w K mg base 13 "over_two" ["house"] (o5 (nQ cL cN))) (ag:Cal P w K mg base 4 "_law_right" ["_law_found","_law_many","_law_levels"] (vR K)):gQ P w K mg base CX0 14 f fd ["_law_script"] (vX K):=by
 refine F.ok sc_law (λvs H Q E h=>by obtain⟨a,ns,rfl,_⟩:=h;rfl) λcdv A outer σs H vs Q E hr h=> ?_;obtain⟨a,ns,rfl,ha,hn,k⟩:=h;have st_law_1:=Fg (P:=P) (w:=w) (K:=K) (mg:=mg) (base:=base) (f:=f) (cdv:=cdv) (A:=A) (outer:=outer) (s:=σs) (H:=H) (E:=E);obtain⟨st1,h1,ebody⟩:=FW;rw[<-h1]at st_law_1;rw[ebody];refine⟨_,(ab (wset 1 sc_law.nd (aq kB (ig (hU (K:=K) (by rfl)) (pv 0) jP (jO ae)) (cI (aa ae af))))
   (ab (st_law_1.h)
   (ab (wset 3 sc_law.nd (wcal a0 hr (aa (pv 1) (aa (pv 2) (aa (aq bD (aq gI (bS K (pv 1) ae) ae) (aq dg (pv 2) ae)) af)))))
   (ab (Az (wcal ay hr (aa (pv 1) (aa (pv 2) (aa (pv 3) af)))) (iQ (K:=K) (n:=2) (by rfl) (by rfl) (cD (wname 2 sc_law.nd) (cD (wname 3 sc_law.nd) iP))))
   (ab (wset 4 sc_law.nd (ky ar hr (by decide) (by rfl) (aa (pv 2) (aa (aq kB (CK (K:=K) (by rfl) (pv 3) (gq dS ae)) (ig (hU (K:=K) (by rfl)) (pv 3) jP (jO ae))) af))))
   (ab (wset 5 sc_law.nd (aq bD (bS K (pv 1) (aq dO (gq dS ae) (aq gI (wlen K T.len_ (pv 1)) ae))) ae))
   (ab (aX (wpt nj (pv 5) ae)
     (ah (Az (wcal a3 hr (aa (pv 1) (aa (pv 2) af))) (iQ (K:=K) (n:=2) (by rfl) (by rfl) (cD (wname 3 sc_law.nd) (cD (wname 4 sc_law.nd) iP)))))
     aF)
   (ab (aX (wpt aO (pv 5) ae)
     (ah (wset 4 sc_law.nd (ky ar hr (by decide) (by rfl) (aa (pv 2) (aa (cF (ja (K:=K) (by rfl)) (by rfl) T.list_ IY (aa (pv 3) af)) af)))))
     aF)
   (ab (wset 6 sc_law.nd (wcal ax hr (aa (pv 2) (aa (pv 3) af))))
   (ab (wset 7 sc_law.nd (wcal ai hr (aa (pv 4) af)))
   (ab (aX (jf (cH (wcal ag hr (aa (pv 7) (aa (pv 2) (aa (pv 6) af))))))
     (ah (aw eh))
     aF)
   (ab (aX (wpt aO (fh K (pv 7) ae) fv)
     (ab (wfor (wil K (fh K (pv 7) ae)) (wname 8 sc_law.nd)
       (ah (bR (dW (K:=K) (by rfl) HU HV HW bI (pv 8) (aa ae af)))))
     (ab (bR (dW (K:=K) (by rfl) HU HV HW bI (fh K (pv 7) ae) (aa ae af)))
     (ah (aw (wcal ag hr (aa (wcal ai hr (aa (pv 4) af)) (aa (pv 2) (aa (pv 6) af))))))))
     aF)
   (ah (aw eh)))))))))))))),?_⟩
 refine⟨_,rfl,_,rfl,a,_,rfl,ha,λp1 hp1=> ?_⟩;rw[BM (by decide)];refine⟨by show 1<=sizeLine;decide,λp2 hp2=> ?_⟩;have h1:upd H p1 (.lst ((ns.take (63:Int).toNat).map V.int)) p1=some (.lst ((ns.take (63:Int).toNat).map V.int)):=aj;refine⟨p1,p2,_,_,rfl,rfl,(by rw[av (az h1 hp2)];exact h1),aj,?_,λp3 hp3=> ?_⟩
 .rw[F3,GJ];show min _ _+1<=sizeLine;exact Gd (show min (63:Int).toNat ns.length+1<=64 by lia) (by decide)
 generalize upd (upd H p1 (.lst ((ns.take (63:Int).toNat).map V.int))) p2 (.lst [V.int 0])=H1 at*;have ec:(ns.take (63:Int).toNat).map V.int++[V.int 0]=(ns.take (63:Int).toNat++[0]).map V.int:=by rw[GO];rfl
 rw[ec];have hcl:(ns.take (63:Int).toNat++[0]).length<=64:=by rw[Gr,GJ];show min _ _+1<=64;lia
 have hcp:0<(ns.take (63:Int).toNat++[0]).length:=by rw[Gr];show 0<_+1;lia
 generalize ns.take (63:Int).toNat++[0]=cs at*;have hl1:upd H1 p3 (.lst (cs.map V.int)) p3=some (.lst (cs.map V.int)):=aj;generalize upd H1 p3 (.lst (cs.map V.int))=H2 at*;have at0:atI (cs.map V.int) 0=some (.int (cs.getD 0 0)):=bA (j:=0) hcp;generalize cs.getD 0 0=c at*;refine⟨by rw[F3];decide,λpd hpd=> ?_⟩;have smd:Same H2 (upd H2 pd (.lst (List.map V.int [4,5,6,5,6,7,3,8,2,1,0]))):=Same.new hpd;have hpd1:upd H2 pd (.lst (List.map V.int [4,5,6,5,6,7,3,8,2,1,0])) pd=some (.lst (List.map V.int [4,5,6,5,6,7,3,8,2,1,0])):=aj;have hl2:=smd.at hl1;obtain⟨j,hj⟩:=IF (show 0<=c % 11 from IV _ (by decide));have hj11:j<11:=by have:=IJ c (show(0:Int)<11 by decide);lia
 have at11:atI (List.map V.int [4,5,6,5,6,7,3,8,2,1,0]) (c % 11)=some (.int ((vO.getD j 0:Nat):Int)):=by rw[hj];exact ij (DW j hj11)
 have hn8:=DV j hj11;generalize vO.getD j 0=n at*;refine⟨_,rfl,p3,_,_,_,rfl,rfl,SqL.of hl2,at0,_,_,rfl,rfl,(by show(0:Int)<11;decide),pd,_,_,_,rfl,rfl,SqL.of hpd1,at11,?_⟩;generalize upd H2 pd (.lst (List.map V.int [4,5,6,5,6,7,3,8,2,1,0]))=H3 at*;refine⟨_,rfl,_,rfl,_,rfl,p3,_,_,_,rfl,rfl,SqL.of hl2,at0,_,_,rfl,rfl,⟨by decide,by decide⟩,_,rfl,_,_,rfl,rfl,_,_,rfl,rfl,(by show(0:Int)<(n:Int)+1;lia),?_⟩;obtain⟨r0,hr'⟩:=IF (show 0<=c/11 % ((n:Int)+1)from IV _ (by lia));have hrn:r0<=n:=by have:=IJ (c/11) (show(0:Int)<(n:Int)+1 by lia);lia
 (try dsimp only);rw[hr'];refine⟨p3,cs,n,r0,rfl,SqL.of hl2,hcp,hcl,hn8,hrn,λpt H4 ps sm4 hpt hl4 hfar=> ?_⟩;have B0:=ES hn8 hrn hfar;generalize dI n r0 ps=m0 at*;refine⟨_,rfl,_,rfl,_,rfl,p3,pt,cs,m0,n,_,rfl,SqL.of (sm4.at hl2),hcp,hl4,B0,λti a5 n5 r5 m5 H5 sm5 hti ha5 B5 _=> ?_⟩;have n58:=B5.mat.n8;refine⟨ti,_,rfl,SqT.of hti,rfl,_,_,rfl,_,_,rfl,rfl,?_⟩;have hl5:=sm5.at (sm4.at hl2);clear at0 at11 hl4 hpd1 hl1 B0;refine⟨_,rfl,_,rfl,1,rfl,rfl,a5,_,rfl,SqL.of ha5,λp6 hp6=> ?_⟩;have sm6:Same H5 (upd H5 p6 (.lst (m5.map V.int).reverse)):=Same.new hp6;have h6:upd H5 p6 (.lst (m5.map V.int).reverse) p6=some (.lst (m5.reverse.map V.int)):=by rw[aj,List.map_reverse]
 generalize upd H5 p6 (.lst (m5.map V.int).reverse)=H6 at*;refine⟨_,rfl,_,rfl,a5,_,rfl,SqL.of (sm6.at ha5),λp7 hp7=> ?_⟩;rw[BM (by decide)];have sm7:Same H6 (upd H6 p7 (.lst ((m5.take (1:Int).toNat).map V.int))):=Same.new hp7;have h7:upd H6 p7 (.lst ((m5.take (1:Int).toNat).map V.int)) p7=some (.lst ((m5.take (1:Int).toNat).map V.int)):=aj;generalize upd H6 p7 (.lst ((m5.take (1:Int).toNat).map V.int))=H7 at*;have f5:=B5.few;have f256:=jM n58;refine⟨p6,p7,_,_,rfl,rfl,sm7.at h6,h7,?_,λp8 hp8=> ?_⟩
 .rw[F3,F3,JW,GJ];exact Gd (show m5.length+min (1:Int).toNat m5.length<=257 by lia) (by decide)
 have sm8:Same H7 (upd H7 p8 (.lst (m5.reverse.map V.int++(m5.take (1:Int).toNat).map V.int))):=Same.new hp8;have h8:upd H7 p8 (.lst (m5.reverse.map V.int++(m5.take (1:Int).toNat).map V.int)) p8=some (.lst ((m5.reverse++m5.take (1:Int).toNat).map V.int)):=by rw[aj,GO]
 generalize upd H7 p8 (.lst (m5.reverse.map V.int++(m5.take (1:Int).toNat).map V.int))=H8 at*;have lmem:∀z,z∈m5.reverse++m5.take (1:Int).toNat↔z∈m5:=λz=>by rw[Gu,List.mem_reverse];exact⟨λh=>by rcases h with h|h;exact h;exact Jm h, .inl⟩
 have llen:(m5.reverse++m5.take (1:Int).toNat).length<=1000:=by rw[Gr,JW,GJ];lia
 generalize m5.reverse++m5.take (1:Int).toNat=l5 at*;intro po dxo npo ndo neo;have smp:Same H8 (upd (upd H8 dxo (.own po)) po (.ins cL dxo [])):=λb o e=>by rw[av (az e npo),av (az e ndo)];exact e
 refine⟨po,dxo,p8,n5,l5,rfl,aj,SqL.of (smp.at h8),llen,λtt H9 htt oth hpo htt9=>⟨rfl,?_⟩⟩;have sm9:Same H8 H9:=λb o e=>oth b o (smp.at e) (az e npo);have sm59:=sm6.trans (sm7.trans (sm8.trans sm9));have ha9:=sm59.at ha5;have hl9:=sm59.at hl5;have hX9:(nQ cL cN).ho H9 po n5 r5:= .inl ⟨l5,⟨dxo,tt,hpo,htt9,llen⟩,λe=>B5.ne (KI.mpr λz hz=>by have:=(lmem z).mpr hz;rw[e]at this;cases this),λz hz=>B5.bd z ((lmem z).mp hz),λs hs=>(B5.rk lmem hs).symm⟩;clear smp oth npo ndo h8 h7 h6;have tl:((cs.map V.int).length:Int)=(cs.length:Int):=by rw[F3]
 have at5:atI (cs.map V.int) (-1- ((cs.map V.int).length:Nat) /2)=some (.int (cs.getD (-1- (cs.length:Int) /2+cs.length).toNat 0)):=by rw[F3];exact vE (by lia) (by lia)
 refine⟨_,rfl,1,rfl,_,rfl,p3,_,rfl, .inl (SqL.of hl9),_,_,rfl,rfl,⟨by decide,by decide⟩,_,_,rfl,rfl,p3,_,_,_,rfl,rfl,SqL.of hl9,at5,_,_,rfl,rfl,(by decide),?_⟩;generalize cs.getD (-1- (cs.length:Int) /2+cs.length).toNat 0 % 4=turn;unfold zU;dsimp only;refine eg (λσ' H'=>∃ (a' h':Addr) (r':Nat->Nat) (ms':List Int),Same H9 H'/\H' a'=some (.lst (ms'.map V.int))/\cc n5 r' ms'/\(nQ cL cN).ho H' h' n5 r'/\σ'=[some (.ref a),some (.ref p3),some (.int (n5:Int)),some (.ref a'),some (.ref h'),some (.int turn),none,none,none]) ?_ λhrest=> ?_
 rotate_left
 .refine⟨_,rfl,_,_,rfl,rfl,_,rfl,bJ (λ_=> ?_) λ_=>hrest _ _ ⟨a5,po,r5,m5,Same.refl _,ha9,B5,hX9,rfl⟩⟩;refine⟨_,rfl,_,rfl,p3,cs,n5,rfl,SqL.of hl9,hcp,hcl,n58,λtn qn hn' pn tsn msn Hn smn htn hqn Bn hXn _ _=> ?_⟩;refine⟨tn,_,rfl,SqT.of htn,rfl,_,_,rfl,_,_,rfl,rfl,?_⟩;exact hrest _ _ ⟨qn,hn',_,msn,smn,hqn,Bn, .inr hXn,rfl⟩
 rintro σ' HA ⟨aA,hA,rA,mA,smA,haA,BA,hXA,rfl⟩;refine eg (λσ' H'=>∃ (h':Addr),Same HA H'/\(nQ cL cN).ho H' h' n5 rA/\σ'=[some (.ref a),some (.ref p3),some (.int (n5:Int)),some (.ref aA),some (.ref h'),some (.int turn),none,none,none]) ?_ λhrest=> ?_
 rotate_left
 .refine⟨_,rfl,rfl,_,rfl,bJ (λ_=> ?_) λ_=>hrest _ _ ⟨hA,Same.refl _,hXA,rfl⟩⟩;refine⟨_,rfl,_,rfl,aA,_,rfl, .inl (SqL.of haA),λlq hlq=> ?_⟩;have fA:=BA.few;have smq:Same HA (upd HA lq (.lst (mA.map V.int))):=Same.new hlq;have hq1:upd HA lq (.lst (mA.map V.int)) lq=some (.lst (mA.map V.int)):=aj;generalize upd HA lq (.lst (mA.map V.int))=HQ at*;intro po dxo npo ndo neo;have smp:Same HQ (upd (upd HQ dxo (.own po)) po (.ins cL dxo [])):=λb o e=>by rw[av (az e npo),av (az e ndo)];exact e
  refine⟨po,dxo,lq,n5,mA,rfl,aj,SqL.of (smp.at hq1),by lia,λtt HR htt oth hpo htt9=>⟨rfl,?_⟩⟩;have smR:Same HQ HR:=λb o e=>oth b o (smp.at e) (az e npo);exact hrest _ _ ⟨po,smq.trans smR, .inl ⟨mA,⟨dxo,tt,hpo,htt9,by lia⟩,BA.ne,BA.bd,λs hs=>(BA.rk (λ_=>Iff.rfl) hs).symm⟩,rfl⟩
 rintro σ' HB ⟨hB,smB,hXB,rfl⟩;have haB:=smB.at haA;have fA:=BA.few;have zok:=wH cL cN;refine⟨_,rfl,_,rfl,aA,mA,n5,rfl,SqL.of haB,BA.ne,BA.bd,by lia,n58,λlv HC smC hlv hlC=> ?_⟩;have eL:(List.range (2^n5)).map (λs=>((bF mA s:Nat):Int))=dJ n5 rA:=by unfold dJ;refine HP λs hs=> ?_;rw[BA.rk (λ_=>Iff.rfl) (Gk.mp hs)]
 rw[eL]at hlC;have hXC:=zok.same smC hXB;refine⟨_,rfl,hB,n5,_,rA,rfl,hXC,BA.mat,rfl,λc l xs t HD smD ht htt hl hxs hR hN ho=> ?_,λs w t HD smD ht htt hs hw hkd=> ?_⟩
 .refine⟨_,rfl,_,rfl,_,rfl,t,lv,n5,_,rA,rfl,SqL.of (smD.at hlC),BA.mat,rfl, .inl ⟨l,xs,c,htt,hxs,hR.same dF,ho⟩,λHE smE=> ?_⟩;refine⟨_,rfl,dQ ?_⟩;refine⟨_,rfl,t,_,_,_,rfl,rfl,SqT.of (smE.at htt),rfl,rfl,_,rfl,kD ?_⟩;have httE:=smE.at htt;have hxE:=smE.at hxs;refine⟨_,rfl,t,_,_,_,rfl,rfl,SqT.of httE,rfl,l,rfl,⟨_,SqL.of hxE⟩,?_⟩;refine bz (K:=K) (a:=l) (xs:=xs) (λi σ H2=>∃v8:Option V,Same HC H2/\H2 t=some (.tup [.str "table", .ref l])/\H2 l=some (.lst xs)/\(∀x∈xs,∃ (b:Addr) (zs:List V),x= .ref b/\b≠l/\HC b=none/\H2 b=some (.lst zs)/\zs.length<=8+i)/\σ=[some (.ref a),some (.ref p3),some (.int (n5:Int)),some (.ref aA),some (.ref hB),some (.int turn),some (.ref lv),some (.ref t),v8]) ⟨none,smD.trans smE,httE,hxE,λx hx=> ?_,rfl⟩ (λi σ H2 _ h=>by obtain⟨_,_,_,h2,_⟩:=h;exact SqL.of h2) ?_ ?_
  .obtain⟨b,e1,e2⟩:=hN x hx;obtain⟨i,hi⟩:=Hk hx;obtain⟨b',rr,h1,h2,h3⟩:=hR.at hi;rw[e1]at h2;cases h2;have nl:b≠l:=λe=>by rw[e]at h3;unfold hide at h3;rw[F7 rfl]at h3;cases h3
   rw[c8 nl]at h3;have iR:i<(gS c n5 (rA (2^n5-1))).length:=(Ga.mp h1).1;rw[lR]at iR;rw[ql iR]at h1;cases h1;exact⟨b,_,e1,nl,e2,smE.at h3,by rw[F3,F3,Gy];lia⟩
  .rintro i x σ H2 hi ⟨v8,sm2,ht2,hl2',hrow,rfl⟩;have il:i<xs.length:=(Ga.mp hi).1;have xl:xs.length<=8:=by rw[hR.1,lR];have:=BA.mat.k9 (2^n5-1) (cQ n5);have h2:sz (2^n5-1)<=8:=aN _;lia
   obtain⟨b,zs,rfl,nb,hb,hz,zl⟩:=hrow x (Ge hi);dsimp only[aS];refine⟨_,rfl, .inl ⟨rfl,_,SqL.of hz⟩,b,_,_,rfl,rfl,hz,Gq zl (F9 (show 8+i<17 by lia) (by decide)),?_⟩;refine⟨_,sm2.upd hb,by rw[av (gr ht2 hz λz=>by cases z)];exact ht2,by rw[av nb.symm];exact hl2',λy hy=> ?_,rfl⟩;obtain⟨b2,zs2,rfl,nb2,hb2,hz2,zl2⟩:=hrow y hy;by_cases e:b2=b
   .subst e;rw[hz]at hz2;cases hz2;exact⟨b2,_,rfl,nb,hb,aj,by rw[Gr];show zs.length+1<=_;lia⟩
   .exact⟨b2,zs2,rfl,nb2,hb2,by rw[av e];exact hz2,by lia⟩
  .rintro σ H2 ⟨v8,sm2,ht2,hl2',hrow,rfl⟩;have xl:xs.length<=8:=by rw[hR.1,lR];have:=BA.mat.k9 (2^n5-1) (cQ n5);have h2:sz (2^n5-1)<=8:=aN _;lia
   refine⟨_,rfl,t,_,_,_,rfl,rfl,SqT.of ht2,rfl, .inl ⟨rfl,_,SqL.of hl2'⟩,l,_,_,rfl,rfl,hl2',Gq xl (by decide),?_⟩;have sm3:Same HC (upd H2 l (.lst (xs++[.int 0]))):=sm2.upd hl;generalize upd H2 l (.lst (xs++[.int 0]))=HF at*;refine⟨_,rfl,hB,n5,_,rA,rfl,zok.same sm3 hXC,BA.mat,rfl,λc2 l2 xs2 t2 HG smG ht2' htt2 hl2'' hxs2 hR2 hN2 ho2=> ?_,λs w t2 HG smG ht2' htt2 hs hw hkd=> ?_⟩
   .exact⟨_,rfl,_,rfl,t2,lv,n5,_,rA,rfl,SqL.of (smG.at (sm3.at hlC)),BA.mat,rfl, .inl ⟨l2,xs2,c2,htt2,hxs2,hR2.same dF,ho2⟩,λHH smH=>k _⟩
   .exact⟨_,rfl,_,rfl,t2,lv,n5,_,rA,rfl,SqL.of (smG.at (sm3.at hlC)),BA.mat,rfl, .inr ⟨s,w,htt2,hs,hw,hkd⟩,λHH smH=>k _⟩
 .refine⟨_,rfl,_,rfl,_,rfl,t,lv,n5,_,rA,rfl,SqL.of (smD.at hlC),BA.mat,rfl, .inr ⟨s,w,htt,hs,hw,hkd⟩,λHE smE=> ?_⟩;refine⟨_,rfl,dQ ?_⟩;refine⟨_,rfl,t,_,_,_,rfl,rfl,SqT.of (smE.at htt),rfl,rfl,_,rfl,bJ (λhc=> ?_) λ_=> ?_⟩
  .exact absurd (V.str.inj (Gx hc)) (by decide+kernel)
  .exact k _
end
inductive HD(K:PySem.W.Frag)(n:Str)(st:Stmt):Prop
 |mk {f:Addr} {oc:Value} {od an:Option Addr} {sl:Array (Option Value)} {kV dc pm cd ct:Value} (a:nsIn K mainGlobals n=some (some (.ref f))) (l:K.lookup f=some ⟨oc,od, .func (fnOf n n (cy st) (aR st) (ak st) .none kV dc pm an cd ct),sl⟩) (c:codeIn K cd n=true) (k:keepIn K (.ref f)=true):HD K n st
theorem HD.at{K:PySem.W.Frag}{n:Str}{st:Stmt}{h:Heap}{mg:Str->Option Value}(X:K.In h)(G:h.Ns mainGlobals mg)(d:HD K n st){ps:List Str}(b:∀ (kV doc pm:Value) (an:Option Addr) (cdv ct:Value) (us:List Value),us.length=ps.length->bindArgs (fnOf n n (cy st) (aR st) (ak st) .none kV doc pm an cdv ct) ⟨us,[]⟩=pure (ps.zip us):=by intro _ _ _ _ _ _;first|exact EI rfl|exact EH λ_=>rfl|exact EG λ_ _=>rfl|exact EF λ_ _ _=>rfl|exact EE λ_ _ _ _=>rfl|exact Fq λ_ _ _ _ _=>rfl):aU K mg n st ps:=by obtain⟨a,l,c,k⟩:=d;exact EY (st:=st) (ps:=ps) X G a l c k b
inductive HM(K:PySem.W.Frag)(C:Addr)(n q:Str)(st:Stmt)(f:Addr):Prop
 |mk {oc:Value} {od an:Option Addr} {sl:Array (Option Value)} {kV dc pm cd ct:Value} (a:findIn K (.ref C) n=some (some (.ref f))) (i:isFn K (.ref f)=true) (l:K.lookup f=some ⟨oc,od, .func (fnOf n q (cy st) (aR st) (ak st) .none kV dc pm an cd ct),sl⟩) (c:codeIn K cd q=true) (k:keepIn K (.ref f)=true):HM K C n q st f
theorem HM.at{K:PySem.W.Frag}{C:Addr}{n q:Str}{st:Stmt}{f:Addr}(d:HM K C n q st f){ps:List Str}(b:∀ (kV doc pm:Value) (an:Option Addr) (cdv ct:Value) (us:List Value),us.length=ps.length->bindArgs (fnOf n q (cy st) (aR st) (ak st) .none kV doc pm an cdv ct) ⟨us,[]⟩=pure (ps.zip us):=by intro _ _ _ _ _ _;first|exact EI rfl|exact EH λ_=>rfl|exact EG λ_ _=>rfl|exact EF λ_ _ _=>rfl|exact EE λ_ _ _ _=>rfl|exact Fq λ_ _ _ _ _=>rfl):eI K n q st ps f/\findIn K (.ref C) n=some (some (.ref f))/\isFn K (.ref f)=true/\keepIn K (.ref f)=true:=by obtain⟨a,i,l,c,k⟩:=d;exact⟨EC (st:=st) (ps:=ps) l c k b,a,i,k⟩
structure HL(K:PySem.W.Frag)(n:Str)(C:Addr):Prop where
 a:nsIn K mainGlobals n=some (some (.ref C))
 pg:plainGet K C Str.empty=true
 hd:hasDictIn K C=true
 po:plainOver K C=true
 sa:findIn K (.ref C) "__setattr__"=some (some (.builtin "object.__setattr__"))
 mi:makesIn K C=true
 kc:keepIn K (.ref C)=true
structure HI(K:PySem.W.Frag)(C:Addr):Prop where
 a:findIn K (.ref C) "__class__"=some (some (.builtin "object.__class__"))
 b:specialIn K (.builtin "object.__class__") "__get__"=some (some (.builtin "getset_descriptor.__get__"))
 c:takesIn K (.builtin "object.__class__")=some true
 d:mroIn K C (.type "object")=some true
theorem all_mk{l:PySem.W.OpenLaw}{K:PySem.W.Frag}{h:Heap}(X:K.In h)(G:h.Ns mainGlobals mg)(hfa:mg "law"=some (.ref fa))
  
  
  
  
  
  (qn2:HL K "House" Cn2)
  (qn0:HL K "Listed" Cn0)
  (qn3:HL K "Other" Cn3)
  (qn4:HL K "Minor" Cn4)
  (qn1:HL K "Known" Cn1)
  (qn6:HL K "Net" Cn6)
  (cn:HM K Cn2 "__init__" "House.__init__" s_House___init__ a4)
  (bp:HM K Cn2 "everything" "House.everything" s_House_everything ag)
  (nan2_many:findIn K (.ref Cn2) "many"=some none)
  (in2:HI K Cn2)
  (isn2_House:kitOne K (.ref Cn2) (.ref Cn2)=some true)
  (b5:HM K Cn0 "__init__" "Listed.__init__" s_Listed___init__ b4)
  (ea:HM K Cn0 "rank" "Listed.rank" s_Listed_rank d7)
  (hn0_everything:findIn K (.ref Cn0) "everything"=some (some (.ref ag)))
  (nan0_many:findIn K (.ref Cn0) "many"=some none)
  (nan0_listed:findIn K (.ref Cn0) "listed"=some none)
  (in0:HI K Cn0)
  (isn0_House:kitOne K (.ref Cn0) (.ref Cn2)=some true)
  (eH:HM K Cn3 "rank" "Other.rank" s_Other_rank eG)
  (cp:HM K Cn3 "__init__" "Other.__init__" s_Other___init__ cm)
  (hn3_everything:findIn K (.ref Cn3) "everything"=some (some (.ref ag)))
  (nan3_many:findIn K (.ref Cn3) "many"=some none)
  (nan3_house:findIn K (.ref Cn3) "house"=some none)
  (nan3_full:findIn K (.ref Cn3) "full"=some none)
  (nan3_full_rank:findIn K (.ref Cn3) "full_rank"=some none)
  (in3:HI K Cn3)
  (isn3_House:kitOne K (.ref Cn3) (.ref Cn2)=some true)
  (ct:HM K Cn4 "__init__" "Minor.__init__" s_Minor___init__ cg)
  (eL:HM K Cn4 "rank" "Minor.rank" s_Minor_rank eE)
  (hn4_everything:findIn K (.ref Cn4) "everything"=some (some (.ref ag)))
  (nan4_many:findIn K (.ref Cn4) "many"=some none)
  (nan4_house:findIn K (.ref Cn4) "house"=some none)
  (nan4_kept:findIn K (.ref Cn4) "kept"=some none)
  (nan4_drawn:findIn K (.ref Cn4) "drawn"=some none)
  (nan4_drawn_rank:findIn K (.ref Cn4) "drawn_rank"=some none)
  (in4:HI K Cn4)
  (isn4_House:kitOne K (.ref Cn4) (.ref Cn2)=some true)
  (cK:HM K Cn1 "__init__" "Known.__init__" s_Known___init__ cb)
  (eM:HM K Cn1 "rank" "Known.rank" s_Known_rank eB)
  (hn1_everything:findIn K (.ref Cn1) "everything"=some (some (.ref ag)))
  (nan1_many:findIn K (.ref Cn1) "many"=some none)
  (nan1_told:findIn K (.ref Cn1) "told"=some none)
  (in1:HI K Cn1)
  (isn1_House:kitOne K (.ref Cn1) (.ref Cn2)=some true)
  (dx:HM K Cn6 "__init__" "Net.__init__" s_Net___init__ dw)
  (eN:HM K Cn6 "pieces" "Net.pieces" s_Net_pieces eA)
  (hq:HM K Cn6 "rank" "Net.rank" s_Net_rank hp)
  (hn6_everything:findIn K (.ref Cn6) "everything"=some (some (.ref ag)))
  (nan6_many:findIn K (.ref Cn6) "many"=some none)
  (nan6_points:findIn K (.ref Cn6) "points"=some none)
  (nan6_ties:findIn K (.ref Cn6) "ties"=some none)
  (in6:HI K Cn6)
  (isn6_House:kitOne K (.ref Cn6) (.ref Cn2)=some true)
  (i2:HD K "holds" s_holds)
  (hX:HD K "things" s_things)
  (kv:HD K "size" s_size)
  (hY:HD K "set_of" s_set_of)
  (hZ:HD K "within" s_within)
  (jl:HD K "parts" s_parts)
  (hI:HD K "choices" s_choices)
  (h1:HD K "spread" s_spread)
  (h2:HD K "all_of" s_all_of)
  (k0:HD K "less" s_less)
  (gy:HD K "exchanged" s_exchanged)
  (k1:HD K "tied" s_tied)
  (js:HD K "ranks" s_ranks)
  (j0:HD K "rests" s_rests)
  (eb:HD K "pivot_place" s_pivot_place)
  (hK:HD K "cleared" s_cleared)
  (ec:HD K "all_cleared" s_all_cleared)
  (hL:HD K "rank_of" s_rank_of)
  (a5:HD K "whole_rank" s_whole_rank)
  (j1:HD K "frees" s_frees)
  (j2:HD K "bases" s_bases)
  (hM:HD K "is_even" s_is_even)
  (hN:HD K "holders" s_holders)
  (hr:HD K "is_seven" s_is_seven)
  (hO:HD K "kind_of" s_kind_of)
  (dK:HD K "columns_with" s_columns_with)
  (k2:HD K "fits" s_fits)
  (eP:HD K "column_for" s_column_for)
  (h3:HD K "single" s_single)
  (gN:HD K "table_for" s_table_for)
  (ed:HD K "left_barred" s_left_barred)
  (gV:HD K "told_over" s_told_over)
  (hs:HD K "over_two" s_over_two)
  (eR:HD K "_law_whole" s__law_whole)
  (ha:HD K "_law_size" s__law_size)
  (ht:HD K "_law_far" s__law_far)
  (eW:HD K "_law_ranks" s__law_ranks)
  (bt:HD K "_law_determinant" s__law_determinant)
  (e0:HD K "_law_minor" s__law_minor)
  (e1:HD K "_law_seven" s__law_seven)
  (hb:HD K "_law_kind" s__law_kind)
  (bu:HD K "_law_table_right" s__law_table_right)
  (e2:HD K "_law_right" s__law_right)
  (hu:HD K "_law_net" s__law_net)
  (hv:HD K "_law_put" s__law_put)
  (hc:HD K "_law_idle" s__law_idle)
  (an5:nsIn K mainGlobals "law"=some (some (.ref fn5)))
  (ln5:K.lookup fn5=some ⟨ocn5,odn5, .func (fnOf "law" "law" (cy s_law) (aR s_law) (ak s_law) .none kVn5 dcn5 pmn5 ann5 cdn5 ctn5),sln5⟩)
  (cn5:codeIn K cdn5 "law"=true)
  (kn5:keepIn K (.ref fn5)=true)
  (la:nsIn K mainGlobals "len"=some none)
  (j8:nsIn K mainGlobals "range"=some none)
  (e3:nsIn K mainGlobals "isinstance"=some none)
  (lb:nsIn K mainGlobals "int"=some none)
  (k3:nsIn K mainGlobals "bool"=some none)
  (k4:nsIn K mainGlobals "list"=some none)
  (lg:nsIn K mainGlobals "set"=some none)
  (kb:nsIn K mainGlobals "tuple"=some none)
  (lk:nsIn K mainGlobals "max"=some none)
  (ll:nsIn K mainGlobals "min"=some none)
  (lq:nsIn K mainGlobals "zip"=some none)
  (hg:nsIn K mainGlobals "enumerate"=some none)
  (lx:nsIn K mainGlobals "sum"=some none)
  (h4:nsIn K mainGlobals "sorted"=some none)
  (k5:nsIn K mainGlobals "dict"=some none)
  (ly:nsIn K mainGlobals "all"=some none)
  (lz:nsIn K mainGlobals "str"=some none)
  (hx:nsIn K mainGlobals "reversed"=some none)
  (kII:kitOne K (.type "int") (.type "int")=some true)
  (kIB:kitOne K (.type "int") (.type "bool")=some false)
  (kTT:kitOne K (.type "tuple") (.type "tuple")=some true)
  (kLL:kitOne K (.type "list") (.type "list")=some true)
  (kSS:kitOne K (.type "str") (.type "str")=some true)
  (gaH:specialIn K (.ref Cn2) "__getattribute__"=some (some (.builtin "type.__getattribute__")))
  (rdH:PySem.W.readsIn K Cn2 (.type "type")=true)
  (fcH:PySem.W.findCls K (.ref Cn2) (.type "type") "__init__"=some (.val (.ref a4)))
  (neG:Cn0≠Cn6/\Cn3≠Cn4)
  (ef:nsIn K mainGlobals "TWO_OF_FOUR"=some (some (.str aI t1)))
  (ei:nsIn K mainGlobals "TWO_OF_FIVE"=some (some (.str dh t2)))
  (dt:nsIn K mainGlobals "THREE_OF_FIVE"=some (some (.str cB t3)))
  (kc:nsIn K mainGlobals "SEVEN"=some (some (.str jx t4)))
  (ej:nsIn K mainGlobals "OTHER_SEVEN"=some (some (.str di t5))):
  ∃fd:FuncData,(∀ (s:Shared) (v:Value),BindsTo s fd ⟨[v],[]⟩ [("_law_script",v)])/\∀base:Heap,K.In base->base.Ns mainGlobals mg->gQ l.prog w K mg base CX0 14 fa fd ["_law_script"] (vX K):=by
 have e:=hfa.symm.trans (IL X G an5);cases e;have T:Tb K mg:=⟨Ht X G la,Ht X G j8,Ht X G e3,Ht X G lb,Ht X G k3,Ht X G k4,Ht X G lg,Ht X G kb,Ht X G lk,Ht X G ll,Ht X G lq,Ht X G hg,Ht X G lx,Ht X G h4,Ht X G k5,Ht X G ly,Ht X G lz,Ht X G hx,kII,kIB,kTT,kLL,kSS⟩;obtain⟨aCn2,pgn2,hdn2,pon2,san2,mkn2,kcn2⟩:=qn2;have gn2:=IL X G aCn2;have Kn2:Cls K Cn2:=⟨pgn2,hdn2,pon2,san2⟩;obtain⟨ian2,ibn2,icn2,idn2⟩:=in2;obtain⟨aCn0,pgn0,hdn0,pon0,san0,mkn0,kcn0⟩:=qn0;have gn0:=IL X G aCn0;have Kn0:Cls K Cn0:=⟨pgn0,hdn0,pon0,san0⟩;obtain⟨ian0,ibn0,icn0,idn0⟩:=in0;obtain⟨aCn3,pgn3,hdn3,pon3,san3,mkn3,kcn3⟩:=qn3;have gn3:=IL X G aCn3;have Kn3:Cls K Cn3:=⟨pgn3,hdn3,pon3,san3⟩;obtain⟨ian3,ibn3,icn3,idn3⟩:=in3;obtain⟨aCn4,pgn4,hdn4,pon4,san4,mkn4,kcn4⟩:=qn4;have gn4:=IL X G aCn4;have Kn4:Cls K Cn4:=⟨pgn4,hdn4,pon4,san4⟩;obtain⟨ian4,ibn4,icn4,idn4⟩:=in4;obtain⟨aCn1,pgn1,hdn1,pon1,san1,mkn1,kcn1⟩:=qn1;have gn1:=IL X G aCn1;have Kn1:Cls K Cn1:=⟨pgn1,hdn1,pon1,san1⟩;obtain⟨ian1,ibn1,icn1,idn1⟩:=in1;obtain⟨aCn6,pgn6,hdn6,pon6,san6,mkn6,kcn6⟩:=qn6;have gn6:=IL X G aCn6;have Kn6:Cls K Cn6:=⟨pgn6,hdn6,pon6,san6⟩;obtain⟨ian6,ibn6,icn6,idn6⟩:=in6;obtain⟨cL,h5,h6,h7⟩:=cn.at (ps:=["self","n"]);obtain⟨bN,hP,ai,ar⟩:=bp.at (ps:=["self"]);obtain⟨b6,b7,b8,hW⟩:=b5.at (ps:=["self","n","some"]);obtain⟨ek,el,en,ep⟩:=ea.at (ps:=["self","s"]);obtain⟨dT,dV,d1,kd⟩:=dx.at (ps:=["self","n","points","ties"]);obtain⟨e4,e5,e6,e8⟩:=eN.at (ps:=["self","s"]);obtain⟨hy,hz,hA,hB⟩:=hq.at (ps:=["self","s"]);obtain⟨cM,cN,cO,h8⟩:=cK.at (ps:=["self","house"]);obtain⟨e9,fe,fl,fm⟩:=eM.at (ps:=["self","s"]);obtain⟨c1,c2,c3,ih⟩:=ct.at (ps:=["self","house","out","drawn"]);obtain⟨fp,fs,fu,fw⟩:=eL.at (ps:=["self","s"]);obtain⟨fx,fy,fA,fB⟩:=eH.at (ps:=["self","s"]);obtain⟨c4,dc,dd,il⟩:=cp.at (ps:=["self","house"]);have Fn5:=nS (st:=s_law) ln5 cn5 kn5;refine⟨fnOf "law" "law" (cy s_law) (aR s_law) (ak s_law) .none kVn5 dcn5 pmn5 ann5 cdn5 ctn5,λs v=> .of_eq rfl,λbase KB GB=> ?_⟩;have bl:=IL X G ef;have er:=IL X G ei;have dv:=IL X G dt;have ke:=IL X G kc;have es:=IL X G ej;have z0:=wH Cn0 Cn6;have zK:=ER Cn1;have zM:=De zK Cn4;have zO:=EO zM Cn3;have hc0:∀C,(nQ Cn0 Cn6).dom C->HC K Cn2 C:=λC dm=>by(rcases dm with rfl|rfl);exact⟨Kn0,nan0_many,⟨ian0,ibn0,icn0,idn0⟩,isn0_House⟩;exact⟨Kn6,nan6_many,⟨ian6,ibn6,icn6,idn6⟩,isn6_House⟩
 have hcK:∀C,(hsN Cn1).dom C->HC K Cn2 C:=λC dm=>by cases dm;exact⟨Kn1,nan1_many,⟨ian1,ibn1,icn1,idn1⟩,isn1_House⟩
 have hcM:∀C,(lK (hsN Cn1) Cn4).dom C->HC K Cn2 C:=λC dm=>by cases dm;exact⟨Kn4,nan4_many,⟨ian4,ibn4,icn4,idn4⟩,isn4_House⟩
 have hcO:∀C,(hsO (lK (hsN Cn1) Cn4) Cn3).dom C->HC K Cn2 C:=λC dm=>by(rcases dm with dm|rfl);exact hcM C dm;exact⟨Kn3,nan3_many,⟨ian3,ibn3,icn3,idn3⟩,isn3_House⟩
 have neO:∀C,(lK (hsN Cn1) Cn4).dom C->Cn3≠C:=λC dm=>by cases dm;exact neG.2
 have ho:=AS l.prog w base (i2.at X G);have a3:=yf l.prog w base T (hX.at X G) ho;have a6:=CT l.prog w base T (kv.at X G) a3;have fI:=yi l.prog w base (hY.at X G);have iv:=ye l.prog w base (hZ.at X G);have d2:=AR l.prog w base T (jl.at X G) a3;have bk:=uW l.prog w base T (hI.at X G) d2 a6;have ix:=yg l.prog w base T (h1.at X G) fI a3 ho;have iR:=yj l.prog w base (h2.at X G);have b0:=CU l.prog w base (k0.at X G);have hh:=qO l.prog w base (gy.at X G) b0;have ay:=jW l.prog w base (mg:=mg) cL;have ax:=iZ l.prog w base bN iR;have b9:=ji l.prog w base T b6 gn2 Kn0 nan0_many nan0_listed ⟨⟨_,ay,fcH⟩,gaH,rdH⟩;have et:=ny l.prog w base T ek Kn0 nan0_listed a6;have k6:=CS l.prog w base (k1.at X G);have d3:=lI l.prog w base T dT gn2 Kn6 nan6_many nan6_points nan6_ties ⟨⟨_,ay,fcH⟩,gaH,rdH⟩;have fU:=oP l.prog w base T e4 Kn6 nan6_points nan6_ties a3 k6;have hC:=sV l.prog w base hy Kn6 nan6_points (λC h=>by subst h;exact⟨Kn6,_,⟨e5,e6,e8⟩,fU⟩);have me0:∀C,(nQ Cn0 Cn6).dom C->bV l.prog w K mg base 2 C "everything" ["self"] (cJ K):=λC dm=>by(rcases dm with rfl|rfl);exact⟨Kn0,_,⟨hn0_everything,ai,ar⟩,ax⟩;exact⟨Kn6,_,⟨hn6_everything,ai,ar⟩,ax⟩
 have m0:∀C,(nQ Cn0 Cn6).dom C->bV l.prog w K mg base 6 C "rank" ["self","s"] (fL (nQ Cn0 Cn6) C):=λC dm=>by(rcases dm with rfl|rfl);exact bV.imp (bV.mono ⟨Kn0,_,⟨el,en,ep⟩,et⟩ (by decide)) (Cp neG.1);exact bV.imp (bV.mono ⟨Kn6,_,⟨hz,hA,hB⟩,hC⟩ (by decide)) (Co neG.1)
 have kk:=AQ l.prog w base z0 (js.at X G) hc0 m0 me0 d2;have kl:=AO l.prog w base T (j0.at X G);have ew:=nq l.prog w base T (eb.at X G);have hQ:=sR l.prog w base T (hK.at X G);have ey:=lH l.prog w base T (ec.at X G) hQ;have hR:=uS l.prog w base T (hL.at X G) kl ew ey;have dj:=jV l.prog w base T cM gn2 Kn1 nan1_many nan1_told z0 hc0 ⟨⟨_,ay,fcH⟩,gaH,rdH⟩ kk;have fV:=oR l.prog w base (mg:=mg) e9 Kn1 nan1_told;have meK:∀C,(hsN Cn1).dom C->bV l.prog w K mg base 2 C "everything" ["self"] (cJ K):=λC dm=>by cases dm;exact⟨Kn1,_,⟨hn1_everything,ai,ar⟩,ax⟩
 have mK:∀C,(hsN Cn1).dom C->bV l.prog w K mg base 4 C "rank" ["self","s"] (fL (hsN Cn1) C):=λC dm=>by cases dm;exact bV.imp (bV.mono ⟨Kn1,_,⟨fe,fl,fm⟩,fV⟩ (by decide)) D1
 have a0:=f6 l.prog w base zK hcK (a5.at X G) (by decide) meK mK;have kp:=AU l.prog w base zK hcK (j1.at X G) mK meK d2 a6;have ks:=AV l.prog w base zK (j2.at X G) a0 kp a6;have dp:=jU l.prog w base c1 gn2 Kn4 nan4_many nan4_house nan4_kept nan4_drawn nan4_drawn_rank zK hcK (by decide) ⟨⟨_,ay,fcH⟩,gaH,rdH⟩ b0 a6 meK mK;have f3:=oQ l.prog w base fp Kn4 nan4_house nan4_kept nan4_drawn nan4_drawn_rank zK (by decide) ix mK;have meM:∀C,(lK (hsN Cn1) Cn4).dom C->bV l.prog w K mg base 2 C "everything" ["self"] (cJ K):=λC dm=>by cases dm;exact⟨Kn4,_,⟨hn4_everything,ai,ar⟩,ax⟩
 have mM:∀C,(lK (hsN Cn1) Cn4).dom C->bV l.prog w K mg base 5 C "rank" ["self","s"] (fL (lK (hsN Cn1) Cn4) C):=λC dm=>by cases dm;exact⟨Kn4,_,⟨fs,fu,fw⟩,f3⟩
 have f5:=oO l.prog w base (C_House:=Cn2) fx Kn3 nan3_house nan3_full nan3_full_rank zM neO (by decide) b0 a6 mM;have dr:=jT l.prog w base c4 gn2 Kn3 nan3_many nan3_house nan3_full nan3_full_rank hcM zM (by decide) ⟨⟨_,ay,fcH⟩,gaH,rdH⟩ meM mM;have meO:∀C,(hsO (lK (hsN Cn1) Cn4) Cn3).dom C->bV l.prog w K mg base 2 C "everything" ["self"] (cJ K):=λC dm=>by(rcases dm with dm|rfl);exact meM C dm;exact⟨Kn3,_,⟨hn3_everything,ai,ar⟩,ax⟩
 have mO:∀C,(hsO (lK (hsN Cn1) Cn4) Cn3).dom C->bV l.prog w K mg base 6 C "rank" ["self","s"] (fL (hsO (lK (hsN Cn1) Cn4) Cn3) C):=λC dm=>by(rcases dm with dm|rfl);exact bV.imp (bV.mono (mM C dm) (by decide)) (xA (neO C dm));exact⟨Kn3,_,⟨fy,fA,fB⟩,f5⟩
 have wM:=f6 l.prog w base zM hcM (a5.at X G) (by decide) meM mM;have wO:=f6 l.prog w base zO hcO (a5.at X G) (by decide) meO mO;have hS:=uU l.prog w base T zM hcM (hM.at X G) (by decide) meM mM wM bk;have hT:=uV l.prog w base T (hN.at X G) iv;have hD:=sQ l.prog w base T zO hcO (hr.at X G) (by decide) meO mO wO bk a6 hT;have hV:=uT l.prog w base (C_House:=Cn2) (j:=5) zM (hO.at X G) (by decide) bl er dv ke es hS ⟨⟨_,⟨mkn3,dc,dd,kcn3⟩,dr⟩,gn3⟩ hD;have d4:=lG l.prog w base T (dK.at X G);have k8:=CV l.prog w base T zK hcK (k2.at X G) mK a0 bk fI a3 hR;have gb:=oH l.prog w base T zK hcK (eP.at X G) mK a0 a3 hh d4 k8;have i1:=yh l.prog w base T (h3.at X G);have hi:=qN l.prog w base T zK hcK (gN.at X G) meK a0 a3 b0 ks i1 gb;have ez:=nr l.prog w base (j:=8) T zK hcK (ed.at X G) (by decide) meK a0 bk b0 ⟨⟨_,⟨mkn4,c2,c3,kcn4⟩,dp⟩,gn4⟩ hV;have hj:=qM l.prog w base T z0 zK (gV.at X G) (by decide) ⟨⟨_,⟨mkn1,cN,cO,kcn1⟩,dj⟩,gn1⟩ hi ez;have hE:=sP l.prog w base z0 (hs.at X G) bl hj;have b1:=oI l.prog w base T (eR.at X G);have aA:=qP l.prog w base (ha.at X G);have hF:=sU l.prog w base T (ht.at X G) aA;have gd:=oM l.prog w base T (eW.at X G) aA;have b2:=iY l.prog w base T (bt.at X G) aA;have gi:=oN l.prog w base T (e0.at X G);have gj:=oJ l.prog w base T (e1.at X G) aA;have hk:=qQ l.prog w base T (hb.at X G) aA gj;have b3:=iX l.prog w base T (bu.at X G) aA b1 b2;have gk:=oK l.prog w base T (e2.at X G) b1 hk gi b3;have hG:=sT l.prog w base T (hu.at X G) aA ⟨⟨_,⟨mkn6,dV,d1,kcn6⟩,d3⟩,gn6⟩;have hH:=sS l.prog w base (hv.at X G);have hn:=qR l.prog w base T (hc.at X G) hH;exact Ex l.prog w base Fn5 T ⟨⟨_,⟨mkn0,b7,b8,kcn0⟩,b9⟩,gn0⟩ hF gd hn hG hE gk
theorem walk{l:PySem.W.OpenLaw}{q:Program}{loose:List Str}{XP:(Str->Option Value)->Heap->Prop}{YP:World->Heap->Prop}{d:DefRec}{K:Params->PySem.W.Frag}(hn:l.most=some 63)(hdf:d.params.defaults=[])
  (hY:∀ (w:World) (h:Heap),YP w h->(K w.params).In h)
  (F:∀ (w:World) (mg:Str->Option Value) (fa:Addr) (h:Heap),(K w.params).In h->h.Ns mainGlobals mg->mg d.name=some (.ref fa)->
   ∃fd:FuncData,(∀ (s:Shared) (u:Value),BindsTo s fd ⟨[u],[]⟩ [("_law_script",u)])/\∀base:Heap,(K w.params).In base->base.Ns mainGlobals mg->gQ l.prog w (K w.params) mg base CX0 14 fa fd ["_law_script"] (vX (K w.params))):
  PySem.W.WalkO q loose XP YP l.row.toRowW d [] (λf vs=>PySem.call f vs):=
 L2.vM (n:=63) (k:=14) (x:= "_law_script") (CX:=λ_=>CX0) (sp:=λw=>vX (K w.params)) hn (by decide) hdf ⟨rfl,by decide,by decide⟩ hY F (λ_ _ a ns hl _ hS=>⟨a,ns,rfl,hS,hl,λ_=>rfl⟩) λ_ _ _ _ _ z=>z
end BhK
namespace Hd
open PySem PySem.W PySem.Calls PyProof.Rows
theorem _root_.PySem.W.Fast.te7239439084724097079:True:=trivial
open PySem.W.Fast PySem.Challenge BhK
noncomputable section
abbrev R(a:Nat):Value:= .ref a
abbrev V(x:Str)(t:Nat):Value:= .str x t
abbrev I(i:Int):Value:= .int i 0
abbrev E(P:Params)(x:Str)(t:Nat)(v:Value):DictEntry:=⟨PyData.keyHash P x, .str x t,v⟩
abbrev Y:Obj:=⟨.type "tuple",none, .seq #[] 0, #[]⟩
abbrev T(l:List Value):Obj:=⟨.type "tuple",none, .seq ⟨l⟩ 0, #[]⟩
abbrev Z:Obj:=⟨.none,none, .fields #[], #[]⟩
abbrev W(l:List Value):Obj:=⟨.none,none, .fields ⟨l⟩, #[]⟩
abbrev F(n q:Str)(s:Stmt)(g:Nat)(dv kv doc pm:Value)(an:Option Nat)(cd ct:Value)(b:Nat):FuncData:=⟨n,q,L2.cy s, .stmts (L2.aR s),L2.ak s,g,[],dv,kv,doc,pm,an,cd,ct,b⟩
abbrev C(n q:Str)(t:Nat)(l k g:Int)(x:Nat)(b:Bool)(u v w:Value)(d:Nat):Obj:=⟨.type "code",none, .fields ⟨[.str n t, .str q (t.add 1), .str "/claim/cut.py" (t.add 2), .int l 0, .int k 0, .int 0 0, .int 0 0, .int g 0, .ref x, .bool b, .int 181 0, .ref (x.add 1), .none,u,v,w, .int d 0, .int l 0, .str "/claim/cut.py" (d.add 1)]⟩, #[]⟩
abbrev ff(n q:Str)(s:Stmt):Obj:=⟨.none,none, .func (F n q s 0 .none .none .none .none none .none .none 0), #[]⟩
abbrev fk(n q:Str)(s:Stmt)(m:Value)(c:Nat):Obj:=⟨.type "function",none, .func (F n q s 3 .none .none .none m none (.ref c) .none 0), #[]⟩
abbrev f1(n:Str)(s:Stmt):Obj:=ff n n s
abbrev f2(n:Str)(s:Stmt)(m:Value)(c:Nat):Obj:=fk n n s m c
abbrev C1(n:Str)(t:Nat)(l k g:Int)(x:Nat)(b:Bool)(u v w:Value)(d:Nat):Obj:=C n n t l k g x b u v w d
abbrev D(l:List DictEntry)(k:Nat):Obj:=⟨.type "dict",none, .dict ⟨l⟩ k, #[]⟩
abbrev fr(a b:Nat)(m:Value):Obj:=⟨.type "frame",none,Data.plain, #[some (R a),some (R 3),some (R b),none,some m,none,some (R 0)]⟩
abbrev bf(n:String)(v:Value):Obj:=⟨.type "builtin_function_or_method",none, .fields ⟨[.builtin n,v]⟩, #[]⟩
abbrev m0:Value:=V "basehouse.houses" 271
abbrev m1:Value:=V "basehouse.sets" 187
abbrev m2:Value:=V "House" 281
abbrev m3:Value:=V "House" 273
abbrev m4:Value:=V "basehouse.turned" 376
abbrev m5:Value:=V "basehouse.tellings" 349
abbrev m6:Value:=V "basehouse.barred" 453
abbrev m7:Value:=V "basehouse.fields" 526
abbrev m8:Value:=V "basehouse.pivots" 490
abbrev m9:Value:=V "basehouse.nets" 625
abbrev m10:Value:=V "law_basehouse_k41_tables_over_two" 675
abbrev o13:=C1 "<module>" 182 1 0 0 11 false .none .none .none 185
abbrev o14:=fr 13 3 (V "__main__" 164)
abbrev g0(P:Params):List DictEntry:=[E P "__name__" 165 m0]
abbrev g1(P:Params):List DictEntry:=[E P "__doc__" 166 .none,E P "__package__" 167 .none,E P "__loader__" 168 (.builtin "__main__.__loader__#opaque"),E P "__spec__" 169 .none,E P "__annotations__" 170 (R 6),E P "__builtins__" 171 (R 4),E P "__file__" 173 (V "/claim/cut.py" 172),E P "__cached__" 174 .none,E P "holds" 196 (R 21),E P "things" 202 (R 26),E P "size" 209 (R 33),E P "set_of" 218 (R 40),E P "within" 226 (R 47),E P "parts" 232 (R 52),E P "choices" 238 (R 57),E P "spread" 244 (R 62),E P "all_of" 251 (R 69),E P "less" 259 (R 76),E P "exchanged" 270 (R 83)]
abbrev o3v1(P:Params):=D ((g0 P).append (g1 P)) 20
abbrev g2:List Value:=[(I 2)]
abbrev g3:List Value:=[(I 0),(R 20),(I 4),(I 0),(R 25),(I 6),(I 0),(R 32),(I 8),(I 0),(R 39),(I 13),(I 0),(R 46),(I 15),(I 0),(R 51),(I 20),(I 0),(R 56),(I 22),(I 0),(R 61),(I 24),(I 0),(R 68),(I 26),(I 0),(R 75),(I 29),(I 0),(R 82)]
abbrev o12v1:=W (g2.append g3)
abbrev o17:=T [(V "s" 192),(V "thing" 193)]
abbrev o19:=f1 "holds" s_holds
abbrev o20:=C1 "holds" 189 2 2 3 15 true (R 17) (R 18) (R 19) 194
abbrev o21:=f2 "holds" s_holds m1 20
abbrev o24:=f1 "things" s_things
abbrev o25:=C1 "things" 197 4 1 3 22 true .none .none (R 24) 200
abbrev o26:=f2 "things" s_things m1 25
abbrev o29:=T [(V "s" 206)]
abbrev o31:=f1 "size" s_size
abbrev o32:=C1 "size" 203 6 1 3 27 true (R 29) (R 30) (R 31) 207
abbrev o33:=f2 "size" s_size m1 32
abbrev o36:=T [(V "some" 213),(V "s" 214),(V "thing" 215)]
abbrev o38:=f1 "set_of" s_set_of
abbrev o39:=C1 "set_of" 210 8 1 3 34 true (R 36) (R 37) (R 38) 216
abbrev o40:=f2 "set_of" s_set_of m1 39
abbrev o43:=T [(V "s" 222),(V "t" 223)]
abbrev o45:=f1 "within" s_within
abbrev o46:=C1 "within" 219 13 2 3 41 true (R 43) (R 44) (R 45) 224
abbrev o47:=f2 "within" s_within m1 46
abbrev o50:=f1 "parts" s_parts
abbrev o51:=C1 "parts" 227 15 1 3 48 true .none .none (R 50) 230
abbrev o52:=f2 "parts" s_parts m1 51
abbrev o55:=f1 "choices" s_choices
abbrev o56:=C1 "choices" 233 20 2 3 53 true .none .none (R 55) 236
abbrev o57:=f2 "choices" s_choices m1 56
abbrev o60:=f1 "spread" s_spread
abbrev o61:=C1 "spread" 239 22 2 3 58 true .none .none (R 60) 242
abbrev o62:=f2 "spread" s_spread m1 61
abbrev o65:=T [(V "n" 248)]
abbrev o67:=f1 "all_of" s_all_of
abbrev o68:=C1 "all_of" 245 24 1 3 63 true (R 65) (R 66) (R 67) 249
abbrev o69:=f2 "all_of" s_all_of m1 68
abbrev o72:=T [(V "s" 255),(V "t" 256)]
abbrev o74:=f1 "less" s_less
abbrev o75:=C1 "less" 252 26 2 3 70 true (R 72) (R 73) (R 74) 257
abbrev o76:=f2 "less" s_less m1 75
abbrev o79:=T [(V "s" 265),(V "thing" 266),(V "y" 267)]
abbrev o81:=f1 "exchanged" s_exchanged
abbrev o82:=C1 "exchanged" 262 29 3 3 77 true (R 79) (R 80) (R 81) 268
abbrev o83:=f2 "exchanged" s_exchanged (V "basehouse.breaks" 260) 82
abbrev g4(P:Params):List DictEntry:=[E P "House" 316 (R 114)]
abbrev o3v2(P:Params):=D ((g0 P).append ((g1 P).append (g4 P))) 21
abbrev g5:List Value:=[(I 32),(I 0),(R 89)]
abbrev o12v2:=W (g2.append (g3.append g5))
abbrev o85:=bf "type.__prepare__" (.type "type")
abbrev o86(P:Params):=D ([E P "__module__" 280 m0,E P "__qualname__" 282 m2,E P "__firstlineno__" 284 (.int 32 283),E P "__init__" 292 (R 97),E P "rank" 300 (R 104),E P "everything" 307 (R 111),E P "__static_attributes__" 309 (R 112)]) 7
abbrev o88:=W [(I 34),(I 4),(R 96),(I 37),(I 4),(R 103),(I 40),(I 4),(R 110)]
abbrev o89:=C1 "House" 275 32 0 0 87 false .none .none .none 278
abbrev o90:=fr 89 86 m0
abbrev o93:=T [(V "self" 288),(V "n" 289)]
abbrev o95:=ff "__init__" "House.__init__" s_House___init__
abbrev o96:=C "__init__" "House.__init__" 285 34 2 3 91 true (R 93) (R 94) (R 95) 290
abbrev o97:=fk "__init__" "House.__init__" s_House___init__ m0 96
abbrev o100:=T [(V "self" 296),(V "s" 297)]
abbrev o102:=ff "rank" "House.rank" s_House_rank
abbrev o103:=C "rank" "House.rank" 293 37 2 3 98 true (R 100) (R 101) (R 102) 298
abbrev o104:=fk "rank" "House.rank" s_House_rank m0 103
abbrev o107:=T [(V "self" 304)]
abbrev o109:=ff "everything" "House.everything" s_House_everything
abbrev o110:=C "everything" "House.everything" 301 40 1 3 105 true (R 107) (R 108) (R 109) 305
abbrev o111:=fk "everything" "House.everything" s_House_everything m0 110
abbrev o112:=T [(V "many" 308)]
abbrev o113(P:Params):=D ([E P "__module__" 280 m0,E P "__firstlineno__" 284 (.int 32 283),E P "__init__" 292 (R 97),E P "rank" 300 (R 104),E P "everything" 307 (R 111),E P "__static_attributes__" 309 (R 112),E P "__dict__" 311 (R 115),E P "__weakref__" 313 (R 116),E P "__doc__" 314 .none]) 4
abbrev o114:Obj:=⟨(.type "type"),none,Data.cls {name:=Str.ofString "House",bases:=[Value.type "object"],mro:=[Value.ref 114,Value.type "object"],ns:=113,qualname:=Str.ofString "House"}, #[none,none,some m3,some m2,some (.builtin "object.__new__"),some (.bool true)]⟩
abbrev o115:Obj:=⟨(.type "getset_descriptor"),none, .fields ⟨[(V "__dict__" 310),(R 114),(.builtin "function.__dict__"),(.builtin "function.__dict__#set")]⟩, #[]⟩
abbrev o116:Obj:=⟨(.type "getset_descriptor"),none, .fields ⟨[(V "__weakref__" 312),(R 114),(.builtin "ExceptionGroup.__weakref__"), .none]⟩, #[]⟩
abbrev o117:Obj:=⟨(.type "super"),none, .fields ⟨[(R 114),(R 114),(R 114)]⟩, #[]⟩
abbrev o118:=bf "object.__init_subclass__" (R 114)
abbrev g6(P:Params):List DictEntry:=[E P "__name__" 165 m4]
abbrev g7(P:Params):List DictEntry:=[E P "Listed" 348 (R 140),E P "whole_rank" 357 (R 149),E P "ranks" 363 (R 154),E P "frees" 369 (R 159),E P "bases" 375 (R 164)]
abbrev o3v3(P:Params):=D ((g6 P).append ((g1 P).append ((g4 P).append (g7 P)))) 26
abbrev g8:List Value:=[(I 42),(I 0),(R 124),(I 51),(I 0),(R 148),(I 53),(I 0),(R 153),(I 55),(I 0),(R 158),(I 57),(I 0),(R 163)]
abbrev o12v3:=W (g2.append (g3.append (g5.append g8)))
abbrev o114v1:Obj:=⟨(.type "type"),none,Data.cls {name:=Str.ofString "House",bases:=[Value.type "object"],mro:=[Value.ref 114,Value.type "object"],ns:=113,qualname:=Str.ofString "House",subclasses:=[Value.ref 140]}, #[none,none,some m3,some m2,some (.builtin "object.__new__"),some (.bool true)]⟩
abbrev o119:=T [(R 114)]
abbrev o120:=bf "type.__prepare__" (.type "type")
abbrev o121(P:Params):=D ([E P "__module__" 324 m0,E P "__qualname__" 326 (V "Listed" 325),E P "__firstlineno__" 328 (.int 42 327),E P "__init__" 337 (R 132),E P "rank" 343 (R 137),E P "__static_attributes__" 345 (R 138)]) 6
abbrev o123:=W [(I 44),(I 4),(R 131),(I 48),(I 4),(R 136)]
abbrev o124:=C1 "Listed" 319 42 0 0 122 false .none .none .none 322
abbrev o125:=fr 124 121 m0
abbrev o128:=T [(V "self" 332),(V "n" 333),(V "some" 334)]
abbrev o130:=ff "__init__" "Listed.__init__" s_Listed___init__
abbrev o131:=C "__init__" "Listed.__init__" 329 44 3 3 126 true (R 128) (R 129) (R 130) 335
abbrev o132:=fk "__init__" "Listed.__init__" s_Listed___init__ m0 131
abbrev o135:=ff "rank" "Listed.rank" s_Listed_rank
abbrev o136:=C "rank" "Listed.rank" 338 48 2 3 133 true .none .none (R 135) 341
abbrev o137:=fk "rank" "Listed.rank" s_Listed_rank m0 136
abbrev o138:=T [(V "listed" 344)]
abbrev o139(P:Params):=D ([E P "__module__" 324 m0,E P "__firstlineno__" 328 (.int 42 327),E P "__init__" 337 (R 132),E P "rank" 343 (R 137),E P "__static_attributes__" 345 (R 138),E P "__doc__" 346 .none]) 2
abbrev o140:Obj:=⟨(.type "type"),none,Data.cls {name:=Str.ofString "Listed",bases:=[Value.ref 114],mro:=[Value.ref 140,Value.ref 114,Value.type "object"],ns:=139,qualname:=Str.ofString "Listed"}, #[some (R 119),none,some (V "Listed" 317),some (V "Listed" 325),some (.builtin "object.__new__"),some (.bool true)]⟩
abbrev o141:Obj:=⟨(.type "super"),none, .fields ⟨[(R 140),(R 140),(R 140)]⟩, #[]⟩
abbrev o142:=bf "object.__init_subclass__" (R 140)
abbrev o145:=T [(V "house" 354)]
abbrev o147:=f1 "whole_rank" s_whole_rank
abbrev o148:=C1 "whole_rank" 351 51 1 3 143 true (R 145) (R 146) (R 147) 355
abbrev o149:=f2 "whole_rank" s_whole_rank m5 148
abbrev o152:=f1 "ranks" s_ranks
abbrev o153:=C1 "ranks" 358 53 1 3 150 true .none .none (R 152) 361
abbrev o154:=f2 "ranks" s_ranks m5 153
abbrev o157:=f1 "frees" s_frees
abbrev o158:=C1 "frees" 364 55 1 3 155 true .none .none (R 157) 367
abbrev o159:=f2 "frees" s_frees m5 158
abbrev o162:=f1 "bases" s_bases
abbrev o163:=C1 "bases" 370 57 1 3 160 true .none .none (R 162) 373
abbrev o164:=f2 "bases" s_bases m5 163
abbrev g9(P:Params):List DictEntry:=[E P "Other" 413 (R 188)]
abbrev o3v4(P:Params):=D ((g6 P).append ((g1 P).append ((g4 P).append ((g7 P).append (g9 P))))) 27
abbrev g10:List Value:=[(I 61),(I 0),(R 170)]
abbrev o12v4:=W (g2.append (g3.append (g5.append (g8.append g10))))
abbrev o114v2:Obj:=⟨(.type "type"),none,Data.cls {name:=Str.ofString "House",bases:=[Value.type "object"],mro:=[Value.ref 114,Value.type "object"],ns:=113,qualname:=Str.ofString "House",subclasses:=[Value.ref 140,Value.ref 188]}, #[none,none,some m3,some m2,some (.builtin "object.__new__"),some (.bool true)]⟩
abbrev o165:=T [(R 114)]
abbrev o166:=bf "type.__prepare__" (.type "type")
abbrev o167(P:Params):=D ([E P "__module__" 385 m4,E P "__qualname__" 387 (V "Other" 386),E P "__firstlineno__" 389 (.int 61 388),E P "__init__" 397 (R 178),E P "rank" 406 (R 185),E P "__static_attributes__" 410 (R 186)]) 6
abbrev o169:=W [(I 63),(I 4),(R 177),(I 69),(I 4),(R 184)]
abbrev o170:=C1 "Other" 380 61 0 0 168 false .none .none .none 383
abbrev o171:=fr 170 167 m4
abbrev o174:=T [(V "self" 393),(V "house" 394)]
abbrev o176:=ff "__init__" "Other.__init__" s_Other___init__
abbrev o177:=C "__init__" "Other.__init__" 390 63 2 3 172 true (R 174) (R 175) (R 176) 395
abbrev o178:=fk "__init__" "Other.__init__" s_Other___init__ m4 177
abbrev o181:=T [(V "self" 401),(V "s" 402),(V "outside" 403)]
abbrev o183:=ff "rank" "Other.rank" s_Other_rank
abbrev o184:=C "rank" "Other.rank" 398 69 2 3 179 true (R 181) (R 182) (R 183) 404
abbrev o185:=fk "rank" "Other.rank" s_Other_rank m4 184
abbrev o186:=T [(V "full" 407),(V "full_rank" 408),(V "house" 409)]
abbrev o187(P:Params):=D ([E P "__module__" 385 m4,E P "__firstlineno__" 389 (.int 61 388),E P "__init__" 397 (R 178),E P "rank" 406 (R 185),E P "__static_attributes__" 410 (R 186),E P "__doc__" 411 .none]) 2
abbrev o188:Obj:=⟨(.type "type"),none,Data.cls {name:=Str.ofString "Other",bases:=[Value.ref 114],mro:=[Value.ref 188,Value.ref 114,Value.type "object"],ns:=187,qualname:=Str.ofString "Other"}, #[some (R 165),none,some (V "Other" 378),some (V "Other" 386),some (.builtin "object.__new__"),some (.bool true)]⟩
abbrev o189:Obj:=⟨(.type "super"),none, .fields ⟨[(R 188),(R 188),(R 188)]⟩, #[]⟩
abbrev o190:=bf "object.__init_subclass__" (R 188)
abbrev g11(P:Params):List DictEntry:=[E P "__name__" 165 m6]
abbrev g12(P:Params):List DictEntry:=[E P "Minor" 452 (R 214),E P "TWO_OF_FOUR" 456 (V "two of four" 455),E P "TWO_OF_FIVE" 458 (V "two of five" 457),E P "THREE_OF_FIVE" 460 (V "three of five" 459),E P "SEVEN" 462 (V "seven" 461),E P "OTHER_SEVEN" 464 (V "other seven" 463),E P "is_even" 470 (R 221),E P "holders" 476 (R 226)]
abbrev o3v5(P:Params):=D ((g11 P).append ((g1 P).append ((g4 P).append ((g7 P).append ((g9 P).append (g12 P)))))) 35
abbrev g13:List Value:=[(I 72),(I 0),(R 196),(I 90),(I 0),(R 220),(I 94),(I 0),(R 225)]
abbrev o12v5:=W (g2.append (g3.append (g5.append (g8.append (g10.append g13)))))
abbrev o114v3:Obj:=⟨(.type "type"),none,Data.cls {name:=Str.ofString "House",bases:=[Value.type "object"],mro:=[Value.ref 114,Value.type "object"],ns:=113,qualname:=Str.ofString "House",subclasses:=[Value.ref 140,Value.ref 188,Value.ref 214]}, #[none,none,some m3,some m2,some (.builtin "object.__new__"),some (.bool true)]⟩
abbrev o191:=T [(R 114)]
abbrev o192:=bf "type.__prepare__" (.type "type")
abbrev o193(P:Params):=D ([E P "__module__" 421 m4,E P "__qualname__" 423 (V "Minor" 422),E P "__firstlineno__" 425 (.int 72 424),E P "__init__" 436 (R 204),E P "rank" 444 (R 211),E P "__static_attributes__" 449 (R 212)]) 6
abbrev o195:=W [(I 74),(I 4),(R 203),(I 82),(I 4),(R 210)]
abbrev o196:=C1 "Minor" 416 72 0 0 194 false .none .none .none 419
abbrev o197:=fr 196 193 m4
abbrev o200:=T [(V "self" 429),(V "house" 430),(V "out" 431),(V "drawn" 432),(V "kept" 433)]
abbrev o202:=ff "__init__" "Minor.__init__" s_Minor___init__
abbrev o203:=C "__init__" "Minor.__init__" 426 74 4 3 198 true (R 200) (R 201) (R 202) 434
abbrev o204:=fk "__init__" "Minor.__init__" s_Minor___init__ m4 203
abbrev o207:=T [(V "self" 440),(V "s" 441)]
abbrev o209:=ff "rank" "Minor.rank" s_Minor_rank
abbrev o210:=C "rank" "Minor.rank" 437 82 2 3 205 true (R 207) (R 208) (R 209) 442
abbrev o211:=fk "rank" "Minor.rank" s_Minor_rank m4 210
abbrev o212:=T [(V "drawn" 445),(V "drawn_rank" 446),(V "house" 447),(V "kept" 448)]
abbrev o213(P:Params):=D ([E P "__module__" 421 m4,E P "__firstlineno__" 425 (.int 72 424),E P "__init__" 436 (R 204),E P "rank" 444 (R 211),E P "__static_attributes__" 449 (R 212),E P "__doc__" 450 .none]) 2
abbrev o214:Obj:=⟨(.type "type"),none,Data.cls {name:=Str.ofString "Minor",bases:=[Value.ref 114],mro:=[Value.ref 214,Value.ref 114,Value.type "object"],ns:=213,qualname:=Str.ofString "Minor"}, #[some (R 191),none,some (V "Minor" 414),some (V "Minor" 422),some (.builtin "object.__new__"),some (.bool true)]⟩
abbrev o215:Obj:=⟨(.type "super"),none, .fields ⟨[(R 214),(R 214),(R 214)]⟩, #[]⟩
abbrev o216:=bf "object.__init_subclass__" (R 214)
abbrev o219:=f1 "is_even" s_is_even
abbrev o220:=C1 "is_even" 465 90 3 3 217 true .none .none (R 219) 468
abbrev o221:=f2 "is_even" s_is_even m6 220
abbrev o224:=f1 "holders" s_holders
abbrev o225:=C1 "holders" 471 94 2 3 222 true .none .none (R 224) 474
abbrev o226:=f2 "holders" s_holders m6 225
abbrev g14(P:Params):List DictEntry:=[E P "__name__" 165 m7]
abbrev g15(P:Params):List DictEntry:=[E P "is_seven" 482 (R 231),E P "kind_of" 489 (R 238),E P "rests" 497 (R 243),E P "pivot_place" 507 (R 250),E P "cleared" 513 (R 255),E P "all_cleared" 519 (R 260),E P "rank_of" 525 (R 265)]
abbrev o3v6(P:Params):=D ((g14 P).append ((g1 P).append ((g4 P).append ((g7 P).append ((g9 P).append ((g12 P).append (g15 P))))))) 42
abbrev g16:List Value:=[(I 96),(I 0),(R 230),(I 102),(I 0),(R 237),(I 115),(I 0),(R 242),(I 119),(I 0),(R 249),(I 124),(I 0),(R 254),(I 128),(I 0),(R 259),(I 132),(I 0),(R 264)]
abbrev o12v6:=W (g2.append (g3.append (g5.append (g8.append (g10.append (g13.append g16))))))
abbrev o229:=f1 "is_seven" s_is_seven
abbrev o230:=C1 "is_seven" 477 96 1 3 227 true .none .none (R 229) 480
abbrev o231:=f2 "is_seven" s_is_seven m6 230
abbrev o234:=T [(V "house" 486)]
abbrev o236:=f1 "kind_of" s_kind_of
abbrev o237:=C1 "kind_of" 483 102 1 3 232 true (R 234) (R 235) (R 236) 487
abbrev o238:=f2 "kind_of" s_kind_of m6 237
abbrev o241:=f1 "rests" s_rests
abbrev o242:=C1 "rests" 492 115 2 3 239 true .none .none (R 241) 495
abbrev o243:=f2 "rests" s_rests m8 242
abbrev o246:=T [(V "rows" 501),(V "column" 502),(V "place" 503),(V "row" 504)]
abbrev o248:=f1 "pivot_place" s_pivot_place
abbrev o249:=C1 "pivot_place" 498 119 2 3 244 true (R 246) (R 247) (R 248) 505
abbrev o250:=f2 "pivot_place" s_pivot_place m8 249
abbrev o253:=f1 "cleared" s_cleared
abbrev o254:=C1 "cleared" 508 124 4 3 251 true .none .none (R 253) 511
abbrev o255:=f2 "cleared" s_cleared m8 254
abbrev o258:=f1 "all_cleared" s_all_cleared
abbrev o259:=C1 "all_cleared" 514 128 4 3 256 true .none .none (R 258) 517
abbrev o260:=f2 "all_cleared" s_all_cleared m8 259
abbrev o263:=f1 "rank_of" s_rank_of
abbrev o264:=C1 "rank_of" 520 132 2 3 261 true .none .none (R 263) 523
abbrev o265:=f2 "rank_of" s_rank_of m8 264
abbrev g17(P:Params):List DictEntry:=[E P "Known" 560 (R 289),E P "columns_with" 566 (R 296),E P "fits" 572 (R 301),E P "column_for" 578 (R 306),E P "single" 584 (R 311)]
abbrev o3v7(P:Params):=D ((g14 P).append ((g1 P).append ((g4 P).append ((g7 P).append ((g9 P).append ((g12 P).append ((g15 P).append (g17 P)))))))) 47
abbrev g18:List Value:=[(I 148),(I 0),(R 271),(I 156),(I 0),(R 295),(I 165),(I 0),(R 300),(I 172),(I 0),(R 305),(I 179),(I 0),(R 310)]
abbrev o12v7:=W (g2.append (g3.append (g5.append (g8.append (g10.append (g13.append (g16.append g18)))))))
abbrev o114v4:Obj:=⟨(.type "type"),none,Data.cls {name:=Str.ofString "House",bases:=[Value.type "object"],mro:=[Value.ref 114,Value.type "object"],ns:=113,qualname:=Str.ofString "House",subclasses:=[Value.ref 140,Value.ref 188,Value.ref 214,Value.ref 289]}, #[none,none,some m3,some m2,some (.builtin "object.__new__"),some (.bool true)]⟩
abbrev o266:=T [(R 114)]
abbrev o267:=bf "type.__prepare__" (.type "type")
abbrev o268(P:Params):=D ([E P "__module__" 535 m7,E P "__qualname__" 537 (V "Known" 536),E P "__firstlineno__" 539 (.int 148 538),E P "__init__" 547 (R 279),E P "rank" 555 (R 286),E P "__static_attributes__" 557 (R 287)]) 6
abbrev o270:=W [(I 150),(I 4),(R 278),(I 154),(I 4),(R 285)]
abbrev o271:=C1 "Known" 530 148 0 0 269 false .none .none .none 533
abbrev o272:=fr 271 268 m7
abbrev o275:=T [(V "self" 543),(V "house" 544)]
abbrev o277:=ff "__init__" "Known.__init__" s_Known___init__
abbrev o278:=C "__init__" "Known.__init__" 540 150 2 3 273 true (R 275) (R 276) (R 277) 545
abbrev o279:=fk "__init__" "Known.__init__" s_Known___init__ m7 278
abbrev o282:=T [(V "self" 551),(V "s" 552)]
abbrev o284:=ff "rank" "Known.rank" s_Known_rank
abbrev o285:=C "rank" "Known.rank" 548 154 2 3 280 true (R 282) (R 283) (R 284) 553
abbrev o286:=fk "rank" "Known.rank" s_Known_rank m7 285
abbrev o287:=T [(V "told" 556)]
abbrev o288(P:Params):=D ([E P "__module__" 535 m7,E P "__firstlineno__" 539 (.int 148 538),E P "__init__" 547 (R 279),E P "rank" 555 (R 286),E P "__static_attributes__" 557 (R 287),E P "__doc__" 558 .none]) 2
abbrev o289:Obj:=⟨(.type "type"),none,Data.cls {name:=Str.ofString "Known",bases:=[Value.ref 114],mro:=[Value.ref 289,Value.ref 114,Value.type "object"],ns:=288,qualname:=Str.ofString "Known"}, #[some (R 266),none,some (V "Known" 528),some (V "Known" 536),some (.builtin "object.__new__"),some (.bool true)]⟩
abbrev o290:Obj:=⟨(.type "super"),none, .fields ⟨[(R 289),(R 289),(R 289)]⟩, #[]⟩
abbrev o291:=bf "object.__init_subclass__" (R 289)
abbrev o294:=f1 "columns_with" s_columns_with
abbrev o295:=C1 "columns_with" 561 156 2 3 292 true .none .none (R 294) 564
abbrev o296:=f2 "columns_with" s_columns_with m7 295
abbrev o299:=f1 "fits" s_fits
abbrev o300:=C1 "fits" 567 165 5 3 297 true .none .none (R 299) 570
abbrev o301:=f2 "fits" s_fits m7 300
abbrev o304:=f1 "column_for" s_column_for
abbrev o305:=C1 "column_for" 573 172 5 3 302 true .none .none (R 304) 576
abbrev o306:=f2 "column_for" s_column_for m7 305
abbrev o309:=f1 "single" s_single
abbrev o310:=C1 "single" 579 179 2 3 307 true .none .none (R 309) 582
abbrev o311:=f2 "single" s_single m7 310
abbrev g19(P:Params):List DictEntry:=[E P "__name__" 165 m9]
abbrev g20(P:Params):List DictEntry:=[E P "table_for" 590 (R 316),E P "left_barred" 604 (R 323),E P "told_over" 617 (R 330),E P "over_two" 624 (R 337),E P "tied" 632 (R 342)]
abbrev o3v8(P:Params):=D ((g19 P).append ((g1 P).append ((g4 P).append ((g7 P).append ((g9 P).append ((g12 P).append ((g15 P).append ((g17 P).append (g20 P))))))))) 52
abbrev g21:List Value:=[(I 181),(I 0),(R 315),(I 193),(I 0),(R 322),(I 201),(I 0),(R 329),(I 211),(I 0),(R 336),(I 214),(I 0),(R 341)]
abbrev o12v8:=W (g2.append (g3.append (g5.append (g8.append (g10.append (g13.append (g16.append (g18.append g21))))))))
abbrev o314:=f1 "table_for" s_table_for
abbrev o315:=C1 "table_for" 585 181 2 3 312 true .none .none (R 314) 588
abbrev o316:=f2 "table_for" s_table_for m7 315
abbrev o319:=T [(V "house" 594),(V "kind" 595),(V "many" 596),(V "rank" 597),(V "kept" 598),(V "rest" 599),(V "drawn" 600),(V "out" 601)]
abbrev o321:=f1 "left_barred" s_left_barred
abbrev o322:=C1 "left_barred" 591 193 4 3 317 true (R 319) (R 320) (R 321) 602
abbrev o323:=f2 "left_barred" s_left_barred m7 322
abbrev o326:=T [(V "house" 608),(V "prime" 609),(V "kinds" 610),(V "known" 611),(V "rows" 612),(V "kind" 613),(V "found" 614)]
abbrev o328:=f1 "told_over" s_told_over
abbrev o329:=C1 "told_over" 605 201 3 3 324 true (R 326) (R 327) (R 328) 615
abbrev o330:=f2 "told_over" s_told_over m7 329
abbrev o333:=T [(V "house" 621)]
abbrev o335:=f1 "over_two" s_over_two
abbrev o336:=C1 "over_two" 618 211 1 3 331 true (R 333) (R 334) (R 335) 622
abbrev o337:=f2 "over_two" s_over_two m7 336
abbrev o340:=f1 "tied" s_tied
abbrev o341:=C1 "tied" 627 214 2 3 338 true .none .none (R 340) 630
abbrev o342:=f2 "tied" s_tied m9 341
abbrev g22(P:Params):List DictEntry:=[E P "__name__" 165 m10]
abbrev g23(P:Params):List DictEntry:=[E P "Net" 674 (R 371),E P "_law_whole" 683 (R 380),E P "_law_size" 691 (R 387)]
abbrev o3v9(P:Params):=D ((g22 P).append ((g1 P).append ((g4 P).append ((g7 P).append ((g9 P).append ((g12 P).append ((g15 P).append ((g17 P).append ((g20 P).append (g23 P)))))))))) 55
abbrev g24:List Value:=[(I 218),(I 0),(R 348),(I 234),(I 0),(R 379),(I 236),(I 0),(R 386)]
abbrev o12v9:=W (g2.append (g3.append (g5.append (g8.append (g10.append (g13.append (g16.append (g18.append (g21.append g24)))))))))
abbrev o114v5:Obj:=⟨(.type "type"),none,Data.cls {name:=Str.ofString "House",bases:=[Value.type "object"],mro:=[Value.ref 114,Value.type "object"],ns:=113,qualname:=Str.ofString "House",subclasses:=[Value.ref 140,Value.ref 188,Value.ref 214,Value.ref 289,Value.ref 371]}, #[none,none,some m3,some m2,some (.builtin "object.__new__"),some (.bool true)]⟩
abbrev o343:=T [(R 114)]
abbrev o344:=bf "type.__prepare__" (.type "type")
abbrev o345(P:Params):=D ([E P "__module__" 640 m9,E P "__qualname__" 642 (V "Net" 641),E P "__firstlineno__" 644 (.int 218 643),E P "__init__" 650 (R 354),E P "pieces" 660 (R 361),E P "rank" 668 (R 368),E P "__static_attributes__" 671 (R 369)]) 7
abbrev o347:=W [(I 220),(I 4),(R 353),(I 225),(I 4),(R 360),(I 231),(I 4),(R 367)]
abbrev o348:=C1 "Net" 635 218 0 0 346 false .none .none .none 638
abbrev o349:=fr 348 345 m9
abbrev o352:=ff "__init__" "Net.__init__" s_Net___init__
abbrev o353:=C "__init__" "Net.__init__" 645 220 4 3 350 true .none .none (R 352) 648
abbrev o354:=fk "__init__" "Net.__init__" s_Net___init__ m9 353
abbrev o357:=T [(V "self" 654),(V "s" 655),(V "marks" 656),(V "thing" 657)]
abbrev o359:=ff "pieces" "Net.pieces" s_Net_pieces
abbrev o360:=C "pieces" "Net.pieces" 651 225 2 3 355 true (R 357) (R 358) (R 359) 658
abbrev o361:=fk "pieces" "Net.pieces" s_Net_pieces m9 360
abbrev o364:=T [(V "self" 664),(V "s" 665)]
abbrev o366:=ff "rank" "Net.rank" s_Net_rank
abbrev o367:=C "rank" "Net.rank" 661 231 2 3 362 true (R 364) (R 365) (R 366) 666
abbrev o368:=fk "rank" "Net.rank" s_Net_rank m9 367
abbrev o369:=T [(V "points" 669),(V "ties" 670)]
abbrev o370(P:Params):=D ([E P "__module__" 640 m9,E P "__firstlineno__" 644 (.int 218 643),E P "__init__" 650 (R 354),E P "pieces" 660 (R 361),E P "rank" 668 (R 368),E P "__static_attributes__" 671 (R 369),E P "__doc__" 672 .none]) 2
abbrev o371:Obj:=⟨(.type "type"),none,Data.cls {name:=Str.ofString "Net",bases:=[Value.ref 114],mro:=[Value.ref 371,Value.ref 114,Value.type "object"],ns:=370,qualname:=Str.ofString "Net"}, #[some (R 343),none,some (V "Net" 633),some (V "Net" 641),some (.builtin "object.__new__"),some (.bool true)]⟩
abbrev o372:Obj:=⟨(.type "super"),none, .fields ⟨[(R 371),(R 371),(R 371)]⟩, #[]⟩
abbrev o373:=bf "object.__init_subclass__" (R 371)
abbrev o376:=T [(V "_law_found" 680)]
abbrev o378:=f1 "_law_whole" s__law_whole
abbrev o379:=C1 "_law_whole" 677 234 1 3 374 true (R 376) (R 377) (R 378) 681
abbrev o380:=f2 "_law_whole" s__law_whole m10 379
abbrev o383:=T [(V "_law_s" 687),(V "_law_many" 688)]
abbrev o385:=f1 "_law_size" s__law_size
abbrev o386:=C1 "_law_size" 684 236 1 3 381 true (R 383) (R 384) (R 385) 689
abbrev o387:=f2 "_law_size" s__law_size m10 386
abbrev g25(P:Params):List DictEntry:=[E P "_law_far" 697 (R 392),E P "_law_ranks" 703 (R 397),E P "_law_determinant" 716 (R 404),E P "_law_minor" 722 (R 409),E P "_law_seven" 728 (R 414),E P "_law_kind" 734 (R 419),E P "_law_table_right" 740 (R 424),E P "_law_right" 752 (R 431),E P "_law_net" 758 (R 436),E P "_law_put" 771 (R 443),E P "_law_idle" 782 (R 450),E P "law" 797 (R 457)]
abbrev o3v10(P:Params):=D ((g22 P).append ((g1 P).append ((g4 P).append ((g7 P).append ((g9 P).append ((g12 P).append ((g15 P).append ((g17 P).append ((g20 P).append ((g23 P).append (g25 P))))))))))) 67
abbrev g26:List Value:=[(I 242),(I 0),(R 391),(I 252),(I 0),(R 396),(I 264),(I 0),(R 403),(I 276),(I 0),(R 408),(I 286),(I 0),(R 413),(I 295),(I 0),(R 418),(I 308),(I 0),(R 423),(I 325),(I 0),(R 430),(I 338),(I 0),(R 435),(I 355),(I 0),(R 442),(I 366),(I 0),(R 449),(I 373),(I 0),(R 456)]
abbrev o12v10:=W (g2.append (g3.append (g5.append (g8.append (g10.append (g13.append (g16.append (g18.append (g21.append (g24.append g26))))))))))
abbrev o390:=f1 "_law_far" s__law_far
abbrev o391:=C1 "_law_far" 692 242 3 3 388 true .none .none (R 390) 695
abbrev o392:=f2 "_law_far" s__law_far m10 391
abbrev o395:=f1 "_law_ranks" s__law_ranks
abbrev o396:=C1 "_law_ranks" 698 252 2 3 393 true .none .none (R 395) 701
abbrev o397:=f2 "_law_ranks" s__law_ranks m10 396
abbrev o400:=T [(V "_law_rows" 707),(V "_law_told" 708),(V "_law_s" 709),(V "_law_row" 710),(V "_law_total" 711),(V "_law_turn" 712),(V "_law_k" 713)]
abbrev o402:=f1 "_law_determinant" s__law_determinant
abbrev o403:=C1 "_law_determinant" 704 264 1 3 398 true (R 400) (R 401) (R 402) 714
abbrev o404:=f2 "_law_determinant" s__law_determinant m10 403
abbrev o407:=f1 "_law_minor" s__law_minor
abbrev o408:=C1 "_law_minor" 717 276 4 3 405 true .none .none (R 407) 720
abbrev o409:=f2 "_law_minor" s__law_minor m10 408
abbrev o412:=f1 "_law_seven" s__law_seven
abbrev o413:=C1 "_law_seven" 723 286 1 3 410 true .none .none (R 412) 726
abbrev o414:=f2 "_law_seven" s__law_seven m10 413
abbrev o417:=f1 "_law_kind" s__law_kind
abbrev o418:=C1 "_law_kind" 729 295 1 3 415 true .none .none (R 417) 732
abbrev o419:=f2 "_law_kind" s__law_kind m10 418
abbrev o422:=f1 "_law_table_right" s__law_table_right
abbrev o423:=C1 "_law_table_right" 735 308 3 3 420 true .none .none (R 422) 738
abbrev o424:=f2 "_law_table_right" s__law_table_right m10 423
abbrev o427:=T [(V "_law_found" 744),(V "_law_many" 745),(V "_law_levels" 746),(V "_law_out" 747),(V "_law_drawn" 748),(V "_law_kind_here" 749)]
abbrev o429:=f1 "_law_right" s__law_right
abbrev o430:=C1 "_law_right" 741 325 3 3 425 true (R 427) (R 428) (R 429) 750
abbrev o431:=f2 "_law_right" s__law_right m10 430
abbrev o434:=f1 "_law_net" s__law_net
abbrev o435:=C1 "_law_net" 753 338 2 3 432 true .none .none (R 434) 756
abbrev o436:=f2 "_law_net" s__law_net m10 435
abbrev o439:=T [(V "_law_told" 762),(V "_law_many" 763),(V "_law_at" 764),(V "_law_kind_here" 765),(V "_law_found" 766),(V "_law_s" 767),(V "_law_wide" 768)]
abbrev o441:=f1 "_law_put" s__law_put
abbrev o442:=C1 "_law_put" 759 355 4 3 437 true (R 439) (R 440) (R 441) 769
abbrev o443:=f2 "_law_put" s__law_put m10 442
abbrev o446:=T [(V "_law_cells" 775),(V "_law_many" 776),(V "_law_told" 777),(V "_law_turn" 778),(V "_law_k" 779)]
abbrev o448:=f1 "_law_idle" s__law_idle
abbrev o449:=C1 "_law_idle" 772 366 3 3 444 true (R 446) (R 447) (R 448) 780
abbrev o450:=f2 "_law_idle" s__law_idle m10 449
abbrev o453:=T [(V "_law_script" 786),(V "_law_cells" 787),(V "_law_many" 788),(V "_law_told" 789),(V "_law_house" 790),(V "_law_turn" 791),(V "_law_levels" 792),(V "_law_found" 793),(V "_law_row" 794)]
abbrev o455:=f1 "law" s_law
abbrev o456:=C1 "law" 783 373 1 3 451 true (R 453) (R 454) (R 455) 795
abbrev o457:=f2 "law" s_law m10 456
abbrev ub(x:Obj)(P:Params):List Obj:=[boot_o_0 P,boot_o_1 P,boot_o_2 P,x,boot_o_4 P,boot_o_5 P,boot_o_6 P,boot_o_7 P,boot_o_8 P,boot_o_9 P,boot_o_10 P,Y]
abbrev u0(P:Params):List Obj:=ub (boot_o_3 P) P
abbrev u1(P:Params):List Obj:=[Z,o13,o14]
abbrev u2(P:Params):List Obj:=ub (o3v1 P) P
abbrev u3(P:Params):List Obj:=[o12v1,o13,o14,Y,Z,o17,Y,o19,o20,o21,Y,Z]
abbrev u4(P:Params):List Obj:=[o24,o25,o26,Y,Z,o29,Y,o31,o32,o33,Y,Z]
abbrev u5(P:Params):List Obj:=[o36,Y,o38,o39,o40,Y,Z,o43,Y,o45,o46,o47]
abbrev u6(P:Params):List Obj:=[Y,Z,o50,o51,o52,Y,Z,o55,o56,o57,Y,Z]
abbrev u7(P:Params):List Obj:=[o60,o61,o62,Y,Z,o65,Y,o67,o68,o69,Y,Z]
abbrev u8(P:Params):List Obj:=[o72,Y,o74,o75,o76,Y,Z,o79,Y,o81,o82,o83]
abbrev u9(P:Params):List Obj:=ub (o3v2 P) P
abbrev u10(P:Params):List Obj:=[o12v2,o13,o14,Y,Z,o17,Y,o19,o20,o21,Y,Z]
abbrev u11(P:Params):List Obj:=[Y,o85,o86 P,Y,o88,o89,o90,Y,Z,o93,Y,o95]
abbrev u12(P:Params):List Obj:=[o96,o97,Y,Z,o100,Y,o102,o103,o104,Y,Z,o107]
abbrev u13(P:Params):List Obj:=[Y,o109,o110,o111,o112,o113 P,o114,o115,o116,o117,o118]
abbrev u14(P:Params):List Obj:=ub (o3v3 P) P
abbrev u15(P:Params):List Obj:=[o12v3,o13,o14,Y,Z,o17,Y,o19,o20,o21,Y,Z]
abbrev u16(P:Params):List Obj:=[Y,o109,o110,o111,o112,o113 P,o114v1,o115,o116,o117,o118,o119]
abbrev u17(P:Params):List Obj:=[o120,o121 P,Y,o123,o124,o125,Y,Z,o128,Y,o130,o131]
abbrev u18(P:Params):List Obj:=[o132,Y,Z,o135,o136,o137,o138,o139 P,o140,o141,o142,Y]
abbrev u19(P:Params):List Obj:=[Z,o145,Y,o147,o148,o149,Y,Z,o152,o153,o154,Y]
abbrev u20(P:Params):List Obj:=[Z,o157,o158,o159,Y,Z,o162,o163,o164]
abbrev u21(P:Params):List Obj:=ub (o3v4 P) P
abbrev u22(P:Params):List Obj:=[o12v4,o13,o14,Y,Z,o17,Y,o19,o20,o21,Y,Z]
abbrev u23(P:Params):List Obj:=[Y,o109,o110,o111,o112,o113 P,o114v2,o115,o116,o117,o118,o119]
abbrev u24(P:Params):List Obj:=[Z,o157,o158,o159,Y,Z,o162,o163,o164,o165,o166,o167 P]
abbrev u25(P:Params):List Obj:=[Y,o169,o170,o171,Y,Z,o174,Y,o176,o177,o178,Y]
abbrev u26(P:Params):List Obj:=[Z,o181,Y,o183,o184,o185,o186,o187 P,o188,o189,o190]
abbrev u27(P:Params):List Obj:=ub (o3v5 P) P
abbrev u28(P:Params):List Obj:=[o12v5,o13,o14,Y,Z,o17,Y,o19,o20,o21,Y,Z]
abbrev u29(P:Params):List Obj:=[Y,o109,o110,o111,o112,o113 P,o114v3,o115,o116,o117,o118,o119]
abbrev u30(P:Params):List Obj:=[Z,o181,Y,o183,o184,o185,o186,o187 P,o188,o189,o190,o191]
abbrev u31(P:Params):List Obj:=[o192,o193 P,Y,o195,o196,o197,Y,Z,o200,Y,o202,o203]
abbrev u32(P:Params):List Obj:=[o204,Y,Z,o207,Y,o209,o210,o211,o212,o213 P,o214,o215]
abbrev u33(P:Params):List Obj:=[o216,Y,Z,o219,o220,o221,Y,Z,o224,o225,o226]
abbrev u34(P:Params):List Obj:=ub (o3v6 P) P
abbrev u35(P:Params):List Obj:=[o12v6,o13,o14,Y,Z,o17,Y,o19,o20,o21,Y,Z]
abbrev u36(P:Params):List Obj:=[o216,Y,Z,o219,o220,o221,Y,Z,o224,o225,o226,Y]
abbrev u37(P:Params):List Obj:=[Z,o229,o230,o231,Y,Z,o234,Y,o236,o237,o238,Y]
abbrev u38(P:Params):List Obj:=[Z,o241,o242,o243,Y,Z,o246,Y,o248,o249,o250,Y]
abbrev u39(P:Params):List Obj:=[Z,o253,o254,o255,Y,Z,o258,o259,o260,Y,Z,o263]
abbrev u40(P:Params):List Obj:=[o264,o265]
abbrev u41(P:Params):List Obj:=ub (o3v7 P) P
abbrev u42(P:Params):List Obj:=[o12v7,o13,o14,Y,Z,o17,Y,o19,o20,o21,Y,Z]
abbrev u43(P:Params):List Obj:=[Y,o109,o110,o111,o112,o113 P,o114v4,o115,o116,o117,o118,o119]
abbrev u44(P:Params):List Obj:=[o264,o265,o266,o267,o268 P,Y,o270,o271,o272,Y,Z,o275]
abbrev u45(P:Params):List Obj:=[Y,o277,o278,o279,Y,Z,o282,Y,o284,o285,o286,o287]
abbrev u46(P:Params):List Obj:=[o288 P,o289,o290,o291,Y,Z,o294,o295,o296,Y,Z,o299]
abbrev u47(P:Params):List Obj:=[o300,o301,Y,Z,o304,o305,o306,Y,Z,o309,o310,o311]
abbrev u48(P:Params):List Obj:=ub (o3v8 P) P
abbrev u49(P:Params):List Obj:=[o12v8,o13,o14,Y,Z,o17,Y,o19,o20,o21,Y,Z]
abbrev u50(P:Params):List Obj:=[Y,Z,o314,o315,o316,Y,Z,o319,Y,o321,o322,o323]
abbrev u51(P:Params):List Obj:=[Y,Z,o326,Y,o328,o329,o330,Y,Z,o333,Y,o335]
abbrev u52(P:Params):List Obj:=[o336,o337,Y,Z,o340,o341,o342]
abbrev u53(P:Params):List Obj:=ub (o3v9 P) P
abbrev u54(P:Params):List Obj:=[o12v9,o13,o14,Y,Z,o17,Y,o19,o20,o21,Y,Z]
abbrev u55(P:Params):List Obj:=[Y,o109,o110,o111,o112,o113 P,o114v5,o115,o116,o117,o118,o119]
abbrev u56(P:Params):List Obj:=[o336,o337,Y,Z,o340,o341,o342,o343,o344,o345 P,Y,o347]
abbrev u57(P:Params):List Obj:=[o348,o349,Y,Z,o352,o353,o354,Y,Z,o357,Y,o359]
abbrev u58(P:Params):List Obj:=[o360,o361,Y,Z,o364,Y,o366,o367,o368,o369,o370 P,o371]
abbrev u59(P:Params):List Obj:=[o372,o373,Y,Z,o376,Y,o378,o379,o380,Y,Z,o383]
abbrev u60(P:Params):List Obj:=[Y,o385,o386,o387]
abbrev u61(P:Params):List Obj:=ub (o3v10 P) P
abbrev u62(P:Params):List Obj:=[o12v10,o13,o14,Y,Z,o17,Y,o19,o20,o21,Y,Z]
abbrev u63(P:Params):List Obj:=[Y,o385,o386,o387,Y,Z,o390,o391,o392,Y,Z,o395]
abbrev u64(P:Params):List Obj:=[o396,o397,Y,Z,o400,Y,o402,o403,o404,Y,Z,o407]
abbrev u65(P:Params):List Obj:=[o408,o409,Y,Z,o412,o413,o414,Y,Z,o417,o418,o419]
abbrev u66(P:Params):List Obj:=[Y,Z,o422,o423,o424,Y,Z,o427,Y,o429,o430,o431]
abbrev u67(P:Params):List Obj:=[Y,Z,o434,o435,o436,Y,Z,o439,Y,o441,o442,o443]
abbrev u68(P:Params):List Obj:=[Y,Z,o446,Y,o448,o449,o450,Y,Z,o453,Y,o455]
abbrev u69(P:Params):List Obj:=[o456,o457]
theorem yu0:([u0,u1,u2,u3,u4,u5,u6,u7,u8,u9,u10,u11,u12,u13,u14,u15,u16,u17,u18,u19,u20,u21,u22,u23,u24,u25,u26,u27,u28,u29]:List (Params->List Obj)).all (λ_=>true)=true:=by k_qdec
theorem yu30:([u30,u31,u32,u33,u34,u35,u36,u37,u38,u39,u40,u41,u42,u43,u44,u45,u46,u47,u48,u49,u50,u51,u52,u53,u54,u55,u56,u57,u58,u59]:List (Params->List Obj)).all (λ_=>true)=true:=by k_qdec
theorem yu60:([u60,u61,u62,u63,u64,u65,u66,u67,u68,u69]:List (Params->List Obj)).all (λ_=>true)=true:=by k_qdec
abbrev spl(l:List Obj):List Obj×List Obj:= @List.rec Obj (λ_=>List Obj×List Obj) ([],[]) (λx _ ih=>(x::ih.2,ih.1)) l
abbrev mkT(n:Nat):List Obj->BT:= @Nat.rec (λ_=>List Obj->BT) (λ_=> .nil) (λ_ ih l=> @List.rec Obj (λ_=>BT) .nil (λx r _=> .node x (ih (spl r).1) (ih (spl r).2)) l) n
theorem qh{α:Sort u}{a b c d:α}(h:a=b)(k:d=c)(e:b=c):a=d:=h.trans (e.trans k.symm)
abbrev l0(P:Params):List Obj:=(tw13894225608423057668 P).append (tw17531079430653816501 P)
abbrev p0(P:Params):List Obj:=(tw1912701158020654693 P).append ((tw2188347355606102534 P).append ((tw16368670287772101220 P).append (tw14842115654739255404 P)))
abbrev l2(P:Params):List Obj:=(tw13809737476558091540 P).append ((tw2367299412457286945 P).append ((p0 P).append (tw4717311838995323452 P)))
abbrev p1(P:Params):List Obj:=(p0 P).append ((tw4717311838995323452 P).append ((tw10037743213843438893 P).append (tw10009084784789568687 P)))
abbrev l3(P:Params):List Obj:=(tw594758545415977400 P).append ((tw10895325593200808953 P).append ((p1 P).append (tw5084553986333570498 P)))
abbrev p2(P:Params):List Obj:=(p1 P).append ((tw1672153094372761355 P).append ((tw4580522010931877059 P).append ((tw15163288008780518816 P).append (tw2560371371167247513 P))))
abbrev l4(P:Params):List Obj:=(tw16641277437810104112 P).append ((tw11875653558476324687 P).append ((p2 P).append (tw13463505119322665063 P)))
abbrev p3(P:Params):List Obj:=(p1 P).append ((tw6492967895434240573 P).append ((tw4580522010931877059 P).append ((tw15163288008780518816 P).append ((tw2560371371167247513 P).append ((tw537001028611820367 P).append (tw9833210585337712870 P))))))
abbrev l5(P:Params):List Obj:=(tw18077194039007663117 P).append ((tw17755462387555777923 P).append ((p3 P).append (tw12708430989920435073 P)))
abbrev p4(P:Params):List Obj:=(p1 P).append ((tw12419440788177488941 P).append ((tw4580522010931877059 P).append ((tw15163288008780518816 P).append ((tw2560371371167247513 P).append ((tw537001028611820367 P).append ((tw9833210585337712870 P).append ((tw13144694907161067814 P).append ((tw9051403873925241803 P).append (tw9532798600492905429 P)))))))))
abbrev l6(P:Params):List Obj:=(tw3132545959879029114 P).append ((tw15893686080707579532 P).append ((p4 P).append (tw13540884194310252285 P)))
abbrev p5(P:Params):List Obj:=(p4 P).append ((tw108614505241798827 P).append ((tw13403271955525184085 P).append ((tw9008512798899243008 P).append (tw5233117687303994960 P))))
abbrev l7(P:Params):List Obj:=(tw7924019476267374970 P).append ((tw4163898066171597766 P).append ((p5 P).append (tw15952828016916965751 P)))
abbrev p6(P:Params):List Obj:=(p1 P).append ((tw11379478403280837710 P).append ((tw4580522010931877059 P).append ((tw15163288008780518816 P).append ((tw2560371371167247513 P).append ((tw537001028611820367 P).append ((tw9833210585337712870 P).append ((tw13144694907161067814 P).append ((tw9051403873925241803 P).append ((tw9532798600492905429 P).append ((tw108614505241798827 P).append ((tw13403271955525184085 P).append ((tw9008512798899243008 P).append ((tw5233117687303994960 P).append ((tw1829372832393830862 P).append ((tw15315517357904613441 P).append (tw464002682377336327 P))))))))))))))))
abbrev l8(P:Params):List Obj:=(tw15380438544845262330 P).append ((tw3498231505995959436 P).append ((p6 P).append (tw9818214866579459264 P)))
abbrev p7(P:Params):List Obj:=(p6 P).append ((tw9818214866579459264 P).append ((tw14515330622082756866 P).append (tw14785798428834493632 P)))
abbrev l9(P:Params):List Obj:=(tw12500792342951176350 P).append ((tw13796877066481274120 P).append ((p7 P).append (tw18201935550050738069 P)))
abbrev p8(P:Params):List Obj:=(p1 P).append ((tw15018400351400277463 P).append ((tw4580522010931877059 P).append ((tw15163288008780518816 P).append ((tw2560371371167247513 P).append ((tw537001028611820367 P).append ((tw9833210585337712870 P).append ((tw13144694907161067814 P).append ((tw9051403873925241803 P).append ((tw9532798600492905429 P).append ((tw108614505241798827 P).append ((tw13403271955525184085 P).append ((tw9008512798899243008 P).append ((tw5233117687303994960 P).append ((tw1829372832393830862 P).append ((tw15315517357904613441 P).append ((tw464002682377336327 P).append ((tw9818214866579459264 P).append ((tw14515330622082756866 P).append ((tw14785798428834493632 P).append ((tw11561923852052835483 P).append ((tw6372914150048047727 P).append ((tw5599453077622544939 P).append (tw4093087934762282484 P)))))))))))))))))))))))
abbrev l10(P:Params):List Obj:=(tw10454839870730503995 P).append ((tw5571871322767964819 P).append ((p8 P).append (tw17158561351216856475 P)))
abbrev l11(P:Params):List Obj:=(tw9474750161309284266 P).append ((tw3358886378142609072 P).append ((tw1912701158020654693 P).append ((tw2188347355606102534 P).append ((tw16368670287772101220 P).append ((tw14842115654739255404 P).append ((tw4717311838995323452 P).append ((tw10037743213843438893 P).append ((tw10009084784789568687 P).append ((tw15018400351400277463 P).append ((tw4580522010931877059 P).append ((tw15163288008780518816 P).append ((tw2560371371167247513 P).append ((tw537001028611820367 P).append ((tw9833210585337712870 P).append ((tw13144694907161067814 P).append ((tw9051403873925241803 P).append ((tw9532798600492905429 P).append ((tw108614505241798827 P).append ((tw13403271955525184085 P).append ((tw9008512798899243008 P).append ((tw5233117687303994960 P).append ((tw1829372832393830862 P).append ((tw15315517357904613441 P).append ((tw464002682377336327 P).append ((tw9818214866579459264 P).append ((tw14515330622082756866 P).append ((tw14785798428834493632 P).append ((tw11561923852052835483 P).append ((tw6372914150048047727 P).append ((tw5599453077622544939 P).append ((tw4093087934762282484 P).append ((tw8941747231313380785 P).append ((tw16960971988522890112 P).append ((tw9734856250973436408 P).append ((tw13209480288670547452 P).append ((tw9060986387787648095 P).append ((tw10640993332368450643 P).append (tw2076947277569861509 P))))))))))))))))))))))))))))))))))))))
abbrev env:Env:={scope:=(pw_basehouse_k41_tables_over_two).main.scope,locals:=mainNs,globals:=mainNs,cells:=[],code:=Value.ref 13,frame:=some 14}
abbrev G0:List Stmt:=[top 0,top 1,top 2,top 3,top 4,top 5,top 6,top 7,top 8,top 9,top 10,top 11,top 12,top 13]
abbrev G1:List Stmt:=[top 14]
abbrev G2:List Stmt:=[top 15,top 16,top 17,top 18,top 19,top 20,top 21]
abbrev G3:List Stmt:=[top 22]
abbrev G4:List Stmt:=[top 23,top 24,top 25,top 26,top 27,top 28,top 29,top 30,top 31]
abbrev G5:List Stmt:=[top 32,top 33,top 34,top 35,top 36,top 37,top 38,top 39,top 40]
abbrev G6:List Stmt:=[top 41,top 42,top 43,top 44,top 45]
abbrev G7:List Stmt:=[top 46,top 47,top 48,top 49,top 50,top 51]
abbrev G8:List Stmt:=[top 52,top 53,top 54,top 55]
abbrev G9:List Stmt:=[top 56,top 57,top 58,top 59,top 60,top 61,top 62,top 63,top 64,top 65,top 66,top 67]
abbrev B0:List Stmt:=G0++(G1++(G2++(G3++(G4++(G5++(G6++(G7++(G8++(G9++([]))))))))))
abbrev c0:Code:= .body B0 env
abbrev f0:List Frame:=[topFrame ⟨0,0,0,0⟩]
def L0:World->OsState->Option (Shared×Thread):=λw os=>topGo treeTable pw_basehouse_k41_tables_over_two w 11 (some (Value.ref 6)) 12 ⟨boot_heap w.params,⟨[]⟩,boot_drawn,boot_toks,os⟩ (topStub pw_basehouse_k41_tables_over_two)
def M0:World->OsState->Option (Shared×Thread):=λw os=>some (⟨⟨⟨l0 w.params⟩,{}⟩,⟨[]⟩,{},187,os⟩,⟨denote treeTable c0,c0,⟨0,0,0,0⟩,f0⟩)
theorem yL0:((λ_=>true) L0&&(λ_=>true) M0)=true:=by k_qdec
theorem qL0:L0=M0:=qh te4453942571644881324 te7285866895703208684 (by kernel_rfl)
def L1:World->OsState->Option (Flow×Shared×Code×Pos):=λw os=>segRun treeTable pw_basehouse_k41_tables_over_two w 11 (some (Value.ref 6)) 1 1 ⟨⟨⟨l0 w.params⟩,{}⟩,⟨[]⟩,{},187,os⟩ (blockOf B0 env c0 ⟨0,0,0,0⟩ f0)
def M1:World->OsState->Option (Flow×Shared×Code×Pos):=λw os=>some (.next,(SharedT.mk (mkT 12 (l0 w.params)) 15 {} ⟨[]⟩ {} 187 os).abs,c0,⟨0,0,0,0⟩)
theorem yL1:((λ_=>true) L1&&(λ_=>true) M1)=true:=by k_qdec
theorem qL1:L1=M1:=qh te6387051279210280424 te10385057629971820802 (by kernel_rfl)
def L2:World->OsState->Option (Flow×SharedT×Code×Pos):=λw os=>segRunT treeTable pw_basehouse_k41_tables_over_two w 11 (some (Value.ref 6)) 1 342 (SharedT.mk (mkT 12 (l0 w.params)) 15 {} ⟨[]⟩ {} 187 os) (piecesOf G0 env c0 ⟨0,0,0,0⟩ f0)
def M2:World->OsState->Option (Flow×SharedT×Code×Pos):=λw os=>some (.next,(SharedT.mk (mkT 12 (l2 w.params)) 84 {} ⟨[]⟩ {} 273 os),c0,⟨31,0,31,8⟩)
theorem yL2:((λ_=>true) L2&&(λ_=>true) M2)=true:=by k_qdec
theorem qL2:L2=M2:=qh te9171306275460833034 te1760210624324108040 (by kernel_rfl)
def L3:World->OsState->Option (Flow×SharedT×Code×Pos):=λw os=>segRunT treeTable pw_basehouse_k41_tables_over_two w 11 (some (Value.ref 6)) 1 286 (SharedT.mk (mkT 12 (l2 w.params)) 84 {} ⟨[]⟩ {} 273 os) (piecesOf G1 env c0 ⟨31,0,31,8⟩ f0)
def M3:World->OsState->Option (Flow×SharedT×Code×Pos):=λw os=>some (.next,(SharedT.mk (mkT 12 (l3 w.params)) 119 {} ⟨[]⟩ {} 317 os),c0,⟨32,0,41,32⟩)
theorem yL3:((λ_=>true) L3&&(λ_=>true) M3)=true:=by k_qdec
theorem qL3:L3=M3:=qh te6196771281854559479 te2789812635788466785 (by kernel_rfl)
def L4:World->OsState->Option (Flow×SharedT×Code×Pos):=λw os=>segRunT treeTable pw_basehouse_k41_tables_over_two w 11 (some (Value.ref 6)) 1 400 (SharedT.mk (mkT 12 (l3 w.params)) 119 {} ⟨[]⟩ {} 317 os) (piecesOf G2 env c0 ⟨32,0,41,32⟩ f0)
def M4:World->OsState->Option (Flow×SharedT×Code×Pos):=λw os=>some (.next,(SharedT.mk (mkT 12 (l4 w.params)) 165 {} ⟨[]⟩ {} 378 os),c0,⟨60,0,60,8⟩)
theorem yL4:((λ_=>true) L4&&(λ_=>true) M4)=true:=by k_qdec
theorem qL4:L4=M4:=qh te18063231807419426806 te4793386113839911487 (by kernel_rfl)
def L5:World->OsState->Option (Flow×SharedT×Code×Pos):=λw os=>segRunT treeTable pw_basehouse_k41_tables_over_two w 11 (some (Value.ref 6)) 1 281 (SharedT.mk (mkT 12 (l4 w.params)) 165 {} ⟨[]⟩ {} 378 os) (piecesOf G3 env c0 ⟨60,0,60,8⟩ f0)
def M5:World->OsState->Option (Flow×SharedT×Code×Pos):=λw os=>some (.next,(SharedT.mk (mkT 12 (l5 w.params)) 191 {} ⟨[]⟩ {} 414 os),c0,⟨61,0,71,66⟩)
theorem yL5:((λ_=>true) L5&&(λ_=>true) M5)=true:=by k_qdec
theorem qL5:L5=M5:=qh te7289443652863241282 te11685339832826840484 (by kernel_rfl)
def L6:World->OsState->Option (Flow×SharedT×Code×Pos):=λw os=>segRunT treeTable pw_basehouse_k41_tables_over_two w 11 (some (Value.ref 6)) 1 390 (SharedT.mk (mkT 12 (l5 w.params)) 191 {} ⟨[]⟩ {} 414 os) (piecesOf G4 env c0 ⟨61,0,71,66⟩ f0)
def M6:World->OsState->Option (Flow×SharedT×Code×Pos):=λw os=>some (.next,(SharedT.mk (mkT 12 (l6 w.params)) 227 {} ⟨[]⟩ {} 477 os),c0,⟨94,0,95,44⟩)
theorem yL6:((λ_=>true) L6&&(λ_=>true) M6)=true:=by k_qdec
theorem qL6:L6=M6:=qh te11518265509499319272 te9035903999391717805 (by kernel_rfl)
def L7:World->OsState->Option (Flow×SharedT×Code×Pos):=λw os=>segRunT treeTable pw_basehouse_k41_tables_over_two w 11 (some (Value.ref 6)) 1 210 (SharedT.mk (mkT 12 (l6 w.params)) 227 {} ⟨[]⟩ {} 477 os) (piecesOf G5 env c0 ⟨94,0,95,44⟩ f0)
def M7:World->OsState->Option (Flow×SharedT×Code×Pos):=λw os=>some (.next,(SharedT.mk (mkT 12 (l7 w.params)) 266 {} ⟨[]⟩ {} 528 os),c0,⟨147,0,147,8⟩)
theorem yL7:((λ_=>true) L7&&(λ_=>true) M7)=true:=by k_qdec
theorem qL7:L7=M7:=qh te9490284035958612641 te1675962113473143740 (by kernel_rfl)
def L8:World->OsState->Option (Flow×SharedT×Code×Pos):=λw os=>segRunT treeTable pw_basehouse_k41_tables_over_two w 11 (some (Value.ref 6)) 1 382 (SharedT.mk (mkT 12 (l7 w.params)) 266 {} ⟨[]⟩ {} 528 os) (piecesOf G6 env c0 ⟨147,0,147,8⟩ f0)
def M8:World->OsState->Option (Flow×SharedT×Code×Pos):=λw os=>some (.next,(SharedT.mk (mkT 12 (l8 w.params)) 312 {} ⟨[]⟩ {} 585 os),c0,⟨179,0,180,60⟩)
theorem yL8:((λ_=>true) L8&&(λ_=>true) M8)=true:=by k_qdec
theorem qL8:L8=M8:=qh te7116466485190837356 te8127398886225657409 (by kernel_rfl)
def L9:World->OsState->Option (Flow×SharedT×Code×Pos):=λw os=>segRunT treeTable pw_basehouse_k41_tables_over_two w 11 (some (Value.ref 6)) 1 162 (SharedT.mk (mkT 12 (l8 w.params)) 312 {} ⟨[]⟩ {} 585 os) (piecesOf G7 env c0 ⟨179,0,180,60⟩ f0)
def M9:World->OsState->Option (Flow×SharedT×Code×Pos):=λw os=>some (.next,(SharedT.mk (mkT 12 (l9 w.params)) 343 {} ⟨[]⟩ {} 633 os),c0,⟨214,0,217,59⟩)
theorem yL9:((λ_=>true) L9&&(λ_=>true) M9)=true:=by k_qdec
theorem qL9:L9=M9:=qh te16134767483146388640 te1028310481701075085 (by kernel_rfl)
def L10:World->OsState->Option (Flow×SharedT×Code×Pos):=λw os=>segRunT treeTable pw_basehouse_k41_tables_over_two w 11 (some (Value.ref 6)) 1 377 (SharedT.mk (mkT 12 (l9 w.params)) 343 {} ⟨[]⟩ {} 633 os) (piecesOf G8 env c0 ⟨214,0,217,59⟩ f0)
def M10:World->OsState->Option (Flow×SharedT×Code×Pos):=λw os=>some (.next,(SharedT.mk (mkT 12 (l10 w.params)) 388 {} ⟨[]⟩ {} 692 os),c0,⟨236,0,241,20⟩)
theorem yL10:((λ_=>true) L10&&(λ_=>true) M10)=true:=by k_qdec
theorem qL10:L10=M10:=qh te8817224096938630680 te4223366021984358877 (by kernel_rfl)
def L11:World->OsState->Option (Flow×SharedT×Code×Pos):=λw os=>segRunT treeTable pw_basehouse_k41_tables_over_two w 11 (some (Value.ref 6)) 1 357 (SharedT.mk (mkT 12 (l10 w.params)) 388 {} ⟨[]⟩ {} 692 os) (piecesOf G9 env c0 ⟨236,0,241,20⟩ f0)
def M11:World->OsState->Option (Flow×SharedT×Code×Pos):=λw os=>some (.next,(SharedT.mk (mkT 12 (l11 w.params)) 458 {} ⟨[]⟩ {} 798 os),c0,⟨373,0,393,15⟩)
theorem yL11:((λ_=>true) L11&&(λ_=>true) M11)=true:=by k_qdec
theorem qL11:L11=M11:=qh te6997996825916537589 te5514423481259190630 (by kernel_rfl)
def L12:World->OsState->Option Shared:=λw os=>topRun treeTable pw_basehouse_k41_tables_over_two w 11 (some (Value.ref 6)) 2 (SharedT.mk (mkT 12 (l11 w.params)) 458 {} ⟨[]⟩ {} 798 os).abs (restOf [] env c0 ⟨373,0,393,15⟩ f0)
def M12:World->OsState->Option Shared:=λw os=>some ⟨⟨⟨l11 w.params⟩,{}⟩,⟨[]⟩,{},798,os⟩
theorem yL12:((λ_=>true) L12&&(λ_=>true) M12)=true:=by k_qdec
theorem qL12:L12=M12:=qh te15962966748412412817 te13323495729323226626 (by kernel_rfl)
abbrev Hf(P:Params):Heap:=⟨⟨l11 P⟩,{}⟩
abbrev Mn:Nat:=12+(1+(342+(286+(400+(281+(390+(210+(382+(162+(377+(357+(2))))))))))))
theorem rn(w:World)(os:OsState):topRun treeTable pw_basehouse_k41_tables_over_two w 11 (some (Value.ref 6)) Mn ⟨boot_heap w.params,⟨[]⟩,boot_drawn,boot_toks,os⟩ (topStub pw_basehouse_k41_tables_over_two)=some ⟨Hf w.params,⟨[]⟩,{},798,os⟩:=go_top (GV (GV qL0 w) os) (piece_block (GV (GV qL1 w) os) (JH (JI (GV (GV qL2 w) os)) (JH (JI (GV (GV qL3 w) os)) (JH (JI (GV (GV qL4 w) os)) (JH (JI (GV (GV qL5 w) os)) (JH (JI (GV (GV qL6 w) os)) (JH (JI (GV (GV qL7 w) os)) (JH (JI (GV (GV qL8 w) os)) (JH (JI (GV (GV qL9 w) os)) (JH (JI (GV (GV qL10 w) os)) (JH (JI (GV (GV qL11 w) os)) (GV (GV qL12 w) os))))))))))))
abbrev vw:Program:={(pw_basehouse_k41_tables_over_two)with main:={(pw_basehouse_k41_tables_over_two).main with body:=[top 1,top 2,top 3,top 4,top 5,top 6,top 7,top 8,top 9,top 10,top 12,top 14,top 15,top 17,top 18,top 19,top 20,top 22,top 23,top 25,top 26,top 27,top 28,top 29,top 30,top 31,top 32,top 33,top 35,top 36,top 37,top 38,top 39,top 41,top 42,top 43,top 44,top 45,top 46,top 47,top 48,top 49,top 51,top 52,top 54,top 55,top 56,top 57,top 58,top 59,top 60,top 61,top 62,top 63,top 64,top 65,top 66,top 67]}}
abbrev KF:Params->Frag:=λP=>(nat_lit 2,boot_o_2 P)::(nat_lit 3,o3v10 P)::(nat_lit 15,Y)::(nat_lit 17,o17)::(nat_lit 18,Y)::(nat_lit 20,o20)::(nat_lit 21,o21)::(nat_lit 22,Y)::(nat_lit 25,o25)::(nat_lit 26,o26)::(nat_lit 27,Y)::(nat_lit 29,o29)::(nat_lit 30,Y)::(nat_lit 32,o32)::(nat_lit 33,o33)::(nat_lit 34,Y)::(nat_lit 36,o36)::(nat_lit 37,Y)::(nat_lit 39,o39)::(nat_lit 40,o40)::(nat_lit 41,Y)::(nat_lit 43,o43)::(nat_lit 44,Y)::(nat_lit 46,o46)::(nat_lit 47,o47)::(nat_lit 48,Y)::(nat_lit 51,o51)::(nat_lit 52,o52)::(nat_lit 53,Y)::(nat_lit 56,o56)::(nat_lit 57,o57)::(nat_lit 58,Y)::(nat_lit 61,o61)::(nat_lit 62,o62)::(nat_lit 63,Y)::(nat_lit 65,o65)::(nat_lit 66,Y)::(nat_lit 68,o68)::(nat_lit 69,o69)::(nat_lit 70,Y)::(nat_lit 72,o72)::(nat_lit 73,Y)::(nat_lit 75,o75)::(nat_lit 76,o76)::(nat_lit 77,Y)::(nat_lit 79,o79)::(nat_lit 80,Y)::(nat_lit 82,o82)::(nat_lit 83,o83)::(nat_lit 91,Y)::(nat_lit 93,o93)::(nat_lit 94,Y)::(nat_lit 96,o96)::(nat_lit 97,o97)::(nat_lit 98,Y)::(nat_lit 100,o100)::(nat_lit 101,Y)::(nat_lit 103,o103)::(nat_lit 104,o104)::(nat_lit 105,Y)::(nat_lit 107,o107)::(nat_lit 108,Y)::(nat_lit 110,o110)::(nat_lit 111,o111)::(nat_lit 112,o112)::(nat_lit 113,o113 P)::(nat_lit 114,o114v5)::(nat_lit 115,o115)::(nat_lit 116,o116)::(nat_lit 119,o119)::(nat_lit 126,Y)::(nat_lit 128,o128)::(nat_lit 129,Y)::(nat_lit 131,o131)::(nat_lit 132,o132)::(nat_lit 133,Y)::(nat_lit 136,o136)::(nat_lit 137,o137)::(nat_lit 138,o138)::(nat_lit 139,o139 P)::(nat_lit 140,o140)::(nat_lit 143,Y)::(nat_lit 145,o145)::(nat_lit 146,Y)::(nat_lit 148,o148)::(nat_lit 149,o149)::(nat_lit 150,Y)::(nat_lit 153,o153)::(nat_lit 154,o154)::(nat_lit 155,Y)::(nat_lit 158,o158)::(nat_lit 159,o159)::(nat_lit 160,Y)::(nat_lit 163,o163)::(nat_lit 164,o164)::(nat_lit 165,o165)::(nat_lit 172,Y)::(nat_lit 174,o174)::(nat_lit 175,Y)::(nat_lit 177,o177)::(nat_lit 178,o178)::(nat_lit 179,Y)::(nat_lit 181,o181)::(nat_lit 182,Y)::(nat_lit 184,o184)::(nat_lit 185,o185)::(nat_lit 186,o186)::(nat_lit 187,o187 P)::(nat_lit 188,o188)::(nat_lit 191,o191)::(nat_lit 198,Y)::(nat_lit 200,o200)::(nat_lit 201,Y)::(nat_lit 203,o203)::(nat_lit 204,o204)::(nat_lit 205,Y)::(nat_lit 207,o207)::(nat_lit 208,Y)::(nat_lit 210,o210)::(nat_lit 211,o211)::(nat_lit 212,o212)::(nat_lit 213,o213 P)::(nat_lit 214,o214)::(nat_lit 217,Y)::(nat_lit 220,o220)::(nat_lit 221,o221)::(nat_lit 222,Y)::(nat_lit 225,o225)::(nat_lit 226,o226)::(nat_lit 227,Y)::(nat_lit 230,o230)::(nat_lit 231,o231)::(nat_lit 232,Y)::(nat_lit 234,o234)::(nat_lit 235,Y)::(nat_lit 237,o237)::(nat_lit 238,o238)::(nat_lit 239,Y)::(nat_lit 242,o242)::(nat_lit 243,o243)::(nat_lit 244,Y)::(nat_lit 246,o246)::(nat_lit 247,Y)::(nat_lit 249,o249)::(nat_lit 250,o250)::(nat_lit 251,Y)::(nat_lit 254,o254)::(nat_lit 255,o255)::(nat_lit 256,Y)::(nat_lit 259,o259)::(nat_lit 260,o260)::(nat_lit 261,Y)::(nat_lit 264,o264)::(nat_lit 265,o265)::(nat_lit 266,o266)::(nat_lit 273,Y)::(nat_lit 275,o275)::(nat_lit 276,Y)::(nat_lit 278,o278)::(nat_lit 279,o279)::(nat_lit 280,Y)::(nat_lit 282,o282)::(nat_lit 283,Y)::(nat_lit 285,o285)::(nat_lit 286,o286)::(nat_lit 287,o287)::(nat_lit 288,o288 P)::(nat_lit 289,o289)::(nat_lit 292,Y)::(nat_lit 295,o295)::(nat_lit 296,o296)::(nat_lit 297,Y)::(nat_lit 300,o300)::(nat_lit 301,o301)::(nat_lit 302,Y)::(nat_lit 305,o305)::(nat_lit 306,o306)::(nat_lit 307,Y)::(nat_lit 310,o310)::(nat_lit 311,o311)::(nat_lit 312,Y)::(nat_lit 315,o315)::(nat_lit 316,o316)::(nat_lit 317,Y)::(nat_lit 319,o319)::(nat_lit 320,Y)::(nat_lit 322,o322)::(nat_lit 323,o323)::(nat_lit 324,Y)::(nat_lit 326,o326)::(nat_lit 327,Y)::(nat_lit 329,o329)::(nat_lit 330,o330)::(nat_lit 331,Y)::(nat_lit 333,o333)::(nat_lit 334,Y)::(nat_lit 336,o336)::(nat_lit 337,o337)::(nat_lit 338,Y)::(nat_lit 341,o341)::(nat_lit 342,o342)::(nat_lit 343,o343)::(nat_lit 350,Y)::(nat_lit 353,o353)::(nat_lit 354,o354)::(nat_lit 355,Y)::(nat_lit 357,o357)::(nat_lit 358,Y)::(nat_lit 360,o360)::(nat_lit 361,o361)::(nat_lit 362,Y)::(nat_lit 364,o364)::(nat_lit 365,Y)::(nat_lit 367,o367)::(nat_lit 368,o368)::(nat_lit 369,o369)::(nat_lit 370,o370 P)::(nat_lit 371,o371)::(nat_lit 374,Y)::(nat_lit 376,o376)::(nat_lit 377,Y)::(nat_lit 379,o379)::(nat_lit 380,o380)::(nat_lit 381,Y)::(nat_lit 383,o383)::(nat_lit 384,Y)::(nat_lit 386,o386)::(nat_lit 387,o387)::(nat_lit 388,Y)::(nat_lit 391,o391)::(nat_lit 392,o392)::(nat_lit 393,Y)::(nat_lit 396,o396)::(nat_lit 397,o397)::(nat_lit 398,Y)::(nat_lit 400,o400)::(nat_lit 401,Y)::(nat_lit 403,o403)::(nat_lit 404,o404)::(nat_lit 405,Y)::(nat_lit 408,o408)::(nat_lit 409,o409)::(nat_lit 410,Y)::(nat_lit 413,o413)::(nat_lit 414,o414)::(nat_lit 415,Y)::(nat_lit 418,o418)::(nat_lit 419,o419)::(nat_lit 420,Y)::(nat_lit 423,o423)::(nat_lit 424,o424)::(nat_lit 425,Y)::(nat_lit 427,o427)::(nat_lit 428,Y)::(nat_lit 430,o430)::(nat_lit 431,o431)::(nat_lit 432,Y)::(nat_lit 435,o435)::(nat_lit 436,o436)::(nat_lit 437,Y)::(nat_lit 439,o439)::(nat_lit 440,Y)::(nat_lit 442,o442)::(nat_lit 443,o443)::(nat_lit 444,Y)::(nat_lit 446,o446)::(nat_lit 447,Y)::(nat_lit 449,o449)::(nat_lit 450,o450)::(nat_lit 451,Y)::(nat_lit 453,o453)::(nat_lit 454,Y)::(nat_lit 456,o456)::(nat_lit 457,o457)::[]
abbrev aL:List Addr:=2::3::15::17::18::20::21::22::25::26::27::29::30::32::33::34::36::37::39::40::41::43::44::46::47::48::51::52::53::56::57::58::61::62::63::65::66::68::69::70::72::73::75::76::77::79::80::82::83::91::93::94::96::97::98::100::101::103::104::105::107::108::110::111::112::113::114::115::116::119::126::128::129::131::132::133::136::137::138::139::140::143::145::146::148::149::150::153::154::155::158::159::160::163::164::165::172::174::175::177::178::179::181::182::184::185::186::187::188::191::198::200::201::203::204::205::207::208::210::211::212::213::214::217::220::221::222::225::226::227::230::231::232::234::235::237::238::239::242::243::244::246::247::249::250::251::254::255::256::259::260::261::264::265::266::273::275::276::278::279::280::282::283::285::286::287::288::289::292::295::296::297::300::301::302::305::306::307::310::311::312::315::316::317::319::320::322::323::324::326::327::329::330::331::333::334::336::337::338::341::342::343::350::353::354::355::357::358::360::361::362::364::365::367::368::369::370::371::374::376::377::379::380::381::383::384::386::387::388::391::392::393::396::397::398::400::401::403::404::405::408::409::410::413::414::415::418::419::420::423::424::425::427::428::430::431::432::435::436::437::439::440::442::443::444::446::447::449::450::451::453::454::456::457::[]
theorem eK(P:Params):aL=(KF P).map (·.1):=by kernel_rfl
abbrev HK:Hook:=kHook KF aL eK
abbrev lsN:List Str:=[]
abbrev rw0:RowW:=OpenRow.toRowW (OpenLaw.row rw_basehouse_k41_tables_over_two)
abbrev Xt(s:Shared):Bool:=xlAt vw [] s&&recOk (RowW.records rw0) s
def Lz:World->OsState->Bool×Nat×Option Value:=λw os=>((boot_heap w.params).isNs mainGlobals&&(⟨[]⟩:Array GenState).size==0,(boot_heap w.params).objs.size,(boot_heap w.params).nsMap mainGlobals "__annotations__")
def Mz:World->OsState->Bool×Nat×Option Value:=λw os=>(true,11,(some (Value.ref 6)))
theorem yLz:((λ_=>true) Lz&&(λ_=>true) Mz)=true:=by k_qdec
theorem qLz:Lz=Mz:=Eq.trans te17831390912981975158 (by kernel_rfl:tw17831390912981975158=Mz)
def Ll:=λ(w:World) (os:OsState)=>((staticsOk (importedModules (pw_basehouse_k41_tables_over_two).main.body) (boot_heap w.params) (Hf w.params)&&namesBound pw_basehouse_k41_tables_over_two (Hf w.params)&&gensDone ⟨Hf w.params,⟨[]⟩,{},798,os⟩&&laidKept (boot_heap w.params) (Hf w.params)),openSeen vw lsN (importedModules (pw_basehouse_k41_tables_over_two).main.body) Xt true ⟨Hf w.params,⟨[]⟩,{},798,os⟩,aL.map (Hf w.params).get?)
def Ml:=λ(w:World) (_:OsState)=>(true,openGood vw lsN,(KF w.params).map λp=>some p.2)
theorem yLl:((λ_=>true) Ll&&(λ_=>true) Ml)=true:=by k_qdec
abbrev tL:=tw17448342430068451512
abbrev tv:=tw7000725165481098050
theorem x0:(λw os=>(tL w os).1)=λw _=>true:=by kernel_rfl
theorem x1:(λw os=>(tL w os).2.1.1)=λw _=>expectedOf tv:=by kernel_rfl
theorem x2:(λw os=>(tL w os).2.1.2.1)=λw _=>bltViewBooted:=by kernel_rfl
theorem x3:(λw os=>(tL w os).2.1.2.2.1)=λw _=>true:=by kernel_rfl
theorem x4:(λw os=>(tL w os).2.1.2.2.2.1)=λw _=>true:=by kernel_rfl
theorem x5:(λw os=>(tL w os).2.1.2.2.2.2.1)=λw _=>pinGoodD (drecsOf tv):=by kernel_rfl
theorem x6:(λw os=>(tL w os).2.1.2.2.2.2.2.1)=λw _=>plainGoodE tv (looseW tv lsN):=by kernel_rfl
theorem x7:(λw os=>(tL w os).2.1.2.2.2.2.2.2.1)=λw _=>plainGoodD tv lsN:=by kernel_rfl
theorem x8:(λw os=>(tL w os).2.1.2.2.2.2.2.2.2.1)=λw _=>wideGood tv:=by kernel_rfl
theorem x9:(λw os=>(tL w os).2.1.2.2.2.2.2.2.2.2)=λw _=>clsGoodW tv lsN:=by kernel_rfl
theorem x10:(λw os=>(tL w os).2.2)=λw _=>(KF w.params).map λp=>some p.2:=by kernel_rfl
theorem xx{A B C D E F G H I J K:Type}{x:A× (B×C×D×E×F×G×H×I×J)×K}{a b c d e f g h i j k}(y0:x.1=a)(y1:x.2.1.1=b)(y2:x.2.1.2.1=c)(y3:x.2.1.2.2.1=d)(y4:x.2.1.2.2.2.1=e)(y5:x.2.1.2.2.2.2.1=f)(y6:x.2.1.2.2.2.2.2.1=g)(y7:x.2.1.2.2.2.2.2.2.1=h)(y8:x.2.1.2.2.2.2.2.2.2.1=i)(y9:x.2.1.2.2.2.2.2.2.2.2=j)(y10:x.2.2=k):x=(a,(b,c,d,e,f,g,h,i,j),k):=by obtain⟨_,⟨_,_,_,_,_,_,_,_,_⟩,_⟩:=x;cases y0;cases y1;cases y2;cases y3;cases y4;cases y5;cases y6;cases y7;cases y8;cases y9;cases y10;rfl
theorem qLl:Ll=Ml:=qh te17448342430068451512 te15266112935050528847 (funext λw=>funext λos=>xx (GV (GV x0 w) os) (GV (GV x1 w) os) (GV (GV x2 w) os) (GV (GV x3 w) os) (GV (GV x4 w) os) (GV (GV x5 w) os) (GV (GV x6 w) os) (GV (GV x7 w) os) (GV (GV x8 w) os) (GV (GV x9 w) os) (GV (GV x10 w) os))
theorem hl:LeftO pw_basehouse_k41_tables_over_two vw lsN Xt HK.obs HK.val 6480:=LeftO.of_pieces (m₀:=11) (ann:=(some (Value.ref 6))) (boot_open (by kernel_rfl) (by decide) (λs=>by kernel_rfl)) (λw=>GV (GV qLz w) default) rn (by decide+kernel) (λw=>GV qLl w)
end
end Hd
open PySem PySem.W PyProof.Rows
set_option maxRecDepth 100000 in
set_option maxHeartbeats 0 in
theorem PySem.Challenge.cw_basehouse_k41_tables_over_two_holds : PySem.Challenge.rw_basehouse_k41_tables_over_two.Holds := by
 w_on;o_law
 refine holds_open (q:=Hd.vw) (loose:=Hd.lsN) (Xt:=Hd.Xt) (XP:=XL Hd.vw []) (Yf:=Hd.HK.obs) (Ya:=Hd.HK.val) (YP:=(kHook Hd.KF Hd.aL Hd.eK).says) (N:=6480) Hd.hl Hd.HK.of Hd.HK.keeps (λs e=>xl_of s (Bool.and_eq_true_iff.mp e).1) XL.keeps (by rfl) (by rfl) (by rfl) (λs e=>recFacts_of (Bool.and_eq_true_iff.mp e).2) (by rfl) (by first|assumption|decide+kernel) (by decide+kernel) ⟨rfl,rfl,rfl,rfl,rfl,by decide+kernel⟩ ?hw ?hc
 (case hw=>w_witness2)
 k_fill
 refine BhK.walk (l:=PySem.Challenge.rw_basehouse_k41_tables_over_two) rfl rfl (λw h Y=>PySem.W.kIn_of Y) ?F
 case F=>
  intro w mg fa h KX G hmg
  refine' BhK.all_mk KX G hmg ?_ ?_ ?_ ?_ ?_ ?_ ?_ ?_ ?_ ?_ ?_ ?_ ?_ ?_ ?_ ?_ ?_ ?_ ?_ ?_ ?_ ?_ ?_ ?_ ?_ ?_ ?_ ?_ ?_ ?_ ?_ ?_ ?_ ?_ ?_ ?_ ?_ ?_ ?_ ?_ ?_ ?_ ?_ ?_ ?_ ?_ ?_ ?_ ?_ ?_ ?_ ?_ ?_ ?_ ?_ ?_ ?_ ?_ ?_ ?_ ?_ ?_ ?_ ?_ ?_ ?_ ?_ ?_ ?_ ?_ ?_ ?_ ?_ ?_ ?_ ?_ ?_ ?_ ?_ ?_ ?_ ?_ ?_ ?_ ?_ ?_ ?_ ?_ ?_ ?_ ?_ ?_ ?_ ?_ ?_ ?_ ?_ ?_ ?_ ?_ ?_ ?_ ?_ ?_ ?_ ?_ ?_ ?_ ?_ ?_ ?_ ?_ ?_ ?_ ?_ ?_ ?_ ?_ ?_ ?_ ?_ ?_ ?_ ?_ ?_ ?_ ?_ ?_ ?_ ?_ ?_ ?_ ?_ ?_ ?_
  all_goals try first|k_is|kit_is|decide|kernel_rfl|(refine' BhK.HL.mk ?_ ?_ ?_ ?_ ?_ ?_ ?_<;>try k_is)|(refine' BhK.HM.mk ?_ ?_ ?_ ?_ ?_<;>try k_is)|(refine' BhK.HD.mk ?_ ?_ ?_ ?_<;>try k_is)|(refine' BhK.HI.mk ?_ ?_ ?_ ?_<;>try k_is)
#print axioms PySem.Challenge.cw_basehouse_k41_tables_over_two_holds
