import PyProof.Rows.All
import Wide.All
import OpenK.AllK
import Wide.FinOn
import Lean
import PyProof.EqAt
import PyProof.EqKinds
import PyProof.TupleCall
import PyProof.AttrMissHeap
import PySem.Challenge.RW_basehouse_k25_whole_there_and_back
set_option Elab.async false
set_option linter.all false
set_option maxRecDepth 100000
open PySem.W(instObj methodObj lookIn plainGet hasDictIn findIn isFn plainOver takerIn makesIn emptyDict keepIn specialIn takesIn mroIn kitOne fnOf codeIn nsIn)
abbrev E3:=@List.length_map
abbrev E4:=@Int.toNat_natCast
abbrev E5:=@Or.inl
abbrev E6:=@decide_eq_true
abbrev E7:=@List.mem_of_getElem?
abbrev E8:=@decide_eq_false
abbrev E9:=@if_pos
abbrev Fb:=@Nat.lt_of_lt_of_le
abbrev Fc:=@Nat.le_trans
abbrev Fd:=@List.getElem?_eq_some_iff
abbrev Fe:=@List.mem_cons_of_mem
abbrev Ff:=@List.getD_eq_getElem?_getD
abbrev Fg:=@if_neg
abbrev Fh:=@List.mem_cons
abbrev Fi:=@of_decide_eq_true
abbrev Fj:=@Nat.le_refl
abbrev Fl:=@List.mem_range
abbrev Fm:=@List.getElem?_map
abbrev Fn:=@List.mem_map
abbrev Fo:=@Bool.false_ne_true
abbrev Fp:=@Bool.and_eq_true
abbrev Fq:=@List.mem_cons_self
abbrev Fs:=@List.getElem?_eq_getElem
abbrev Ft:=@Nat.lt_of_le_of_lt
abbrev Fu:=@congrArg
abbrev Fv:=@Nat.eq_of_testBit_eq
abbrev Fw:=@List.length_append
abbrev Fx:=@PySem.PassesOwn.never
abbrev Fy:=@Nat.pow_le_pow_right
abbrev Fz:=@PySem.Heap.lt_size
abbrev FA:=@True.intro
abbrev FC:=@PySem.wpAny_bind
abbrev FD:=@List.length_range
abbrev FE:=@List.mem_append
abbrev FF:=@PySem.Heap.get?_push_of_some
abbrev FG:=@Nat.testBit_and
abbrev FH:=@List.mem_filter
abbrev FI:=@List.mem_singleton
abbrev FJ:=@congrFun
abbrev FK:=@List.length_cons
abbrev FL:=@List.mem_append_right
abbrev FN:=@Nat.ne_of_lt
abbrev FO:=@Int.dvd_mul_of_dvd_right
abbrev FP:=@List.length_take
abbrev FQ:=@List.getElem?_append_left
abbrev FR:=@List.getElem?_append_right
abbrev FT:=@List.map_cons
abbrev FU:=@Classical.byContradiction
abbrev FV:=@Nat.zero_le
abbrev FW:=@List.map_append
abbrev FX:=@Int.zero_add
abbrev FY:=@PySem.boot_len
abbrev FZ:=@PySem.Heap.get?_push_size
abbrev F0:=@Int.natCast_nonneg
abbrev F2:=@PySem.wpAny_pure
abbrev F3:=@List.size_toArray
abbrev F4:=@Bool.eq_false_iff
abbrev F5:=@List.map_map
abbrev F6:=@Nat.xor_assoc
abbrev F7:=@decide_eq_true_iff
abbrev F8:=@PySem.W.mg_none_of
abbrev F9:=@Option.some.inj
abbrev Ga:=@List.length_filter_le
abbrev Gb:=@Nat.testBit_lt_two_pow
abbrev Gd:=@List.length_eraseIdx_of_lt
abbrev Ge:=@PySem.mem_of_lookup
abbrev Gf:=@List.filter_eq_self
abbrev Gg:=@List.mem_append_left
abbrev Gh:=@Nat.le_of_not_lt
abbrev Gi:=@List.getElem?_range
abbrev Gj:=@List.getElem_mem
abbrev Gk:=@Nat.lt_succ_self
abbrev Gm:=@List.take_length
abbrev Gn:=@Int.eq_ofNat_of_zero_le
abbrev Gp:=@Nat.sub_lt_sub_left
abbrev Gq:=@Nat.testBit_two_pow
abbrev Gr:=@Nat.le_antisymm
abbrev Gs:=@List.foldl_cons
abbrev Gu:=@List.filter_cons
abbrev Gv:=@Nat.lt_irrefl
abbrev Gw:=@List.getElem?_of_mem
abbrev Gx:=@Nat.testBit_two_pow_sub_one
abbrev Gy:=@of_decide_eq_false
abbrev Gz:=@Bool.eq_iff_iff
abbrev GA:=@List.range_succ
abbrev GC:=@Nat.pow_pos
abbrev GD:=@Or.inr
abbrev GF:=@Nat.or_lt_two_pow
abbrev GG:=@Nat.testBit_or
abbrev GH:=@PySem.F.slot_list_append
abbrev GI:=@PySem.F.type_list_append
abbrev GJ:=@List.map_congr_left
abbrev GK:=@List.take_add_one
abbrev GL:=@List.foldl_append
abbrev GN:=@List.append_assoc
abbrev GO:=@PySem.F.plainAttrs_list
abbrev GP:=@Bool.or_false
abbrev GQ:=@List.all_eq_true
abbrev GR:=@Bool.true_and
abbrev GS:=@Bool.and_false
abbrev GU:=@Nat.xor_self
abbrev GV:=@Int.mul_comm
abbrev GW:=@PySem.W.kia_one
abbrev GX:=@List.append_nil
abbrev GY:=@Nat.testBit_xor
abbrev GZ:=@List.nil_append
abbrev Hc:=@Nat.zero_testBit
abbrev He:=@List.findSome?_eq_some_iff
abbrev Hg:=@List.findSome?_eq_none_iff
abbrev Hh:=@List.map_id
abbrev Hi:=@List.length_drop
abbrev Hj:=@List.filter_append
abbrev Hk:=@Int.emod_lt_of_pos
abbrev Hl:=@Int.one_mul
abbrev Hm:=@Nat.pow_lt_pow_right
abbrev Hn:=@Nat.testBit_div_two_pow
abbrev Ho:=@PyProof.Rows.callWith_type1
abbrev Hq:=@Int.emod_nonneg
abbrev Hr:=@List.length_pos_of_mem
abbrev Ht:=@Int.mul_assoc
abbrev Hu:=@List.lookup_cons
abbrev Hv:=@List.nodup_cons
abbrev Hw:=@List.range_eq_range'
abbrev Hx:=@Nat.xor_zero
abbrev Hy:=@List.filter_congr
abbrev Hz:=@PySem.W.piece_app
abbrev HE:=@PySem.W.segRun_of
abbrev HH:=@Nat.succ_le_succ
abbrev HN:=@Nat.lt_of_not_le
abbrev HP:=@Nat.lt_trans
abbrev HQ:=@PySem.wpAny_passesOwn
abbrev HR:=@List.length_replicate
abbrev HS:=@PySem.W.mg_of
abbrev HU:=@Bool.and_true
abbrev HV:=@PySem.wpAny_truthy_bool
abbrev HW:=@Nat.le_of_succ_le
abbrev HX:=@Bool.not_eq_true'
abbrev HY:=@Bool.false_and
abbrev HZ:=@PySem.Heap.size_push
abbrev Ic:=@Nat.le_of_lt
abbrev Ie:=@List.getElem?_take_of_lt
abbrev Ig:=@List.map_nil
abbrev Ih:=@List.any_eq_true
abbrev Ii:=@decide_eq_decide
abbrev Ij:=@Int.dvd_zero
abbrev Ik:=@beq_eq_false_iff_ne
abbrev Il:=@List.mem_map_of_mem
abbrev Im:=@List.getElem?_cons_succ
abbrev Io:=@PyProof.Rows.boot_tuple
abbrev Ip:=@PySem.wpAny_Call_Name_kw
abbrev Iq:=@List.find?_cons
abbrev Ir:=@Nat.not_lt_zero
abbrev Iu:=@List.take_of_length_le
abbrev Iv:=@List.getElem?_eraseIdx
abbrev Iw:=@List.eq_nil_of_length_eq_zero
abbrev Iy:=@Nat.lt_succ_of_lt
abbrev Iz:=@Int.mul_left_comm
abbrev IA:=@Nat.ne_of_gt
abbrev IB:=@Bool.not_false
abbrev IC:=@Nat.xor_comm
abbrev ID:=@PyProof.Rows.boot_isinstance
abbrev IE:=@PyProof.Rows.boot_max
abbrev IF:=@Nat.le_add_right
abbrev IG:=@List.mem_of_mem_take
abbrev IH:=@List.any_cons
abbrev II:=@Int.neg_mul
abbrev IJ:=@Array.length_toList
abbrev IK:=@Nat.add_le_add_left
abbrev IL:=@Nat.min_eq_left
abbrev IM:=@and_congr_right
abbrev IP:=@PySem.W.callWith_K
abbrev IQ:=@PySem.wpAny_comprehension_free
abbrev IS:=@Nat.zero_add
abbrev IT:=@List.getElem?_drop
abbrev IU:=@PySem.tupleKind_room_in1
abbrev IV:=@PySem.F.slot_list_getattribute
abbrev IW:=@Nat.and_comm
abbrev IX:=@Nat.zero_xor
abbrev IY:=@List.length_erase_of_mem
abbrev IZ:=@Nat.or_assoc
abbrev I0:=@Int.sub_self
abbrev Ja:=@beq_iff_eq
abbrev Jb:=@List.getElem?_replicate
abbrev Jc:=@Int.dvd_mul_of_dvd_left
abbrev Jd:=@PySem.wpAny_pyIter_list
abbrev Je:=@PySem.Calls.callWith_builtin
abbrev Jf:=@Option.map_eq_some_iff
abbrev Jg:=@Int.mul_neg
abbrev Jh:=@List.singleton_sublist
abbrev Ji:=@PyProof.Rows.boot_list
abbrev Jj:=@Nat.min_eq_right
abbrev Jk:=@List.not_mem_nil
abbrev Jl:=@Nat.testBit_eq_decide_div_mod_eq
abbrev Jm:=@Int.natCast_emod
abbrev Jn:=@Ne.symm
abbrev Jo:=@PySem.W.methodCall_KW
abbrev Jp:=@Array.getElem?_toList
abbrev Jq:=@PyProof.Rows.boot_min
abbrev Jr:=@PySem.wpAny_mono
abbrev Js:=@PySem.wpAny_execs_nil
abbrev Jt:=@Option.map_some
abbrev Ju:=@PySem.codeAny_builtin
abbrev Jv:=@PySem.Around.under_plainId
abbrev Jw:=@Nat.and_le_left
abbrev Jx:=@Bool.or_eq_true
abbrev Jy:=@Nat.pow_succ
abbrev Jz:=@Bool.or_true
abbrev JA:=@Classical.not_forall
abbrev JB:=@Int.zero_mul
abbrev JC:=@Int.pow_succ
abbrev JD:=@Int.mul_eq_zero
abbrev JE:=@List.sublist_map_iff
abbrev JF:=@Int.zero_dvd
abbrev JG:=@List.mem_of_mem_drop
abbrev JH:=@List.exists_mem_of_length_pos
abbrev JI:=@List.filterMap_cons
abbrev JJ:=@PySem.W.plainGet_of
abbrev JK:=@Int.mul_add
abbrev JL:=@Nat.lt_of_le_of_ne
abbrev JM:=@Int.ofNat_dvd_left
abbrev JN:=@List.idxOf_lt_length_of_mem
abbrev JO:=@List.filter_filter
abbrev JP:=@Option.toList_some
abbrev JQ:=@PySem.Paired.length
abbrev JR:=@Int.fdiv_eq_ediv_of_nonneg
abbrev JS:=@List.nodup_iff_pairwise_ne
abbrev JT:=@List.any_eq_false
abbrev JU:=@Option.isSome_map
abbrev JV:=@List.nodup_append
abbrev JW:=@Classical.not_imp
abbrev JX:=@Nat.lt_pow_two_of_testBit
abbrev JY:=@Nat.mod_lt
abbrev JZ:=@Int.eq_of_mul_eq_mul_left
abbrev J0:=@if_true
abbrev J1:=@PySem.codeAny_mono
abbrev J2:=@Option.isSome_iff_exists
abbrev J3:=@List.cons_append
abbrev J4:=@PySem.F.slot_dict_values
abbrev J5:=@Nat.not_lt_of_le
abbrev J6:=@Int.add_zero
abbrev J7:=@Int.mul_zero
abbrev J8:=@Int.pow_zero
abbrev J9:=@List.nil_sublist
abbrev Ka:=@PyProof.Rows.boot_sorted
abbrev Kb:=@Nat.add_sub_cancel_left
abbrev Kc:=@List.filter_cons_of_pos
abbrev Ke:=@List.filter_cons_of_neg
abbrev Kf:=@List.of_mem_zip
abbrev Kg:=@PySem.pushCells_keeps
abbrev Kh:=@List.length_nil
abbrev Ki:=@List.filter_map
abbrev Kj:=@Nat.le_succ
abbrev Kk:=@Int.dvd_add
abbrev Kl:=@List.all_cons
abbrev Km:=@Bool.false_or
abbrev Kn:=@List.sum_cons
namespace L2
open PySem PySem.Spec PyProof.Rows
abbrev Key:=Sum Int Str
def pk:Key->Value->Bool
 | .inl k,v=>Value.isInt k v
 | .inr x,v=>Value.isStrOf x v
def ES(w:World):Key->Int
 | .inl k=>hashInt k
 | .inr x=>hashStr w x
theorem cu:∀ {k:Key} {v:Value},pk k v=true->(∃i t,k=Sum.inl i/\v=Value.int i t)\/(∃x t,k=Sum.inr x/\v=Value.str x t)
 | .inl i,v,h=>by obtain⟨t,e⟩:=Value.isInt_shape (k:=i) (v:=v) h;exact .inl ⟨i,t,rfl,e⟩
 | .inr x,v,h=>by obtain⟨t,e⟩:=Value.isStrOf_shape (x:=x) (v:=v) h;exact .inr ⟨x,t,rfl,e⟩
theorem yp(i:Int)(t:Tok):pk (.inl i) (.int i t)=true:=by simp[pk,Value.isInt]
theorem yo(x:Str)(t:Tok):pk (.inr x) (.str x t)=true:=by simp[pk,Value.isStrOf]
theorem DJ(a b:Int):decide ((Sum.inl a:Key)=Sum.inl b)=(a==b):=by
 by_cases e:a=b
 .subst e;simp
 .have h:¬(Sum.inl a:Key)=Sum.inl b:=λq=>e (Sum.inl.inj q);rw[E8 h];exact(Ik.mpr e).symm
theorem DG(a b:Str):decide ((Sum.inr a:Key)=Sum.inr b)=decide (a=b):=by
 by_cases e:a=b
 .subst e;simp
 .have h:¬(Sum.inr a:Key)=Sum.inr b:=λq=>e (Sum.inr.inj q);rw[E8 h,E8 e]
theorem DI(a:Int)(b:Str):decide ((Sum.inl a:Key)=Sum.inr b)=false:=E8 (λq=>nomatch q)
theorem DH(a:Str)(b:Int):decide ((Sum.inr a:Key)=Sum.inl b)=false:=E8 (λq=>nomatch q)
def cw(prog:Program)(w:World):PySem.KeyKind prog w Key where
 is:=pk
 hash:=ES w
 inj:=λv a b ha hb=>by
  rcases cu ha with ⟨i,t,rfl,rfl⟩|⟨x,t,rfl,rfl⟩
  .rcases cu hb with ⟨j,u,rfl,e⟩|⟨y,u,rfl,e⟩
   .injection e with e1 _;rw[e1]
   .exact nomatch e
  .rcases cu hb with ⟨j,u,rfl,e⟩|⟨y,u,rfl,e⟩
   .exact nomatch e
   .injection e with e1 _;rw[e1]
 byValue:=λk v h=>by rcases cu h with ⟨i,t,rfl,rfl⟩|⟨x,t,rfl,rfl⟩<;>rfl
 pyHash:=λhv h=>by
  rcases cu hv with ⟨i,t,rfl,rfl⟩|⟨x,t,rfl,rfl⟩
  .exact wpAny_pyHash_int h
  .exact wpAny_pyHash_str h
 eqBool:=λhu hv h=>by
  rcases cu hu with ⟨i,t,rfl,rfl⟩|⟨x,t,rfl,rfl⟩
  .rcases cu hv with ⟨j,u,rfl,rfl⟩|⟨y,u,rfl,rfl⟩
   .rw[DJ]at h;exact wpAny_eqBool_int h
   .rw[DI]at h;exact SeqAt.EqAt.int_str i t y u _ _ _ _ h
  .rcases cu hv with ⟨j,u,rfl,rfl⟩|⟨y,u,rfl,rfl⟩
   .rw[DH]at h;exact SeqAt.EqAt.str_int x t j u _ _ _ _ h
   .rw[DG]at h;exact wpAny_eqBool_str h
 «strs»:=λk x t v h=>by
  rcases cu h with ⟨i,u,rfl,e⟩|⟨y,u,rfl,e⟩
  .exact nomatch e
  .injection e with e1 _
   subst e1;cases v<;>rfl
theorem tF(prog:Program)(w:World)(i:Int)(t:Tok):(cw prog w).is (.inl i) (.int i t)=true:=yp i t
theorem tE(prog:Program)(w:World)(x:Str)(t:Tok):(cw prog w).is (.inr x) (.str x t)=true:=yo x t
end L2
namespace L2
open PySem PySem.Spec PyProof.Rows
inductive V where
 |non|bl (b:Bool)|int (i:Int)|str (x:Str)|byt (b:Array UInt8)|flt (b:UInt64)|ref (a:Addr)|ty (n:String)
 deriving DecidableEq
def bH:V->Value->Prop
 | .non,u=>u=Value.none
 | .bl b,u=>u=Value.bool b
 | .int i,u=>∃t,u=Value.int i t
 | .str x,u=>∃t,u=Value.str x t
 | .byt b,u=>∃t,u=Value.bytes b t
 | .flt b,u=>∃t,u=Value.float b t
 | .ref a,u=>u=Value.ref a
 | .ty n,u=>u=Value.type n
abbrev Vals:List V->List Value->Prop:=Paired bH
theorem Vals.length{xs:List V}{us:List Value}(r:Vals xs us):xs.length=us.length:=JQ r
theorem Vals.get:∀ {xs:List V} {us:List Value} {i:Nat} {x:V},Vals xs us->xs[i]?=some x->∃u,us[i]?=some u/\bH x u
 |_,_,_,_, .nil,e=>by simp at e
 |_,_,0,_, .cons r _,e=>by simp at e;subst e;exact⟨_,rfl,r⟩
 |_,_,i+1,x, .cons _ t,e=>by obtain⟨u,h1,h2⟩:=Vals.get (i:=i) (x:=x) t (by simpa using e);exact⟨u,by simpa using h1,h2⟩
theorem Vals.set(r:bH x u):∀ {xs:List V} {us:List Value} (i:Nat),Vals xs us->Vals (xs.set i x) (us.set i u)
 |_,_,_, .nil=> .nil
 |_,_,0, .cons _ t=> .cons r t
 |_,_,i+1, .cons q t=> .cons q (Vals.set r i t)
theorem Vals.append:∀ {xs ys:List V} {us ws:List Value},Vals xs us->Vals ys ws->Vals (xs++ys) (us++ws)
 |_,_,_,_, .nil,s=>s
 |_,_,_,_, .cons r t,s=> .cons r (Vals.append t s)
theorem Vals.take:∀ {xs:List V} {us:List Value} (n:Nat),Vals xs us->Vals (xs.take n) (us.take n)
 |_,_,0,_=> .nil
 |_,_,_+1, .nil=> .nil
 |_,_,n+1, .cons r t=> .cons r (Vals.take n t)
theorem Vals.drop:∀ {xs:List V} {us:List Value} (n:Nat),Vals xs us->Vals (xs.drop n) (us.drop n)
 |_,_,0,r=>r
 |_,_,_+1, .nil=> .nil
 |_,_,n+1, .cons _ t=>Vals.drop n t
def gO:Option V->Option Value->Prop
 |some v,some u=>bH v u
 |none,none=>True
 |_,_=>False
def KV{κ:Type}:List (κ×V)->List (κ×Value)->Prop:=Paired λ(p:κ×V) (q:κ×Value)=>p.1=q.1/\bH p.2 q.2
def kV:Key->V
 | .inl i=> .int i
 | .inr x=> .str x
inductive HO where
 |lst (xs:List V)
 |tup (xs:List V)
 |dK (kvs:List (Key×V))|dT (kvs:List (List Key×V))
 |set (S:Int->Bool) (n:Nat)
 |ins (C dx:Addr) (fs:List (Str×V))
 |own (x:Addr)
 |xd (fs:List (Str×V))
 |met (f x:Addr)
 |rng (lo hi:Int)
 |frz (o:Obj) (u:HO)
 |tbl (ps:Array Value)
 |ext (φ:Heap->Prop)
abbrev Hp:=Addr->Option HO
def upd(H:Hp)(a:Addr)(o:HO):Hp:=λb=>if b=a then some o else H b
theorem ah:upd H a o a=some o:=by unfold upd;rw[E9 rfl]
theorem aC(h:b≠a):upd H a o b=H b:=by unfold upd;rw[Fg h]
theorem fM:upd (upd H a o) a u=upd H a u:=by funext b;unfold upd;split<;>rfl
theorem gK{H:Hp}(h:H a=some o)(h':H b=some u)(d:o≠u):a≠b:=by intro e;subst e;rw[h]at h';exact d (F9 h')
theorem aA{H:Hp}(h:H a=some o)(h':H b=none):a≠b:=by intro e;subst e;rw[h]at h';cases h'
section
variable(P:Program)(w:World)
def b6(H:Hp)(h:Heap)(a:Addr):HO->Prop
 | .lst xs=>xs.length<=sizeLine/\∃ (its:List Value) (n:Nat),Vals xs its/\h.get? a=some {cls:= .type "list",data:= .seq its.toArray n}
 | .tup xs=>xs.length<=sizeLine/\∃its:List Value,Vals xs its/\IsTup h a its.toArray
 | .dK kvs=>kvs.length<=sizeLine/\(a==sysModules)=false/\∃vs,KV kvs vs/\h.DictOf (cw P w) a vs
 | .dT kvs=>kvs.length<=sizeLine/\(a==sysModules)=false/\∃xs:List (List Key×Addr×Value),
   Paired (λ(p:List Key×V) (q:List Key×Addr×Value)=>p.1=q.1/\H q.2.1=some (.tup (p.1.map kV))/\bH p.2 q.2.2) kvs xs/\
   ∃o es ep,h.get? a=some o/\o.ExactDict/\o.data= .dict es ep/\es.toList=xs.map (entryOfKey (tupleKind (cw P w)))/\(xs.map (·.1)).Nodup
 | .set S n=>h.SetOf (intKind P w) a S n
 | .ins C dx fs=>H dx=some (.own a)/\fs.length<=1000/\dx≠a/\h.get? a=some (instObj C dx)/\
   ∃mA,h.Ns1 dx mA/\(∀f,gO (fs.lookup f) (mA f))/\PySem.Within mA (fs.map (·.1))
 | .own _=>∃o,h.get? a=some o
 | .xd fs=>∃mA,h.Ns1 a mA/\∀f,gO (fs.lookup f) (mA f)
 | .rng lo hi=>∃t u v,h.get? a=some {cls:= .type "range",data:= .fields #[.int lo t, .int hi u, .int 1 v]}
 | .frz o u=>h.get? a=some o/\b6 H h a u
 | .tbl ps=>h.get? a=some {cls:= .none,data:= .fields ps}
 | .met f x=>h.get? a=some (methodObj (.ref f) (.ref x))
 | .ext φ=>φ h/\(∃o,h.get? a=some o)/\∀h1 h2:Heap,φ h1->(∀o,h1.get? a=some o->h2.get? a=some o)->φ h2
def HOk(H:Hp)(h:Heap):Prop:=∀a o,H a=some o->b6 P w H h a o
end
section
variable{P:Program}{w:World}{H H':Hp}{h h':Heap}{a:Addr}{o:HO}
theorem b6.lt(x:b6 P w H h a o):a<h.objs.size:=by
 cases o with
 |lst xs=>obtain⟨_,_,_,_,e⟩:=x;exact Fz e
 |tup xs=>obtain⟨_,_,_,p⟩:=x;exact p.lt
 |dK kvs=>obtain⟨_,_,_,_,o,_,_,e,_⟩:=x;exact Fz e
 |dT kvs=>obtain⟨_,_,_,_,o,_,_,e,_⟩:=x;exact Fz e
 |set S n=>obtain⟨o,_,_,_,e,_⟩:=x;exact Fz e
 |ins C dx fs=>obtain⟨_,_,_,e,_⟩:=x;exact Fz e
 |own y=>obtain⟨_,e⟩:=x;exact Fz e
 |xd fs=>obtain⟨_,⟨_,_,_,e,_⟩,_⟩:=x;exact Fz e
 |rng lo hi=>obtain⟨_,_,_,e⟩:=x;exact Fz e
 |frz ob u=>obtain⟨e,_⟩:=x;exact Fz e
 |tbl ps=>exact Fz (show h.get? a=some _ from x)
 |met f y=>exact Fz (show h.get? a=some _ from x)
 |ext φ=>obtain⟨_,⟨_,e⟩,_⟩:=x;exact Fz e
theorem Paired.mapP:∀ {l₁:List α} {l₂:List β},Paired F l₁ l₂->(∀a b,F a b->G a b)->Paired G l₁ l₂
 |_,_, .nil,_=> .nil
 |_,_, .cons r t,f=> .cons (f _ _ r) (Paired.mapP t f)
theorem b6.stay(x:b6 P w H h a o)(k:∀b u,(b=a\/H b=some (.own a))->h.get? b=some u->h'.get? b=some u)
  (ho:∀b,H b=some (.own a)->H' b=some (.own a)) (ht:∀b xs,H b=some (.tup xs)->H' b=some (.tup xs)):b6 P w H' h' a o:=by
 induction o with
 |lst xs=>obtain⟨z,its,n,r,e⟩:=x;exact⟨z,its,n,r,k _ _ (.inl rfl) e⟩
 |tup xs=>obtain⟨z,its,r,ob,e,c⟩:=x;exact⟨z,its,r,ob,k _ _ (.inl rfl) e,c⟩
 |dK kvs=>obtain⟨z,y,vs,r,ob,es,ep,e,c⟩:=x;exact⟨z,y,vs,r,ob,es,ep,k _ _ (.inl rfl) e,c⟩
 |dT kvs=>
  obtain⟨z,y,xs,r,ob,es,ep,e,c⟩:=x;exact⟨z,y,xs,Paired.mapP r λp q z=>⟨z.1,ht _ _ z.2.1,z.2.2⟩,ob,es,ep,k _ _ (.inl rfl) e,c⟩
 |set S n=>obtain⟨ob,es,ep,t,e,c⟩:=x;exact⟨ob,es,ep,t,k _ _ (.inl rfl) e,c⟩
 |ins C dx fs=>
  obtain⟨d,z,ne,e,mA,⟨od,es,ep,e2,c⟩,r⟩:=x;exact⟨ho _ d,z,ne,k _ _ (.inl rfl) e,mA,⟨od,es,ep,k _ _ (.inr d) e2,c⟩,r⟩
 |own y=>obtain⟨ob,e⟩:=x;exact⟨ob,k _ _ (.inl rfl) e⟩
 |xd fs=>obtain⟨mA,⟨od,es,ep,e,c⟩,r⟩:=x;exact⟨mA,⟨od,es,ep,k _ _ (.inl rfl) e,c⟩,r⟩
 |rng lo hi=>obtain⟨t,u,v,e⟩:=x;exact⟨t,u,v,k _ _ (.inl rfl) e⟩
 |frz ob u ih=>obtain⟨e,q⟩:=x;exact⟨k _ _ (.inl rfl) e,ih q⟩
 |tbl ps=>
  have e:h.get? a=some {cls:= .none,data:= .fields ps}:=x;show h'.get? a=some {cls:= .none,data:= .fields ps};exact k a _ (.inl rfl) e
 |met f y=>
  have e:h.get? a=some (methodObj (.ref f) (.ref y)):=x;show h'.get? a=some (methodObj (.ref f) (.ref y));exact k a _ (.inl rfl) e
 |ext φ=>obtain⟨p,⟨o,e⟩,st⟩:=x;exact⟨st _ _ p λo q=>k _ _ (.inl rfl) q,⟨o,k _ _ (.inl rfl) e⟩,st⟩
theorem HOk.lt(x:HOk P w H h)(e:H a=some o):a<h.objs.size:=(x a o e).lt
theorem HOk.fresh(x:HOk P w H h)(e:h.objs.size<=a):H a=none:=by
 cases q:H a with
 |none=>rfl
 |some u=>exact absurd (Fb (x.lt q) e) (Gv _)
theorem HOk.kept(x:HOk P w H h)(k:∀b u,h.get? b=some u->h'.get? b=some u):HOk P w H h':=λa o e=>
 (x a o e).stay (λb u _ q=>k b u q) (λ_ q=>q) λ_ _ q=>q
theorem HOk.laid(x:HOk P w H h)(k:∀b u,h.get? b=some u->h'.get? b=some u)(hp:h.objs.size<=a)(new:b6 P w (upd H a o) h' a o):HOk P w (upd H a o) h':=λb u e=>by
 have hn:=x.fresh hp;by_cases hb:b=a
 .subst hb;rw[ah]at e;cases e;exact new
 .rw[aC hb]at e;exact(x b u e).stay (λc v _ q=>k c v q) (λc q=>by rw[aC (aA q hn)];exact q) λc xs q=>by rw[aC (aA q hn)];exact q
end
def Rd(H:Hp)(a:Addr)(u:HO):Prop:=H a=some u\/∃o,H a=some (.frz o u)
theorem Rd.of(h:H a=some u):Rd H a u:= .inl h
theorem Rd.ok(r:Rd H a u)(x:HOk P w H h):b6 P w H h a u:=by
 rcases r with r|⟨o,r⟩
 .exact x a u r
 .obtain⟨_,q⟩:=x a _ r;exact q
def Mut:Option HO->Prop
 |some (.lst _)=>True
 |some (.dK _)=>True
 |some (.dT _)=>True
 |some (.set _ _)=>True
 |some (.ins _ _ _)=>True
 |some (.ext _)=>True
 |_=>False
section
variable{P:Program}{w:World}{H:Hp}{h h':Heap}{x e:Addr}{o':HO}
theorem HOk.write(ok:HOk P w H h)(mu:Mut (H x))(he:e=x\/H e=some (.own x))(k:∀b u,b≠e->h.get? b=some u->h'.get? b=some u)(heo:∃u,h'.get? e=some u)
  (new:b6 P w (upd H x o') h' x o'):HOk P w (upd H x o') h':=λb u q=>by
 have nown:∀c y,H c=some (.own y)->c≠x:=λc y r z=>by subst z;rw[r]at mu;exact mu
 have ntup:∀c xs,H c=some (.tup xs)->c≠x:=λc xs r z=>by subst z;rw[r]at mu;exact mu
 by_cases hb:b=x
 .subst hb;rw[ah]at q;cases q;exact new
 .rw[aC hb]at q;by_cases hbe:b=e
  .have q':H b=some (.own x):=by
    rcases he with z|z
    .exact absurd (hbe.trans z) hb
    .rw[hbe];exact z
   rw[q]at q';cases q';obtain⟨v,hv⟩:=heo;exact⟨v,by rw[hbe];exact hv⟩
  .refine(ok b u q).stay (λc v hc r=>k c v ?_ r) (λc r=>by rw[aC (nown c b r)];exact r) λc xs r=>by rw[aC (ntup c xs r)];exact r
   rcases hc with rfl|hc
   .exact hbe
   .rintro rfl;rcases he with z|z
    .exact nown c b hc z
    .rw[hc]at z;cases z;exact hb rfl
end
structure Un(fs ex:List Addr)(H H':Hp)(h h':Heap):Prop where
 keep:∀b o,h.get? b=some o->H b=none->b∉fs->b∉ex->h'.get? b=some o
 slot:∀b o,h.get? b=some o->H b=none->b∈fs->b∉ex->∃sl,h'.get? b=some {o with slots:=sl}
 free:∀b o,h.get? b=some o->H b=none->b∉ex->H' b=none
 there:∀b o,h.get? b=some o->b∉ex->∃o',h'.get? b=some o'
 tups:∀b xs,H b=some (.tup xs)->H' b=some (.tup xs)
 frzs:∀b o u,H b=some (.frz o u)->H' b=some (.frz o u)
 tbls:∀b ps,H b=some (.tbl ps)->∃more,H' b=some (.tbl (ps++more))
section
variable{fs fs' ex ex':List Addr}{H H1 H2:Hp}{h h1 h2 h':Heap}{a x e:Addr}{o:HO}
theorem Un.any(u:Un fs ex H H1 h h1)(q:h.get? b=some ob)(n:H b=none)(hx:b∉ex):∃sl,h1.get? b=some {ob with slots:=sl}:=by
 by_cases hb:b∈fs
 .exact u.slot b ob q n hb hx
 .exact⟨ob.slots,u.keep b ob q n hb hx⟩
theorem Un.trans(a:Un fs ex H H1 h h1)(b:Un fs ex H1 H2 h1 h2):Un fs ex H H2 h h2 where
 keep:=λc ob q n hc hx=>b.keep c ob (a.keep c ob q n hc hx) (a.free c ob q n hx) hc hx
 slot:=λc ob q n hc hx=>by obtain⟨sl,e1⟩:=a.slot c ob q n hc hx;obtain⟨sl',e2⟩:=b.slot c _ e1 (a.free c ob q n hx) hc hx;exact⟨sl',e2⟩
 free:=λc ob q n hx=>by obtain⟨o',e1⟩:=a.there c ob q hx;exact b.free c o' e1 (a.free c ob q n hx) hx
 there:=λc ob q hx=>by obtain⟨o',e1⟩:=a.there c ob q hx;exact b.there c o' e1 hx
 tups:=λc xs q=>b.tups c xs (a.tups c xs q)
 frzs:=λc ob xs q=>b.frzs c ob xs (a.frzs c ob xs q)
 tbls:=λc ps q=>by obtain⟨m1,e1⟩:=a.tbls c ps q;obtain⟨m2,e2⟩:=b.tbls c _ e1;exact⟨m1++m2,by rw[e2,Array.append_assoc]⟩
theorem Un.kept(k:∀b u,h.get? b=some u->h'.get? b=some u):Un fs ex H H h h':=
 ⟨λb ob q _ _ _=>k b ob q,λb ob q _ _ _=>⟨ob.slots,k b ob q⟩,λ_ _ _ n _=>n,λb ob q _=>⟨ob,k b ob q⟩,λ_ _ q=>q,λ_ _ _ q=>q,λ_ ps q=>⟨#[],by rw[q];simp⟩⟩
theorem Un.refl:Un fs ex H H h h:=Un.kept λ_ _ q=>q
theorem Un.laid(k:∀b u,h.get? b=some u->h'.get? b=some u)(hp:h.objs.size<=a)(hn:H a=none):Un fs ex H (upd H a o) h h' where
 keep:=λb u q _ _ _=>k b u q
 slot:=λb u q _ _ _=>⟨u.slots,k b u q⟩
 free:=λb u q n _=>by rw[aC (FN (Fb (Fz q) hp))];exact n
 there:=λb u q _=>⟨u,k b u q⟩
 tups:=λb xs q=>by rw[aC (aA q hn)];exact q
 frzs:=λb u xs q=>by rw[aC (aA q hn)];exact q
 tbls:=λb ps q=>⟨#[],by rw[aC (aA q hn),q];simp⟩
theorem Un.write(mu:Mut (H x))(he:e=x\/H e=some (.own x))(k:∀b u,b≠e->h.get? b=some u->h'.get? b=some u)(heo:∃u,h'.get? e=some u):Un fs ex H (upd H x o) h h':=by
 have hx:∀b,H b=none->b≠x:=λb n z=>by subst z;rw[n]at mu;exact mu
 have hb:∀b,H b=none->b≠e:=λb n z=>by
  subst z;rcases he with r|r
  .exact hx b n r
  .rw[n]at r;cases r
 have hm:∀b u,H b=some u->¬Mut (some u)->b≠x:=λb u q nm z=>by subst z;rw[q]at mu;exact nm mu
 refine⟨λb u q n _ _=>k b u (hb b n) q,λb u q n _ _=>⟨u.slots,k b u (hb b n) q⟩,λb u q n _=>by rw[aC (hx b n)];exact n,λb u q _=> ?_,
  λb xs q=>by rw[aC (hm b _ q λz=>z)];exact q,λb u xs q=>by rw[aC (hm b _ q λz=>z)];exact q,λb ps q=>⟨#[],by rw[aC (hm b _ q λz=>z),q];simp⟩⟩
 by_cases hbe:b=e
 .subst hbe;exact heo
 .exact⟨u,k b u hbe q⟩
theorem Un.mono(u:Un fs ex H H1 h h1)(hs:∀b∈fs,b∈fs')(hx:∀b∈ex,b∈ex'):Un fs' ex' H H1 h h1:=
 ⟨λb ob q n hb he=>u.keep b ob q n (λz=>hb (hs b z)) λz=>he (hx b z),λ_ _ q n _ he=>u.any q n λz=>he (hx _ z),λb ob q n he=>u.free b ob q n λz=>he (hx b z),λb ob q he=>u.there b ob q λz=>he (hx b z),u.tups,u.frzs,u.tbls⟩
end
def trk(h:Heap)(H:Hp):List Addr:=(List.range h.objs.size).filter λa=>(H a).isSome
def rl(h:Heap)(H:Hp):Heap:=PySem.W.hideAll h (trk h H)
theorem yt(h:Heap)(H:Hp):(rl h H).objs.size=h.objs.size:=PySem.W.hideAll_size _ _
theorem AR{h:Heap}(e:h.get? b=some o)(n:H b=none):(rl h H).get? b=some o:=
 PySem.W.hideAll_get _ e λhm=>by have q:(H b).isSome=true:=(FH.mp hm).2;rw[n]at q;simp at q
theorem B2{h:Heap}(e:(rl h H).get? b=some o):h.get? b=some o/\H b=none:=by
 have e':h.get? b=some o:=PySem.W.of_hideAll (trk h H) e;refine⟨e',?_⟩;cases q:H b with
 |none=>rfl
 |some x=>
  have hm:b∈trk h H:=FH.mpr ⟨Fl.mpr (Fz e'),by simp[q]⟩;have z:(rl h H).get? b=none:=PySem.W.hideAll_none (trk h H) hm;rw[z]at e;cases e
def Cy(g h:Heap)(L:Addr):List (Addr×Obj):=(List.range h.objs.size).filterMap λa=>if a=L\/(g.get? a).isSome=true then none else(h.get? a).map λo=>(a,o)
def rest(g h:Heap)(L d:Addr):List (Addr×Obj):=(Cy g h L).filter λp=>decide (p.1≠d)
end L2
namespace L2
open PySem PySem.Spec PyProof.Rows
structure Mod(K:PySem.W.Frag)(mg:Str->Option Value)(base:Heap):Prop where
 kin:K.In base
 glob:base.Ns mainGlobals mg
 blt:∃mb,base.Ns builtinsNs mb/\∀x:Str,x≠ "__name__"->mb x=bootBuiltins x
 nolimit:base.NoLimit
structure Cx where
 prog:Program
 w:World
 K:PySem.W.Frag
 mg:Str->Option Value
 base:Heap
 A:Around
 N:List Str
 s₀:Shared
 H₀:Hp
 env:Env
 outer:List Env
 stack:List Env
 ex:List Addr
 fn:Str->Bool
 calm:Bool
 pn:List (Addr×Obj)
 xe:Value->Shared->Prop
def frs(l:List Env):List Addr:=l.filterMap (·.frame)
abbrev Cx.fs(X:Cx):List Addr:=frs X.outer
def Vis(sc:Scope)(x:Str):Prop:=sc.names.lookup x=some .local\/sc.names.lookup x=some .cell\/sc.names.lookup x=some .free
def Loc(sc:Scope)(x:Str):Prop:=sc.names.lookup x=some .local\/sc.names.lookup x=some .cell
def Look(env:Env)(h:Heap)(m:Str->Option Value)(x:Str)(u:Value):Prop:=
 (env.kindOf x=some .local/\m x=some u)\/((env.kindOf x=some .cell\/env.kindOf x=some .free)/\∃c,env.cells.lookup x=some c/\h.IsCell c (some u))
structure Cx.Ok(X:Cx):Prop where
 mod:Mod X.K X.mg X.base
 kind:X.env.scope.kind= .function
 glob:X.env.globals=mainGlobals
 blt:X.env.builtins=builtinsNs
 above:X.s₀.heap.objs.size<=X.env.locals
 inj:∀x y c,X.env.cells.lookup x=some c->X.env.cells.lookup y=some c->x=y
 has:∀x,(X.env.kindOf x=some .cell\/X.env.kindOf x=some .free)->∃c,X.env.cells.lookup x=some c
 cab:∀x c,X.fn x=true->X.env.cells.lookup x=some c->X.s₀.heap.objs.size<=c
 hd:X.calm=true->X.A.handled=none
 frames:X.A.frames=some X.stack
 stk:X.stack=X.outer\/(X.stack=X.env::X.outer/\X.env.frame=some X.env.locals)
 exf:∀b∈X.ex,b≠X.env.locals/\∀x c,X.env.cells.lookup x=some c->c≠b
 bs:∀b o,X.base.get? b=some o->X.s₀.heap.get? b=some o/\X.H₀ b=none
 bsz:X.base.objs.size<=X.s₀.heap.objs.size
 noex:∀b o,X.base.get? b=some o->b∉X.ex
 exfs:∀b∈X.ex,b∉X.fs
 funs:X.s₀.heap.FunFrames X.base X.outer
 frf:∀b∈X.fs,X.H₀ b=none
structure Inv(X:Cx)(pins:List (Addr×Obj))(σ:List (Option V))(H:Hp)(s:Shared):Prop where
 ok:X.Ok
 os:s.os=X.s₀.os
 bare:AllBare s.gens
 base:Un X.fs X.ex X.H₀ H X.s₀.heap s.heap
 loc:∃m,s.heap.Ns X.env.locals m/\∀ (i:Nat) (x:Str) (v:V),X.N[i]?=some x->σ[i]?=some (some v)->Vis X.env.scope x->∃u,bH v u/\Look X.env s.heap m x u
 cell:∀x c,X.env.cells.lookup x=some c->∃v,s.heap.IsCell c v
 free:H X.env.locals=none
 freeC:∀x c,X.env.cells.lookup x=some c->H c=none
 pin:∀p∈X.pn++pins,s.heap.get? p.1=some p.2/\H p.1=none/\p.1≠X.env.locals/\p.1∉X.fs/\∀v,p.2.data≠ .cell v
 hok:HOk X.prog X.w H s.heap
 len:σ.length=X.N.length
section
variable{X:Cx}{pins:List (Addr×Obj)}{σ:List (Option V)}{H H':Hp}{s:Shared}{h':Heap}
theorem Cx.Ok.nofr(ok:X.Ok)(e:X.base.get? b=some o):b∉X.fs:=λhb=>by have:=(ok.funs.mem hb).1;rw[e]at this;cases this
theorem Inv.bs(I:Inv X pins σ H s):∀b o,X.base.get? b=some o->s.heap.get? b=some o/\H b=none:=λb o e=>
 ⟨I.base.keep b o (I.ok.bs b o e).1 (I.ok.bs b o e).2 (I.ok.nofr e) (I.ok.noex b o e),I.base.free b o (I.ok.bs b o e).1 (I.ok.bs b o e).2 (I.ok.noex b o e)⟩
theorem Inv.bk(I:Inv X pins σ H s):∀b o,X.base.get? b=some o->s.heap.get? b=some o:=λb o e=>(I.bs b o e).1
theorem Inv.mod(I:Inv X pins σ H s):Mod X.K X.mg X.base:=I.ok.mod
theorem Inv.kIn(I:Inv X pins σ H s):X.K.In s.heap:=I.ok.mod.kin.keeps I.bk
theorem Inv.fr(I:Inv X pins σ H s):∃m,Fr X.base X.env.locals s.heap m:=
 let⟨m,hn,_⟩:=I.loc
 ⟨m,hn,I.bk,Fc I.ok.bsz I.ok.above⟩
theorem Inv.lt(I:Inv X pins σ H s):X.env.locals<s.heap.objs.size:=let⟨_,hn,_⟩:=I.loc;hn.lt
theorem Inv.sz(I:Inv X pins σ H s):X.s₀.heap.objs.size<=s.heap.objs.size:=Fc I.ok.above (Ic I.lt)
theorem Inv.nofs(I:Inv X pins σ H s){a:Addr}(h:s.heap.objs.size<=a):a∉X.fs:=λhb=>by obtain⟨_,o,ho,_⟩:=I.ok.funs.mem hb;exact absurd (Fb (Fz ho) (Fc I.sz h)) (Gv _)
theorem Inv.cne(I:Inv X pins σ H s):∀x c,X.env.cells.lookup x=some c->c≠X.env.locals:=λx c e z=>by obtain⟨v,o,ho,hd⟩:=I.cell x c e;obtain⟨m,⟨o',es,ep,ho',hd',_⟩,_⟩:=I.loc;rw[z,ho']at ho;cases ho;rw[hd']at hd;cases hd
theorem Inv.funs(I:Inv X pins σ H s):s.heap.FunFrames X.base X.outer:=by
 have all:∀ (l:List Env),(∀b∈frs l,b∈X.fs)->X.s₀.heap.FunFrames X.base l->s.heap.FunFrames X.base l:=by
  intro l
  induction l with
  |nil=>intro _ _;trivial
  |cons env r ih=>
   intro hs hl;obtain⟨hk,⟨L,o,hf,hn,ho,hd⟩,hr⟩:=hl;have hL:L∈X.fs:=hs L (by unfold frs;rw[JI,hf];exact Fq);obtain⟨sl,e⟩:=I.base.slot L o ho (I.ok.frf L hL) hL λz=>I.ok.exfs L z hL;exact⟨hk,⟨L,_,hf,hn,e,hd⟩,ih (λb hb=>hs b (by unfold frs;rw[JI,hf];exact Fe _ hb)) hr⟩
 exact all X.outer (λ_ hb=>hb) I.ok.funs
theorem Inv.stack(I:Inv X pins σ H s):s.heap.FunFrames X.base X.stack:=by
 rcases I.ok.stk with e|⟨e,hf⟩
 .rw[e];exact I.funs
 .rw[e];obtain⟨m,hn,_⟩:=I.loc;refine .cons (by rw[I.ok.kind];decide) hf hn ?_ I.funs;exact Heap.get?_none_of_le (Fc I.ok.bsz I.ok.above)
theorem Inv.stkSub(I:Inv X pins σ H s):∀b∈frs X.stack,b∈X.env.locals::X.fs:=λb hb=>by
 rcases I.ok.stk with e|⟨e,hf⟩
 .rw[e]at hb;exact Fe _ hb
 .rw[e]at hb;unfold frs at hb;rw[JI,hf]at hb;exact hb
theorem Inv.stkFree(I:Inv X pins σ H s):∀b∈frs X.stack,H b=none:=λb hb=>by
 rcases Fh.mp (I.stkSub b hb)with e|hb
 .rw[e];exact I.free
 .obtain⟨_,o,ho,_⟩:=I.ok.funs.mem hb;exact I.base.free b o ho (I.ok.frf b hb) λz=>I.ok.exfs b z hb
theorem Inv.step{ch:List Addr}(I:Inv X pins σ H s)
  (hch:∀b∈ch,(b∈X.ex\/X.s₀.heap.objs.size<=b)/\b≠X.env.locals/\(∀x c,X.env.cells.lookup x=some c->c≠b)/\∀p∈X.pn++pins,p.1≠b)
  (keep:∀b o,b≠X.env.locals->b∉X.fs->b∉ch->s.heap.get? b=some o->H b=none->h'.get? b=some o)
  (slot:∀b o,b≠X.env.locals->b∈X.fs->b∉ch->s.heap.get? b=some o->H b=none->∃sl,h'.get? b=some {o with slots:=sl}) (free:∀b o,b∉ch->s.heap.get? b=some o->H b=none->H' b=none)
  (there:∀b o,b∉ch->s.heap.get? b=some o->∃o',h'.get? b=some o')
  (tups:∀b xs,H b=some (.tup xs)->H' b=some (.tup xs)) (frzs:∀b o u,H b=some (.frz o u)->H' b=some (.frz o u)) (tbls:∀b ps,H b=some (.tbl ps)->∃more,H' b=some (.tbl (ps++more)))
  (ns:∀m,s.heap.Ns X.env.locals m->h'.Ns X.env.locals m) (hok:HOk X.prog X.w H' h') (hg:AllBare g'):
  Inv X pins σ H' {s with heap:=h',gens:=g',drawn:=d',toks:=t'}:=by
 have neL:∀b o,X.s₀.heap.get? b=some o->b≠X.env.locals:=λb o e=>FN (Fb (Fz e) I.ok.above);have neC:∀b o,X.s₀.heap.get? b=some o->b∉X.ex->b∉ch:=λb o e hx hb=>by
  rcases(hch b hb).1 with z|z
  .exact hx z
  .exact absurd (Fb (Fz e) z) (Gv _)
 have cellK:∀x c,X.env.cells.lookup x=some c->∀v,s.heap.IsCell c v->h'.IsCell c v:=λx c e v ⟨o,ho,hd⟩=>by
  have nch:c∉ch:=λz=>(hch c z).2.2.1 x c e rfl;by_cases hc:c∈X.fs
  .obtain⟨sl,q⟩:=slot c o (I.cne x c e) hc nch ho (I.freeC x c e);exact⟨_,q,hd⟩
  .exact⟨o,keep c o (I.cne x c e) hc nch ho (I.freeC x c e),hd⟩
 refine⟨I.ok,I.os,hg,⟨λb o e n hb hx=> ?_,λb o e n hb hx=> ?_,λb o e n hx=> ?_,λb o e hx=> ?_,λb xs e=>tups b xs (I.base.tups b xs e),λb o xs e=>frzs b o xs (I.base.frzs b o xs e),λb ps e=> ?_⟩,?_,λx c e=> ?_,?_,λx c e=> ?_,λp hp=> ?_,hok,I.len⟩
 .exact keep b o (neL b o e) hb (neC b o e hx) (I.base.keep b o e n hb hx) (I.base.free b o e n hx)
 .obtain⟨sl,e1⟩:=I.base.slot b o e n hb hx;obtain⟨sl',e2⟩:=slot b _ (neL b o e) hb (neC b o e hx) e1 (I.base.free b o e n hx);exact⟨sl',e2⟩
 .obtain⟨o',e1⟩:=I.base.there b o e hx;exact free b o' (neC b o e hx) e1 (I.base.free b o e n hx)
 .obtain⟨o',e1⟩:=I.base.there b o e hx;exact there b o' (neC b o e hx) e1
 .obtain⟨m1,e1⟩:=I.base.tbls b ps e;obtain⟨m2,e2⟩:=tbls b _ e1;exact⟨m1++m2,by rw[e2,Array.append_assoc]⟩
 .obtain⟨m,hn,hl⟩:=I.loc;refine⟨m,ns m hn,λi x v e1 e2 e3=> ?_⟩;obtain⟨u,r,l⟩:=hl i x v e1 e2 e3;refine⟨u,r,?_⟩;rcases l with l|⟨k,c,e,z⟩
  .exact .inl l
  .exact .inr ⟨k,c,e,cellK x c e _ z⟩
 .obtain⟨v,z⟩:=I.cell x c e;exact⟨v,cellK x c e v z⟩
 .obtain⟨m,⟨o,_,_,ho,_⟩,_⟩:=I.loc;exact free _ o (λz=>(hch _ z).2.1 rfl) ho I.free
 .obtain⟨v,o,ho,hd⟩:=I.cell x c e;exact free c o (λz=>(hch c z).2.2.1 x c e rfl) ho (I.freeC x c e)
 .obtain⟨e,n,ne,nf,d⟩:=I.pin p hp;have nch:p.1∉ch:=λz=>(hch p.1 z).2.2.2 p hp rfl;exact⟨keep p.1 p.2 ne nf nch e n,free p.1 p.2 nch e n,ne,nf,d⟩
theorem Inv.un(I:Inv X pins σ H s)(u:Un X.fs [] H H' s.heap h')(hok:HOk X.prog X.w H' h'):Inv X pins σ H' {s with heap:=h',toks:=t'}:=by
 obtain⟨m,⟨o,es,ep,ho,r⟩,_⟩:=id I.loc;obtain⟨sl,hL⟩:=u.any ho I.free (by simp);exact I.step (g':=s.gens) (d':=s.drawn) (ch:=[]) (λ_ z=>nomatch z) (λb o _ hb _ e n=>u.keep b o e n hb (by simp)) (λb o _ hb _ e n=>u.slot b o e n hb (by simp)) (λb o _ e n=>u.free b o e n (by simp)) (λb o _ e=>u.there b o e (by simp)) u.tups u.frzs u.tbls (λm' hm=>by obtain⟨o',es',ep',ho',r'⟩:=hm;rw[ho]at ho';cases ho';exact⟨_,es',ep',hL,r'⟩) hok I.bare
theorem Inv.call(I:Inv X pins σ H s)(u:Un (frs X.stack) ch H H' s.heap h')(hok:HOk X.prog X.w H' h')(hg:AllBare g')
  (hch:∀b∈ch,(b∈X.ex\/X.s₀.heap.objs.size<=b)/\b≠X.env.locals/\(∀x c,X.env.cells.lookup x=some c->c≠b)/\∀p∈X.pn++pins,p.1≠b):
  Inv X pins σ H' {s with heap:=h',gens:=g',drawn:=d',toks:=t'}:=by
 obtain⟨m,⟨o,es,ep,ho,r⟩,_⟩:=id I.loc;obtain⟨sl,hL⟩:=u.any ho I.free λz=>(hch _ z).2.1 rfl;exact I.step (ch:=ch) hch (λb o hL hb hc e n=>u.keep b o e n (λz=>(Fh.mp (I.stkSub b z)).elim hL hb) hc) (λb o _ _ hc e n=>u.any e n hc) (λb o hc e n=>u.free b o e n hc) (λb o hc e=>u.there b o e hc) u.tups u.frzs u.tbls (λm' hm=>by obtain⟨o',es',ep',ho',r'⟩:=hm;rw[ho]at ho';cases ho';exact⟨_,es',ep',hL,r'⟩) hok hg
theorem Inv.turned(I:Inv X pins σ H s)(k:∀b o,b≠it->s.heap.get? b=some o->h'.get? b=some o)(hn:H it=none)(hL:it≠X.env.locals)
  (h1:it∈X.ex\/X.s₀.heap.objs.size<=it) (h2:∀x c,X.env.cells.lookup x=some c->c≠it) (h3:∀p∈X.pn++pins,p.1≠it):Inv X pins σ H {s with heap:=h',toks:=t'}:=by
 have nit:∀b u,H b=some u->b≠it:=λb u e z=>by rw[z,hn]at e;cases e
 refine I.step (g':=s.gens) (d':=s.drawn) (ch:=[it]) (λb hb=> ?_) (λb o _ _ hc e _=>k b o (λz=>hc (by simp[z])) e) (λb o _ _ hc e _=>⟨o.slots,k b o (λz=>hc (by simp[z])) e⟩) (λ_ _ _ _ n=>n)
  (λb o hc e=>⟨o,k b o (λz=>hc (by simp[z])) e⟩) (λ_ _ e=>e) (λ_ _ _ e=>e) (λb ps e=>⟨#[],by rw[e];simp⟩) (λm hm=> ?_) (λb u e=> ?_) I.bare
 .have e:b=it:=by simpa using hb
  subst e;exact⟨h1,hL,h2,h3⟩
 .obtain⟨o,es,ep,ho,r⟩:=hm;exact⟨o,es,ep,k _ o (Jn hL) ho,r⟩
 .refine(I.hok b u e).stay (λc v hc q=>k c v ?_ q) (λ_ q=>q) λ_ _ q=>q;rcases hc with z|z
  .rw[z];exact nit b u e
  .exact nit c _ z
theorem Inv.tok(I:Inv X pins σ H s)(t:Nat):Inv X pins σ H {s with toks:=t}:=I.un (h':=s.heap) (t':=t) Un.refl I.hok
theorem Inv.kept(I:Inv X pins σ H s)(k:∀b u,s.heap.get? b=some u->h'.get? b=some u):Inv X pins σ H {s with heap:=h',toks:=t'}:=I.un (Un.kept k) (I.hok.kept k)
theorem Inv.laid{a:Addr}(I:Inv X pins σ H s)(k:∀b u,s.heap.get? b=some u->h'.get? b=some u)(hp:s.heap.objs.size<=a)(new:b6 X.prog X.w (upd H a o) h' a o):
  Inv X pins σ (upd H a o) {s with heap:=h',toks:=t'}:=I.un (Un.laid k hp (I.hok.fresh hp)) (I.hok.laid k hp new)
theorem Inv.write(I:Inv X pins σ H s)(mu:Mut (H x))(he:e=x\/H e=some (.own x))(k:∀b u,b≠e->s.heap.get? b=some u->h'.get? b=some u)(heo:∃u,h'.get? e=some u)
  (new:b6 X.prog X.w (upd H x o) h' x o):Inv X pins σ (upd H x o) {s with heap:=h',toks:=t'}:=I.un (Un.write mu he k heo) (I.hok.write mu he k heo new)
theorem Inv.pins_of(I:Inv X pins σ H s)(h:∀p∈pins',s.heap.get? p.1=some p.2/\H p.1=none/\p.1≠X.env.locals/\p.1∉X.fs/\∀v,p.2.data≠ .cell v):Inv X pins' σ H s:=
 ⟨I.ok,I.os,I.bare,I.base,I.loc,I.cell,I.free,I.freeC,λp hp=>(FE.mp hp).elim (λz=>I.pin p (Gg _ z)) (h p),I.hok,I.len⟩
theorem tm{N:List Str}(hN:N.Nodup){i j:Nat}(a:N[i]?=some x)(b:N[j]?=some x):i=j:=by obtain⟨h1,e1⟩:=Fd.mp a;obtain⟨h2,e2⟩:=Fd.mp b;exact(List.getElem_inj hN).mp (e1.trans e2.symm)
theorem oO{M:Model}{A:Around}{E:Value->Shared->Prop}{i:Nat}{x:Str}{v:V}{u:Value}{Q:Unit->Shared->Prop}(I:Inv X pins σ H s)(hN:X.N.Nodup)(hi:X.N[i]?=some x)(hx:Loc X.env.scope x)(r:bH v u)
  (h:∀s',Inv X pins (σ.set i (some v)) H s'->(∃a,Heap.SameBut a s.heap s'.heap/\(a=X.env.locals\/X.env.cells.lookup x=some a))->Q () s') (hf:X.fn x=true\/X.env.scope.names.lookup x=some .local:=by first|exact .inl rfl|exact .inr rfl|assumption):wpAny M A (storeName X.env x u) Q E s:=by
 obtain⟨m,hn,hl⟩:=id I.loc;have hcls:(X.env.scope.kind== .class||(X.env.scope.kind== .module&&X.env.locals !=X.env.globals))=false:=by rw[I.ok.kind];rfl
 have hiσ:i<σ.length:=by rw[I.len];exact(Fd.mp hi).1
 have cne:=I.cne;have tracked:∀ {a:Addr} {h':Heap},(∃o,s.heap.get? a=some o/\H a=none)->Heap.SameBut a s.heap h'->HOk X.prog X.w H h':=λ{a h'} ha hs b ob e=>by
  obtain⟨_,_,hfree⟩:=ha;refine(I.hok b ob e).stay (λc w' hc q=>(hs.2 c ?_).trans q) (λ_ q=>q) λ_ _ q=>q;rintro rfl;rcases hc with rfl|hc
  .rw[hfree]at e;cases e
  .rw[hfree]at hc;cases hc
 rcases hx with hk|hk
 .refine wpAny_storeName_local hk hn (λh' hn' hs=> ?_) hcls;obtain⟨oL,_,_,hoL,_⟩:=id hn;refine h _ ⟨I.ok,I.os,I.bare,⟨λb o e n hb hx=> ?_,λb o e n hb hx=> ?_,I.base.free,λb o e hx=> ?_,I.base.tups,I.base.frzs,I.base.tbls⟩,⟨_,hn',λj y v' e1 e2 e3=> ?_⟩,λy c e=> ?_,I.free,I.freeC,λp hp=> ?_,tracked ⟨oL,hoL,I.free⟩ hs,by simpa using I.len⟩ ⟨_,hs, .inl rfl⟩
  .exact(hs.2 b (FN (Fb (Fz e) I.ok.above))).trans (I.base.keep b o e n hb hx)
  .obtain⟨sl,e1⟩:=I.base.slot b o e n hb hx;exact⟨sl,(hs.2 b (FN (Fb (Fz e) I.ok.above))).trans e1⟩
  .obtain⟨o',e1⟩:=I.base.there b o e hx;exact⟨o',(hs.2 b (FN (Fb (Fz e) I.ok.above))).trans e1⟩
  .by_cases hj:j=i
   .subst hj;rw[hi]at e1;cases e1;rw[List.getElem?_set_self hiσ]at e2;cases e2;exact⟨u,r, .inl ⟨hk,by simp⟩⟩
   .rw[List.getElem?_set_ne (Jn hj)]at e2;obtain⟨u',r',q⟩:=hl j y v' e1 e2 e3;refine⟨u',r',?_⟩;rcases q with ⟨k,e⟩|⟨k,c,e,z⟩
    .refine .inl ⟨k,?_⟩;have:y≠x:=λe=>hj (tm hN e1 (e▸hi));simp[this,e]
    .exact .inr ⟨k,c,e,z.sameBut hs (cne y c e)⟩
  .obtain⟨w',z⟩:=I.cell y c e;exact⟨w',z.sameBut hs (cne y c e)⟩
  .obtain⟨e,n,ne,nf,d⟩:=I.pin p hp;exact⟨(hs.2 p.1 ne).trans e,n,ne,nf,d⟩
 .have hfn:X.fn x=true:=by
   rcases hf with z|z
   .exact z
   .rw[z]at hk;cases hk
  obtain⟨c,hc⟩:=I.ok.has x (.inl hk);obtain⟨w',z⟩:=I.cell x c hc;refine wpAny_storeName_cell I.ok.kind hk hc z (λh' hc' hs=> ?_);obtain⟨oc,hoc,hocd⟩:=id z;refine h {s with heap:=h'} ⟨I.ok,I.os,I.bare,⟨λb o e n hb hx=> ?_,λb o e n hb hx=> ?_,I.base.free,λb o e hx=> ?_,I.base.tups,I.base.frzs,I.base.tbls⟩,⟨m,hn.sameBut hs (Jn (cne x c hc)),λj y v' e1 e2 e3=> ?_⟩,λy c' e=> ?_,I.free,I.freeC,λp hp=> ?_,tracked ⟨oc,hoc,I.freeC x c hc⟩ hs,by simpa using I.len⟩ ⟨c,hs, .inr hc⟩
  .exact(hs.2 b (FN (Fb (Fz e) (I.ok.cab x c hfn hc)))).trans (I.base.keep b o e n hb hx)
  .obtain⟨sl,e1⟩:=I.base.slot b o e n hb hx;exact⟨sl,(hs.2 b (FN (Fb (Fz e) (I.ok.cab x c hfn hc)))).trans e1⟩
  .obtain⟨o',e1⟩:=I.base.there b o e hx;exact⟨o',(hs.2 b (FN (Fb (Fz e) (I.ok.cab x c hfn hc)))).trans e1⟩
  .by_cases hj:j=i
   .subst hj;rw[hi]at e1;cases e1;rw[List.getElem?_set_self hiσ]at e2;cases e2;exact⟨u,r, .inr ⟨.inl hk,c,hc,hc'⟩⟩
   .rw[List.getElem?_set_ne (Jn hj)]at e2;obtain⟨u',r',q⟩:=hl j y v' e1 e2 e3;refine⟨u',r',?_⟩;rcases q with q|⟨k,c',e,z'⟩
    .exact .inl q
    .refine .inr ⟨k,c',e,z'.sameBut hs ?_⟩;rintro rfl;exact hj (tm hN e1 (I.ok.inj _ _ _ e hc▸hi))
  .by_cases hcc:c'=c
   .subst hcc;exact⟨_,hc'⟩
   .obtain⟨w2,z2⟩:=I.cell y c' e;exact⟨w2,z2.sameBut hs hcc⟩
  .obtain⟨e,n,ne,nf,d⟩:=I.pin p hp;refine⟨(hs.2 p.1 ?_).trans e,n,ne,nf,d⟩;intro q;rw[q,hoc]at e;have q':oc=p.2:=F9 e;exact d w' (by rw[<-q'];exact hocd)
theorem rX{M:Model}{A:Around}{E:Value->Shared->Prop}{i:Nat}{x:Str}{v:V}{u:Value}{Q:Unit->Shared->Prop}(I:Inv X pins σ H s)(hN:X.N.Nodup)(hi:X.N[i]?=some x)(hx:Loc X.env.scope x)(r:bH v u)
  (h:∀s',Inv X pins (σ.set i (some v)) H s'->Q () s') (hf:X.fn x=true\/X.env.scope.names.lookup x=some .local:=by first|exact .inl rfl|exact .inr rfl|assumption):wpAny M A (storeName X.env x u) Q E s:=
 oO I hN hi hx r (λs' I' _=>h s' I') hf
theorem Inv.call'{s':Shared}(I:Inv X pins σ H s)(ho:s'.os=s.os)(u:Un (frs X.stack) ch H H' s.heap s'.heap)(hok:HOk X.prog X.w H' s'.heap)(hg:AllBare s'.gens)
  (hch:∀b∈ch,(b∈X.ex\/X.s₀.heap.objs.size<=b)/\b≠X.env.locals/\(∀x c,X.env.cells.lookup x=some c->c≠b)/\∀p∈X.pn++pins,p.1≠b):Inv X pins σ H' s':=by
 obtain⟨h',g',d',t',o'⟩:=s';have e:o'=s.os:=ho;subst e;exact I.call (g':=g') (t':=t') (d':=d') u hok hg hch
end
abbrev XK:=Value->Option Addr->Hp->Prop
abbrev St:=List (Option V)
abbrev VK:=V->Hp->Prop
abbrev TE:=St->Hp->VK->Prop
abbrev TT:=St->Hp->(Bool->Hp->Prop)->Prop
abbrev TA:=St->Hp->(List V->Hp->Prop)->Prop
structure Ends where
 nx:St->Hp->Prop
 rt:VK
 bk:St->Hp->Prop:=λ_ _=>False
 ct:St->Hp->Prop:=λ_ _=>False
abbrev TS:=Ends->St->Hp->Prop
def EP(X:Cx)(pins:List (Addr×Obj))(σ:St)(Q:VK)(u:Value)(s':Shared):Prop:=∃v H',Inv X pins σ H' s'/\bH v u/\Q v H'
def TP(X:Cx)(pins:List (Addr×Obj))(σ:St)(Q:Bool->Hp->Prop)(b:Bool)(s':Shared):Prop:=∃H',Inv X pins σ H' s'/\Q b H'
def AP(X:Cx)(pins:List (Addr×Obj))(σ:St)(Q:List V->Hp->Prop)(us:List Value)(s':Shared):Prop:=∃vs H',Inv X pins σ H' s'/\Vals vs us/\Q vs H'
def SP(X:Cx)(pins:List (Addr×Obj))(D:Ends)(f:Flow)(s':Shared):Prop:=
 match f with
 | .next=>∃σ' H',Inv X pins σ' H' s'/\D.nx σ' H'
 | .brk=>∃σ' H',Inv X pins σ' H' s'/\D.bk σ' H'
 | .cont=>∃σ' H',Inv X pins σ' H' s'/\D.ct σ' H'
 | .ret u=>∃v σ' H',Inv X pins σ' H' s'/\bH v u/\D.rt v H'
def PE(X:Cx)(e:Expr)(t:TE):Prop:=
 ∀ (pins:List (Addr×Obj)) (s:Shared) (σ:St) (H:Hp) (Q:VK),Inv X pins σ H s->t σ H Q->wpAny (model X.prog X.w) X.A (eval e X.env) (EP X pins σ Q) X.xe s
def PT(X:Cx)(e:Expr)(t:TT):Prop:=
 ∀ (pins:List (Addr×Obj)) (s:Shared) (σ:St) (H:Hp) (Q:Bool->Hp->Prop),Inv X pins σ H s->t σ H Q->wpAny (model X.prog X.w) X.A (isTrue e X.env (eval e X.env)) (TP X pins σ Q) X.xe s
def PW(X:Cx)(e:Expr)(t:TT):Prop:=
 ∀ (whole:Sem Value) (pins:List (Addr×Obj)) (s:Shared) (σ:St) (H:Hp) (Q:Bool->Hp->Prop),Inv X pins σ H s->t σ H Q->wpAny (model X.prog X.w) X.A (isTrue e X.env whole) (TP X pins σ Q) X.xe s
theorem PW.pt(h:PW X e t):PT X e t:=h _
def PA(X:Cx)(es:List Expr)(t:TA):Prop:=
 ∀ (pos:Pos) (pins:List (Addr×Obj)) (s:Shared) (σ:St) (H:Hp) (Q:List V->Hp->Prop),Inv X pins σ H s->t σ H Q->wpAny (model X.prog X.w) X.A (spliced (backTo pos (starEach es X.env))) (AP X pins σ Q) X.xe s
def PS(X:Cx)(st:Stmt)(t:TS):Prop:=
 ∀ (pins:List (Addr×Obj)) (s:Shared) (σ:St) (H:Hp) (D:Ends),Inv X pins σ H s->t D σ H->wpAny (model X.prog X.w) X.A (exec st X.env) (SP X pins D) X.xe s
def PSs(X:Cx)(st:List Stmt)(t:TS):Prop:=
 ∀ (pins:List (Addr×Obj)) (s:Shared) (σ:St) (H:Hp) (D:Ends),Inv X pins σ H s->t D σ H->wpAny (model X.prog X.w) X.A (execs st X.env) (SP X pins D) X.xe s
theorem thn(h:wpAny M A t Q E s)(hQ:∀a s,Q a s->Q' a s):wpAny M A t Q' E s:=Jr h hQ λ_ _ x=>x
end L2
namespace L2
open PySem PySem.Spec PyProof.Rows
section
variable{X:Cx}
inductive RdV(o:Option (Option V))(H:Hp)(Q:VK):Prop
 |mk (v:V) (e:o=some (some v)) (q:Q v H):RdV o H Q
def C0(i:Nat):TE:=λσ H Q=>RdV σ[i]? H Q
def tC(v:V):TE:=λ_ H Q=>Q v H
theorem Dq{i:Nat}{x:Str}{pos:Pos}(hN:X.N[i]?=some x)(hv:Vis X.env.scope x)(hd:(x==("__debug__":Str))=false:=by decide)(hcd:(x==("__classdict__":Str))=false:=by decide):PE X (.Name x pos) (C0 i):=by
 intro pins s σ H Q I h;obtain⟨v,e,h⟩:=h;obtain⟨m,hn,hl⟩:=I.loc;obtain⟨u,r,l⟩:=hl i x v hN e hv;have fin:EP X pins σ Q u s:=⟨v,H,I,r,h⟩;rcases l with ⟨hk,hm⟩|⟨hk,c,hc,hcell⟩
 .exact wpAny_Name (wpAny_loadName_local I.ok.kind hk hn hm fin) hd
 .rcases hk with hk|hk
  .exact wpAny_Name (wpAny_loadName_cell I.ok.kind hk hc hcell fin) hd
  .exact wpAny_Name (wpAny_loadName_free I.ok.kind hk hc hcell fin hcd) hd
theorem ag{i j pos}:PE X (.Constant (.int i) j pos) (tC (.int i)):=λ_ _ _ H _ I h=>wpAny_Constant_int ⟨.int i,H,I.tok _,⟨_,rfl⟩,h⟩
theorem dz{b j pos}:PE X (.Constant (.bool b) j pos) (tC (.bl b)):=λ_ _ _ H _ I h=>Constant_bool ⟨.bl b,H,I,rfl,h⟩
theorem ei{j pos}:PE X (.Constant .none j pos) (tC .non):=λ_ _ _ H _ I h=>Constant_none ⟨.non,H,I,rfl,h⟩
def Gl(X:Cx)(x:Str):Prop:=X.env.kindOf x=some .globalImplicit
theorem rj{E:Value->Shared->Prop}{pins:List (Addr×Obj)}{s:Shared}{σ:St}{H:Hp}{x:Str}{u:Value}{pos:Pos}{Q:Value->Shared->Prop}(I:Inv X pins σ H s)(hg:Gl X x)(hm:X.mg x=some u)(h:Q u s)
  (hd:(x==("__debug__":Str))=false:=by decide):wpAny (model X.prog X.w) X.A (eval (.Name x pos) X.env) Q E s:=
 Calls.Name_function_global I.ok.kind hg (Calls.loadGlobal_global (by rw[I.ok.glob];exact I.mod.glob.keeps I.bk) hm h) hd
theorem iR{E:Value->Shared->Prop}{pins:List (Addr×Obj)}{s:Shared}{σ:St}{H:Hp}{x:Str}{u:Value}{pos:Pos}{Q:Value->Shared->Prop}(I:Inv X pins σ H s)(hg:Gl X x)(hm:X.mg x=none)(hv:bootBuiltins x=some u)(h:Q u s)
  (hn:x≠ "__name__":=by decide) (hd:(x==("__debug__":Str))=false:=by decide):wpAny (model X.prog X.w) X.A (eval (.Name x pos) X.env) Q E s:=by
 obtain⟨mb,h1,h2⟩:=I.mod.blt;exact Calls.Name_function_global I.ok.kind hg (Calls.loadGlobal_builtin (by rw[I.ok.glob];exact I.mod.glob.keeps I.bk) hm (by rw[I.ok.blt];exact h1.keeps I.bk) ((h2 x hn).trans hv) h) hd
theorem jj{x:Str}{v:V}{u:Value}{pos:Pos}(hg:Gl X x)(hm:X.mg x=some u)(r:bH v u)(hd:(x==("__debug__":Str))=false:=by decide):PE X (.Name x pos) (tC v):=
 λ_ _ _ H _ I h=>rj I hg hm ⟨v,H,I,r,h⟩ hd
theorem qP{x:Str}{v:V}{u:Value}{pos:Pos}(hg:Gl X x)(hm:X.mg x=none)(hv:bootBuiltins x=some u)(r:bH v u)(hn:x≠ "__name__":=by decide)(hd:(x==("__debug__":Str))=false:=by decide):PE X (.Name x pos) (tC v):=
 λ_ _ _ H _ I h=>iR I hg hm hv ⟨v,H,I,r,h⟩ hn hd
variable{a b:Expr}{ta tb:TE}{pos:Pos}
def PC(X:Cx)(op:CmpOp)(a b:Expr)(t:TE):Prop:=
 ∀ (pins:List (Addr×Obj)) (s:Shared) (σ:St) (H:Hp) (Q:VK),Inv X pins σ H s->t σ H Q->
  wpAny (model X.prog X.w) X.A (eval a X.env) (λv s₁=>wpAny (model X.prog X.w) X.A (eval b X.env) (λu s₂=>wpAny (model X.prog X.w) X.A (compareOp op v u) (EP X pins σ Q) X.xe s₂) X.xe s₁) X.xe s
theorem nobehind(b:Expr)(h:op≠ .In)(h2:op≠ .NotIn):behindInMarks op b=false:=by
 have e1:(op==CmpOp.In)=false:=by cases op<;>first|rfl|exact absurd rfl h
 have e2:(op==CmpOp.NotIn)=false:=by cases op<;>first|rfl|exact absurd rfl h2
 cases b<;>simp[behindInMarks,e1,e2]
inductive RdB(Q:Bool->Hp->Prop)(x:V)(H:Hp):Prop
 |mk (k:Bool) (e:x= .bl k) (q:Q k H):RdB Q x H
def tB(t:TE):TT:=λσ H Q=>t σ H (RdB Q)
theorem zY{op:CmpOp}{t:TE}(h:PC X op a b t)(h1:behindInMarks op b=false:=by first|exact nobehind _ (by decide) (by decide)|rfl):PT X (.Compare a [op] [b] pos) (tB t):=by intro pins s σ H Q I hw;refine wpAny_isTrue_Compare1 (thn (h pins s σ H _ I hw) λv s1 h1=>thn h1 λu s2 h2=>thn h2 λc s3 ⟨x,H1,I1,r1,q1⟩=> ?_) h1;obtain⟨d,rfl,q⟩:=q1;cases r1;exact HV ⟨H1,I1,q⟩
theorem bT{e:Expr}{t:TE}(h:PE X e t)(he:∀whole,isTrue e X.env whole=(do let v<-whole;standAt e.pos;holding [v] (truthy v)):=by intro _;rfl):PT X e (tB t):=by intro pins s σ H Q I hw;refine isTrue_plain (thn (h pins s σ H _ I hw) λv s1 ⟨x,H1,I1,r1,q1⟩=> ?_) (he _);obtain⟨d,rfl,q⟩:=q1;cases r1;exact HV ⟨H1,I1,q⟩
variable{tA tB':TT}{rest:List Expr}
def EM(t u:TT):TT:=λσ H Q=>t σ H λc H1=>if c=true then u σ H1 Q else Q false H1
def tOr(t u:TT):TT:=λσ H Q=>t σ H λc H1=>if c=true then Q true H1 else u σ H1 Q
def EI(t:TT):TT:=λσ H Q=>t σ H λc H1=>Q (!c) H1
theorem gz(ha:PT X a tA):PW X (.BoolOp .And [a] pos) tA:=by
 intro wh pins s σ H Q I h;refine isTrue_and (thn (ha pins s σ H Q I h) λc s1 e=> ?_);cases c with
 |true=>exact isTrue_and_nil e
 |false=>exact e
theorem jX(ha:PT X a tA):PW X (.BoolOp .Or [a] pos) tA:=by
 intro wh pins s σ H Q I h;refine isTrue_or (thn (ha pins s σ H Q I h) λc s1 e=> ?_);cases c with
 |false=>exact isTrue_or_nil e
 |true=>exact e
theorem gA(ha:PT X a tA)(hb:PW X (.BoolOp .And (b::rest) pos) tB'):PW X (.BoolOp .And (a::b::rest) pos) (EM tA tB'):=by
 intro wh pins s σ H Q I h;refine isTrue_and (thn (ha pins s σ H _ I h) λc s1 ⟨H1,I1,q1⟩=> ?_);cases c with
 |true=>exact hb wh pins s1 σ H1 Q I1 q1
 |false=>exact⟨H1,I1,q1⟩
theorem o4(ha:PT X a tA)(hb:PW X (.BoolOp .Or (b::rest) pos) tB'):PW X (.BoolOp .Or (a::b::rest) pos) (tOr tA tB'):=by
 intro wh pins s σ H Q I h;refine isTrue_or (thn (ha pins s σ H _ I h) λc s1 ⟨H1,I1,q1⟩=> ?_);cases c with
 |true=>exact⟨H1,I1,q1⟩
 |false=>exact hb wh pins s1 σ H1 Q I1 q1
theorem eg(ha:PT X a tA):PT X (.UnaryOp .Not a pos) (EI tA):=by intro pins s σ H Q I h;exact isTrue_not (ha pins s σ H (λc H1=>Q (!c) H1) I h)
def D9(ta tb:TE):TE:=λσ H Q=>ta σ H (RdB λc H1=>if c=true then tb σ H1 Q else Q (.bl false) H1)
def DY(ta:TE):TE:=λσ H Q=>ta σ H (RdB λc H1=>Q (.bl (!c)) H1)
theorem ve{op}(h:PE X a t):PE X (.BoolOp op [a] pos) t:=λpins s σ H Q I hw=>BoolOp_one (h pins s σ H Q I hw)
theorem vf(ha:PE X a ta)(hb:PE X (.BoolOp .And (b::rest) pos) tb):PE X (.BoolOp .And (a::b::rest) pos) (D9 ta tb):=by
 intro pins s σ H Q I h;refine BoolOp_and (thn (ha pins s σ H _ I h) λv s1 ⟨x,H1,I1,r1,q1⟩=> ?_);obtain⟨c,rfl,q1⟩:=q1;cases r1;refine HV ?_;cases c with
 |true=>exact hb pins s1 σ H1 Q I1 q1
 |false=>exact⟨.bl false,H1,I1,rfl,q1⟩
theorem z8(ha:PE X a ta):PE X (.UnaryOp .Not a pos) (DY ta):=by intro pins s σ H Q I h;refine UnaryOp_ (thn (ha pins s σ H _ I h) λv s1 ⟨x,H1,I1,r1,q1⟩=> ?_);obtain⟨c,rfl,q1⟩:=q1;cases r1;exact not_of (HV ⟨.bl (!c),H1,I1,rfl,q1⟩)
def tIf(t:TT)(ta tb:TE):TE:=λσ H Q=>t σ H λc H1=>if c=true then ta σ H1 Q else tb σ H1 Q
theorem sQ(hc:PT X c tA)(ha:PE X a ta)(hb:PE X b tb):PE X (.IfExp c a b pos) (tIf tA ta tb):=by
 intro pins s σ H Q I h;refine wpAny_IfExp (thn (hc pins s σ H _ I h) λd s1 ⟨H1,I1,q1⟩=> ?_);cases d with
 |true=>exact ha pins s1 σ H1 Q I1 q1
 |false=>exact hb pins s1 σ H1 Q I1 q1
end
end L2
namespace L2
open PySem PySem.Spec PyProof.Rows
def SqL(K:PySem.W.Frag)(H:Hp)(a:Addr)(xs:List V):Prop:=
 Rd H a (.lst xs)\/
  ∃ (o:Obj) (its:Array Value) (n:Nat),K.lookup a=some o/\o.cls= .type "list"/\o.dict=none/\o.data= .seq its n/\its.size<=sizeLine/\Vals xs its.toList
def SqT(K:PySem.W.Frag)(H:Hp)(a:Addr)(xs:List V):Prop:=
 Rd H a (.tup xs)\/
  ∃ (o:Obj) (its:Array Value) (n:Nat),K.lookup a=some o/\o.cls= .type "tuple"/\o.data= .seq its n/\its.size<=sizeLine/\Vals xs its.toList
def EX:Value->Option V
 | .none=>some .non
 | .bool b=>some (.bl b)
 | .int i _=>some (.int i)
 | .str x _=>some (.str x)
 | .bytes b _=>some (.byt b)
 | .float b _=>some (.flt b)
 | .ref a=>some (.ref a)
 | .type n=>some (.ty n)
 |_=>none
theorem bH.abs(r:bH x u):EX u=some x:=by
 cases x with
 |non=>cases r;rfl
 |bl _=>cases r;rfl
 |int _=>obtain⟨t,rfl⟩:=r;rfl
 |str _=>obtain⟨t,rfl⟩:=r;rfl
 |byt _=>obtain⟨t,rfl⟩:=r;rfl
 |flt _=>obtain⟨t,rfl⟩:=r;rfl
 |ref _=>cases r;rfl
 |ty _=>cases r;rfl
theorem bH.inj(r:bH x u)(q:bH y u):x=y:=F9 (r.abs.symm.trans q.abs)
theorem Vals.inj:∀ {xs ys:List V} {us:List Value},Vals xs us->Vals ys us->xs=ys
 |_,_,_, .nil, .nil=>rfl
 |_,_,_, .cons r t, .cons r' t'=>by rw[r.inj r',Vals.inj t t']
section
variable{X:Cx}{pins:List (Addr×Obj)}{σ:St}{H:Hp}{s:Shared}{a:Addr}{xs ys:List V}
theorem SqL.of{K:PySem.W.Frag}(h:H a=some (.lst xs)):SqL K H a xs:= .inl (.inl h)
theorem SqT.of{K:PySem.W.Frag}(h:H a=some (.tup xs)):SqT K H a xs:= .inl (.inl h)
theorem Inv.list(I:Inv X pins σ H s)(h:SqL X.K H a xs):∃its:List Value,Vals xs its/\PlainL s.heap a its.toArray/\xs.length<=sizeLine:=by
 rcases h with h|⟨o,its,n,hk,hc,hd,hs,hz,r⟩
 .obtain⟨z,its,n,r,e⟩:=h.ok I.hok;exact⟨its,r,⟨_,n,e,rfl,rfl,rfl⟩,z⟩
 .refine⟨its.toList,r,⟨o,n,I.kIn a o hk,hc,hd,by simpa using hs⟩,?_⟩;have e:=r.length;simp only[IJ]at e;lia
theorem Inv.tuple(I:Inv X pins σ H s)(h:SqT X.K H a xs):∃its:List Value,Vals xs its/\IsTup s.heap a its.toArray/\xs.length<=sizeLine:=by
 rcases h with h|⟨o,its,n,hk,hc,hs,hz,r⟩
 .obtain⟨z,its,r,p⟩:=h.ok I.hok;exact⟨its,r,p,z⟩
 .refine⟨its.toList,r,⟨o,I.kIn a o hk,hc,n,by simpa using hs⟩,?_⟩;have e:=r.length;simp only[IJ]at e;lia
theorem Inv.list_inj(I:Inv X pins σ H s)(h:SqL X.K H a xs)(h':SqL X.K H a ys):xs=ys:=by
 obtain⟨its,r,⟨o,n,e,_,_,d⟩,_⟩:=I.list h;obtain⟨its',r',⟨o',n',e',_,_,d'⟩,_⟩:=I.list h';rw[e]at e';cases e';rw[d]at d';injection d' with d1 _
 have:its=its':=by simpa using Fu Array.toList d1
 subst this;exact r.inj r'
theorem Inv.tuple_inj(I:Inv X pins σ H s)(h:SqT X.K H a xs)(h':SqT X.K H a ys):xs=ys:=by
 obtain⟨its,r,⟨o,e,_,n,d⟩,_⟩:=I.tuple h;obtain⟨its',r',⟨o',e',_,n',d'⟩,_⟩:=I.tuple h';rw[e]at e';cases e';rw[d]at d';injection d' with d1 _
 have:its=its':=by simpa using Fu Array.toList d1
 subst this;exact r.inj r'
end
abbrev Cx.wish(X:Cx)(E:Value->Shared->Prop):Cx:={X with xe:=E}
abbrev Cx.nox(X:Cx):Cx:=X.wish λ_ _=>False
theorem Cx.Ok.wish{X:Cx}(ok:X.Ok)(E:Value->Shared->Prop):(X.wish E).Ok:=
 ⟨ok.mod,ok.kind,ok.glob,ok.blt,ok.above,ok.inj,ok.has,ok.cab,ok.hd,ok.frames,ok.stk,ok.exf,ok.bs,ok.bsz,ok.noex,ok.exfs,ok.funs,ok.frf⟩
theorem Cx.Ok.unwish{X:Cx}(ok:(X.wish E).Ok):X.Ok:=
 ⟨ok.mod,ok.kind,ok.glob,ok.blt,ok.above,ok.inj,ok.has,ok.cab,ok.hd,ok.frames,ok.stk,ok.exf,ok.bs,ok.bsz,ok.noex,ok.exfs,ok.funs,ok.frf⟩
section
variable{X:Cx}{pins:List (Addr×Obj)}{σ:St}{H:Hp}{s:Shared}{E:Value->Shared->Prop}
theorem Inv.wish(I:Inv X pins σ H s)(E:Value->Shared->Prop):Inv (X.wish E) pins σ H s:=⟨I.ok.wish E,I.os,I.bare,I.base,I.loc,I.cell,I.free,I.freeC,I.pin,I.hok,I.len⟩
theorem Inv.unwish(I:Inv (X.wish E) pins σ H s):Inv X pins σ H s:=⟨I.ok.unwish,I.os,I.bare,I.base,I.loc,I.cell,I.free,I.freeC,I.pin,I.hok,I.len⟩
theorem SP.unwish(h:SP (X.wish E) pins D f s'):SP X pins D f s':=by
 cases f with
 |next=>obtain⟨σ',H',I,q⟩:=h;exact⟨σ',H',I.unwish,q⟩
 |brk=>obtain⟨σ',H',I,q⟩:=h;exact⟨σ',H',I.unwish,q⟩
 |cont=>obtain⟨σ',H',I,q⟩:=h;exact⟨σ',H',I.unwish,q⟩
 |ret u=>obtain⟨v,σ',H',I,r,q⟩:=h;exact⟨v,σ',H',I.unwish,r,q⟩
theorem PSs.nox{st:List Stmt}(h:PSs X.nox st t):PSs X st t:=λpins s σ H D I hw=>
 Jr (h pins s σ H D (I.wish _) hw) (λ_ _ q=>q.unwish) λ_ _ z=>False.elim z
end
section
variable{X:Cx}{st:Stmt}{rest:List Stmt}{t u:TS}{e:Expr}{te:TE}{pos:Pos}
def D0:TS:=λD σ H=>D.nx σ H
def Bx(t u:TS):TS:=λD σ H=>t {D with nx:=u D} σ H
theorem aN:PSs X [] D0:=λ_ _ σ H _ I h=>Js ⟨σ,H,I,h⟩
theorem ae(h1:PS X st t)(h2:PSs X rest u):PSs X (st::rest) (Bx t u):=by
 intro pins s σ H D I h;refine wpAny_execs_cons (thn (h1 pins s σ H {D with nx:=u D} I h) λf s1 q=> ?_);cases f with
 |next=>
  obtain⟨σ',H',I',q⟩:=q;exact h2 pins s1 σ' H' D I' q
 |ret v=>exact q
 |brk=>exact q
 |cont=>exact q
theorem af(h1:PS X st t):PSs X [st] t:=by
 intro pins s σ H D I h;refine wpAny_execs_cons (thn (h1 pins s σ H D I h) λf s1 q=> ?_);cases f with
 |next=>exact Js q
 |ret v=>exact q
 |brk=>exact q
 |cont=>exact q
theorem Inv.quiet{σ:St}(I:Inv X pins σ H s):interactive X.env=false:=by simp[interactive,I.ok.kind]
def D4(te:TE):TS:=λD σ H=>te σ H λ_ H1=>D.nx σ H1
theorem cq(he:PE X e te)(hs:swapsWith e none pos.line X.env=pure false:=by rfl):PS X (.Expr e pos) (D4 te):=by intro pins s σ H D I h;exact wpAny_Expr_any (thn (he pins s σ H _ I h) λv s1 ⟨x,H1,I1,r1,q1⟩=>⟨σ,H1,I1,q1⟩) I.quiet hs
def EH(te:TE):TS:=λD σ H=>te σ H D.rt
theorem aD(he:PE X e te):PS X (.Return (some e) pos) (EH te):=by intro pins s σ H D I h;exact wpAny_Return_some (thn (he pins s σ H _ I h) λv s1 ⟨x,H1,I1,r1,q1⟩=>⟨x,σ,H1,I1,r1,q1⟩)
def EJ(c:TT)(t u:TS):TS:=λD σ H=>c σ H λb H1=>if b=true then t D σ H1 else u D σ H1
theorem a8(hc:PT X c tc)(ha:PSs X a t)(hb:PSs X b u):PS X (.If c a b pos) (EJ tc t u):=by
 intro pins s σ H D I h;refine wpAny_If (thn (hc pins s σ H _ I h) λd s1 ⟨H1,I1,q1⟩=> ?_);cases d with
 |true=>exact ha pins s1 σ H1 D I1 q1
 |false=>exact hb pins s1 σ H1 D I1 q1
def C4:TS:=λ_ _ _=>False
theorem z5:PS X st C4:=λ_ _ _ _ _ _ h=>h.elim
end
abbrev TG:=V->St->Hp->(St->Hp->Prop)->Prop
abbrev TGs:=List V->St->Hp->(St->Hp->Prop)->Prop
def PG(X:Cx)(target:Expr)(t:TG):Prop:=
 ∀ (pins:List (Addr×Obj)) (s:Shared) (σ:St) (H:Hp) (v:V) (u:Value) (Q:St->Hp->Prop),Inv X pins σ H s->bH v u->t v σ H Q->
  wpAny (model X.prog X.w) X.A (assign target X.env u) (λ_ s'=>∃σ' H',Inv X pins σ' H' s'/\Q σ' H') X.xe s
def PGs(X:Cx)(ts:List Expr)(t:TGs):Prop:=
 ∀ (pins:List (Addr×Obj)) (s:Shared) (σ:St) (H:Hp) (vs:List V) (us:List Value) (Q:St->Hp->Prop),Inv X pins σ H s->Vals vs us->t vs σ H Q->
  wpAny (model X.prog X.w) X.A (assignInOrder ((assignEach ts X.env).map (·.2)) us) (λ_ s'=>∃σ' H',Inv X pins σ' H' s'/\Q σ' H') X.xe s
section
variable{X:Cx}{pos:Pos}
def bU(i:Nat):TG:=λv σ H Q=>Q (σ.set i (some v)) H
theorem aB{i:Nat}{x:Str}(hN:X.N.Nodup)(hi:X.N[i]?=some x)(hx:Loc X.env.scope x)(hf:X.fn x=true\/X.env.scope.names.lookup x=some .local:=by first|exact .inl rfl|exact .inr rfl|assumption):PG X (.Name x pos) (bU i):=by intro pins s σ H v u Q I r h;exact wpAny_assign_Name (rX I hN hi hx r (λs' I'=>⟨_,H,I',h⟩) hf)
def ET:TGs:=λvs σ H Q=>vs=[]/\Q σ H
inductive RdC(t:TG)(u:TGs)(vs:List V)(σ:St)(H:Hp)(Q:St->Hp->Prop):Prop
 |mk (v:V) (r:List V) (e:vs=v::r) (q:t v σ H λσ' H'=>u r σ' H' Q):RdC t u vs σ H Q
def Ex(t:TG)(u:TGs):TGs:=λvs σ H Q=>RdC t u vs σ H Q
theorem lY:PGs X [] ET:=by intro pins s σ H vs us Q I r h;obtain⟨e,h⟩:=h;subst e;cases r;exact assignInOrder_nil ⟨σ,H,I,h⟩
theorem eR{e:Expr}{es:List Expr}{t:TG}{u:TGs}(h1:PG X e t)(h2:PGs X es u)
  (hs:(assignEach (e::es) X.env).map (·.2)=assign e X.env::(assignEach es X.env).map (·.2):=by rfl):PGs X (e::es) (Ex t u):=by
 intro pins s σ H vs us Q I r h;obtain⟨v,vr,e1,h⟩:=h;subst e1;cases r with
 |cons r rr=>
  rw[hs];refine assignInOrder_cons (thn (h1 pins s σ H _ _ _ I r h) λ_ s1 ⟨σ1,H1,I1,q1⟩=> ?_);exact h2 pins s1 σ1 H1 _ _ Q I1 rr q1
inductive RdT(K:PySem.W.Frag)(n:Nat)(t:TGs)(v:V)(σ:St)(H:Hp)(Q:St->Hp->Prop):Prop
 |mk (a:Addr) (xs:List V) (e:v= .ref a) (s:SqT K H a xs) (l:xs.length=n) (q:t xs σ H Q):RdT K n t v σ H Q
def Ew(K:PySem.W.Frag)(n:Nat)(t:TGs):TG:=λv σ H Q=>RdT K n t v σ H Q
theorem Dp{es:List Expr}{k:Nat}{t:TGs}{n:Nat}(hc:X.calm=true)(h:PGs X es t)
  (hn:(assignEach es X.env).length=n:=by rfl) (hst:(assignEach es X.env).findIdx? (·.1)=none:=by rfl):PG X (.Tuple es k pos) (Ew X.K n t):=by
 intro pins s σ H v u Q I r hw;obtain⟨a,xs,e1,hq,hl,hw⟩:=hw;subst e1;cases r;obtain⟨its,rv,ht,hz⟩:=I.tuple hq;refine assign_Tuple_tuple (I.ok.hd hc) ht (by simp[hn,<-hl,rv.length]) hst λh' hx=> ?_;have I1:Inv X pins σ H {s with heap:=h'}:=I.kept (t':=s.toks) λb o e=>hx b o (FN (Fz e)) e;exact h pins _ σ H xs _ Q I1 (by simpa using rv) hw
def zy(te:TE)(g:TG):TS:=λD σ H=>te σ H λx H1=>g x σ H1 D.nx
theorem Dk{tg e:Expr}{te:TE}{g:TG}(he:PE X e te)(hg:PG X tg g)(hs:swapsWithSole [tg] e pos.line X.env=pure false:=by rfl)(hw:swappedStores [tg] e X.env=pure none:=by rfl)
  (h1:(assignEach [tg] X.env).map (·.2)=[assign tg X.env]:=by rfl):PS X (.Assign [tg] e pos) (zy te g):=by
 intro pins s σ H D I h;refine wpAny_Assign_stores (thn (he pins s σ H _ I h) λv s1 ⟨x,H1,I1,r1,q1⟩=> ?_) hs hw;rw[h1];exact thn (hg pins s1 σ H1 x v _ I1 r1 q1) λ_ s2 q=>q
theorem aH{i:Nat}{x:Str}{e:Expr}{te:TE}{pos':Pos}(hN:X.N.Nodup)(hi:X.N[i]?=some x)(hx:Loc X.env.scope x)(he:PE X e te)(hs:swapsWith e (some (.Name x pos')) pos.line X.env=pure false:=by rfl)(hf:X.fn x=true\/X.env.scope.names.lookup x=some .local:=by first|exact .inl rfl|exact .inr rfl|assumption):
  PS X (.Assign [.Name x pos'] e pos) (zy te (bU i)):=by
 intro pins s σ H D I h;refine wpAny_Assign_Name (thn (he pins s σ H _ I h) λv s1 ⟨y,H1,I1,r1,q1⟩=> ?_) hs;exact rX I1 hN hi hx r1 (λs2 I2=>⟨_,H1,I2,q1⟩) hf
end
section
variable{X:Cx}{pos:Pos}
def CZ(c:TT)(tb:TS):TS:=λD σ H=>∃W:Nat->St->Hp->Prop,(∃m,W m σ H)/\∀m σ H,W m σ H->
 c σ H λb H1=>if b=true then∃N:St->Hp->Prop,(∀σ' H',N σ' H'->∃m',m'<m/\W m' σ' H')/\tb {D with nx:=N,ct:=N,bk:=D.nx} σ H1 else D.nx σ H1
theorem zZ(hp:PassesOwn (model X.prog X.w) X.A X.env X.xe)(hc:PT X c tc)(hb:PSs X body tb):PS X (.While c body [] pos) (CZ tc tb):=by
 intro pins s σ H D I h;obtain⟨W,⟨m0,w0⟩,turn⟩:=h;refine wpAny_While (codeAny_whileLoop (λn s'=>∃σ' H',Inv X pins σ' H' s'/\W n σ' H') ?_ m0 ⟨σ,H,I,w0⟩);rintro n s1 ⟨σ1,H1,I1,w1⟩;refine HQ hp (thn (hc pins s1 σ1 H1 _ I1 (turn n σ1 H1 w1)) λb s2 ⟨H2,I2,q2⟩=> ?_);cases b with
 |true=>
  obtain⟨N,hN,q2⟩:=q2;rw[E9 rfl];refine HQ hp (thn (hb pins s2 σ1 H2 _ I2 q2) λf s3 q3=> ?_);cases f with
  |next=>
   obtain⟨σ3,H3,I3,n3⟩:=q3;obtain⟨m',hm,w3⟩:=hN σ3 H3 n3;exact⟨m',hm,σ3,H3,I3,w3⟩
  |cont=>
   obtain⟨σ3,H3,I3,n3⟩:=q3;obtain⟨m',hm,w3⟩:=hN σ3 H3 n3;exact⟨m',hm,σ3,H3,I3,w3⟩
  |brk=>exact q3
  |ret v=>exact q3
 |false=>
  rw[Fg Fo];exact Js ⟨σ1,H2,I2,q2⟩
end
structure It where
 go:Nat->Hp->Prop
 yld:Nat->Hp->V->Hp->Prop
 stop:Nat->Hp->Prop
def lO(X:Cx)(pins:List (Addr×Obj))(H:Hp)(b:Addr):Prop:=
 H b=none/\b≠X.env.locals/\b∉X.fs/\(b∈X.ex\/X.s₀.heap.objs.size<=b)/\(∀x c,X.env.cells.lookup x=some c->c≠b)/\∀p∈X.pn++pins,p.1≠b
theorem Inv.fpOk{σ:St}{s:Shared}{b:Addr}(I:Inv X pins σ H s)(hb:s.heap.objs.size<=b)(hn:H' b=none):lO X pins H' b:=by
 refine⟨hn,IA (Fb I.lt hb),I.nofs hb, .inr (Fc I.sz hb),λx c e z=> ?_,λp hp z=> ?_⟩
 .obtain⟨v,q⟩:=I.cell x c e;exact absurd (Fb q.lt (by rw[z];exact hb)) (Gv _)
 .exact absurd (Fb (Fz (I.pin p hp).1) (by rw[z];exact hb)) (Gv _)
structure Turn(P:Program)(w:World)(K:PySem.W.Frag)(tg:Expr)(J:It)(fp:List Addr)(it:Addr)(tn:Nat->Heap->Prop):Prop where
 mem:it∈fp
 obj:∀i h,tn i h->∀b∈fp,∃o,h.get? b=some o/\∀v,o.data≠ .cell v
 keep:∀i h h',tn i h->(∀b∈fp,∀o,h.get? b=some o->h'.get? b=some o)->tn i h'
 item:∀ (X:Cx),X.prog=P->X.w=w->X.K=K->X.calm=true->∀ (i:Nat) (pins:List (Addr×Obj)) (s:Shared) (σ:St) (H:Hp) (E:Value->Shared->Prop),Inv X pins σ H s->(∀b∈fp,lO X pins H b)->tn i s.heap->J.go i H->
  wpAny (model P w) X.A (pyNext (.ref it)) (λr s1=>∃u,r=some u/\
   wpAny (model P w) X.A (letOwnedTupleGo tg (.ref it) u) (λ_ s2=>∃x H',Inv X pins σ H' s2/\bH x u/\J.yld i H x H'/\tn (i+1) s2.heap/\∀b∈fp,H' b=none) E s1) E s
 done:∀ (X:Cx),X.prog=P->X.w=w->X.K=K->X.calm=true->∀ (i:Nat) (pins:List (Addr×Obj)) (s:Shared) (σ:St) (H:Hp) (E:Value->Shared->Prop),Inv X pins σ H s->(∀b∈fp,lO X pins H b)->tn i s.heap->J.stop i H->
  wpAny (model P w) X.A (pyNext (.ref it)) (λr s1=>r=none/\Inv X pins σ H s1) E s
 self:∀ (A:Around) (i:Nat) (s:Shared) (Q:Value->Shared->Prop) (E:Value->Shared->Prop),tn i s.heap->Q (.ref it) s->wpAny (model P w) A (pyIter (.ref it)) Q E s
abbrev TI:=St->Hp->(It->Hp->Prop)->Prop
def PIE(X:Cx)(pins:List (Addr×Obj))(σ:St)(tg:Expr)(R:It->Hp->Prop)(itv:Value)(s2:Shared):Prop:=
 ∃ (it:Addr) (fp:List Addr) (tn:Nat->Heap->Prop) (J:It) (H':Hp),itv= .ref it/\Inv X pins σ H' s2/\Turn X.prog X.w X.K tg J fp it tn/\tn 0 s2.heap/\(∀b∈fp,lO X pins H' b)/\R J H'
def PI(X:Cx)(tg iter:Expr)(wi:TI):Prop:=
 ∀ (pins:List (Addr×Obj)) (s:Shared) (σ:St) (H:Hp) (R:It->Hp->Prop),Inv X pins σ H s->wi σ H R->
  wpAny (model X.prog X.w) X.A (eval iter X.env) (λv s1=>wpAny (model X.prog X.w) X.A (pyIter v) (PIE X pins σ tg R) X.xe s1) X.xe s
theorem AS{s:Shared}{o:Obj}(ho:s.heap.get? it=some o)(hc:o.cls= .type n)(hd:o.data= .fields vs)
  (hn:["enumerate","zip","dict_itemiterator","dict_reverseitemiterator","odict_iterator","itertools.zip_longest","itertools.pairwise"].contains n=false) (hQ:Q () s):wpAny M A (letOwnedTupleGo tg (.ref it) u) Q E s:=by
 unfold letOwnedTupleGo;cases tg<;>first
  |exact F2 hQ
  |(cases u<;>first
    |exact F2 hQ
    |(refine FC (wpAny_load ho ?_)
      rw[hc,hd];show wpAny M A (if(["enumerate","zip","dict_itemiterator","dict_reverseitemiterator","odict_iterator","itertools.zip_longest","itertools.pairwise"].contains n&&vs[0]?==some (rawInt _))=true then _ else _) Q E s;rw[Fg (by intro h;rw[hn,HY]at h;cases h)];exact F2 hQ))
def Itl(K:PySem.W.Frag)(a:Addr):It:=
 ⟨λi H=>∃xs x,SqL K H a xs/\xs[i]?=some x,λi H x H'=>H'=H/\∀xs,SqL K H a xs->xs[i]?=some x,λi H=>∃xs,SqL K H a xs/\xs.length<=i⟩
def Itt(K:PySem.W.Frag)(a:Addr):It:=
 ⟨λi H=>∃xs x,SqT K H a xs/\xs[i]?=some x,λi H x H'=>H'=H/\∀xs,SqT K H a xs->xs[i]?=some x,λi H=>∃xs,SqT K H a xs/\xs.length<=i⟩
def Itr(lo:Int)(n:Nat):It:=⟨λi _=>i<n,λi H x H'=>H'=H/\x= .int (lo+i),λi _=>n<=i⟩
theorem xq{P:Program}{w:World}{K:PySem.W.Frag}{tg:Expr}(a it:Addr):Turn P w K tg (Itl K a) [it] it (λi h=>h.IsListIter it a i) where
 mem:=by simp
 obj:=λi h st b hb=>by
  have e:b=it:=by simpa using hb
  subst e;obtain⟨o,e,c,d⟩:=st;exact⟨o,e,λv z=>by rw[d]at z;cases z⟩
 keep:=λi h h' st k=>st.at λo e=>k it (by simp) o e
 item:=by intro X hP hw hK hc i pins s σ H E I hf st hg;subst hP hw hK;obtain⟨xs,x,hq,hx⟩:=hg;obtain⟨its,rv,p,hz⟩:=I.list hq;obtain⟨u,hu,ru⟩:=rv.get hx;obtain⟨f0,f1,f2,f3,f4,f5⟩:=hf it (by simp);refine wpAny_pyNext_list_item st p.isList (x:=u) (by simpa using hu) λh' st' sb=> ?_;have I1:Inv X pins σ H {s with heap:=h'}:=I.turned (t':=s.toks) (λb o hb e=>(sb.2 b hb).trans e) f0 f1 f3 f4 f5;obtain⟨o,e,c,d⟩:=id st';exact⟨u,rfl,AS (s:={s with heap:=h'}) e c d (by decide) ⟨x,H,I1,ru,⟨rfl,λys hy=>by rw[I.list_inj hy hq];exact hx⟩,st',λb hb=>(hf b hb).1⟩⟩
 done:=by intro X hP hw hK hc i pins s σ H E I hf st hg;subst hP hw hK;obtain⟨xs,hq,hx⟩:=hg;obtain⟨its,rv,p,hz⟩:=I.list hq;obtain⟨f0,f1,f2,f3,f4,f5⟩:=hf it (by simp);have hl:=rv.length;exact wpAny_pyNext_list_end (I.ok.hd hc) st p.isList (by simp;lia) λh' eb=>⟨rfl,I.turned (t':=s.toks) (λb o hb e=>eb b o hb e) f0 f1 f3 f4 f5⟩
 self:=λ_ _ _ _ _ st h=>wpAny_pyIter_listiter st h
theorem uK{P:Program}{w:World}{K:PySem.W.Frag}{tg:Expr}(a it:Addr):Turn P w K tg (Itt K a) [it] it (λi h=>h.IsTupleIter it a i) where
 mem:=by simp
 obj:=λi h st b hb=>by
  have e:b=it:=by simpa using hb
  subst e;obtain⟨o,e,c,d⟩:=st;exact⟨o,e,λv z=>by rw[d]at z;cases z⟩
 keep:=λi h h' st k=>st.at λo e=>k it (by simp) o e
 item:=by intro X hP hw hK hc i pins s σ H E I hf st hg;subst hP hw hK;obtain⟨xs,x,hq,hx⟩:=hg;obtain⟨its,rv,p,hz⟩:=I.tuple hq;obtain⟨u,hu,ru⟩:=rv.get hx;obtain⟨f0,f1,f2,f3,f4,f5⟩:=hf it (by simp);refine wpAny_pyNext_tuple_item st (show s.heap.IsTuple a its.toArray from p) (x:=u) (by simpa using hu) λh' st' sb=> ?_;have I1:Inv X pins σ H {s with heap:=h'}:=I.turned (t':=s.toks) (λb o hb e=>(sb.2 b hb).trans e) f0 f1 f3 f4 f5;obtain⟨o,e,c,d⟩:=id st';exact⟨u,rfl,AS (s:={s with heap:=h'}) e c d (by decide) ⟨x,H,I1,ru,⟨rfl,λys hy=>by rw[I.tuple_inj hy hq];exact hx⟩,st',λb hb=>(hf b hb).1⟩⟩
 done:=by intro X hP hw hK hc i pins s σ H E I hf st hg;subst hP hw hK;obtain⟨xs,hq,hx⟩:=hg;obtain⟨its,rv,p,hz⟩:=I.tuple hq;obtain⟨f0,f1,f2,f3,f4,f5⟩:=hf it (by simp);have hl:=rv.length;exact wpAny_pyNext_tuple_end (I.ok.hd hc) st (show s.heap.IsTuple a its.toArray from p) (by simp;lia) λh' eb=>⟨rfl,I.turned (t':=s.toks) (λb o hb e=>eb b o hb e) f0 f1 f3 f4 f5⟩
 self:=λ_ _ _ _ _ st h=>wpAny_pyIter_tupleiter st h
theorem uL{P:Program}{w:World}{K:PySem.W.Frag}{tg:Expr}(it:Addr)(lo:Int)(n:Nat):Turn P w K tg (Itr lo n) [it] it (λi h=>IsRangeIter h it (lo+(i:Nat)*1) ((n:Int) - (i:Nat)) 1) where
 mem:=by simp
 obj:=λi h st b hb=>by
  have e:b=it:=by simpa using hb
  subst e;exact⟨_,st,λv z=>by have z':Data.fields _=Data.cell v:=z;cases z'⟩
 keep:=λi h h' st k=>k it (by simp) _ st
 item:=by intro X hP hw hK hc i pins s σ H E I hf st hg;subst hP hw hK;obtain⟨f0,f1,f2,f3,f4,f5⟩:=hf it (by simp);have W:=Walks.range (prog:=X.prog) (w:=X.w) (I.ok.hd hc) it lo 1 n;refine W.item i s _ _ hg st λv h' tk hv st' kk=> ?_;obtain⟨t,rfl⟩:=hv;have I1:Inv X pins σ H {s with heap:=h',toks:=tk}:=I.turned (λb o hb e=>kk b o (by simpa using hb) e) f0 f1 f3 f4 f5;refine⟨_,rfl,AS (s:={s with heap:=h',toks:=tk}) (n:= "range_iterator") st' rfl rfl (by decide) ⟨.int (lo+i),H,I1,⟨t,?_⟩,⟨rfl,rfl⟩,st',λb hb=>(hf b hb).1⟩⟩;rw[Int.mul_one]
 done:=by intro X hP hw hK hc i pins s σ H E I hf st hg;subst hP hw hK;obtain⟨f0,f1,f2,f3,f4,f5⟩:=hf it (by simp);exact wpAny_pyNext_range_end (I.ok.hd hc) st (by have:n<=i:=hg;lia) λh' eb=>⟨rfl,I.turned (t':=s.toks) (λb o hb e=>eb b o hb e) f0 f1 f3 f4 f5⟩
 self:=λ_ _ _ _ _ st h=>wpAny_pyIter_rangeiter st h
end L2
namespace L2
open PySem PySem.Spec PyProof.Rows
section
variable{X:Cx}{tg:Expr}
inductive RdL(K:PySem.W.Frag)(R:It->Hp->Prop)(x:V)(H:Hp):Prop
 |mk (a:Addr) (e:x= .ref a) (s:∃xs,SqL K H a xs) (q:R (Itl K a) H):RdL K R x H
def CQ(K:PySem.W.Frag)(tl:TE):TI:=λσ H R=>tl σ H (RdL K R)
def Et(K:PySem.W.Frag)(tl:TE):TI:=λσ H R=>tl σ H λx H1=>∃a,x= .ref a/\(∃xs,SqT K H1 a xs)/\R (Itt K a) H1
theorem BR(hl:PE X l tl):PI X tg l (CQ X.K tl):=by
 intro pins s σ H R I h;refine thn (hl pins s σ H _ I h) λv s1 ⟨x,H1,I1,r1,q1⟩=> ?_;obtain⟨a,e,⟨xs,hq⟩,q⟩:=q1;subst e;cases r1;obtain⟨its,rv,p,hz⟩:=I1.list hq;refine Jd p.isList ?_;refine⟨s1.heap.objs.size,[s1.heap.objs.size],_,_,H1,rfl,I1.kept (t':=s1.toks) λb o e=>FF _ e,xq a _,⟨_,FZ _ rfl,rfl,rfl⟩,λb hb=> ?_,q⟩;have e:b=s1.heap.objs.size:=by simpa using hb
 subst e;exact I1.fpOk (Fj _) (I1.hok.fresh (Fj _))
theorem Dm(hl:PE X l tl):PI X tg l (Et X.K tl):=by
 intro pins s σ H R I h;refine thn (hl pins s σ H _ I h) λv s1 ⟨x,H1,I1,r1,q1⟩=> ?_;obtain⟨a,e,⟨xs,hq⟩,q⟩:=q1;subst e;cases r1;obtain⟨its,rv,p,hz⟩:=I1.tuple hq;refine wpAny_pyIter_tuple (show s1.heap.IsTuple a its.toArray from p) ?_;refine⟨s1.heap.objs.size,[s1.heap.objs.size],_,_,H1,rfl,I1.kept (t':=s1.toks) λb o e=>FF _ e,uK a _,⟨_,FZ _ rfl,rfl,rfl⟩,λb hb=> ?_,q⟩;have e:b=s1.heap.objs.size:=by simpa using hb
 subst e;exact I1.fpOk (Fj _) (I1.hok.fresh (Fj _))
theorem zV{σ:St}{s:Shared}{lo hi:Int}(I:Inv X pins σ H s)(h1: -(2^62)<=lo)(h2:lo<2^62)(h3: -(2^62)<=hi)(h4:hi<2^62)
  (q:R (Itr lo (hi-lo).toNat) H):wpAny (model X.prog X.w) X.A (pyIter (.ref s.heap.objs.size)) (PIE X pins σ tg R) E {s with heap:=s.heap.push {cls:= .type "range",data:= .fields #[.int lo t, .int hi u, .int 1 v]},toks:=tk}:=by
 refine wpAny_pyIter_range (IsRange.new ..) (small_one h1 h2 h3 h4) ?_;have I1:Inv X pins σ H {s with heap:=s.heap.push {cls:= .type "range",data:= .fields #[.int lo t, .int hi u, .int 1 v]},toks:=tk}:=I.kept λb o e=>FF _ e;refine⟨(s.heap.push {cls:= .type "range",data:= .fields #[.int lo t, .int hi u, .int 1 v]}).objs.size,[(s.heap.push {cls:= .type "range",data:= .fields #[.int lo t, .int hi u, .int 1 v]}).objs.size],_,_,H,rfl,
  I1.kept (t':=tk) λb o e=>FF _ e,uL _ lo (hi-lo).toNat,?_,λb hb=> ?_,q⟩
 .have e1:lo+((0:Nat):Int)*1=lo:=by simp
  have e2:(((hi-lo).toNat:Nat):Int) - ((0:Nat):Int)=Builtin.Range.rangeSize lo hi 1:=by rw[rangeSize_one];split<;>lia
  show IsRangeIter _ _ (lo+((0:Nat):Int)*1) ((((hi-lo).toNat:Nat):Int) - ((0:Nat):Int)) 1;rw[e1,e2];exact FZ _ rfl
 .have e:b=(s.heap.push {cls:= .type "range",data:= .fields #[.int lo t, .int hi u, .int 1 v]}).objs.size:=by simpa using hb
  subst e;exact I1.fpOk (Fj _) (I1.hok.fresh (Fj _))
def Eu(ta:TA):TI:=λσ H R=>ta σ H λvs H1=>∃j:Int,vs=[.int j]/\ -(2^62)<=j/\j<2^62/\R (Itr 0 j.toNat) H1
theorem aX{a:Expr}{ta:TA}{p pos:Pos}(hg:Gl X "range")(hm:X.mg "range"=none)(ha:PA X [a] ta)(hs:starEach [a] X.env=[(false,eval a X.env)]:=by rfl):PI X tg (.Call (.Name "range" p) [a] [] pos) (Eu ta):=by
 intro pins s σ H R I h;refine Call_ (iR I hg hm boot_range (Ho (thn (ha pos pins s σ H _ I h) λus s1 ⟨vs,H1,I1,r1,q1⟩=> ?_) hs rfl));obtain⟨j,e,q1,q2,q⟩:=q1;subst e;cases r1 with
 |cons r rr=>
  cases rr;obtain⟨t,rfl⟩:=r;exact call_range_1 (zV I1 (by lia) (by lia) q1 q2 (by simpa using q))
def EK(wi:TI)(g:TG)(tb:TS):TS:=λD σ H=>wi σ H λJ H1=>∃W:Nat->Nat->St->Hp->Prop,(∃m,W 0 m σ H1)/\∀i m σ H,W i m σ H->
 (J.stop i H/\D.nx σ H)\/(J.go i H/\∃N:St->Hp->Prop,(∀σ' H',N σ' H'->∃m',m'<m/\W (i+1) m' σ' H')/\∀x H',J.yld i H x H'->g x σ H' λσ2 H2=>tb {D with nx:=N,ct:=N,bk:=D.nx} σ2 H2)
def jY(fp:List Addr)(h:Heap):List (Addr×Obj):=fp.filterMap λb=>(h.get? b).map λo=>(b,o)
theorem eB{h:Heap}(hb:b∈fp)(e:h.get? b=some o):(b,o)∈jY fp h:=List.mem_filterMap.mpr ⟨b,hb,by rw[e];rfl⟩
theorem ya{h:Heap}(hp:p∈jY fp h):p.1∈fp/\h.get? p.1=some p.2:=by
 obtain⟨b,hb,e⟩:=List.mem_filterMap.mp hp;cases q:h.get? b with
 |none=>rw[q]at e;cases e
 |some o=>
  rw[q]at e;have e':(b,o)=p:=F9 e;subst e';exact⟨hb,q⟩
theorem Inv.pinned{σ:St}{s:Shared}(I:Inv X pins σ H s)(hf:∀b∈fp,lO X pins H b)(ho:∀b∈fp,∃o,s.heap.get? b=some o/\∀v,o.data≠ .cell v):Inv X (pins++jY fp s.heap) σ H s:=
 I.pins_of λp hp=>(FE.mp hp).elim (λz=>I.pin p (FL _ z)) λz=>by obtain⟨hb,e⟩:=ya z;obtain⟨f0,f1,f2,_⟩:=hf p.1 hb;obtain⟨o,e',d⟩:=ho p.1 hb;rw[e]at e';cases e';exact⟨e,f0,f1,f2,d⟩
theorem Inv.unpinned{σ:St}(I:Inv X (pins++pl) σ H s):Inv X pins σ H s:=I.pins_of λp hp=>I.pin p (FL _ (Gg _ hp))
theorem aZ{iter:Expr}{body:List Stmt}{wi:TI}{g:TG}{tb:TS}{pos:Pos}(hp:PassesOwn (model X.prog X.w) X.A X.env X.xe)(hc:X.calm=true)(hi:PI X tg iter wi)(hg:PG X tg g)(hb:PSs X body tb)
  (hs:∀x,foldedSetIterable iter X.env x=pure x:=by intro _;rfl):PS X (.For tg iter body [] pos) (EK wi g tb):=by
 intro pins s σ H D I h;refine wpAny_For (thn (hi pins s σ H _ I h) λv s1 h1=>thn h1 λitv s2 h2=> ?_) hs;obtain⟨it,fp,tn,J,H2,e,I2,T,st2,f2,W,⟨m0,w0⟩,turn⟩:=h2;subst e;have stat:∀ {H':Hp},(∀b∈fp,H' b=none)->∀b∈fp,lO X pins H' b:=λhn b hb=>⟨hn b hb,(f2 b hb).2⟩;refine codeAny_forLoop_any (λn s'=>∃i σ' H',Inv X pins σ' H' s'/\tn i s'.heap/\(∀b∈fp,H' b=none)/\W i n σ' H') ?_ m0 ⟨0,σ,H2,I2,st2,λb hb=>(f2 b hb).1,w0⟩;rintro n s3 ⟨i,σ3,H3,I3,st3,fr3,w3⟩;rcases turn i n σ3 H3 w3 with ⟨stop,qn⟩|⟨go,N,hN,step⟩
 .refine HQ hp (thn (T.done X rfl rfl rfl hc i pins s3 σ3 H3 X.xe I3 (stat fr3) st3 stop) λr s4 ⟨hr,I4⟩=> ?_);subst hr;exact Js ⟨σ3,H3,I4,qn⟩
 .refine HQ hp (thn (T.item X rfl rfl rfl hc i pins s3 σ3 H3 X.xe I3 (stat fr3) st3 go) λr s4 ⟨u,hr,h4⟩=> ?_);subst hr;refine HQ hp (thn h4 λ_ s5 ⟨x,H5,I5,r5,y5,st5,fr5⟩=> ?_);have I5':=I5.pinned (stat fr5) (T.obj _ _ st5);refine HQ hp (thn (hg _ s5 σ3 H5 x u _ I5' r5 (step x H5 y5)) λ_ s6 ⟨σ6,H6,I6,q6⟩=> ?_);refine HQ hp (thn (hb _ s6 σ6 H6 _ I6 q6) λf s7 q7=> ?_);have again:∀ {σ7:St} {H7:Hp},Inv X (pins++jY fp s5.heap) σ7 H7 s7->N σ7 H7->∃m,m<n/\∃i σ' H',Inv X pins σ' H' s7/\tn i s7.heap/\(∀b∈fp,H' b=none)/\W i m σ' H':=λ{σ7 H7} I7 n7=>by obtain⟨m',hm,w7⟩:=hN σ7 H7 n7;refine⟨m',hm,i+1,σ7,H7,I7.unpinned,T.keep _ _ _ st5 λb hb o e=>(I7.pin (b,o) (FL _ (FL _ (eB hb e)))).1,λb hb=> ?_,w7⟩;obtain⟨o,e,d⟩:=T.obj _ _ st5 b hb;exact(I7.pin (b,o) (FL _ (FL _ (eB hb e)))).2.1
  cases f with
  |next=>obtain⟨σ7,H7,I7,n7⟩:=q7;exact again I7 n7
  |cont=>obtain⟨σ7,H7,I7,n7⟩:=q7;exact again I7 n7
  |brk=>obtain⟨σ7,H7,I7,q7⟩:=q7;exact⟨σ7,H7,I7.unpinned,q7⟩
  |ret v=>obtain⟨x7,σ7,H7,I7,r7,q7⟩:=q7;exact⟨x7,σ7,H7,I7.unpinned,r7,q7⟩
end
theorem ba{K:PySem.W.Frag}{xs:List V}{g:TG}{tb:TS}{D:Ends}(Pv:Nat->St->Hp->Prop)(h0:Pv 0 σ H)(hl:∀i σ H,i<=xs.length->Pv i σ H->SqL K H a xs)
  (hs:∀i x σ H,xs[i]?=some x->Pv i σ H->g x σ H λσ2 H2=>tb {D with nx:=Pv (i+1),ct:=Pv (i+1),bk:=D.nx} σ2 H2) (hd:∀σ H,Pv xs.length σ H->D.nx σ H):
  ∃W:Nat->Nat->St->Hp->Prop,(∃m,W 0 m σ H)/\∀i m σ H,W i m σ H->
   ((Itl K a).stop i H/\D.nx σ H)\/((Itl K a).go i H/\∃N:St->Hp->Prop,(∀σ' H',N σ' H'->∃m',m'<m/\W (i+1) m' σ' H')/\∀x H',(Itl K a).yld i H x H'->g x σ H' λσ2 H2=>tb {D with nx:=N,ct:=N,bk:=D.nx} σ2 H2):=by
 refine⟨λi m σ H=>m=xs.length-i/\i<=xs.length/\Pv i σ H,⟨xs.length,by simp,FV _,h0⟩,?_⟩;rintro i m σ H ⟨rfl,hi,p⟩;have q:=hl i σ H hi p;by_cases hlt:i<xs.length
 .refine .inr ⟨⟨xs,xs[i],q,by simp[hlt]⟩,Pv (i+1),λσ' H' p'=>⟨xs.length- (i+1),Gp hlt (Gk _),rfl,hlt,p'⟩,λx H' y=> ?_⟩;obtain⟨e,y⟩:=y;subst e;exact hs i x σ _ (y xs q) p
 .have e:i=xs.length:=Gr hi (Gh hlt);subst e;exact .inl ⟨⟨xs,q,Fj _⟩,hd σ H p⟩
theorem bV{lo:Int}{g:TG}{tb:TS}{D:Ends}(Pv:Nat->St->Hp->Prop)(h0:Pv 0 σ H)
  (hs:∀i σ H,i<n->Pv i σ H->g (.int (lo+i)) σ H λσ2 H2=>tb {D with nx:=Pv (i+1),ct:=Pv (i+1),bk:=D.nx} σ2 H2) (hd:∀σ H,Pv n σ H->D.nx σ H):
  ∃W:Nat->Nat->St->Hp->Prop,(∃m,W 0 m σ H)/\∀i m σ H,W i m σ H->
   ((Itr lo n).stop i H/\D.nx σ H)\/((Itr lo n).go i H/\∃N:St->Hp->Prop,(∀σ' H',N σ' H'->∃m',m'<m/\W (i+1) m' σ' H')/\∀x H',(Itr lo n).yld i H x H'->g x σ H' λσ2 H2=>tb {D with nx:=N,ct:=N,bk:=D.nx} σ2 H2):=by
 refine⟨λi m σ H=>m=n-i/\i<=n/\Pv i σ H,⟨n,by simp,FV _,h0⟩,?_⟩;rintro i m σ H ⟨rfl,hi,p⟩;by_cases hlt:i<n
 .refine .inr ⟨hlt,Pv (i+1),λσ' H' p'=>⟨n- (i+1),Gp hlt (Gk _),rfl,hlt,p'⟩,λx H' y=> ?_⟩;obtain⟨e,y⟩:=y;subst e y;exact hs i σ _ hlt p
 .have e:i=n:=Gr hi (Gh hlt);subst e;exact .inl ⟨Fj _,hd σ H p⟩
end L2
namespace L2
open PySem PySem.Spec PyProof.Rows
abbrev R2:=V->V->Hp->VK->Prop
def OpR(X:Cx)(f:Value->Value->Sem Value)(r:R2):Prop:=
 ∀ (pins:List (Addr×Obj)) (s:Shared) (σ:St) (H:Hp) (x y:V) (v u:Value) (Q:VK),Inv X pins σ H s->bH x v->bH y u->r x y H Q->
  wpAny (model X.prog X.w) X.A (f v u) (EP X pins σ Q) X.xe s
def UnR(X:Cx)(f:Value->Sem Value)(r:V->Hp->VK->Prop):Prop:=
 ∀ (pins:List (Addr×Obj)) (s:Shared) (σ:St) (H:Hp) (x:V) (v:Value) (Q:VK),Inv X pins σ H s->bH x v->r x H Q->
  wpAny (model X.prog X.w) X.A (f v) (EP X pins σ Q) X.xe s
def b7(X:Cx)(f:Value)(r:List V->Hp->VK->Prop):Prop:=
 ∀ (pins:List (Addr×Obj)) (s:Shared) (σ:St) (H:Hp) (xs:List V) (us:List Value) (Q:VK),Inv X pins σ H s->Vals xs us->r xs H Q->
  wpAny (model X.prog X.w) X.A (call f us) (EP X pins σ Q) X.xe s
def tOp(r:R2)(ta tb:TE):TE:=λσ H Q=>ta σ H λx H1=>tb σ H1 λy H2=>r x y H2 Q
def tUn(r:V->Hp->VK->Prop)(ta:TE):TE:=λσ H Q=>ta σ H λx H1=>r x H1 Q
inductive RdI(C:Int->Int->Prop)(g:Int->Int->V)(x y:V)(H:Hp)(Q:VK):Prop
 |mk (i j:Int) (e1:x= .int i) (e2:y= .int j) (c:C i j) (q:Q (g i j) H):RdI C g x y H Q
def rI(C:Int->Int->Prop)(g:Int->Int->V):R2:=λx y H Q=>RdI C g x y H Q
inductive EA(g:Int->Int->V)(x y:V)(H:Hp)(Q:VK):Prop
 |mk (i j:Int) (e1:x= .int i) (e2:y= .int j) (q:Q (g i j) H):EA g x y H Q
def rI0(g:Int->Int->V):R2:=λx y H Q=>EA g x y H Q
def rU(g:Int->V):V->Hp->VK->Prop:=λx H Q=>∃i,x= .int i/\Q (g i) H
section
variable{X:Cx}{a b c:Expr}{ta tb tc:TE}{pos:Pos}
theorem DR(ha:PE X a ta)(hb:PE X b tb){σ:St}{R:V->V->Hp->Prop}(I:Inv X pins σ H s)
  (h:ta σ H λx H1=>tb σ H1 λy H2=>R x y H2)  {f:Value->Value->Sem Value}
  (hf:∀v u s2 x y H2,Inv X pins σ H2 s2->bH x v->bH y u->R x y H2->wpAny (model X.prog X.w) X.A (f v u) Q X.xe s2):
  wpAny (model X.prog X.w) X.A (eval a X.env) (λv s₁=>wpAny (model X.prog X.w) X.A (eval b X.env) (λu s₂=>wpAny (model X.prog X.w) X.A (f v u) Q X.xe s₂) X.xe s₁) X.xe s:=by
 refine thn (ha pins s σ H _ I h) λv s1 ⟨x,H1,I1,r1,q1⟩=> ?_;refine thn (hb pins s1 σ H1 _ I1 q1) λu s2 ⟨y,H2,I2,r2,q2⟩=> ?_;exact hf v u s2 x y H2 I2 r1 r2 q2
theorem aw(ho:OpR X (binaryOp op) r)(ha:PE X a ta)(hb:PE X b tb):PE X (.BinOp a op b pos) (tOp r ta tb):=by intro pins s σ H Q I h;exact wpAny_BinOp (DR ha hb I h λv u s2 x y H2 I2 rx ry q=>ho pins s2 σ H2 x y v u Q I2 rx ry q)
theorem jh(ho:UnR X (unaryOp op) r)(ha:PE X a ta):PE X (.UnaryOp op a pos) (tUn r ta):=by intro pins s σ H Q I h;exact UnaryOp_ (thn (ha pins s σ H _ I h) λv s1 ⟨x,H1,I1,r1,q1⟩=>ho pins s1 σ H1 x v Q I1 r1 q1)
theorem opI{g:Int->Int->Int}
  (rule:∀ (i j:Int) (t u:Tok) (s:Shared) (Q:Value->Shared->Prop) (E:Value->Shared->Prop),C i j->Q (.int (g i j) s.toks) {s with toks:=s.toks+1}->wpAny (model X.prog X.w) X.A (f (.int i t) (.int j u)) Q E s):
  OpR X f (rI C λi j=> .int (g i j)):=by
 intro pins s σ H x y v u Q I rx ry h;obtain⟨i,j,rfl,rfl,hc,q⟩:=h;obtain⟨t,rfl⟩:=rx;obtain⟨t',rfl⟩:=ry;exact rule i j t t' s _ _ hc ⟨.int (g i j),H,I.tok _,⟨_,rfl⟩,q⟩
theorem Ai{g:Int->Int->Int}
  (rule:∀ (i j:Int) (t u:Tok) (s:Shared) (Q:Value->Shared->Prop) (E:Value->Shared->Prop),Q (.int (g i j) s.toks) {s with toks:=s.toks+1}->wpAny (model X.prog X.w) X.A (f (.int i t) (.int j u)) Q E s):
  OpR X f (rI0 λi j=> .int (g i j)):=by
 intro pins s σ H x y v u Q I rx ry h;obtain⟨i,j,rfl,rfl,q⟩:=h;obtain⟨t,rfl⟩:=rx;obtain⟨t',rfl⟩:=ry;exact rule i j t t' s _ _ ⟨.int (g i j),H,I.tok _,⟨_,rfl⟩,q⟩
theorem En{g:Int->Int->Bool}
  (rule:∀ (i j:Int) (t u:Tok) (s:Shared) (Q:Value->Shared->Prop) (E:Value->Shared->Prop),Q (.bool (g i j)) s->wpAny (model X.prog X.w) X.A (f (.int i t) (.int j u)) Q E s):
  OpR X f (rI0 λi j=> .bl (g i j)):=by
 intro pins s σ H x y v u Q I rx ry h;obtain⟨i,j,rfl,rfl,q⟩:=h;obtain⟨t,rfl⟩:=rx;obtain⟨t',rfl⟩:=ry;exact rule i j t t' s _ _ ⟨.bl (g i j),H,I,rfl,q⟩
def E2(i j:Int):Prop:=0<j/\j<1073741824
def ED(i j:Int):Prop:=0<=j/\j<=1000000/\i.natAbs<2^64
def DV(i j:Int):Prop:=(-(2^64)<i/\i<2^64)\/(-(2^64)<j/\j<2^64)
theorem DV.ok(h:DV i j):IntMulOk i j:=by
 rcases h with ⟨h1,h2⟩|⟨h1,h2⟩
 .exact .of_left (intBits_le_64 h1 h2)
 .exact .of_right (intBits_le_64 h1 h2)
theorem mF(k:Nat):(0:Int)<=2^k:=by rw[two_pow_cast];exact F0 _
theorem cX:OpR X (binaryOp .Add) (rI0 λi j=> .int (i+j)):=Ai λ_ _ _ _ _ _ _ q=>add_int q
theorem dr:OpR X (binaryOp .Sub) (rI0 λi j=> .int (i-j)):=Ai λ_ _ _ _ _ _ _ q=>sub_int q
theorem vj:OpR X (binaryOp .Mult) (rI DV λi j=> .int (i*j)):=opI λ_ _ _ _ _ _ _ hc q=>mul_int q hc.ok
theorem ix:OpR X (binaryOp .FloorDiv) (rI E2 λi j=> .int (i/j)):=opI λi j _ _ _ _ _ hc q=>by have h1:(0:Int)<j:=hc.1;have h2:j<1073741824:=hc.2;exact floordiv_int (by lia) (by rw[JR i (by lia)];exact q) (.inl (PyProof.noPylong_small (by lia)))
theorem bE:OpR X (binaryOp .Mod) (rI (λ_ j=>0<j) λi j=> .int (i % j)):=opI λi j _ _ _ _ _ hc q=>by have h1:(0:Int)<j:=hc;exact mod_int' (by lia) (by rw[Int.fmod_eq_emod_of_nonneg i (by lia)];exact q)
theorem vi:OpR X (binaryOp .Pow) (rI ED λi j=> .int (i^j.toNat)):=opI λ_ _ _ _ _ _ _ hc q=>pow_int_small hc.1 hc.2.1 hc.2.2 q
theorem bJ:OpR X (binaryOp .LShift) (rI ED λi j=> .int (i*2^j.toNat)):=opI λ_ _ _ _ _ _ _ hc q=>lshift_int_small hc.1 hc.2.1 hc.2.2 q
theorem j6:OpR X (binaryOp .RShift) (rI (λ_ j=>0<=j) λi j=> .int (i/2^j.toNat)):=opI λi j _ _ _ _ _ hc q=>
 rshift_int hc (by rw[JR i (mF _)];exact q)
theorem dO:OpR X (binaryOp .BitAnd) (rI0 λi j=> .int (Builtin.bitAnd i j)):=Ai λ_ _ _ _ _ _ _ q=>and_int q
theorem hG:OpR X (binaryOp .BitOr) (rI0 λi j=> .int (Builtin.bitOr i j)):=Ai λ_ _ _ _ _ _ _ q=>or_int q
theorem mY:OpR X (binaryOp .BitXor) (rI0 λi j=> .int (Builtin.bitXor i j)):=Ai λ_ _ _ _ _ _ _ q=>xor_int q
theorem unI{f:Value->Sem Value}{g:Int->Int}
  (rule:∀ (i:Int) (t:Tok) (s:Shared) (Q:Value->Shared->Prop) (E:Value->Shared->Prop),Q (.int (g i) s.toks) {s with toks:=s.toks+1}->wpAny (model X.prog X.w) X.A (f (.int i t)) Q E s):
  UnR X f (rU λi=> .int (g i)):=by
 intro pins s σ H x v Q I rx h;obtain⟨i,rfl,q⟩:=h;obtain⟨t,rfl⟩:=rx;exact rule i t s _ _ ⟨.int (g i),H,I.tok _,⟨_,rfl⟩,q⟩
theorem gv:UnR X (unaryOp .USub) (rU λi=> .int (-i)):=unI λ_ _ _ _ _ q=>neg_int q
end
def scal:V->V->Bool
 | .non, .non=>true| .non, .int _=>true| .int _, .non=>true| .non, .bl _=>true| .bl _, .non=>true| .non, .str _=>true| .str _, .non=>true
 | .int _, .int _=>true| .bl _, .bl _=>true| .str _, .str _=>true| .byt _, .byt _=>true
 | .int _, .str _=>true| .str _, .int _=>true| .bl _, .str _=>true| .str _, .bl _=>true
 |_,_=>false
def rEq:R2:=λx y H Q=>scal x y=true/\Q (.bl (decide (x=y))) H
def rNe:R2:=λx y H Q=>scal x y=true/\Q (.bl (!decide (x=y))) H
theorem cI:decide (V.int i=V.int j)=(i==j):=by rw[Gz];simp
theorem Bb:decide (V.bl i=V.bl j)=(i==j):=by rw[Gz];simp
theorem xb:decide (V.str i=V.str j)=(i==j):=by rw[Gz];simp
theorem xc{i j:Array UInt8}:decide (V.byt i=V.byt j)=(i.toList==j.toList):=by rw[Gz];cases i;cases j;simp
section
variable{X:Cx}{a b c:Expr}{ta tb tc:TE}{pos:Pos}
theorem bF{pins:List (Addr×Obj)}{σ:St}{H:Hp}{s:Shared}{Q:VK}{k k':Bool}(I:Inv X pins σ H s)(q:Q (.bl k) H)(e:k=k'):EP X pins σ Q (.bool k') s:=by subst e;exact⟨.bl k,H,I,rfl,q⟩
theorem bS:OpR X (compareOp .Eq) rEq:=by
 intro pins s σ H x y v u Q I rx ry h;obtain⟨hs,q⟩:=h;cases x with
 |non=>
  cases rx;cases y with
  |non=>cases ry;exact PySem.EqNone.eq_none_none (bF I q (by simp))
  |bl j=>cases ry;exact PySem.EqNone.eq_none_bool (bF I q (by simp))
  |int j=>obtain⟨t',rfl⟩:=ry;exact PySem.EqNone.eq_none_int (bF I q (by simp))
  |str j=>obtain⟨t',rfl⟩:=ry;exact PySem.EqNone.eq_none_str (bF I q (by simp))
  |_=>exact absurd (show false=true from hs) Fo
 |bl i=>
  cases rx;cases y with
  |non=>cases ry;exact PySem.EqNone.eq_bool_none (bF I q (by simp))
  |bl j=>cases ry;exact eq_bool (bF I q Bb)
  |str j=>obtain⟨t',rfl⟩:=ry;exact PySem.EqMixed.eq_bool_str (bF I q (by simp))
  |_=>exact absurd (show false=true from hs) Fo
 |int i=>
  obtain⟨t,rfl⟩:=rx;cases y with
  |non=>cases ry;exact PySem.EqNone.eq_int_none (bF I q (by simp))
  |int j=>obtain⟨t',rfl⟩:=ry;exact eq_int (bF I q cI)
  |str j=>obtain⟨t',rfl⟩:=ry;exact PySem.EqMixed.eq_int_str (bF I q (by simp))
  |_=>exact absurd (show false=true from hs) Fo
 |str i=>
  obtain⟨t,rfl⟩:=rx;cases y with
  |non=>cases ry;exact PySem.EqNone.eq_str_none (bF I q (by simp))
  |bl j=>cases ry;exact PySem.EqMixed.eq_str_bool (bF I q (by simp))
  |int j=>obtain⟨t',rfl⟩:=ry;exact PySem.EqMixed.eq_str_int (bF I q (by simp))
  |str j=>obtain⟨t',rfl⟩:=ry;exact eq_str (bF I q xb)
  |_=>exact absurd (show false=true from hs) Fo
 |byt i=>
  obtain⟨t,rfl⟩:=rx;cases y with
  |byt j=>obtain⟨t',rfl⟩:=ry;exact PySem.W.eq_bytes (bF I q xc)
  |_=>exact absurd (show false=true from hs) Fo
 |_=>cases y<;>exact absurd (show false=true from hs) Fo
theorem jo:OpR X (compareOp .NotEq) rNe:=by
 intro pins s σ H x y v u Q I rx ry h;obtain⟨hs,q⟩:=h;cases x with
 |non=>
  cases rx;cases y with
  |non=>cases ry;exact PySem.EqNone.ne_none_none (bF I q (by simp))
  |bl j=>cases ry;exact PySem.EqNone.ne_none_bool (bF I q (by simp))
  |int j=>obtain⟨t',rfl⟩:=ry;exact PySem.EqNone.ne_none_int (bF I q (by simp))
  |str j=>obtain⟨t',rfl⟩:=ry;exact PySem.EqNone.ne_none_str (bF I q (by simp))
  |_=>exact absurd (show false=true from hs) Fo
 |bl i=>
  cases rx;cases y with
  |non=>cases ry;exact PySem.EqNone.ne_bool_none (bF I q (by simp))
  |bl j=>cases ry;exact ne_bool (bF I q (Fu not Bb))
  |str j=>obtain⟨t',rfl⟩:=ry;exact PySem.EqMixed.ne_bool_str (bF I q (by simp))
  |_=>exact absurd (show false=true from hs) Fo
 |int i=>
  obtain⟨t,rfl⟩:=rx;cases y with
  |non=>cases ry;exact PySem.EqNone.ne_int_none (bF I q (by simp))
  |int j=>obtain⟨t',rfl⟩:=ry;exact ne_int (bF I q (Fu not cI))
  |str j=>obtain⟨t',rfl⟩:=ry;exact PySem.EqMixed.ne_int_str (bF I q (by simp))
  |_=>exact absurd (show false=true from hs) Fo
 |str i=>
  obtain⟨t,rfl⟩:=rx;cases y with
  |non=>cases ry;exact PySem.EqNone.ne_str_none (bF I q (by simp))
  |bl j=>cases ry;exact PySem.EqMixed.ne_str_bool (bF I q (by simp))
  |int j=>obtain⟨t',rfl⟩:=ry;exact PySem.EqMixed.ne_str_int (bF I q (by simp))
  |str j=>obtain⟨t',rfl⟩:=ry;exact ne_str (bF I q (Fu not xb))
  |_=>exact absurd (show false=true from hs) Fo
 |byt i=>
  obtain⟨t,rfl⟩:=rx;cases y with
  |byt j=>obtain⟨t',rfl⟩:=ry;exact PySem.W.ne_bytes (bF I q (Fu not xc))
  |_=>exact absurd (show false=true from hs) Fo
 |_=>cases y<;>exact absurd (show false=true from hs) Fo
theorem kM:OpR X (compareOp .Lt) (rI0 λi j=> .bl (decide (i<j))):=En λ_ _ _ _ _ _ _ q=>lt_int q
theorem kN:OpR X (compareOp .Gt) (rI0 λi j=> .bl (decide (j<i))):=En λ_ _ _ _ _ _ _ q=>gt_int q
theorem vk:OpR X (compareOp .Is) (λx y H Q=>y= .non/\Q (.bl (decide (x= .non))) H):=by
 intro pins s σ H x y v u Q I rx ry h;obtain⟨rfl,q⟩:=h;cases ry;refine is_none_gen (bF I q ?_);cases x<;>first
  |(cases rx;rfl)
  |(obtain⟨t,rfl⟩:=rx;rfl)
theorem wV:OpR X (compareOp .IsNot) (λx y H Q=>y= .non/\Q (.bl (!decide (x= .non))) H):=by
 intro pins s σ H x y v u Q I rx ry h;obtain⟨rfl,q⟩:=h;cases ry;refine isnot_none_gen (bF I q ?_);cases x<;>first
  |(cases rx;rfl)
  |(obtain⟨t,rfl⟩:=rx;rfl)
theorem OpR.or(h:OpR X f r)(h':OpR X f r'):OpR X f (λx y H Q=>r x y H Q\/r' x y H Q):=by
 intro pins s σ H x y v u Q I rx ry q;rcases q with q|q
 .exact h pins s σ H x y v u Q I rx ry q
 .exact h' pins s σ H x y v u Q I rx ry q
theorem nomark(b:Expr){op:CmpOp}(h:op≠ .In:=by decide)(h2:op≠ .NotIn:=by decide):behindInMarks op b=false:=by
 have e1:(op==CmpOp.In)=false:=by cases op<;>first|rfl|exact absurd rfl h
 have e2:(op==CmpOp.NotIn)=false:=by cases op<;>first|rfl|exact absurd rfl h2
 cases b<;>simp[behindInMarks,e1,e2]
theorem fg(ho:OpR X (compareOp op) r)(ha:PE X a ta)(hb:PE X b tb)(hm:behindInMarks op b=false):PE X (.Compare a [op] [b] pos) (tOp r ta tb):=by intro pins s σ H Q I h;exact wpAny_Compare1 (DR ha hb I h λv u s2 x y H2 I2 rx ry q=>ho pins s2 σ H2 x y v u Q I2 rx ry q) hm
def DW(t:TE):TT:=λσ H Q=>t σ H (RdB Q)
theorem aI(ho:OpR X (compareOp op) r)(ha:PE X a ta)(hb:PE X b tb)(hm:behindInMarks op b=false):PT X (.Compare a [op] [b] pos) (DW (tOp r ta tb)):=by
 intro pins s σ H Q I h;refine wpAny_isTrue_Compare1 (thn (ha pins s σ H _ I h) λv s1 ⟨x,H1,I1,r1,q1⟩=>thn (hb pins s1 σ H1 _ I1 q1) λu s2 ⟨y,H2,I2,r2,q2⟩=>
  thn (ho pins s2 σ H2 x y v u _ I2 r1 r2 q2) λc s3 ⟨z,H3,I3,r3,k,e,q3⟩=> ?_) hm
 subst e;cases r3;exact HV ⟨H3,I3,q3⟩
theorem vD:(sizeLine:Nat)<2^63:=by rw[sizeLine_eq];decide
theorem iX(r:Vals [x] us):∃u,us=[u]/\bH x u:=by
 cases r with
 |cons r1 r2=>cases r2;exact⟨_,rfl,r1⟩
theorem za(r:Vals [x,y] us):∃u w',us=[u,w']/\bH x u/\bH y w':=by
 cases r with
 |cons r1 r2=>
  cases r2 with
  |cons r3 r4=>cases r4;exact⟨_,_,rfl,r1,r3⟩
theorem yR(hc:X.calm=true):b7 X (.builtin "max") (λxs H Q=>∃i j,xs=[.int i, .int j]/\Q (.int (if j>i then j else i)) H):=by
 intro pins s σ H xs us Q I r h;obtain⟨i,j,rfl,q⟩:=h;obtain⟨u,w',rfl,⟨t,rfl⟩,⟨t',rfl⟩⟩:=za r;refine max_two_ints (I.ok.hd hc) λh' tk k=>⟨_,H,I.kept k,?_,q⟩;by_cases hj:j>i
 .rw[E9 hj,E9 hj];exact⟨_,rfl⟩
 .rw[Fg hj,Fg hj];exact⟨_,rfl⟩
theorem kr(hc:X.calm=true):b7 X (.builtin "min") (λxs H Q=>∃i j,xs=[.int i, .int j]/\Q (.int (if j<i then j else i)) H):=by
 intro pins s σ H xs us Q I r h;obtain⟨i,j,rfl,q⟩:=h;obtain⟨u,w',rfl,⟨t,rfl⟩,⟨t',rfl⟩⟩:=za r;refine min_two_ints (I.ok.hd hc) λh' tk k=>⟨_,H,I.kept k,?_,q⟩;by_cases hj:j<i
 .rw[E9 hj,E9 hj];exact⟨_,rfl⟩
 .rw[Fg hj,Fg hj];exact⟨_,rfl⟩
end
end L2
namespace L2
open PySem PySem.Spec PyProof.Rows
structure wd(h:Heap)(x dx C:Addr)(mA:Str->Option Value):Prop where
 obj:h.get? x=some (instObj C dx)
 ns:h.Ns1 dx mA
 ne:dx≠x
theorem yj{h:Heap}(n:h.Ns1 dx mA):∃od,h.get? dx=some od/\∀name,lookIn name od=some (mA name):=by
 obtain⟨o,es,ep,ho,hd,hk,_,hm⟩:=n;refine⟨o,ho,λname=> ?_⟩;have e:=hm name;unfold nsFind findBy at e;rw[<-Array.find?_toList]at e;unfold lookIn;rw[hd];dsimp only;split
 .rename_i y q;rw[q]at e;exact Fu some e
 .rename_i q;rw[q]at e;have a:es.toList.any (·.refKey)=false:=by rw[JT];intro y hy;obtain⟨z,t,hkey⟩:=hk y (Array.mem_toList_iff.mp hy);simp[DictEntry.refKey,hkey]
  have a':¬es.toList.any (·.refKey)=true:=by rw[a];exact Fo
  rw[Fg a'];exact Fu some e
theorem wd.look(I:wd h x dx C mA):∃od,PySem.W.InstAt h x (instObj C dx) C (some od)/\∀name,lookIn name od=some (mA name):=
 let⟨od,ho,hl⟩:=yj I.ns
 ⟨od,⟨I.obj,rfl,rfl,ho⟩,hl⟩
section
variable{prog:Program}{w:World}{A:Around}{E:Value->Shared->Prop}{s:Shared}{K:PySem.W.Frag}{x dx C f:Addr}{mA:Str->Option Value}{name:Str}{v:Value}
theorem Ci(X:K.In s.heap)(I:wd s.heap x dx C mA)(hg:plainGet K C name=true)(hh:hasDictIn K C=true)
  (ha:findIn K (.ref C) name=some none) (hv:mA name=some v) (hv':PySem.W.handedIn v=true) (h:Q v {s with toks:=s.toks+1}):
  wpAny (model prog w) A (getAttr (.ref x) name expr) Q E s:=by
 obtain⟨od,J,hl⟩:=I.look;exact PySem.W.get_value X J (JJ hg).1 (PySem.W.findObj_own hh ha rfl (by rw[hl,hv])) hv' h
theorem AU(X:K.In s.heap)(I:wd s.heap x dx C mA)(hg:plainGet K C name=true)
  (hf:findIn K (.ref C) name=some (some (.ref f))) (ht:isFn K (.ref f)=true) (hv:mA name=none) (h:Q (.ref f,[.ref x]) s):
  wpAny (model prog w) A (getMethod (.ref x) name pl) Q E s:=by
 obtain⟨od,J,hl⟩:=I.look;exact PySem.W.method_fn X J (JJ hg).1 (JJ hg).2 hf (Ja.mp ht) (by show(lookIn name od).map (·.isSome)=some false;rw[hl,hv];rfl) h
theorem BF{ns:List Str}(X:K.In s.heap)(I:wd s.heap x dx C mA)
  (hs:findIn K (.ref C) "__setattr__"=some (some (.builtin "object.__setattr__"))) (hp:plainOver K C=true) (ht:takerIn K C name=some none) (hh:hasDictIn K C=true)
  (hw:PySem.Within mA ns) (hsz:ns.length<=sizeLine)
  (h:∀h',wd h' x dx C (λy=>if y=name then some v else mA y)->Heap.SameBut dx s.heap h'->Q () {s with heap:=h',toks:=s.toks+2}):
  wpAny (model prog w) A (setAttr (.ref x) name v) Q E s:=by
 obtain⟨od,J,hl⟩:=I.look;refine PySem.W.set_plain X J hs (PySem.W.osa_open (s:={s with toks:=s.toks+1}) (r:=none) X J hp ht λb=> ?_);obtain⟨cd,hc,hd'⟩:=PySem.W.any_some hh;have hx:s.heap.get? x=some ⟨.ref C,some dx, .plain, #[]⟩:=I.obj;refine FC (F2 (FC (FC (wpAny_loadPart hx (FC (PySem.W.Looks.here (s:={s with toks:=s.toks+1}) (PySem.W.looks_clsIn X hc) ?_))))));rw[hd'];refine F2 (a:=some dx) (FC (F2 (FC ?_)));refine wpAny_nsSet1 (s:={s with toks:=s.toks+1}) I.ns λh' hn2 hs2=> ?_;obtain⟨oD,esD,epD,hoD,hdD,hcD⟩:=hn2.count (PySem.Within.cons name v hw);refine FC (wpAny_lookBehind hoD (by rw[hdD];exact pastItsLine_dict (Fc hcD (by rw[FK];lia))) ?_);exact F2 (h _ ⟨(hs2.2 _ (Jn I.ne)).trans I.obj,hn2,I.ne⟩ hs2)
theorem AF(X:K.In s.heap)(hm:makesIn K C=true)
  (hi:findIn K (.ref C) "__init__"=some (some (.ref f))) (hf:PySem.W.typeIn K (.ref f)=some (.type "function"))
  (h:codeAny (model prog w) (A.under (.builtin "type.__call__" ⟨.ref C::vs,kw⟩)) (.call (.ref f) ⟨.ref (s.heap.objs.size+1)::vs,kw⟩) (PySem.W.InitBack (s.heap.objs.size+1) R)
   {s with heap:=(s.heap.push emptyDict).push (instObj C s.heap.objs.size)}):
  codeAny (model prog w) A (.call (.ref C) ⟨vs,kw⟩) R s:=by
 obtain⟨hh,g,d,t,os⟩:=s;exact PySem.W.make_core (PySem.W.makes_of X hm) (PySem.W.looks_findIn X hi) (λself=>PySem.W.bind_fn X self hf) (.inl rfl) h
end
def bq(f:Str)(v:V):List (Str×V)->List (Str×V)
 | []=>[(f,v)]
 |(g,x)::r=>if g=f then(g,v)::r else(g,x)::bq f v r
theorem fS(f g:Str)(v:V):∀fs:List (Str×V),(bq f v fs).lookup g=if g=f then some v else fs.lookup g
 | []=>by
  show List.lookup g [(f,v)]=_;by_cases h:g=f
  .have hb:(g==f)=true:=Ja.mpr h;simp only[List.lookup,hb,E9 h]
  .have hb:(g==f)=false:=Ik.mpr h;simp only[List.lookup,hb,Fg h]
 |(k,x)::r=>by
  have ih:=fS f g v r;rw[show bq f v ((k,x)::r)=(if k=f then(k,v)::r else(k,x)::bq f v r)from rfl];by_cases hk:k=f
  .rw[E9 hk];by_cases h:g=k
   .have hb:(g==k)=true:=Ja.mpr h;simp only[List.lookup,hb,E9 (h.trans hk)]
   .have hb:(g==k)=false:=Ik.mpr h;simp only[List.lookup,hb,Fg (λe:g=f=>h (e.trans hk.symm))]
  .rw[Fg hk];by_cases h:g=k
   .have hb:(g==k)=true:=Ja.mpr h;simp only[List.lookup,hb,Fg (λe:g=f=>hk (h.symm.trans e))]
   .have hb:(g==k)=false:=Ik.mpr h;simp only[List.lookup,hb];exact ih
theorem kg(f:Str)(v:V):∀fs:List (Str×V),f∈(bq f v fs).map (·.1)/\∀g,g∈fs.map (·.1)->g∈(bq f v fs).map (·.1)
 | []=>⟨by simp[bq],λg h=>by simp at h⟩
 |(k,x)::r=>by
  obtain⟨i1,i2⟩:=kg f v r;rw[show bq f v ((k,x)::r)=(if k=f then(k,v)::r else(k,x)::bq f v r)from rfl];by_cases hk:k=f
  .rw[E9 hk];subst hk;exact⟨by simp,λg h=>by simpa using h⟩
  .rw[Fg hk];refine⟨?_,λg h=> ?_⟩
   .rw[FT];exact Fe _ i1
   .rw[FT]at h⊢;rcases Fh.mp h with e|e
    .exact Fh.mpr (.inl e)
    .exact Fe _ (i2 g e)
theorem br(f:Str)(v:V):∀fs:List (Str×V),(bq f v fs).length<=fs.length+1
 | []=>by simp[bq]
 |(k,x)::r=>by
  have ih:=br f v r;rw[show bq f v ((k,x)::r)=(if k=f then(k,v)::r else(k,x)::bq f v r)from rfl];by_cases hk:k=f
  .rw[E9 hk,FK,FK];lia
  .rw[Fg hk,FK,FK];lia
theorem gO.some_of(r:gO (some v) o):∃u,o=some u/\bH v u:=by
 cases o with
 |none=>exact(show False from r).elim
 |some u=>exact⟨u,rfl,r⟩
theorem gO.none_of(r:gO none o):o=none:=by
 cases o with
 |none=>rfl
 |some u=>exact(show False from r).elim
theorem yu(r:bH v u):PySem.W.handedIn u=true:=by
 cases v with
 |non=>cases (show u=Value.none from r);rfl
 |bl b=>cases (show u=Value.bool b from r);rfl
 |int i=>obtain⟨t,e⟩:=(show∃t,u=Value.int i t from r);cases e;rfl
 |str x=>obtain⟨t,e⟩:=(show∃t,u=Value.str x t from r);cases e;rfl
 |byt b=>obtain⟨t,e⟩:=(show∃t,u=Value.bytes b t from r);cases e;rfl
 |flt b=>obtain⟨t,e⟩:=(show∃t,u=Value.float b t from r);cases e;rfl
 |ref a=>cases (show u=Value.ref a from r);rfl
 |ty n=>cases (show u=Value.type n from r);rfl
section
variable{P:Program}{w:World}{H H':Hp}{h h':Heap}{a C dx:Addr}{fs fs':List (Str×V)}
theorem ml(hok:HOk P w H h)(e:H a=some (.ins C dx fs)):∃mA,wd h a dx C mA/\(∀f,gO (fs.lookup f) (mA f))/\PySem.Within mA (fs.map (·.1))/\fs.length<=1000/\H dx=some (.own a):=by obtain⟨d,z,ne,ob,mA,n,r,q⟩:=(show b6 P w H h a (.ins C dx fs)from hok a _ e);exact⟨mA,⟨ob,n,ne⟩,r,q,z,d⟩
end
structure Cls(K:PySem.W.Frag)(C:Addr):Prop where
 pg:plainGet K C Str.empty=true
 hd:hasDictIn K C=true
 po:plainOver K C=true
 sa:findIn K (.ref C) "__setattr__"=some (some (.builtin "object.__setattr__"))
theorem Cls.get{K:PySem.W.Frag}{C:Addr}(c:Cls K C)(f:Str):plainGet K C f=true:=c.pg
def bC(K:PySem.W.Frag)(C:Addr)(f:Str):Prop:=findIn K (.ref C) f=some none
theorem bC.taker{K:PySem.W.Frag}{C:Addr}{f:Str}(n:bC K C f):takerIn K C f=some none:=by unfold takerIn;rw[show findIn K (.ref C) f=some none from n];rfl
structure Meth(K:PySem.W.Frag)(C:Addr)(m:Str)(f:Addr):Prop where
 at_:findIn K (.ref C) m=some (some (.ref f))
 fn:isFn K (.ref f)=true
 kp:keepIn K (.ref f)=true
section
variable{X:Cx}{pins:List (Addr×Obj)}{σ:St}{H:Hp}{s:Shared}{a C dx:Addr}{fs:List (Str×V)}{f:Str}{v:V}{A:Around}{E:Value->Shared->Prop}
theorem vI(I:Inv X pins σ H s)(e:H a=some (.ins C dx fs))(c:Cls X.K C)(n:bC X.K C f)(l:fs.lookup f=some v)
  (h:∀u s',Inv X pins σ H s'->bH v u->Q u s'):wpAny (model X.prog X.w) A (getAttr (.ref a) f b) Q E s:=by
 obtain⟨mA,O,r,_,_,_⟩:=ml I.hok e;obtain⟨u,hu,ru⟩:=gO.some_of (v:=v) (o:=mA f) (by rw[<-l];exact r f);exact Ci I.kIn O (c.get f) c.hd n hu (yu ru) (h u _ (I.tok _) ru)
theorem ny(I:Inv X pins σ H s)(e:H a=some (.ins C dx fs))(c:Cls X.K C)(k:Meth X.K C m g)(l:fs.lookup m=none)
  (h:Q (.ref g,[.ref a]) s):wpAny (model X.prog X.w) A (getMethod (.ref a) m pl) Q E s:=by
 obtain⟨mA,O,r,_,_,_⟩:=ml I.hok e;have hn:mA m=none:=gO.none_of (by rw[<-l];exact r m);exact AU I.kIn O (c.get m) k.at_ k.fn hn h
theorem uU(I:Inv X pins σ H s)(e:H a=some (.ins C dx fs))(c:Cls X.K C)(n:bC X.K C f)(hl:fs.length<1000)(ry:bH y u)
  (h:∀s',Inv X pins σ (upd H a (.ins C dx (bq f y fs))) s'->Q () s'):wpAny (model X.prog X.w) A (setAttr (.ref a) f u) Q E s:=by
 obtain⟨mA,O,r,wi,_,ho⟩:=ml I.hok e;have hz:(fs.map (·.1)).length<=sizeLine:=by rw[E3,sizeLine_eq];lia
 refine BF I.kIn O c.sa c.po n.taker c.hd wi hz λh' O' sb=>h _ ?_;have hd:∃o,h'.get? dx=some o:=let⟨o,_,_,e',_⟩:=O'.ns;⟨o,e'⟩;refine I.write (x:=a) (e:=dx) (by rw[e];exact FA) (.inr ho) (λb q hb z=>(sb.2 b hb).trans z) hd ?_;refine⟨by rw[aC O.ne];exact ho,?_,O.ne,O'.obj,_,O'.ns,λg=> ?_,λg hg=> ?_⟩
 .have:=br f y fs;lia
 .show gO ((bq f y fs).lookup g) (if g=f then some u else mA g);rw[fS];by_cases q:g=f
  .rw[E9 q,E9 q];exact ry
  .rw[Fg q,Fg q];exact r g
 .by_cases q:g=f
  .rw[q];exact(kg f y fs).1
  .refine(kg f y fs).2 g (wi g λz=>hg ?_);show(if g=f then some u else mA g)=none;rw[Fg q];exact z
theorem Inv.made(I:Inv X pins σ H s):Inv X pins σ (upd (upd H s.heap.objs.size (.own (s.heap.objs.size+1))) (s.heap.objs.size+1) (.ins C s.heap.objs.size []))
  {s with heap:=(s.heap.push emptyDict).push (instObj C s.heap.objs.size)}:=by
 have e1:(s.heap.push emptyDict).get? s.heap.objs.size=some emptyDict:=FZ s.heap rfl;have e2:((s.heap.push emptyDict).push (instObj C s.heap.objs.size)).get? (s.heap.objs.size+1)=some (instObj C s.heap.objs.size):=by
  have:=FZ (s.heap.push emptyDict) (o:=instObj C s.heap.objs.size) rfl
  rwa [HZ]at this
 have e3:(s.heap.push emptyDict).Ns s.heap.objs.size (λ_=>none):=⟨emptyDict, #[],_,e1,rfl,(λe he=>absurd he (by simp)),λ_=>rfl⟩;have I1:=I.laid (a:=s.heap.objs.size) (o:= .own (s.heap.objs.size+1)) (h':=s.heap.push emptyDict) (t':=s.toks) (λb u q=>FF _ q) (Fj _) ⟨_,e1⟩;refine I1.laid (a:=s.heap.objs.size+1) (o:= .ins C s.heap.objs.size []) (t':=s.toks) (λb u q=>FF _ q) (Nat.le_of_eq (HZ _ _)) ?_;have ne:s.heap.objs.size≠s.heap.objs.size+1:=FN (Gk _);refine⟨by rw[aC ne,ah],FV _,ne,e2,λ_=>none,(Heap.Ns1.of_empty e3).at λo q=>FF _ q,λ_=>FA,λy hy=>absurd rfl hy⟩
theorem Cv(hb:attributeBase e f env (eval e env)=eval e env)
  (h:wpAny (model prog w) A (eval e env) (λo s₁=>wpAny (model prog w) A (getAttr o f true) Q E s₁) E s):wpAny (model prog w) A (eval (.Attribute e f pos) env) Q E s:=
 Attribute_any_ h (by rw[arm_eval_Attribute,hb])
end
inductive RdF(K:PySem.W.Frag)(f:Str)(Q:VK)(x:V)(H:Hp):Prop
 |mk (a C dx:Addr) (fs:List (Str×V)) (v:V) (e1:x= .ref a) (e2:H a=some (.ins C dx fs)) (c:Cls K C) (n:bC K C f) (l:fs.lookup f=some v) (q:Q v H):RdF K f Q x H
def D3(K:PySem.W.Frag)(ta:TE)(f:Str):TE:=λσ H Q=>ta σ H (RdF K f Q)
def Eb(K:PySem.W.Frag)(ta tv:TE)(f:Str):TS:=λD σ H=>tv σ H λy H1=>ta σ H1 λx H2=>∃a C dx fs,x= .ref a/\H2 a=some (.ins C dx fs)/\Cls K C/\bC K C f/\fs.length<1000/\
 D.nx σ (upd H2 a (.ins C dx (bq f y fs)))
section
variable{X:Cx}{o e value:Expr}{f:Str}{pos pos' tpos:Pos}{ta tv:TE}
theorem Dt(he:PE X e ta)(hb:attributeBase e f X.env (eval e X.env)=eval e X.env):PE X (.Attribute e f pos) (D3 X.K ta f):=by intro pins s σ H Q I h;refine Cv hb (thn (he pins s σ H _ I h) λu s1 hq_=> ?_);obtain⟨x,H1,I1,rx,a,C,dx,fs,v,ex,ea,c,n,l,q⟩:=hq_;subst ex;obtain rfl:u=Value.ref a:=rx;exact vI I1 ea c n l λu' s2 I2 ru=>⟨v,H1,I2,ru,q⟩
theorem Dj(ha:PE X o ta)(hv:PE X value tv)(hs:swapsWith value (some (.Attribute o f pos')) pos.line X.env=pure false):PS X (.Assign [.Attribute o f pos'] value pos) (Eb X.K ta tv f):=by intro pins s σ H D I h;refine plainObj_wpAny_Assign_Attribute (thn (hv pins s σ H _ I h) λu s1 ⟨y,H1,I1,ry,q⟩=>thn (ha pins s1 σ H1 _ I1 q) λov s2 hq_=> ?_) hs;obtain⟨x,H2,I2,rx,a,C,dx,fs,ex,ea,c,n,l,q2⟩:=hq_;subst ex;obtain rfl:ov=Value.ref a:=rx;exact uU I2 ea c n l ry λs3 I3=>⟨σ,_,I3,q2⟩
end
section
variable{X:Cx}{pins:List (Addr×Obj)}{σ:St}{H:Hp}{s:Shared}{A:Around}{E:Value->Shared->Prop}{Q:Value->Shared->Prop}{c:Value}{b:Bool}
inductive jM(K:PySem.W.Frag)(H:Hp):V->Value->Prop where
 |non:jM K H .non (.type "NoneType")
 |bl (x:Bool):jM K H (.bl x) (.type "bool")
 |int (i:Int):jM K H (.int i) (.type "int")
 |str (x:Str):jM K H (.str x) (.type "str")
 |flt (x:UInt64):jM K H (.flt x) (.type "float")
 |lst {a:Addr} {xs:List V} (e:H a=some (.lst xs)):jM K H (.ref a) (.type "list")
 |frz {a:Addr} {o:Obj} {xs:List V} (e:H a=some (.frz o (.lst xs))):jM K H (.ref a) (.type "list")
 |tup {a:Addr} {xs:List V} (e:H a=some (.tup xs)):jM K H (.ref a) (.type "tuple")
 |dK {a:Addr} {kvs:List (Key×V)} (e:H a=some (.dK kvs)):jM K H (.ref a) (.type "dict")
 |dT {a:Addr} {kvs:List (List Key×V)} (e:H a=some (.dT kvs)):jM K H (.ref a) (.type "dict")
 |ins {a C dx:Addr} {fs:List (Str×V)} (e:H a=some (.ins C dx fs)) (cl:Cls K C) (ha:findIn K (.ref C) "__class__"=some (some (.builtin "object.__class__")))
   (hn:specialIn K (.builtin "object.__class__") "__get__"=some (some (.builtin "getset_descriptor.__get__"))) (htk:takesIn K (.builtin "object.__class__")=some true)
   (hm:mroIn K C (.type "object")=some true):jM K H (.ref a) (.ref C)
theorem yq(I:Inv X pins σ H s)(rx:bH x u)(ty:jM X.K H x t)(e:kitOne X.K t c=some b)(h:∀tk,Q (.bool b) {s with toks:=tk}):
  wpAny (model X.prog X.w) A (call (.builtin "isinstance") [u,c]) Q E s:=by
 cases ty with
 |non=>cases (show u=Value.none from rx);exact GW PySem.W.kitx_none I.kIn FA e (λz=>nomatch z) h
 |bl y=>cases (show u=Value.bool y from rx);exact GW PySem.W.kitx_bool I.kIn FA e (λz=>nomatch z) h
 |int i=>obtain⟨t,q⟩:=(show∃t,u=Value.int i t from rx);cases q;exact GW PySem.W.kitx_int I.kIn FA e (λz=>nomatch z) h
 |str y=>obtain⟨t,q⟩:=(show∃t,u=Value.str y t from rx);cases q;exact GW PySem.W.kitx_str I.kIn FA e (λz=>nomatch z) h
 |flt y=>obtain⟨t,q⟩:=(show∃t,u=Value.float y t from rx);cases q;exact GW PySem.W.kitx_float I.kIn FA e (λz=>nomatch z) h
 | @lst a xs ea=>
  cases (show u=Value.ref a from rx);obtain⟨_,_,n,_,h1⟩:=(show b6 X.prog X.w H s.heap a (.lst xs)from I.hok a _ ea);exact GW PySem.W.kitx_list I.kIn ⟨_,h1,rfl⟩ e (λz=>nomatch z) h
 | @frz a ob xs ea=>
  cases (show u=Value.ref a from rx);obtain⟨_,_,_,n,_,h1⟩:=(show b6 X.prog X.w H s.heap a (.frz ob (.lst xs))from I.hok a _ ea);exact GW PySem.W.kitx_list I.kIn ⟨_,h1,rfl⟩ e (λz=>nomatch z) h
 | @tup a xs ea=>
  cases (show u=Value.ref a from rx);obtain⟨_,_,_,p⟩:=(show b6 X.prog X.w H s.heap a (.tup xs)from I.hok a _ ea);obtain⟨o,h1,h2,_⟩:=p;exact GW PySem.W.kitx_tuple I.kIn ⟨o,h1,h2⟩ e (λz=>nomatch z) h
 | @dK a kvs ea=>
  cases (show u=Value.ref a from rx);obtain⟨_,_,vs,_,p⟩:=(show b6 X.prog X.w H s.heap a (.dK kvs)from I.hok a _ ea);obtain⟨o,es,ep,h1,h2,_⟩:=p;exact GW PySem.W.kitx_dict I.kIn ⟨o,h1,h2.1⟩ e (λz=>nomatch z) h
 | @dT a kvs ea=>
  cases (show u=Value.ref a from rx);obtain⟨_,_,xs,_,o,es,ep,h1,h2,_⟩:=(show b6 X.prog X.w H s.heap a (.dT kvs)from I.hok a _ ea);exact GW PySem.W.kitx_dict I.kIn ⟨o,h1,h2.1⟩ e (λz=>nomatch z) h
 | @ins a C dx fs ea cl ha hn htk hm=>
  cases (show u=Value.ref a from rx);obtain⟨mA,O,_⟩:=ml I.hok ea;obtain⟨od,J,_⟩:=O.look;exact GW (PySem.W.kitx_own (cl.get _) cl.hd ha hn htk hm) I.kIn J e (λz=>nomatch z) h
end
end L2
namespace L2
open PySem PySem.Spec PyProof.Rows
structure Room(k:Nat)(A:Around):Prop where
 hd:A.handled=none
 dp:A.depth+3*k+5<recursionLimit
 un:A.units+16*k+200<cLine
theorem Room.mono(r:Room k A)(h:j<=k):Room j A:=⟨r.hd,by have:=r.dp;lia,by have:=r.un;lia⟩
theorem Room.deeper{A:Around}(r:Room (k+1) A)(env:Env):Room k (A.deeper env):=
 ⟨r.hd,by have:=r.dp;show A.depth+1+3*k+5<_;lia,by have:=r.un;show A.units+3+16*k+200<_;lia⟩
theorem vC{A:Around}:(A.under (.builtin "type.__call__" ⟨.ref C::us,kw⟩)).depth=A.depth+1:=by
 first|rfl|simp[Around.under,Code.weight,Code.isCreation,Code.isGuard,Code.isCaller,Code.frames,Code.isFrame,guardIds]
theorem vB{A:Around}:(A.under (.builtin "type.__call__" ⟨.ref C::us,kw⟩)).units=A.units+1:=by
 first|rfl|simp[Around.under,Code.cUnits,Code.frames,Code.isFrame]
theorem Room.make{A:Around}(r:Room (k+1) A)(C:Addr)(us:List Value)(kw:List (Str×Value)):Room k (A.under (.builtin "type.__call__" ⟨.ref C::us,kw⟩)):=
 ⟨r.hd,by have:=r.dp;rw[vC];lia,by have:=r.un;rw[vB];lia⟩
theorem Room.depth{A:Around}(r:Room k A):A.depth<recursionLimit:=by have:=r.dp;lia
theorem Room.units{A:Around}(r:Room k A):A.units+64<cLine:=by have:=r.un;lia
def DZ:TA:=λ_ H Q=>Q [] H
def D6(ta:TE)(tr:TA):TA:=λσ H Q=>ta σ H λx H1=>tr σ H1 λxs H2=>Q (x::xs) H2
section
variable{X:Cx}{e:Expr}{es:List Expr}{te:TE}{t:TA}{pos:Pos}
theorem ab:PA X [] DZ:=λ_ _ _ _ H Q I h=>Calls.spliced_nil ⟨[],H,I, .nil,h⟩
theorem aa(ha:PE X e te)(hr:PA X es t)(hs:starEach (e::es) X.env=(false,eval e X.env)::starEach es X.env:=by rfl):PA X (e::es) (D6 te t):=by intro pos pins s σ H Q I h;rw[hs];show wpAny _ _ (spliced ((false,eval e X.env)::backTo pos (starEach es X.env))) _ _ s;refine Calls.spliced_cons (thn (ha pins s σ H _ I h) λu s1 ⟨x,H1,I1,r1,q1⟩=> ?_);exact thn (hr pos pins s1 σ H1 _ I1 q1) λus s2 ⟨xs,H2,I2,r2,q2⟩=>⟨x::xs,H2,I2, .cons r1 r2,q2⟩
def EF(t:TA):TE:=λσ H Q=>t σ H λxs H1=>xs.length<=sizeLine/\∀p,H1 p=none->Q (.ref p) (upd H1 p (.tup xs))
def D1(t:TA):TE:=λσ H Q=>t σ H λxs H1=>xs.length<=sizeLine/\∀p,H1 p=none->Q (.ref p) (upd H1 p (.lst xs))
theorem cA{x1}(h:PA X es t):PE X (.Tuple es x1 pos) (EF t):=by intro pins s σ H Q I hq;refine wpAny_Tuple_spliced (thn (h pos pins s σ H _ I hq) λus s1 ⟨xs,H1,I1,r,z,q⟩=>⟨by rw[<-r.length];exact z,?_⟩);have hf:H1 s1.heap.objs.size=none:=I1.hok.fresh (Fj _);refine⟨.ref s1.heap.objs.size,upd H1 s1.heap.objs.size (.tup xs),I1.laid (t':=s1.toks) (λb u e=>FF _ e) (Fj _) ?_,rfl,q _ hf⟩;exact⟨z,us,r,⟨_,FZ _ rfl,rfl,_,rfl⟩⟩
theorem e6(h:PA X es t):PE X (.List es pos) (D1 t):=by intro pins s σ H Q I hq;refine wpAny_List_spliced (thn (h pos pins s σ H _ I hq) λus s1 ⟨xs,H1,I1,r,z,q⟩=>⟨by rw[<-r.length];exact z,?_⟩);have hf:H1 s1.heap.objs.size=none:=I1.hok.fresh (Fj _);refine⟨.ref s1.heap.objs.size,upd H1 s1.heap.objs.size (.lst xs),I1.laid (t':=s1.toks) (λb u e=>FF _ e) (Fj _) ?_,rfl,q _ hf⟩;exact⟨z,us,0,r,FZ _ rfl⟩
end
abbrev Sp:=List V->Hp->VK->XK->Prop
abbrev CXT:=List Env->Hp->Shared->XK->Value->Shared->Prop
structure wg(P:Program)(w:World)(K:PySem.W.Frag)(mg:Str->Option Value)(base:Heap)(A:Around)(outer:List Env)(s:Shared)(H:Hp):Prop where
 frames:A.frames=some outer
 mod:Mod K mg base
 bs:∀b o,base.get? b=some o->s.heap.get? b=some o/\H b=none
 bsz:base.objs.size<=s.heap.objs.size
 funs:s.heap.FunFrames base outer
 frf:∀b∈frs outer,H b=none
 hok:HOk P w H s.heap
 bare:AllBare s.gens
def CE(outer:List Env)(P:Program)(w:World)(H:Hp)(s:Shared)(Q:VK)(u:Value)(s':Shared):Prop:=
 ∃v H',s'.os=s.os/\AllBare s'.gens/\Un (frs outer) [] H H' s.heap s'.heap/\HOk P w H' s'.heap/\bH v u/\Q v H'
def CR(CX:CXT)(outer:List Env)(P:Program)(w:World)(H:Hp)(s:Shared)(Q:VK)(E:XK)(r:Result)(s':Shared):Prop:=
 match r with
 | .ok (.ret u)=>CE outer P w H s Q u s'
 | .ok _=>False
 | .error e=>CX outer H s E e s'
structure gJ(P:Program)(w:World)(K:PySem.W.Frag)(mg:Str->Option Value)(base:Heap)(CX:CXT)(k:Nat)(f:Addr)(fd:FuncData)(ps:List Str)(sp:Sp):Prop where
 len:∀vs H Q E,sp vs H Q E->vs.length=ps.length
 run:∀ (A:Around) (outer:List Env) (s:Shared) (H:Hp) (args:Args) (us:List Value) (vs:List V) (Q:VK) (E:XK),Room k A->wg P w K mg base A outer s H->BindsTo s fd args (ps.zip us)->Vals vs us->sp vs H Q E->
  codeAny (model P w) A (.call (.ref f) args) (CR CX outer P w H s Q E) s
theorem gJ.mono{P:Program}{w:World}{K:PySem.W.Frag}{mg:Str->Option Value}{base:Heap}{CX:CXT}{j k:Nat}{f:Addr}{fd:FuncData}{ps:List Str}{sp:Sp}(F:gJ P w K mg base CX j f fd ps sp)(h:j<=k):
  gJ P w K mg base CX k f fd ps sp:=⟨F.len,λA outer s H args us vs Q E hr=>F.run A outer s H args us vs Q E (hr.mono h)⟩
theorem gJ.imp{P:Program}{w:World}{K:PySem.W.Frag}{mg:Str->Option Value}{base:Heap}{CX:CXT}{k:Nat}{f:Addr}{fd:FuncData}{ps:List Str}{sp sp':Sp}(F:gJ P w K mg base CX k f fd ps sp)
  (h:∀vs H Q E,sp' vs H Q E->sp vs H Q E):gJ P w K mg base CX k f fd ps sp':=
 ⟨λvs H Q E q=>F.len vs H Q E (h _ _ _ _ q),λA outer s H args us vs Q E hr he hb hv hs=>F.run A outer s H args us vs Q E hr he hb hv (h _ _ _ _ hs)⟩
theorem wg.make{P:Program}{w:World}{K:PySem.W.Frag}{mg:Str->Option Value}{base:Heap}{A:Around}{outer:List Env}{s:Shared}{H:Hp}(e:wg P w K mg base A outer s H)(C:Addr)(us:List Value)(kw:List (Str×Value)):
  wg P w K mg base (A.under (.builtin "type.__call__" ⟨.ref C::us,kw⟩)) outer s H:=⟨by first|exact e.frames|(simpa [Around.under,Code.envs,Code.isFrame,pushEnvs]using e.frames),e.mod,e.bs,e.bsz,e.funs,e.frf,e.hok,e.bare⟩
section
variable{X:Cx}{pins:List (Addr×Obj)}{σ:St}{H:Hp}{s s':Shared}
theorem Inv.env0(I:Inv X pins σ H s):wg X.prog X.w X.K X.mg X.base X.A X.stack s H:=
 ⟨I.ok.frames,I.ok.mod,I.bs,Fc I.ok.bsz I.sz,I.stack,I.stkFree,I.hok,I.bare⟩
theorem Inv.after(I:Inv X pins σ H s)(h:CE X.stack X.prog X.w H s Q u s'):EP X pins σ Q u s':=by obtain⟨v,H',os,bare,un,hok,r,q⟩:=h;obtain⟨hh,g,d,t,os'⟩:=s';obtain rfl:os'=s.os:=os;exact⟨v,H',I.call (h':=hh) (g':=g) (d':=d) (t':=t) (ch:=[]) un hok bare (λb z=>absurd z (by simp)),r,q⟩
end
def CF(sp:Sp)(dvs:List V)(E:XK)(t:TA):TE:=λσ H Q=>t σ H λvs H1=>sp (vs++dvs) H1 Q E
def CC(C:Addr)(sp:Sp)(dvs:List V)(E:XK)(t:TA):TE:=λσ H Q=>t σ H λvs H1=>∀x dx,H1 x=none->H1 dx=none->dx≠x->
 sp (.ref x::(vs++dvs)) (upd (upd H1 dx (.own x)) x (.ins C dx [])) (λv H2=>v= .non/\Q (.ref x) H2) E
def ip(K:PySem.W.Frag)(fd:FuncData)(ps:List Str)(ds:List Value):Prop:=
 ∀ (s:Shared) (us:List Value),K.In s.heap->(us++ds).length=ps.length->BindsTo s fd ⟨us,[]⟩ (ps.zip (us++ds))
theorem ip.all{K:PySem.W.Frag}{fd:FuncData}{ps:List Str}(h:∀us:List Value,us.length=ps.length->bindArgs fd ⟨us,[]⟩=pure (ps.zip us)):ip K fd ps []:=λs us _ hl=>by rw[GX]at hl⊢;exact .of_eq (h us hl)
def nO(CX:CXT)(X:Cx)(E:XK):Prop:=∀ (pins:List (Addr×Obj)) (σ:St) (H:Hp) (s:Shared) (e:Value) (s':Shared),Inv X pins σ H s->CX X.stack H s E e s'->X.xe e s'
section
variable{X:Cx}{CX:CXT}{k:Nat}{f C:Addr}{fd:FuncData}{ps:List Str}{sp:Sp}{dvs:List V}{ds:List Value}{E:XK}{x m:Str}{p pos apos:Pos}{e o:Expr}{es:List Expr}{ta:TE}{t:TA}
theorem qI{pins:List (Addr×Obj)}{σ:St}{H:Hp}{s:Shared}{Q:VK}{us:List Value}{vs:List V}(F:gJ X.prog X.w X.K X.mg X.base CX k f fd ps sp)(hr:Room k X.A)(hb:ip X.K fd ps ds)(hd:Vals dvs ds)(hx:nO CX X E)
  (I:Inv X pins σ H s) (r:Vals vs us) (h:sp (vs++dvs) H Q E):wpAny (model X.prog X.w) X.A (call (.ref f) us) (EP X pins σ Q) X.xe s:=by
 have r2:Vals (vs++dvs) (us++ds):=r.append hd;have hl:(us++ds).length=ps.length:=by rw[<-r2.length];exact F.len _ _ _ _ h
 refine wpAny_call (J1 (F.run X.A X.stack s H ⟨us,[]⟩ (us++ds) (vs++dvs) Q E hr I.env0 (hb s us I.kIn hl) r2 h) λr s' hq=> ?_);cases r with
 |error e=>exact hx pins σ H s e s' I hq
 |ok fl=>
  cases fl with
  |ret u=>exact I.after hq
  |next=>exact False.elim hq
  |brk=>exact False.elim hq
  |cont=>exact False.elim hq
theorem BW(F:gJ X.prog X.w X.K X.mg X.base CX k f fd ps sp)(hr:Room k X.A)(hg:Gl X x)(hm:X.mg x=some (.ref f))(hk:keepIn X.K (.ref f)=true)(hb:ip X.K fd ps ds)(hd:Vals dvs ds)(hx:nO CX X E)
  (ha:PA X (e::es) t) (hdb:(x==("__debug__":Str))=false:=by decide) (he:starEach (e::es) X.env=(false,eval e X.env)::starEach es X.env:=by rfl) (hpl:(backTo pos (starEach es X.env)).any (·.1)=false:=by rfl):
  PE X (.Call (.Name x p) (e::es) [] pos) (CF sp dvs E t):=by
 intro pins s σ H Q I h;refine Ip (rj I hg hm ?_ hdb);refine IP (h₀:=X.base) I.ok.mod.kin hk (thn (ha pos pins s σ H _ I h) λus s1 ⟨vs,H1,I1,r,q⟩=>⟨I1.kIn,?_⟩) he hpl;exact qI F hr hb hd hx I1 r q
structure Mk(K:PySem.W.Frag)(C f:Addr):Prop where
 makes:makesIn K C=true
 init:findIn K (.ref C) "__init__"=some (some (.ref f))
 fn:isFn K (.ref f)=true
 kp:keepIn K (.ref C)=true
theorem zN{pins:List (Addr×Obj)}{σ:St}{H:Hp}{s:Shared}{Q:VK}{us:List Value}{vs:List V}(M:Mk X.K C f)(F:gJ X.prog X.w X.K X.mg X.base CX k f fd ps sp)(hr:Room (k+1) X.A)(hb:ip X.K fd ps ds)(hd:Vals dvs ds)
  (hx:nO CX X E) (I:Inv X pins σ H s) (r:Vals vs us)
  (h:∀x dx,H x=none->H dx=none->dx≠x->sp (.ref x::(vs++dvs)) (upd (upd H dx (.own x)) x (.ins C dx [])) (λv H2=>v= .non/\Q (.ref x) H2) E):
  wpAny (model X.prog X.w) X.A (call (.ref C) us) (EP X pins σ Q) X.xe s:=by
 have hq:=h (s.heap.objs.size+1) s.heap.objs.size (I.hok.fresh (Kj _)) (I.hok.fresh (Fj _)) (FN (Gk _));have I2:=Inv.made (C:=C) I;have r2:Vals (V.ref (s.heap.objs.size+1)::(vs++dvs)) (Value.ref (s.heap.objs.size+1)::(us++ds)):= .cons rfl (r.append hd);have hl:(Value.ref (s.heap.objs.size+1)::us++ds).length=ps.length:=by have e:=r2.length;rw[F.len _ _ _ _ hq]at e;exact e.symm
 refine wpAny_call (AF (f:=f) I.kIn M.makes M.init (Ja.mp M.fn) (J1 (F.run _ X.stack _ _ ⟨Value.ref (s.heap.objs.size+1)::us,[]⟩ (Value.ref (s.heap.objs.size+1)::(us++ds)) _ _ E (hr.make C us [])
  (I2.env0.make C us []) (hb _ (Value.ref (s.heap.objs.size+1)::us) I2.kIn hl) r2 hq) λr s' hq'=> ?_))
 cases r with
 |error e=>exact hx pins σ _ _ e s' I2 hq'
 |ok fl=>
  cases fl with
  |ret u=>
   obtain⟨v,H',I3,rv,ev,q3⟩:=I2.after hq';subst ev;exact⟨rv,⟨V.ref (s.heap.objs.size+1),H',I3,rfl,q3⟩⟩
  |next=>exact False.elim hq'
  |brk=>exact False.elim hq'
  |cont=>exact False.elim hq'
theorem BU(M:Mk X.K C f)(F:gJ X.prog X.w X.K X.mg X.base CX k f fd ps sp)(hr:Room (k+1) X.A)(hg:Gl X x)(hm:X.mg x=some (.ref C))(hb:ip X.K fd ps ds)(hd:Vals dvs ds)(hx:nO CX X E)
  (ha:PA X (e::es) t) (hdb:(x==("__debug__":Str))=false:=by decide) (he:starEach (e::es) X.env=(false,eval e X.env)::starEach es X.env:=by rfl) (hpl:(backTo pos (starEach es X.env)).any (·.1)=false:=by rfl):
  PE X (.Call (.Name x p) (e::es) [] pos) (CC C sp dvs E t):=by
 intro pins s σ H Q I h;refine Ip (rj I hg hm ?_ hdb);refine IP (h₀:=X.base) I.ok.mod.kin M.kp (thn (ha pos pins s σ H _ I h) λus s1 ⟨vs,H1,I1,r,q⟩=>⟨I1.kIn,?_⟩) he hpl;exact zN M F hr hb hd hx I1 r q
end
section
variable{X:Cx}{CX:CXT}{k:Nat}{f C:Addr}{fd:FuncData}{ps ks:List Str}{sp:Sp}{E:XK}{x m:Str}{p pos apos kpos:Pos}{e o:Expr}{es:List Expr}{kws:List Keyword}{te ta:TE}{t tk:TA}{nm:Option Str}
variable{g:List Value->List Value->List Value}{gV:List V->List V->List V}
end
structure aE(N P:List Str)(sc:Scope):Prop where
 kind:sc.kind= .function
 co:sc.isCoroutine=false
 gen:sc.isGenerator=false
 nd:N.Nodup
 pre:N.take P.length=P
 par:∀x∈P,sc.names.lookup x=some .local\/sc.names.lookup x=some .cell
 nofree:∀y∈sc.names,y.2≠ .free
theorem pN{kindOf:Str->Option NameKind}{x:Str}:∀ {binds:List (Str×Value)} {m:Str->Option Value},(∀v,(x,v)∉binds)->bindL kindOf binds m x=m x
 | [],_,_=>rfl
 |(n,v)::r,m,h=>by
  unfold bindL;rw[pN λw hw=>h w (Fe _ hw)];split
  .have:x≠n:=by rintro rfl;exact h v Fq
   simp[this]
  .rfl
theorem pP{kindOf:Str->Option NameKind}{x:Str}:∀ {binds:List (Str×Value)} {m:Str->Option Value},(∀v,(x,v)∉binds)->bindC kindOf binds m x=m x
 | [],_,_=>rfl
 |(n,v)::r,m,h=>by
  unfold bindC;rw[pP λw hw=>h w (Fe _ hw)];split
  .rfl
  .have:x≠n:=by rintro rfl;exact h v Fq
   simp[this]
theorem pO{kindOf:Str->Option NameKind}{x:Str}{v:Value}:∀ {P:List Str} {vs:List Value} {i:Nat} {m:Str->Option Value},P.Nodup->P[i]?=some x->vs[i]?=some v->kindOf x=some .local->
  bindL kindOf (P.zip vs) m x=some v
 | [],_,_,_,_,h,_,_=>by simp at h
 |_::_,[],_,_,_,_,h,_=>by simp at h
 |p::P,w::vs,0,m,nd,h1,h2,hk=>by simp at h1 h2;subst h1;subst h2;show bindL kindOf ((p,w)::P.zip vs) m p=_;unfold bindL;rw[pN λv hv=>(Hv.mp nd).1 (Kf hv).1,E9 hk];simp
 |p::P,w::vs,i+1,m,nd,h1,h2,hk=>by show bindL kindOf ((p,w)::P.zip vs) m x=_;unfold bindL;exact pO (i:=i) (Hv.mp nd).2 (by simpa using h1) (by simpa using h2) hk
theorem pQ{kindOf:Str->Option NameKind}{x:Str}{v:Value}:∀ {P:List Str} {vs:List Value} {i:Nat} {m:Str->Option Value},P.Nodup->P[i]?=some x->vs[i]?=some v->kindOf x≠some .local->
  bindC kindOf (P.zip vs) m x=some v
 | [],_,_,_,_,h,_,_=>by simp at h
 |_::_,[],_,_,_,_,h,_=>by simp at h
 |p::P,w::vs,0,m,nd,h1,h2,hk=>by simp at h1 h2;subst h1;subst h2;show bindC kindOf ((p,w)::P.zip vs) m p=_;unfold bindC;rw[pP λv hv=>(Hv.mp nd).1 (Kf hv).1,Fg hk];simp
 |p::P,w::vs,i+1,m,nd,h1,h2,hk=>by show bindC kindOf ((p,w)::P.zip vs) m x=_;unfold bindC;exact pQ (i:=i) (Hv.mp nd).2 (by simpa using h1) (by simpa using h2) hk
def start(N:List Str)(vs:List V):St:=vs.map some++List.replicate (N.length-vs.length) none
def rq(CX:CXT)(P:Program)(w:World)(K:PySem.W.Frag)(mg:Str->Option Value)(base:Heap)(N:List Str)(qual:Str)(scope:Scope)(f:Addr)(cd:Value)(A:Around)(outer:List Env)(s:Shared)(H:Hp)(E:XK):Cx where
 prog:=P
 w:=w
 K:=K
 mg:=mg
 base:=base
 A:=A.deeper (envOfC qual scope s.heap.objs.size f cd)
 N:=N
 s₀:=s
 H₀:=H
 env:=envOfC qual scope s.heap.objs.size f cd
 outer:=outer
 stack:=envOfC qual scope s.heap.objs.size f cd::outer
 ex:=[]
 calm:=true
 fn:=λ_=>true
 pn:=[]
 xe:=λe s'=>wpAny (model P w) (A.deeper (envOfC qual scope s.heap.objs.size f cd)) (leaving (envOfC qual scope s.heap.objs.size f cd) e) (λ_ s''=>CX outer H s E e s'') (λe' s''=>CX outer H s E e' s'') s'
theorem uc{sc:Scope}(h:sc.names.lookup x=some .cell):∃c,(cellsFrom n sc.names []).lookup x=some c:=by have q:=PySem.W.cellsFrom_some sc.names n [] (.inl h);exact J2.mp q
theorem yr{CX:CXT}{P:Program}{w:World}{K:PySem.W.Frag}{mg:Str->Option Value}{base:Heap}{N ps:List Str}{qual:Str}{scope:Scope}{f:Addr}{cd:Value}{A:Around}{outer:List Env}{s s1:Shared}{H:Hp}{E:XK}{us:List Value}{vs:List V}
  (S:aE N ps scope) (hd:A.handled=none) (e0:wg P w K mg base A outer s H) (hl:vs.length=ps.length) (r:Vals vs us)
  (x:InCallC s s.heap.objs.size (bindL (envOfC qual scope s.heap.objs.size f cd).kindOf (ps.zip us) λ_=>none) (cellsFrom (s.heap.objs.size+1) scope.names []) (bindC (envOfC qual scope s.heap.objs.size f cd).kindOf (ps.zip us) λ_=>none) s1):
  Inv (rq CX P w K mg base N qual scope f cd A outer s H E) [] (start N vs) H s1:=by
 have hpl:ps.length<=N.length:=by have:=Fu List.length S.pre;rw[FP]at this;lia
 obtain⟨h1,tk,rfl,hk⟩:=x.done;have noA:∀b:Addr,b∉ (rq CX P w K mg base N qual scope f cd A outer s H E).ex:=λb z=>absurd (show b∈([]:List Addr)from z) (by simp);refine⟨⟨e0.mod,S.kind,rfl,rfl,Fj _,λy z c h1 h2=> ?_,λy hy=> ?_,λy c _ h=> ?_,λ_=>hd,Around.frames_deeper e0.frames, .inr ⟨rfl,rfl⟩,λb z=>absurd z (noA b),e0.bs,e0.bsz,λb _ _=>noA b,λb z=>absurd z (noA b),e0.funs,e0.frf⟩,
  rfl,e0.bare,Un.kept hk,⟨_,x.toInCall.ns,λi y v h1 h2 h3=> ?_⟩,λy c h=>⟨_,x.cell y c h⟩,e0.hok.fresh (Fj _),λy c h=> ?_,λp hp=>absurd (show p∈([]:List (Addr×Obj))from hp) (by simp),e0.hok.kept hk,?_⟩
 .exact name_of_addr x.apart (Ge h1) (Ge h2)
 .have hy:scope.names.lookup y=some .cell\/scope.names.lookup y=some .free:=hy;rcases hy with hy|hy
  .exact uc hy
  .exact absurd rfl (S.nofree _ (Ge hy))
 .exact Ic (x.above y c (Ge h))
 .have hi:i<vs.length:=by
   unfold start at h2;by_cases hi:i<vs.length
   .exact hi
   .rw[FR (by simpa using hi)]at h2;rw[Jb]at h2;split at h2<;>cases h2
  have ha:vs[i]?=some v:=by
   unfold start at h2;rw[FQ (by simpa using hi),Fm]at h2;cases e:vs[i]? with
   |none=>rw[e]at h2;cases h2
   |some a=>rw[e]at h2;cases h2;rfl
  obtain⟨u,hu,rv⟩:=r.get ha;have hp:ps[i]?=some y:=by rw[<-S.pre,Ie (by lia)];exact h1
  have ndP:ps.Nodup:=by rw[<-S.pre];exact S.nd.sublist (List.take_sublist _ _)
  refine⟨u,rv,?_⟩;rcases S.par y (E7 hp)with k|k
  .exact .inl ⟨k,pO ndP hp hu k⟩
  .obtain⟨c,e⟩:=uc (n:=s.heap.objs.size+1) k;refine .inr ⟨.inl k,c,e,?_⟩;have q:=x.cell y c e;rw[pQ ndP hp hu (by show scope.names.lookup y≠_;rw[k];decide)]at q;exact q
 .exact e0.hok.fresh (Ic (x.above y c (Ge h)))
 .unfold start;show _=N.length;rw[Fw,E3,HR];lia
theorem Ey{CX:CXT}{P:Program}{w:World}{K:PySem.W.Frag}{mg:Str->Option Value}{base:Heap}{k:Nat}{f:Addr}{name qual:Str}{params:Arguments}{body:List Stmt}{scope:Scope}{dV kV doc pm cdv ct oc:Value}{an od:Option Addr}
  {osl:Array (Option Value)} {N ps:List Str} {sp:Sp} (lk:K.lookup f=some ⟨oc,od, .func (fnOf name qual params body scope dV kV doc pm an cdv ct),osl⟩) (hcd:codeIn K cdv qual=true) (S:aE N ps scope)
  (len:∀vs H Q E,sp vs H Q E->vs.length=ps.length)
  (hbody:∀ (A:Around) (outer:List Env) (s:Shared) (H:Hp) (vs:List V) (Q:VK) (E:XK),Room k (A.deeper (envOfC qual scope s.heap.objs.size f cdv))->sp vs H Q E->
   ∃t,PSs (rq CX P w K mg base N qual scope f cdv A outer s H E) body t/\t {nx:=λ_ H'=>Q .non H',rt:=Q} (start N vs) H):
  gJ P w K mg base CX (k+1) f (fnOf name qual params body scope dV kV doc pm an cdv ct) ps sp:=by
 refine⟨len,λA outer s H args us vs Q E hr e0 hb r hsp=> ?_⟩;have hl:=len _ _ _ _ hsp;have KX:K.In s.heap:=e0.mod.kin.keeps λb o e=>(e0.bs b o e).1;have lim:s.heap.NoLimit:=e0.mod.nolimit.keeps λb o e=>(e0.bs b o e).1;have hkind:∀y∈ps.zip us,scope.names.lookup y.1=some .local\/(scope.names.lookup y.1=some .cell/\((cellsFrom (s.heap.objs.size+1) scope.names []).lookup y.1).isSome=true):=λ⟨n,v⟩ hy=>by
  rcases S.par n (Kf hy).1 with q|q
  .exact .inl q
  .exact .inr ⟨q,PySem.W.cellsFrom_some _ _ _ (.inl q)⟩
 refine codeAny_call_function hr.depth (KX _ _ lk) rfl S.co S.gen rfl (PySem.W.codeRec_of KX hcd) (hb _ _ _ _ ?_);refine wpAny_newFunctionEnv_cells S.kind hkind λenv he s1 x=> ?_;subst he;refine⟨lim.keeps x.toInCall.keep,codeAny_func ?_⟩;obtain⟨t,ht,hq⟩:=hbody A outer s H vs Q E (hr.deeper _) hsp;have I:Inv (rq CX P w K mg base N qual scope f cdv A outer s H E) [] (start N vs) H s1:=yr S hr.hd e0 hl r x;refine Jr (ht [] s1 (start N vs) H _ I hq) (λfl s' hs=> ?_) λe s' hs=>hs;have fin:∀ {σ':St} {H':Hp} {v:V} {u:Value},Inv (rq CX P w K mg base N qual scope f cdv A outer s H E) [] σ' H' s'->bH v u->Q v H'->CE outer P w H s Q u s':=
  λ{σ' H' v u} J rv q=>⟨v,H',J.os,J.bare,J.base,J.hok,rv,q⟩
 cases fl with
 |ret u=>
  obtain⟨v,σ',H',J,rv,q⟩:=hs;exact fin J rv q
 |next=>
  obtain⟨σ',H',J,q⟩:=hs;exact fin (v:=V.non) (u:=Value.none) J rfl q
 |brk=>
  obtain⟨_,_,_,q⟩:=hs;exact False.elim q
 |cont=>
  obtain⟨_,_,_,q⟩:=hs;exact False.elim q
end L2
namespace L2
open PySem PySem.Spec PyProof.Rows
section
variable{X:Cx}{x:Str}{p pos:Pos}{e:Expr}{es:List Expr}{t:TA}{id T:String}{r:List V->Hp->VK->Prop}
def tCB(r:List V->Hp->VK->Prop)(t:TA):TE:=λσ H Q=>t σ H λvs H1=>r vs H1 Q
theorem aO(hc:b7 X (.builtin id) r)(hg:Gl X x)(hm:X.mg x=none)(hv:bootBuiltins x=some (.builtin id))(ha:PA X (e::es) t)(hn:x≠ "__name__":=by decide)(hdb:(x==("__debug__":Str))=false:=by decide)
  (he:starEach (e::es) X.env=(false,eval e X.env)::starEach es X.env:=by rfl) (hpl:(backTo pos (starEach es X.env)).any (·.1)=false:=by rfl):PE X (.Call (.Name x p) (e::es) [] pos) (tCB r t):=by
 intro pins s σ H Q I h;refine Ip (iR I hg hm hv ?_ hn hdb);exact PyProof.Rows.callWith_builtin1 (thn (ha pos pins s σ H _ I h) λus s1 ⟨vs,H1,I1,r1,q1⟩=>hc pins s1 σ H1 vs us Q I1 r1 q1) he hpl
theorem dD(hc:b7 X (.type T) r)(hg:Gl X x)(hm:X.mg x=none)(hv:bootBuiltins x=some (.type T))(ha:PA X (e::es) t)(hn:x≠ "__name__":=by decide)(hdb:(x==("__debug__":Str))=false:=by decide)
  (he:starEach (e::es) X.env=(false,eval e X.env)::starEach es X.env:=by rfl) (hpl:(backTo pos (starEach es X.env)).any (·.1)=false:=by rfl):PE X (.Call (.Name x p) (e::es) [] pos) (tCB r t):=by
 intro pins s σ H Q I h;refine Ip (iR I hg hm hv ?_ hn hdb);exact Ho (thn (ha pos pins s σ H _ I h) λus s1 ⟨vs,H1,I1,r1,q1⟩=>hc pins s1 σ H1 vs us Q I1 r1 q1) he hpl
end
end L2
namespace HT
open PySem PyProof.Rows
section
open PySem.SeqAt
open PySem.AutoSeq1 (wpAny_loadPart')
open PySem.MeetsSeq PySem.MeetsSeq2 PySem.MeetsSeq3
end
section
variable{prog:Program}{w:World}{A:Around}{E:Value->Shared->Prop}{s:Shared}
def sIx(n d:Nat):Option Int->Nat
 |none=>d
 |some v=>if v<0 then(v+(n:Int)).toNat else min v.toNat n
theorem mS(n d:Nat):sIx n d none=d:=rfl
theorem qH(n d k:Nat):sIx n d (some (k:Int))=min k n:=by show(if(k:Int)<0 then((k:Int)+(n:Int)).toNat else min (k:Int).toNat n)=min k n;rw[Fg (by lia),E4]
end
end HT
namespace L2
open PySem PySem.Spec PyProof.Rows
abbrev TO:=St->Hp->(Option Int->Hp->Prop)->Prop
def PO(X:Cx)(e:Option Expr)(t:TO):Prop:=
 ∀ (pins:List (Addr×Obj)) (s:Shared) (σ:St) (H:Hp) (Q:Option Int->Hp->Prop),Inv X pins σ H s->t σ H Q->
  wpAny (model X.prog X.w) X.A (evalPart e X.env) (λu s'=>∃o H',Inv X pins σ H' s'/\IsPart u o/\Q o H') X.xe s
def By:TO:=λ_ H Q=>Q none H
def DX(t:TE):TO:=λσ H Q=>t σ H λx H1=>∃i,x= .int i/\Q (some i) H1
theorem fH{ns:List Int}:∀ {us:List Value},Vals (ns.map V.int) us->IntsAre us ns:=by
 induction ns with
 |nil=>intro us r;rw[Ig]at r;cases r;exact .nil
 |cons n ns ih=>
  intro us r;rw[FT]at r;cases r with
  |cons r1 r2=>
   obtain⟨t,e⟩:=r1;subst e;exact .cons n t (ih r2)
section
variable{X:Cx}{e:Expr}{te:TE}{lo hi:Option Expr}{tl th:TO}{pos p2:Pos}
theorem lX:PO X none By:=by intro pins s σ H Q I h;rw[evalPart_none];exact F2 ⟨none,H,I, .none,h⟩
theorem lW(h:PE X e te):PO X (some e) (DX te):=by intro pins s σ H Q I hw;rw[evalPart_some];refine thn (h pins s σ H _ I hw) λu s1 ⟨x,H1,I1,r1,q1⟩=> ?_;obtain⟨i,rfl,q⟩:=q1;obtain⟨t,rfl⟩:=r1;exact⟨some i,H1,I1, .int i t,q⟩
def SlR(X:Cx)(r:V->Option Int->Option Int->Hp->VK->Prop):Prop:=
 ∀ (pins:List (Addr×Obj)) (s:Shared) (σ:St) (H:Hp) (x:V) (v vl vu:Value) (lo hi:Option Int) (sl:Addr) (Q:VK),Inv X pins σ H s->bH x v->s.heap.IsSliceOf sl vl vu .none->IsPart vl lo->IsPart vu hi->r x lo hi H Q->
  ∃T id,typeLookup (.type T) "__getitem__"=pure (some (.builtin id))/\s.TypeIs v T/\wpAny (model X.prog X.w) X.A (getItem v (.ref sl)) (EP X pins σ Q) X.xe s
theorem SlR.or(h:SlR X r)(h':SlR X r'):SlR X (λx lo hi H Q=>r x lo hi H Q\/r' x lo hi H Q):=by
 intro pins s σ H x v vl vu lo hi sl Q I rx hs pl pu q;rcases q with q|q
 .exact h pins s σ H x v vl vu lo hi sl Q I rx hs pl pu q
 .exact h' pins s σ H x v vl vu lo hi sl Q I rx hs pl pu q
def tSl(r:V->Option Int->Option Int->Hp->VK->Prop)(te:TE)(tl th:TO):TE:=λσ H Q=>te σ H λx H1=>tl σ H1 λl H2=>th σ H2 λu H3=>r x l u H3 Q
theorem ji(hr:SlR X r)(he:PE X e te)(hl:PO X lo tl)(hu:PO X hi th):PE X (.Subscript e (.Slice lo hi none p2) pos) (tSl r te tl th):=by intro pins s σ H Q I h;refine Subscript_ (thn (he pins s σ H _ I h) λv s1 ⟨x,H1,I1,r1,q1⟩=> ?_);refine wpAny_Slice (thn (hl pins s1 σ H1 _ I1 q1) λvl s2 ⟨l,H2,I2,pl,q2⟩=>thn (hu pins s2 σ H2 _ I2 q2) λvu s3 ⟨u,H3,I3,pu,q3⟩=> ?_);rw[evalPart_none];refine F2 ?_;have I4:Inv X pins σ H3 {s3 with heap:=s3.heap.push {cls:= .type "slice",data:= .fields #[vl,vu, .none]}}:=I3.kept (t':=s3.toks) λb ob q=>FF _ q;obtain⟨T,id,hT,ht,hg⟩:=hr pins {s3 with heap:=s3.heap.push {cls:= .type "slice",data:= .fields #[vl,vu, .none]}} σ H3 x v vl vu l u s3.heap.objs.size Q I4 r1 (Heap.IsSliceOf.new ..) pl pu q3;show wpAny (model X.prog X.w) X.A (subscriptTail e (.Slice lo hi none p2) v (.ref s3.heap.objs.size)) (EP X pins σ Q) X.xe {s3 with heap:=s3.heap.push {cls:= .type "slice",data:= .fields #[vl,vu, .none]}};exact tail_any (ops:=[.ref s3.heap.objs.size,v]) ht hT hg (by with_unfolding_all rfl)
def lK(xs:List V)(lo hi:Option Int):List V:=(xs.drop (HT.sIx xs.length 0 lo)).take (HT.sIx xs.length xs.length hi-HT.sIx xs.length 0 lo)
theorem t5(xs:List V)(lo hi:Option Int):(lK xs lo hi).length<=xs.length:=by unfold lK;rw[FP,Hi];exact Fc (Nat.min_le_right _ _) (Nat.sub_le _ _)
end
end L2
namespace L2
open PySem PySem.Spec PyProof.Rows
def ixN(n:Nat)(i:Int):Option Nat:=if 0<=i then(if i<n then some i.toNat else none)else if-(n:Int)<=i then some (i+n).toNat else none
def atI{α:Type}(xs:List α)(i:Int):Option α:=(ixN xs.length i).bind λj=>xs[j]?
theorem Cf(h:ixN n i=some j):seqIndex? i n=some j/\j<n/\ -(n:Int)<=i/\i<n:=by
 unfold ixN at h;by_cases h0:0<=i
 .rw[E9 h0]at h;by_cases h1:i<n
  .rw[E9 h1]at h;have e:i.toNat=j:=F9 h;exact⟨by rw[seqIndex_of h0 h1,e],by lia,by lia,h1⟩
  .rw[Fg h1]at h;cases h
 .rw[Fg h0]at h;by_cases h1: -(n:Int)<=i
  .rw[E9 h1]at h;have e:(i+n).toNat=j:=F9 h;exact⟨by rw[seqIndex_neg (by lia) h1,e],by lia,h1,by lia⟩
  .rw[Fg h1]at h;cases h
theorem xg{xs:List α}(h:atI xs i=some v):∃j,seqIndex? i xs.length=some j/\xs[j]?=some v/\j<xs.length/\ -(xs.length:Int)<=i/\i<xs.length:=by
 unfold atI at h;cases e:ixN xs.length i with
 |none=>rw[e]at h;cases h
 |some j=>
  rw[e]at h;obtain⟨h1,h2,h3,h4⟩:=Cf e;exact⟨j,h1,h,h2,h3,h4⟩
theorem bw{α:Type}{xs:List α}{j:Nat}{v:α}(h:xs[j]?=some v):atI xs (j:Int)=some v:=by
 have hj:j<xs.length:=(Fd.mp h).1;have e:ixN xs.length (j:Int)=some j:=by unfold ixN;rw[E9 (by lia),E9 (by lia)];simp
 unfold atI;rw[e];exact h
def Cz(b:Expr):Prop:=∀o i,subscripted b false o i=operate [o,i] (getItem o i)
def IxR(X:Cx)(r:R2):Prop:=
 ∀ (value slice:Expr) (pins:List (Addr×Obj)) (s:Shared) (σ:St) (H:Hp) (x y:V) (v u:Value) (Q:VK),Inv X pins σ H s->bH x v->bH y u->r x y H Q->
  subscripted slice false v u=operate [v,u] (getItem v u)->wpAny (model X.prog X.w) X.A (subscriptTail value slice v u) (EP X pins σ Q) X.xe s
def MtR(X:Cx)(id:String)(r:V->List V->Hp->VK->Prop):Prop:=
 ∀ (pins:List (Addr×Obj)) (s:Shared) (σ:St) (H:Hp) (x:V) (xs:List V) (v:Value) (us:List Value) (Q:VK),Inv X pins σ H s->bH x v->Vals xs us->r x xs H Q->
  wpAny (model X.prog X.w) X.A (call (.builtin id) (v::us)) (EP X pins σ Q) X.xe s
section
variable{X:Cx}{a b:Expr}{ta tb:TE}{pos:Pos}
theorem IxR.or(h:IxR X r)(h':IxR X r'):IxR X (λx y H Q=>r x y H Q\/r' x y H Q):=by
 intro value slice pins s σ H x y v u Q I rx ry q hs;rcases q with q|q
 .exact h value slice pins s σ H x y v u Q I rx ry q hs
 .exact h' value slice pins s σ H x y v u Q I rx ry q hs
theorem MtR.or{id:String}{r r':V->List V->Hp->VK->Prop}(h:MtR X id r)(h':MtR X id r'):MtR X id (λx xs H Q=>r x xs H Q\/r' x xs H Q):=by
 intro pins s σ H x xs v us Q I rx rs q;rcases q with q|q
 .exact h pins s σ H x xs v us Q I rx rs q
 .exact h' pins s σ H x xs v us Q I rx rs q
theorem aK(hr:IxR X r)(ha:PE X a ta)(hb:PE X b tb)(hs:Cz b):PE X (.Subscript a b pos) (tOp r ta tb):=by intro pins s σ H Q I h;exact Subscript_ (DR ha hb I h λv u s2 x y H2 I2 rx ry q=>hr a b pins s2 σ H2 x y v u Q I2 rx ry q (hs _ _))
inductive RdX(K:PySem.W.Frag)(x y:V)(H:Hp)(Q:VK):Prop
 |mk (p:Addr) (xs:List V) (i:Int) (v:V) (e1:x= .ref p) (e2:y= .int i) (s:SqL K H p xs) (a:atI xs i=some v) (q:Q v H):RdX K x y H Q
def BM(K:PySem.W.Frag):R2:=λx y H Q=>RdX K x y H Q
def Eg(K:PySem.W.Frag):R2:=λx y H Q=>∃p xs i v,x= .ref p/\y= .int i/\SqT K H p xs/\atI xs i=some v/\Q v H
theorem Ce:IxR X (BM X.K):=by
 intro value slice pins s σ H x y v u Q I rx ry h hs;obtain⟨p,xs,i,z,rfl,rfl,hq,he,q⟩:=h;cases rx;obtain⟨t,rfl⟩:=ry;obtain⟨its,r,pl,hz⟩:=I.list hq;obtain⟨j,h1,h2,h3,h4,h5⟩:=xg he;obtain⟨w,ew,rw'⟩:=r.get h2;have hl:=r.length;have hn:=vD;have fin:EP X pins σ Q w s:=⟨z,H,I,rw',q⟩;by_cases h0:0<=i
 .have hj:i.toNat=j:=by rw[seqIndex_of h0 h5]at h1;exact F9 h1
  exact item_listR pl.isList h0 (by lia) (by rw[hj];simpa using ew) fin hs
 .have hj:(i+(its.toArray.size:Int)).toNat=j:=by rw[seqIndex_neg (by lia) h4]at h1;rw[F3,<-hl];exact F9 h1
  exact subscriptTail_builtinR (x:=w) pl.isList.typeIs slot_list_getitem.lookup
   (wpAny_getItem_list_neg (Q:=λr s'=>r=w/\EP X pins σ Q r s') pl.isList (by lia) (by rw[F3]<;>lia) (by lia) (by rw[hj];simpa using ew) ⟨rfl,fin⟩) hs
theorem DK:IxR X (Eg X.K):=by
 intro value slice pins s σ H x y v u Q I rx ry h hs;obtain⟨p,xs,i,z,rfl,rfl,hq,he,q⟩:=h;cases rx;obtain⟨t,rfl⟩:=ry;obtain⟨its,r,pl,hz⟩:=I.tuple hq;obtain⟨j,h1,h2,h3,h4,h5⟩:=xg he;obtain⟨w,ew,rw'⟩:=r.get h2;have hl:=r.length;have hn:=vD;have fin:EP X pins σ Q w s:=⟨z,H,I,rw',q⟩;exact subscriptTail_builtinR (x:=w) pl.typeIs slot_tuple_getitem.lookup
  (getItem_tuple (j:=j) (Q:=λr s'=>r=w/\EP X pins σ Q r s') pl (by lia) (by lia) (by rw[F3,<-hl];exact h1) (by simpa using ew) ⟨rfl,fin⟩) hs
theorem Inv.lst{pins:List (Addr×Obj)}{σ:St}{H:Hp}{s:Shared}{p:Addr}{xs:List V}(I:Inv X pins σ H s)(h:H p=some (.lst xs)):
  ∃ (its:List Value) (n:Nat),Vals xs its/\s.heap.get? p=some {cls:= .type "list",data:= .seq its.toArray n}/\xs.length<=sizeLine:=by
 obtain⟨z,its,n,r,e⟩:=I.hok p _ h;exact⟨its,n,r,e,z⟩
theorem qG(lo hi:Option Int)(n:Nat):(sliceBounds lo hi none n).1=((HT.sIx n 0 lo:Nat):Int)/\(sliceBounds lo hi none n).2.1=((HT.sIx n n hi:Nat):Int)/\(sliceBounds lo hi none n).2.2=1:=by
 refine⟨?_,?_,rfl⟩
 .cases lo with
  |none=>simp[sliceBounds,HT.sIx]
  |some i=>
   simp only[sliceBounds,HT.sIx,Option.getD_none,show(1:Int)>0 by decide,J0];by_cases h:i<0
   .simp only[h,J0]<;>lia
   .simp only[h,if_false]<;>lia
 .cases hi with
  |none=>simp[sliceBounds,HT.sIx]
  |some i=>
   simp only[sliceBounds,HT.sIx,Option.getD_none,show(1:Int)>0 by decide,J0];by_cases h:i<0
   .simp only[h,J0]<;>lia
   .simp only[h,if_false]<;>lia
theorem om(its:List Value)(lo hi:Option Int):slicePick its.toArray lo hi none=((its.drop (HT.sIx its.length 0 lo)).take (HT.sIx its.length its.length hi-HT.sIx its.length 0 lo)).toArray:=by obtain⟨h1,h2,h3⟩:=qG lo hi its.toArray.size;unfold slicePick;rw[h1,h2,h3];simp only[sliceRange_one,pick_run,F3]<;>rfl
def Ee(K:PySem.W.Frag):V->Option Int->Option Int->Hp->VK->Prop:=λx lo hi H Q=>∃a xs,x= .ref a/\SqL K H a xs/\∀p,H p=none->Q (.ref p) (upd H p (.lst (lK xs lo hi)))
theorem BE:SlR X (Ee X.K):=by intro pins s σ H x v vl vu lo hi sl Q I rx hs pl pu h;obtain⟨a,xs,rfl,hx,q⟩:=h;cases rx;obtain⟨its,r,ht,hz⟩:=I.list hx;have hlen:=r.length;refine⟨"list",_,slot_list_getitem.lookup,ht.isList.typeIs,?_⟩;refine wpAny_getItem_list_slice ht.isList hs pl pu .none (by simp) ?_ (by rw[F3]<;>lia);rw[om,<-hlen];refine⟨.ref s.heap.objs.size,_,I.laid (t':=s.toks) (o:= .lst (lK xs lo hi)) (λb ob q=>FF _ q) (Fj _) ?_,rfl,q _ (I.hok.fresh (Fj _))⟩;exact⟨Fc (t5 xs lo hi) hz,_,0,(r.drop (HT.sIx xs.length 0 lo)).take (HT.sIx xs.length xs.length hi-HT.sIx xs.length 0 lo),FZ _ rfl⟩
def jA:V->Bool
 | .non=>true
 | .bl _=>true
 | .int _=>true
 | .str _=>true
 |_=>false
def eqV:V->V->Bool
 | .non, .non=>true
 | .bl a, .bl b=>a==b
 | .bl a, .int b=>(if a then 1 else 0)==b
 | .int a, .bl b=>a==(if b then 1 else 0)
 | .int a, .int b=>a==b
 | .str a, .str b=>a==b
 |_,_=>false
theorem DO(ry:bH y u)(rx:bH x v)(fy:jA y=true)(fx:jA x=true):SeqAt.EqAt A s u v (eqV y x):=by
 cases y with
 |non=>
  cases ry;cases x with
  |non=>cases rx;exact SeqAt.EqAt.same _
  |bl b=>cases rx;exact SeqAt.EqAt.none_bool b
  |int b=>obtain⟨t,rfl⟩:=rx;exact SeqAt.EqAt.none_int b t
  |str b=>obtain⟨t,rfl⟩:=rx;exact SeqAt.EqAt.none_str b t
  |_=>exact absurd (show false=true from fx) Fo
 |bl a=>
  cases ry;cases x with
  |non=>cases rx;exact SeqAt.EqAt.bool_none a
  |bl b=>cases rx;exact SeqAt.EqAt.bool_bool a b
  |int b=>obtain⟨t,rfl⟩:=rx;exact SeqAt.EqAt.bool_int a b t
  |str b=>obtain⟨t,rfl⟩:=rx;exact SeqAt.EqAt.bool_str a b t
  |_=>exact absurd (show false=true from fx) Fo
 |int a=>
  obtain⟨t',rfl⟩:=ry;cases x with
  |non=>cases rx;exact SeqAt.EqAt.int_none a t'
  |bl b=>cases rx;exact SeqAt.EqAt.int_bool a t' b
  |int b=>obtain⟨t,rfl⟩:=rx;exact SeqAt.EqAt.int_int a t' b t
  |str b=>obtain⟨t,rfl⟩:=rx;exact SeqAt.EqAt.int_str a t' b t
  |_=>exact absurd (show false=true from fx) Fo
 |str a=>
  obtain⟨t',rfl⟩:=ry;cases x with
  |non=>cases rx;exact SeqAt.EqAt.str_none a t'
  |bl b=>cases rx;exact SeqAt.EqAt.str_bool a t' b
  |int b=>obtain⟨t,rfl⟩:=rx;exact SeqAt.EqAt.str_int a t' b t
  |str b=>obtain⟨t,rfl⟩:=rx;exact SeqAt.EqAt.str_str a t' b t
  |_=>exact absurd (show false=true from fx) Fo
 |_=>exact absurd (show false=true from fy) Fo
def eqU(x:V)(u:Value):Bool:=match u with
 | .none=>eqV .non x
 | .bool b=>eqV (.bl b) x
 | .int i _=>eqV (.int i) x
 | .str z _=>eqV (.str z) x
 |_=>false
theorem A7(r:bH y u)(f:jA y=true):eqU x u=eqV y x:=by
 cases y with
 |non=>cases r;rfl
 |bl b=>cases r;rfl
 |int i=>obtain⟨t,rfl⟩:=r;rfl
 |str z=>obtain⟨t,rfl⟩:=r;rfl
 |_=>exact absurd (show false=true from f) Fo
theorem jL:∀ {xs:List V} {us:List Value},Vals xs us->xs.all jA=true->us.any (eqU x)=xs.any λy=>eqV y x
 |_,_, .nil,_=>rfl
 |y::xs,u::us, .cons r t,f=>by rw[Kl,Fp]at f;rw[IH,IH,A7 r f.1,jL t f.2]
theorem hZ(rx:bH x v)(fx:jA x=true):∀ {xs:List V} {us:List Value},Vals xs us->xs.all jA=true->∀u∈us,SeqAt.EqAt A s u v (eqU x u)
 |_,_, .nil,_=>λu hu=>by cases hu
 |y::xs,u::us, .cons r t,f=>λu' hu=>by
  rw[Kl,Fp]at f;rcases Fh.mp hu with rfl|hu
  .rw[A7 r f.1];exact DO r rx f.1 fx
  .exact hZ rx fx t f.2 u' hu
def inV(x:V)(xs:List V):Bool:=xs.any λy=>eqV y x
def rIn(K:PySem.W.Frag)(neg:Bool):R2:=λx y H Q=>∃p xs,y= .ref p/\(SqL K H p xs\/SqT K H p xs)/\jA x=true/\xs.all jA=true/\Q (.bl (if neg then !inV x xs else inV x xs)) H
theorem xT:OpR X (compareOp .In) (rIn X.K false):=by
 intro pins s σ H x y v u Q I rx ry h;obtain⟨p,xs,rfl,hq,fx,fs,q⟩:=h;cases ry;rcases hq with hq|hq
 .obtain⟨its,r,pl,hz⟩:=I.list hq;refine SeqAt.in_listAt (eqU x) pl.isList (λw hw=>hZ rx fx r fs w (by simpa using hw)) ⟨.bl _,H,I,rfl,?_⟩;rw[show its.toArray.any (eqU x)=its.any (eqU x) by simp,jL r fs];exact q
 .obtain⟨its,r,pl,hz⟩:=I.tuple hq;refine SeqAt.in_tupleAt (eqU x) pl (λw hw=>hZ rx fx r fs w (by simpa using hw)) ⟨.bl _,H,I,rfl,?_⟩;rw[show its.toArray.any (eqU x)=its.any (eqU x) by simp,jL r fs];exact q
theorem qT:OpR X (compareOp .NotIn) (rIn X.K true):=by
 intro pins s σ H x y v u Q I rx ry h;obtain⟨p,xs,rfl,hq,fx,fs,q⟩:=h;cases ry;rcases hq with hq|hq
 .obtain⟨its,r,pl,hz⟩:=I.list hq;refine SeqAt.notIn_listAt (eqU x) pl.isList (λw hw=>hZ rx fx r fs w (by simpa using hw)) ⟨.bl _,H,I,rfl,?_⟩;rw[show its.toArray.any (eqU x)=its.any (eqU x) by simp,jL r fs];exact q
 .obtain⟨its,r,pl,hz⟩:=I.tuple hq;refine SeqAt.notIn_tupleAt (eqU x) pl (λw hw=>hZ rx fx r fs w (by simpa using hw)) ⟨.bl _,H,I,rfl,?_⟩;rw[show its.toArray.any (eqU x)=its.any (eqU x) by simp,jL r fs];exact q
theorem rJ:b7 X (.builtin "len") (λxs H Q=>∃p ys,xs=[.ref p]/\(SqL X.K H p ys\/SqT X.K H p ys)/\Q (.int ys.length) H):=by
 intro pins s σ H xs us Q I r h;obtain⟨p,ys,rfl,hq,q⟩:=h;obtain⟨u,rfl,rx⟩:=iX r;cases rx;have hn:=vD;rcases hq with hq|hq
 .obtain⟨its,r',pl,hz⟩:=I.list hq;have hlen:=r'.length;exact Calls.call_len_list pl.isList (by simp only[F3]<;>lia) ⟨.int ys.length,H,I.tok _,⟨s.toks+1,by rw[F3,hlen]⟩,q⟩
 .obtain⟨its,r',pl,hz⟩:=I.tuple hq;have hlen:=r'.length;exact len_tuple pl (by simp only[F3]<;>lia) ⟨.int ys.length,H,I.tok _,⟨s.toks+1,by rw[F3,hlen]⟩,q⟩
theorem b7.or(h:b7 X f r)(h':b7 X f r'):b7 X f (λxs H Q=>r xs H Q\/r' xs H Q):=by
 intro pins s σ H xs us Q I rs q;rcases q with q|q
 .exact h pins s σ H xs us Q I rs q
 .exact h' pins s σ H xs us Q I rs q
theorem rH:b7 X (.type "list") (λxs H Q=>∃p ys,xs=[.ref p]/\(SqL X.K H p ys\/SqT X.K H p ys)/\∀l,H l=none->Q (.ref l) (upd H l (.lst ys))):=by
 intro pins s σ H xs us Q I r h;obtain⟨p,ys,rfl,hq,q⟩:=h;obtain⟨u,rfl,rx⟩:=iX r;cases rx;have fin:∀ (its:List Value),Vals ys its->ys.length<=sizeLine->∀ (h':Heap) (c':Nat),(∀b o',s.heap.get? b=some o'->h'.get? b=some o')->
   h'.get? s.heap.objs.size=some {cls:= .type "list",dict:=none,data:= .seq its.toArray c',slots:= #[]}->EP X pins σ Q (.ref s.heap.objs.size) {s with heap:=h'}:=λits r' hz h' c' kp e=>
  ⟨.ref s.heap.objs.size,_,I.laid (t':=s.toks) kp (Fj _) (show b6 X.prog X.w _ h' _ (.lst ys)from⟨hz,its,c',r',e⟩),rfl,q _ (I.hok.fresh (Fj _))⟩
 rcases hq with hq|hq
 .obtain⟨its,r',pl,hz⟩:=I.list hq;have hlen:=r'.length;obtain⟨o,ho,hc,n,hd⟩:=pl.isList;exact call_list_seq p (.inl rfl) ho hc hd (λh' c' kp e=>fin its r' hz h' c' kp e) (by simp only[F3]<;>lia)
 .obtain⟨its,r',pl,hz⟩:=I.tuple hq;have hlen:=r'.length;obtain⟨o,ho,hc,n,hd⟩:=pl;exact call_list_seq p (.inr rfl) ho hc hd (λh' c' kp e=>fin its r' hz h' c' kp e) (by simp only[F3]<;>lia)
theorem oG:b7 X (.type "tuple") (λxs H Q=>∃p ys,xs=[.ref p]/\((SqL X.K H p ys/\∀l,H l=none->Q (.ref l) (upd H l (.tup ys)))\/(SqT X.K H p ys/\Q (.ref p) H))):=by
 intro pins s σ H xs us Q I r h;obtain⟨p,ys,rfl,h⟩:=h;obtain⟨u,rfl,rx⟩:=iX r;cases rx;rcases h with ⟨hq,q⟩|⟨hq,q⟩
 .obtain⟨its,r',pl,hz⟩:=I.list hq;have hlen:=r'.length;refine call_tuple_list pl.isList (λh' kp=> ?_) (by simp only[F3]<;>lia);have I1:Inv X pins σ H {s with heap:=h'}:=I.kept (t':=s.toks) kp;have I2:Inv X pins σ (upd H h'.objs.size (.tup ys)) {s with heap:=h'.push {cls:= .type "tuple",data:= .seq its.toArray}}:=
   I1.laid (t':=s.toks) (λb o e=>FF _ e) (Fj _) (show b6 X.prog X.w _ _ _ (.tup ys)from⟨hz,its,r',IsTup.new _ _⟩)
  exact⟨.ref h'.objs.size,_,I2,rfl,q _ (I1.hok.fresh (Fj _))⟩
 .obtain⟨its,r',pl,hz⟩:=I.tuple hq;exact call_tuple_same pl ⟨.ref p,H,I,rfl,q⟩
def tyV(K:PySem.W.Frag)(T:String)(x:V)(H:Hp):Prop:=match x with
 | .str _=>T= "str"
 | .int _=>T= "int"
 | .ref p=>(T= "list"/\∃xs,SqL K H p xs)\/(T= "tuple"/\∃o,K.lookup p=some o/\o.cls= .type "tuple"/\o.dict=none)\/
   (T= "dict"/\((∃kvs,H p=some (.dK kvs))\/∃kvs,H p=some (.dT kvs)))\/(T= "set"/\∃S n,H p=some (.set S n))
 |_=>False
theorem zb{pins:List (Addr×Obj)}{σ:St}{H:Hp}{s:Shared}{T:String}{x:V}{v:Value}(I:Inv X pins σ H s)(r:bH x v)(ty:tyV X.K T x H):
  s.TypeIs v T/\∀a,v= .ref a->∃ob,s.heap.get? a=some ob/\ob.dict=none:=by
 cases x with
 |str z=>
  obtain⟨t,rfl⟩:=r;cases (show T= "str" from ty);exact⟨typeIs_str s z t,λ_ e=>nomatch e⟩
 |int i=>
  obtain⟨t,rfl⟩:=r;cases (show T= "int" from ty);exact⟨typeIs_int s i t,λ_ e=>nomatch e⟩
 |ref p=>
  cases r;rcases ty with ⟨rfl,xs,hq⟩|⟨rfl,o,hk,hc,hd⟩|⟨rfl,hk⟩|⟨rfl,S,n,hk⟩
  .obtain⟨its,_,pl,_⟩:=I.list hq;refine⟨pl.isList.typeIs,λa e=> ?_⟩;cases e;obtain⟨o,n,e,c,hd,_⟩:=pl;exact⟨o,e,hd⟩
  .refine⟨⟨o,I.kIn p o hk,hc⟩,λa e=> ?_⟩;cases e;exact⟨o,I.kIn _ o hk,hd⟩
  .have z:∃o,s.heap.get? p=some o/\o.ExactDict:=by
    rcases hk with ⟨kvs,hk⟩|⟨kvs,hk⟩
    .obtain⟨_,_,_,_,o,_,_,e,ex,_⟩:=I.hok p _ hk;exact⟨o,e,ex⟩
    .obtain⟨_,_,_,_,o,_,_,e,ex,_⟩:=I.hok p _ hk;exact⟨o,e,ex⟩
   obtain⟨o,e,ex⟩:=z;refine⟨⟨o,e,ex.1⟩,λa e2=> ?_⟩;cases e2;exact⟨o,e,ex.2.1⟩
  .obtain⟨o,_,_,_,e,ex,_⟩:=I.hok p _ hk;refine⟨⟨o,e,ex.1⟩,λa e2=> ?_⟩;cases e2;exact⟨o,e,ex.2.1⟩
 |_=>exact False.elim ty
def D8(K:PySem.W.Frag)(T:String)(r:V->List V->Hp->VK->Prop)(to:TE):TE:=λσ H Q=>to σ H λx H1=>tyV K T x H1/\r x [] H1 Q
def tBM(K:PySem.W.Frag)(T:String)(r:V->List V->Hp->VK->Prop)(to:TE)(t:TA):TE:=λσ H Q=>to σ H λx H1=>tyV K T x H1/\t σ H1 λxs H2=>r x xs H2 Q
variable{o e:Expr}{es:List Expr}{to:TE}{t:TA}{name:Str}{apos cpos:Pos}{T id:String}{r:V->List V->Hp->VK->Prop}
theorem Du(pa:PlainAttrs T)(slot:Slot T name id)(hty:typeOf (.builtin id)=pure (.type "method_descriptor"))(hm:MtR X id r)(ho:PE X o to)
  (hbase:attributeBase o name X.env (eval o X.env)=eval o X.env:=by rfl) (hline:(apos.endLine==cpos.line)=true:=by rfl):PE X (.Call (.Attribute o name apos) [] [] cpos) (D8 X.K T r to):=by
 intro pins s σ H Q I h;refine wpAny_Call_method0_late hbase hline (thn (ho pins s σ H _ I h) λv s1 ⟨x,H1,I1,r1,ty,q1⟩=> ?_);obtain⟨h1,h2⟩:=zb I1 r1 ty;exact⟨T,id,pa,slot,hty,h1,h2,Je rfl (PySem.evalArgs_none (hm pins s1 σ H1 x [] v [] Q I1 r1 .nil q1))⟩
theorem Ek(pa:PlainAttrs T)(slot:Slot T name id)(hty:typeOf (.builtin id)=pure (.type "method_descriptor"))(hm:MtR X id r)(ho:PE X o to)(ha:PA X (e::es) t)
  (hbase:attributeBase o name X.env (eval o X.env)=eval o X.env:=by rfl)
  (hfew:((backTo cpos (starEach (e::es) X.env)).all (λx=> !x.1)&&(backToKw cpos (keywordEach [] X.env)).all (λx=>x.1.isSome)
   &&decide ((e::es).length+([]:List Keyword).length+(if([]:List Keyword).isEmpty then 0 else 1)<30))=true:=by rfl)
  (hline:(apos.endLine==cpos.line)=true:=by rfl) (hs:starEach (e::es) X.env=(false,eval e X.env)::starEach es X.env:=by rfl) (hplain:(backTo cpos (starEach es X.env)).any (·.1)=false:=by rfl):
  PE X (.Call (.Attribute o name apos) (e::es) [] cpos) (tBM X.K T r to t):=by
 intro pins s σ H Q I h;refine wpAny_Call_method_late hbase hfew hline rfl (thn (ho pins s σ H _ I h) λv s1 ⟨x,H1,I1,r1,ty,q1⟩=> ?_);obtain⟨h1,h2⟩:=zb I1 r1 ty;refine⟨T,id,pa,slot,hty,h1,h2,?_⟩;have hA:=ha cpos pins s1 σ H1 _ I1 q1;rw[hs]at hA⊢;refine Je (by show(false||(backTo cpos (starEach es X.env)).any (·.1))=false;rw[hplain]<;>rfl) (Calls.evalArgs_plain ?_);exact thn hA λus s2 ⟨vs,H2,I2,r2,q2⟩=>hm pins s2 σ H2 x vs v us Q I2 r1 r2 q2
end
end L2
namespace L2
open PySem PySem.Spec PyProof.Rows
def MtM(X:Cx)(id:String)(r:V->List V->Hp->VK->Prop):Prop:=
 ∀ (pins:List (Addr×Obj)) (s:Shared) (σ:St) (H:Hp) (x:V) (xs:List V) (v:Value) (us:List Value) (Q:VK),Inv X pins σ H s->bH x v->Vals xs us->r x xs H Q->
  wpAny (model X.prog X.w) X.A (call (.builtin id) (v::us)) (EP X pins σ Q) X.xe s
theorem Vals.one(h:Vals [x] us):∃u,us=[u]/\bH x u:=by
 cases h with
 |cons r q=>cases q;exact⟨_,rfl,r⟩
theorem Vals.two(h:Vals [x,y] us):∃u v,us=[u,v]/\bH x u/\bH y v:=by
 cases h with
 |cons r q=>obtain⟨v,rfl,q2⟩:=Vals.one q;exact⟨_,_,rfl,r,q2⟩
theorem Vals.zero:∀ {us:List Value},Vals [] us->us=[]
 |_, .nil=>rfl
theorem Vals.eraseIdx:∀ {xs:List V} {us:List Value} (i:Nat),Vals xs us->Vals (xs.eraseIdx i) (us.eraseIdx i)
 |_,_,_, .nil=> .nil
 |_,_,0, .cons _ t=>t
 |_,_,i+1, .cons r t=> .cons r (Vals.eraseIdx i t)
section
variable{X:Cx}{pins:List (Addr×Obj)}{σ:St}{H:Hp}{s:Shared}{l b:Addr}{xs ys zs:List V}
theorem Inv.lset{its its':List Value}(I:Inv X pins σ H s)(hH:H l=some (.lst xs))
  (e:s.heap.get? l=some {cls:= .type "list",data:= .seq its.toArray n}) (hf:f its.toArray=its'.toArray) (hv:Vals ys its') (hz:ys.length<=sizeLine):
  Inv X pins σ (upd H l (.lst ys)) {s with heap:=s.heap.update l (Obj.mapSeq f),toks:=t'}:=by
 have q:=PySem.IsL.update e f;rw[hf]at q;refine I.write (x:=l) (e:=l) (by rw[hH];exact trivial) (.inl rfl) (λb' u hb hu=>(Heap.get?_update_other s.heap (Obj.mapSeq f) (Jn hb)).trans hu) ⟨_,q⟩ ?_;exact⟨hz,its',_,hv,q⟩
theorem Inv.lnew{its:List Value}(I:Inv X pins σ H s)(hv:Vals ys its)(hz:ys.length<=sizeLine):
  Inv X pins σ (upd H s.heap.objs.size (.lst ys)) {s with heap:=s.heap.push {cls:= .type "list",data:= .seq its.toArray},toks:=t'}:=
 I.laid (λ_ _ q=>FF _ q) (Fj _) ⟨hz,its,0,hv,FZ _ rfl⟩
theorem Inv.fresh(I:Inv X pins σ H s):H s.heap.objs.size=none:=I.hok.fresh (Fj _)
theorem Inv.lstM(I:Inv X pins σ H s)(hH:H l=some (.lst xs)):xs.length<=sizeLine/\∃ (its:List Value) (n:Nat),Vals xs its/\xs.length=its.length/\s.heap.get? l=some {cls:= .type "list",data:= .seq its.toArray n}:=by obtain⟨z,its,n,r,e⟩:=I.hok l _ hH;exact⟨z,its,n,r,r.length,e⟩
end
section
variable{X:Cx}
inductive RdA(x:V)(vs:List V)(H:Hp)(Q:VK):Prop
 |mk (l:Addr) (xs:List V) (y:V) (e1:x= .ref l) (e2:vs=[y]) (h:H l=some (.lst xs)) (n:xs.length<sizeLine) (q:Q .non (upd H l (.lst (xs++[y])))):RdA x vs H Q
def BO:V->List V->Hp->VK->Prop:=λx vs H Q=>RdA x vs H Q
theorem cK:MtM X "list.append" BO:=by intro pins s σ H x vs v us Q I rx rv h;obtain⟨l,xs,y,rfl,rfl,hH,hz,q⟩:=h;cases rx;obtain⟨u,rfl,ru⟩:=rv.one;obtain⟨z,its,n,r,hl,e⟩:=I.lstM hH;refine call_meets F.slot_list_append ⟨_,e,rfl⟩ F.entry_list_append (F.args_list_append_2 _ _) (PySem.list_append l its.toArray n u (by rw[F3];lia)) ⟨e,?_⟩;refine⟨.non,_,I.lset (its':=its++[u]) hH e (by simp) (r.append (.cons ru .nil)) ?_,rfl,q⟩;rw[Fw,List.length_singleton];lia
def EN:R2:=λx y H Q=>∃l b xs zs,x= .ref l/\y= .ref b/\H l=some (.lst xs)/\H b=some (.lst zs)/\xs.length+zs.length<=sizeLine/\∀p,H p=none->Q (.ref p) (upd H p (.lst (xs++zs)))
theorem vm:OpR X (binaryOp .Add) EN:=by
 intro pins s σ H x y v u Q I rx ry h;obtain⟨l,b,xs,zs,rfl,rfl,hH,hB,hz,q⟩:=h;cases rx;cases ry;obtain⟨z,its,n,r,hl,e⟩:=I.lstM hH;obtain⟨z2,its2,n2,r2,hl2,e2⟩:=I.lstM hB;refine PySem.P.add_list e e2 ?_ (by rw[F3,F3];lia);have ea:its.toArray++its2.toArray=(its++its2).toArray:=by simp
 rw[ea];exact⟨.ref _,_,I.lnew (t':=s.toks) (r.append r2) (by rw[Fw];lia),rfl,q _ I.fresh⟩
end
section
variable{prog:Program}{w:World}{A:Around}{E:Value->Shared->Prop}{s:Shared}
end
section
variable{X:Cx}
end
end L2
namespace Att
open PySem PySem.W PySem.Calls PyProof.Rows
theorem lE:∀ (ns:List Int) (vs:List Value),WellAll P h vs (ns.map WData.int)->IntsAre vs ns:=by
 intro ns
 induction ns with
 |nil=>
  intro vs w;rw[Ig]at w;cases w;exact .nil
 |cons n ns ih=>
  intro vs w;rw[FT]at w;cases w with
  |cons a b=>
   cases a;exact .cons _ _ (ih _ b)
theorem xE{l:OpenLaw}(hn:l.most=some n){h:Heap}
  (hpre:l.row.toRowW.claim.pre args=true) (hwl:WellAll P h vals args):
  ∃a vs ns,vals=[Value.ref a]/\args=[WData.list (ns.map WData.int)]/\h.get? a=some {cls:= .type "list",data:= .seq vs.toArray}/\IntsAre vs ns/\ns.length<=n:=by
 have hsh:WShape.hasAll [] args [.list .int]=true:=(pre_splitW hpre).1;have hc:l.pre.holds [] {args:=args}=true:=(pre_splitW hpre).2;obtain⟨d,r,rfl,h1,h2⟩:=hasAllW_cons hsh;obtain rfl:=hasAllW_nil h2;obtain⟨xs,rfl,h3⟩:=hasW_list h1;obtain⟨ns,rfl⟩:=items_int h3;have hlen:ns.length<=n:=by
  unfold OpenLaw.pre at hc;have h4:(WTm.not (.lt (.lit (.int (n:Int))) (.len (.arg 0)))).holds [] {args:=[.list (ns.map .int)]}=true:=by have h4:=(holds_andW hc).1;rw[hn]at h4;exact h4
  have h5:=condW_of h4 (w_not (w_lt w_lit (w_len_list (w_arg rfl))));rw[E3]at h5;refine Gh λq=> ?_;have q':(n:Int)<((ns.length:Nat):Int):=by lia
  first
   |(rw[E6 q']at h5;exact absurd h5 (by decide))
   |(simp at h5;lia)
 cases hwl with
 |cons w1 w2=>
  cases w2;cases w1 with
  |list ho hall=>exact⟨_,_,ns,rfl,rfl,ho,lE ns _ hall,hlen⟩
theorem xN(l:OpenLaw)(args:List WData):l.row.toRowW.claim.post args (.bool true) args=true:=
 postW_of (r:=l.row.toRowW) (X:=(true==true))
  (show WShape.has [] (.bool true) .bool=true by first|rfl|decide|simp[WShape.has,WShape.arms,WShape.armsAll])
  (show(WTm.eq .res (.lit (.bool true))).value [] {args:=args,res:=some (.bool true),after:=args}=some (.bool (true==true))from w_eq_bool (w_res rfl) w_lit) rfl
section
variable{prog:Program}{w:World}{A:Around}{E:Value->Shared->Prop}{s:Shared}{K:Frag}
def ledger(h:Heap)(L d:Addr):List (Addr×Obj):=(List.range h.objs.size).filterMap λa=>if a=L\/a=d then none else(h.get? a).map λo=>(a,o)
end
end Att
namespace L2
open PySem PySem.Spec PyProof.Rows
theorem oI:∀ {vs:List Value} {ns:List Int},IntsAre vs ns->Vals (ns.map V.int) vs
 |_,_, .nil=> .nil
 |_,_, .cons n t h=> .cons ⟨t,rfl⟩ (oI h)
def Only(H:Hp):Prop:=∀b,H b=none\/∃o xs,H b=some (.frz o (.lst xs))
theorem AM{K:PySem.W.Frag}{s₁:Shared}{vs:List Value}{ns:List Int}
  (KX:K.In s₁.heap) (hns:s₁.heap.Ns mainGlobals mg) (hb:s₁.heap.Ns builtinsNs mb) (hbb:∀x:Str,x≠ "__name__"->mb x=bootBuiltins x) (hlim:s₁.heap.NoLimit) (hg:s₁.gens= #[])
  (ha:s₁.heap.get? a=some {cls:= .type "list",data:= .seq vs.toArray}) (hi:IntsAre vs ns) (hl:ns.length<=sizeLine) (hr:Room k callerA)
  (F:∀base:Heap,K.In base->base.Ns mainGlobals mg->gJ P w K mg base CX k fa fd [x] sp) (hbind:∀ (s:Shared) (u:Value),BindsTo s fd ⟨[u],[]⟩ [(x,u)])
  (hsp:∀H:Hp,Only H->SqL K H a (ns.map V.int)->sp [.ref a] H (λv _=>v= .bl true) λ_ _ _=>False)
  (hCX:∀H e s',CX [] H s₁ (λ_ _ _=>False) e s'->False):
  codeAny (model P w) callerA (.call (.ref fa) ⟨[.ref a],[]⟩) (λr s'=>r= .ok (.ret (.bool true))/\OldK s₁.heap s'.heap/\s'.os=s₁.os/\AllBare s'.gens) s₁:=by
 have rv:=oI hi;have lenV:=hi.length;have core:∀H:Hp,Only H->SqL K H a (ns.map V.int)->HOk P w H s₁.heap->(∀b,H b≠none->b=a)->(H a≠none->K.lookup a=none)->
   codeAny (model P w) callerA (.call (.ref fa) ⟨[.ref a],[]⟩) (λr s'=>r= .ok (.ret (.bool true))/\OldK s₁.heap s'.heap/\s'.os=s₁.os/\AllBare s'.gens) s₁:=by
  intro H hO hS hok hA hK;have base_of:∀ {b:Addr} {o:Obj},s₁.heap.get? b=some o->H b=none->(rl s₁.heap H).get? b=some o:=λe n=>AR e n;have noA:∀ {b:Addr} {o:Obj} {es:Array DictEntry} {ep:Nat},s₁.heap.get? b=some o->o.data= .dict es ep->H b=none:=λ{b o es ep} e d=>by
   cases q:H b with
   |none=>rfl
   |some u=>
    have e':b=a:=hA b (by rw[q];simp);subst e';rw[ha]at e;cases e;have d':Data.seq vs.toArray _=Data.dict es ep:=d;cases d'
  have nsK:∀ {b:Addr} {m:Str->Option Value},s₁.heap.Ns b m->(rl s₁.heap H).Ns b m:=λ{b m} ⟨o,es,ep,e,d,r⟩=>⟨o,es,ep,base_of e (noA e d),d,r⟩;have hKb:K.In (rl s₁.heap H):=λb o e=>base_of (KX b o e) (by
   cases q:H b with
   |none=>rfl
   |some u=>
    have e':b=a:=hA b (by rw[q];simp);subst e';rw[hK (by rw[q];simp)]at e;cases e)
  have hM:Mod K mg (rl s₁.heap H):=⟨hKb,nsK hns,⟨mb,nsK hb,hbb⟩,let⟨mc,h1,h2⟩:=hlim;⟨mc,nsK h1,h2⟩⟩;have e0:wg P w K mg (rl s₁.heap H) callerA [] s₁ H:=⟨rfl,hM,λb o e=>B2 e,Nat.le_of_eq (yt _ _),trivial,λb hb=>absurd (show b∈([]:List Addr)from hb) (by simp),hok, .of_eq hg⟩;refine J1 ((F _ hKb (nsK hns)).run callerA [] s₁ H ⟨[.ref a],[]⟩ [.ref a] [.ref a] _ _ hr e0 (hbind s₁ (.ref a)) (.cons rfl .nil) (hsp H hO hS)) λr s' h=> ?_;cases r with
  |error e=>exact(hCX H e s' h).elim
  |ok fl=>
   cases fl with
   |next=>exact False.elim h
   |brk=>exact False.elim h
   |cont=>exact False.elim h
   |ret u=>
    obtain⟨v,H',os,bare,un,hok',r',q⟩:=h;have q':v= .bl true:=q;subst q';obtain rfl:u=Value.bool true:=r';refine⟨rfl,OldK.of_keep λb o e=> ?_,os,bare⟩;cases q:H b with
    |none=>exact un.keep b o e q (by intro z;exact absurd (show b∈([]:List Addr)from z) (by simp)) (by simp)
    |some u=>
     rcases hO b with z|⟨ob,xs,z⟩
     .rw[q]at z;cases z
     .have z2:=un.frzs b ob _ z;obtain⟨e1,_⟩:=hok b _ z;obtain⟨e2,_⟩:=hok' b _ z2;rw[e]at e1;cases e1;exact e2
 cases hk:K.lookup a with
 |some o=>
  have e:=KX a o hk;rw[ha]at e;cases e;refine core (λ_=>none) (λ_=> .inl rfl) (.inr ⟨_,vs.toArray,_,hk,rfl,rfl,rfl,by rw[F3,lenV];exact hl,by simpa using rv⟩) (λb u z=>by have z':(none:Option HO)=some u:=z;cases z') (λb z=>absurd rfl z) λz=>absurd rfl z
 |none=>
  refine core (λb=>if b=a then some (.frz {cls:= .type "list",data:= .seq vs.toArray} (.lst (ns.map V.int)))else none) (λb=> ?_) (.inl (.inr ⟨{cls:= .type "list",data:= .seq vs.toArray},E9 rfl⟩)) (λb u z=> ?_) (λb z=> ?_) λ_=>hk
  .by_cases hb:b=a
   .exact .inr ⟨_,_,E9 hb⟩
   .exact .inl (Fg hb)
  .by_cases hb:b=a
   .have z':=(E9 hb).symm.trans z;cases z';subst hb;exact⟨ha,by rw[E3];exact hl,vs,_,rv,ha⟩
   .have z':=(Fg hb).symm.trans z;cases z'
  .by_cases hb:b=a
   .exact hb
   .exact absurd (Fg hb) z
end L2
namespace L2
open PySem PySem.Spec PyProof.Rows
abbrev KOf{K:PySem.W.Frag}{h:Heap}(_:K.In h):PySem.W.Frag:=K
end L2
namespace L2
open PySem PySem.Spec PyProof.Rows
def cG(s:Stmt)(j:Nat):Stmt:=match s with
 | .ClassDef _ _ _ body _ _ _ _ _ _ _=>body.getD j (.Pass ⟨0,0,0,0⟩)
 |_=> .Pass ⟨0,0,0,0⟩
def cH(s:Stmt):Arguments:=match s with
 | .FunctionDef _ a _ _ _ _ _ _ _ _=>a
 |_=>{posonlyargs:=[],args:=[],vararg:=none,kwonlyargs:=[],kw_defaults:=[],kwarg:=none,defaults:=[]}
def bj(s:Stmt):List Stmt:=match s with
 | .FunctionDef _ _ b _ _ _ _ _ _ _=>b
 |_=>[]
def aq(s:Stmt):Scope:=match s with
 | .FunctionDef _ _ _ _ _ _ sc _ _ _=>sc
 |_=>{kind:= .function,names:=[],isGenerator:=false,isCoroutine:=false}
abbrev CX0:CXT:=λ_ _ _ _ _ _=>False
abbrev E0:XK:=λ_ _ _=>False
theorem sR:nO CX0 X E0:=λ_ _ _ _ _ _ _ h=>h.elim
structure Fun(K:PySem.W.Frag)(x qual:Str)(st:Stmt)(f:Addr)(fd:FuncData):Prop where
 ex:∃ (oc:Value) (od:Option Addr) (kV doc pm:Value) (an:Option Addr) (cdv ct:Value) (osl:Array (Option Value)),
  fd=fnOf x qual (cH st) (bj st) (aq st) .none kV doc pm an cdv ct/\K.lookup f=some ⟨oc,od, .func fd,osl⟩/\codeIn K cdv qual=true
 kp:keepIn K (.ref f)=true
section
variable{P:Program}{w:World}{K:PySem.W.Frag}{mg:Str->Option Value}{base:Heap}
theorem Fun.ok{x qual:Str}{st:Stmt}{f:Addr}{fd:FuncData}{N ps:List Str}{k:Nat}{sp:Sp}(F:Fun K x qual st f fd)(S:aE N ps (aq st))(len:∀vs H Q E,sp vs H Q E->vs.length=ps.length)
  (hbody:∀ (cdv:Value) (A:Around) (outer:List Env) (s:Shared) (H:Hp) (vs:List V) (Q:VK) (E:XK),Room k (A.deeper (envOfC qual (aq st) s.heap.objs.size f cdv))->sp vs H Q E->
   ∃t,PSs (rq CX0 P w K mg base N qual (aq st) f cdv A outer s H E).nox (bj st) t/\t {nx:=λ_ H'=>Q .non H',rt:=Q} (start N vs) H):gJ P w K mg base CX0 (k+1) f fd ps sp:=by
 obtain⟨oc,od,kV,doc,pm,an,cdv,ct,osl,rfl,lk,hcd⟩:=F.ex;refine Ey lk hcd S len λA outer s H vs Q E hr hsp=> ?_;obtain⟨t,h,q⟩:=hbody cdv A outer s H vs Q E hr hsp;exact⟨t,h.nox,q⟩
theorem Fun.binds{x qual:Str}{st:Stmt}{f:Addr}{fd:FuncData}{ps:List Str}(F:Fun K x qual st f fd)
  (h:∀ (kV doc pm:Value) (an:Option Addr) (cdv ct:Value) (us:List Value),us.length=ps.length->bindArgs (fnOf x qual (cH st) (bj st) (aq st) .none kV doc pm an cdv ct) ⟨us,[]⟩=pure (ps.zip us)):ip K fd ps []:=by
 obtain⟨oc,od,kV,doc,pm,an,cdv,ct,osl,rfl,lk,hcd⟩:=F.ex;exact .all (h kV doc pm an cdv ct)
theorem nz{x qual:Str}{st:Stmt}{f:Addr}{oc:Value}{od an:Option Addr}{osl:Array (Option Value)}{kV doc pm cdv ct:Value}(l:K.lookup f=some ⟨oc,od, .func (fnOf x qual (cH st) (bj st) (aq st) .none kV doc pm an cdv ct),osl⟩)
  (c:codeIn K cdv qual=true) (k:keepIn K (.ref f)=true):Fun K x qual st f (fnOf x qual (cH st) (bj st) (aq st) .none kV doc pm an cdv ct):=⟨⟨oc,od,kV,doc,pm,an,cdv,ct,osl,rfl,l,c⟩,k⟩
end
section
variable{X:Cx}
theorem pv(i:Nat){x:Str}{pos:Pos}(hN:X.N[i]?=some x:=by rfl)(hv:Vis X.env.scope x:=by first|exact E5 rfl|exact GD (E5 rfl)|exact GD (GD rfl))(hd:(x==("__debug__":Str))=false:=by decide)
  (hcd:(x==("__classdict__":Str))=false:=by decide):PE X (.Name x pos) (C0 i):=Dq hN hv hd hcd
end
theorem dt{A B:Prop}(h:B):if false=true then A else B:=by rw[Fg Fo];exact h
theorem tO{A B:Prop}(h:A):if true=true then A else B:=by rw[E9 rfl];exact h
theorem cn{c A B:Prop}[Decidable c](h1:c->A)(h2:¬c->B):if c then A else B:=by
 by_cases h:c
 .rw[E9 h];exact h1 h
 .rw[Fg h];exact h2 h
theorem Er{c A B:Prop}[Decidable c](hc:c)(h:B):if(!decide c)=true then A else B:=by rw[E6 hc];exact dt h
def Same(H H':Hp):Prop:=∀b o,H b=some o->H' b=some o
theorem Same.refl(H:Hp):Same H H:=λ_ _ h=>h
theorem Same.trans(a:Same H H1)(b:Same H1 H2):Same H H2:=λc o h=>b c o (a c o h)
theorem Same.free(e:Same H H')(h:H' l=Option.none):H l=Option.none:=by
 cases q:H l with
 |none=>rfl
 |some o=>
  rw[e l o q]at h;cases h
theorem Same.seq{K:PySem.W.Frag}{H H':Hp}{a:Addr}{xs:List V}(e:Same H H')(h:SqL K H a xs):SqL K H' a xs:=by
 rcases h with (h|⟨o,h⟩)|h
 .exact .inl (.inl (e _ _ h))
 .exact .inl (.inr ⟨o,e _ _ h⟩)
 .exact .inr h
end L2
namespace L2
open PySem PySem.Spec PyProof.Rows
theorem ki{α β:Type}{f:α->β->Sem (ForInStep β)}(g:β->α->β):∀ (l:List α) (c:β),(∀x∈l,∀c,f x c=pure (.yield (g c x)))->forIn l c f=pure (l.foldl g c):=by
 intro l
 induction l with
 |nil=>intro c _;rfl
 |cons x l ih=>
  intro c h;rw[List.forIn_cons,h x Fq,pure_bind];exact ih _ λy hy=>h y (Fe _ hy)
def e7(env:Env)(cs:List (Str×Addr))(y:Str×NameKind):List (Str×Addr):=if(y.2==NameKind.free)=true then(y.1,(env.cells.lookup y.1).getD 0)::cs else cs
def fo(env:Env)(names:List (Str×NameKind)):List (Str×Addr):=names.foldl (e7 env) []
theorem gf{env:Env}{sc:Scope}(h:∀y∈sc.names,y.2= .free->∃c,env.cells.lookup y.1=some c):closureFor sc env=pure (fo env sc.names):=by
 simp only[closureFor];rw[ki (e7 env) sc.names [] (λx hx c=>by
  obtain⟨n,kind⟩:=x;by_cases hk:kind= .free
  .subst hk;obtain⟨a,ha⟩:=h _ hx rfl;have ha':env.cells.lookup n=some a:=ha;have e:cellOf env n=pure a:=by simp only[cellOf,ha']
   simp only[e7,e,ha',beq_self_eq_true,J0,pure_bind,Option.getD_some]
  .have:(kind==NameKind.free)=false:=by simpa using hk
   simp only[e7,this,Bool.false_eq_true,if_false])]
 rfl
theorem yM(env:Env):∀ (names:List (Str×NameKind)) (acc:List (Str×Addr)),(∀y∈names,y.2= .free->∃c,env.cells.lookup y.1=some c)->(∀x c,acc.lookup x=some c->env.cells.lookup x=some c)->
  ∀x c,(names.foldl (e7 env) acc).lookup x=some c->env.cells.lookup x=some c:=by
 intro names
 induction names with
 |nil=>intro acc _ ha x c e;exact ha x c e
 |cons y r ih=>
  intro acc h ha;refine ih _ (λz hz=>h z (Fe _ hz)) λx c e=> ?_;unfold e7 at e;split at e
  .rename_i hk;obtain⟨a,ey⟩:=h y Fq (by simpa using hk);rw[Hu]at e;cases hx:x==y.1 with
   |true=>
    rw[hx]at e;have hxy:x=y.1:=by simpa using hx
    rw[ey]at e;rw[hxy,ey];exact e
   |false=>rw[hx]at e;exact ha x c e
  .exact ha x c e
theorem yN(env:Env):∀ (names:List (Str×NameKind)) (acc:List (Str×Addr)) (x:Str),((∃y∈names,y.1=x/\y.2= .free)\/∃c,acc.lookup x=some c)->∃c,(names.foldl (e7 env) acc).lookup x=some c:=by
 intro names
 induction names with
 |nil=>
  intro acc x h;rcases h with ⟨y,hy,_⟩|h
  .cases hy
  .exact h
 |cons y r ih=>
  intro acc x h;refine ih _ x ?_;have lk:∀c,acc.lookup x=some c->∃c,(e7 env acc y).lookup x=some c:=λc e=>by
   unfold e7;split
   .rw[Hu];cases hx:x==y.1 with
    |true=>exact⟨_,rfl⟩
    |false=>exact⟨c,e⟩
   .exact⟨c,e⟩
  rcases h with ⟨z,hz,hzx,hzk⟩|⟨c,e⟩
  .rcases Fh.mp hz with e|hr
   .subst e;refine .inr ?_;unfold e7;rw[hzk,E9 (by rfl),Hu,hzx];simp
   .exact .inl ⟨z,hr,hzx,hzk⟩
  .exact .inr (lk c e)
theorem Bf{env:Env}(h:∀y∈names,y.2= .free->∃c,env.cells.lookup y.1=some c)(e:(fo env names).lookup x=some c):env.cells.lookup x=some c:=
 yM env names [] h (λ_ _ z=>by simp at z) x c e
theorem rC(h:∃y∈names,y.1=x/\y.2= .free):∃c,(fo env names).lookup x=some c:=yN env names [] x (.inl h)
theorem jf{sc:Scope}(hnc:∀y∈sc.names,y.2≠ .cell)(h:(relabel sc env).names.lookup x=some .cell\/(relabel sc env).names.lookup x=some .free):∃y∈sc.names,y.1=x/\y.2= .free:=by
 obtain⟨k,hk,m⟩:∃k,(k=NameKind.cell\/k=NameKind.free)/\(x,k)∈(relabel sc env).names:=by
  rcases h with h|h
  .exact⟨_, .inl rfl,Ge h⟩
  .exact⟨_, .inr rfl,Ge h⟩
 obtain⟨y,hy,e⟩:=Fn.mp (show(x,k)∈sc.names.map _ from m);obtain⟨n,k0⟩:=y;dsimp only at e;split at e
 .rename_i hc;have e1:n=x:=Fu Prod.fst e;refine⟨_,hy,e1,?_⟩;simp only[Fp,Ja]at hc;exact hc.1.1
 .have e1:n=x:=Fu Prod.fst e;have e2:k0=k:=Fu Prod.snd e;refine⟨_,hy,e1,?_⟩;rcases hk with hk|hk
  .exact absurd (e2.trans hk) (hnc _ hy)
  .exact e2.trans hk
def fK(X:Cx)(N':List Str)(sc:Scope)(s₃:Shared)(H₃:Hp)(fp:List Addr)(pins:List (Addr×Obj)):Cx where
 prog:=X.prog
 w:=X.w
 K:=X.K
 mg:=X.mg
 base:=X.base
 A:=X.A
 N:=N'
 s₀:=s₃
 H₀:=H₃
 env:=compEnvC sc (fo X.env sc.names) s₃.heap.objs.size X.env
 outer:=X.stack
 stack:=X.stack
 ex:=fp
 fn:=λ_=>false
 calm:=X.calm
 pn:=X.pn++pins
 xe:=λ_ _=>False
def inner(nv:Nat)(fr:List Nat)(σ:St):St:=List.replicate nv none++fr.map λj=>(σ[j]?).join
def lL(X:Cx)(sc:Scope):List Nat->List Str->Prop
 | [],[]=>True
 |j::js,x::xs=>(X.N[j]?=some x/\(X.env.kindOf x=some .cell\/X.env.kindOf x=some .free)/\((relabel sc X.env).names.lookup x=some .cell\/(relabel sc X.env).names.lookup x=some .free))/\lL X sc js xs
 |_,_=>False
theorem lL.get{X:Cx}:∀ {fr:List Nat} {names:List Str} {k j:Nat},lL X sc fr names->fr[k]?=some j->
  ∃x,names[k]?=some x/\X.N[j]?=some x/\(X.env.kindOf x=some .cell\/X.env.kindOf x=some .free)/\((relabel sc X.env).names.lookup x=some .cell\/(relabel sc X.env).names.lookup x=some .free)
 | [],[],_,_,_,e=>by simp at e
 | [],_::_,_,_,h,_=>h.elim
 |_::_,[],_,_,h,_=>h.elim
 |j::js,x::xs,0,i,h,e=>by
  have e':j=i:=by simpa using e
  subst e';exact⟨x,rfl,h.1⟩
 |j::js,x::xs,k+1,i,h,e=>by obtain⟨y,h1,h2⟩:=lL.get (k:=k) (j:=i) h.2 (by simpa using e);exact⟨y,by simpa using h1,h2⟩
theorem lL.len:∀ {fr:List Nat} {names:List Str},lL X sc fr names->fr.length=names.length
 | [],[],_=>rfl
 | [],_::_,h=>h.elim
 |_::_,[],h=>h.elim
 |_::_,_::_,h=>by rw[FK,FK,lL.len h.2]
def PTs(X:Cx)(ifs:List Expr)(t:TT):Prop:=
 ∀ (pins:List (Addr×Obj)) (s:Shared) (σ:St) (H:Hp) (Q:Bool->Hp->Prop),Inv X pins σ H s->t σ H Q->
  wpAny (model X.prog X.w) X.A (forIn ifs true λc r=>if r=true then do let ok<-isTrue c X.env (eval c X.env);pure (ForInStep.yield ok)else pure (ForInStep.yield r)) (TP X pins σ Q) X.xe s
def dI:TT:=λ_ H Q=>Q true H
theorem bz:PTs X [] dI:=λ_ _ _ H _ I h=>wpAny_tests_nil ⟨H,I,h⟩
theorem bX(h:PT X c t):PTs X [c] t:=λpins s σ H Q I q=>wpAny_tests_one (h pins s σ H Q I q)
def LCW(J:It)(g:TG)(tc:TT)(te:TE)(nv:Nat)(fr:List Nat)(σ:St)(H1:Hp)(Q:VK):Prop:=∀D,H1 D=none->
 ∃W:Nat->Nat->St->Hp->Prop,(∃m,W 0 m (inner nv fr σ) (upd H1 D (.lst [])))/\∀i m σ' H',W i m σ' H'->
  (J.stop i H'/\Q (.ref D) H')\/(J.go i H'/\∃N:St->Hp->Prop,(∀σ'' H'',N σ'' H''->∃m',m'<m/\W (i+1) m' σ'' H'')/\
   ∀x H2,J.yld i H' x H2->g x σ' H2 λσ2 H3=>tc σ2 H3 λb H4=>if b=true then te σ2 H4 λy H5=>∃xs,H5 D=some (.lst xs)/\xs.length<sizeLine/\N σ2 (upd H5 D (.lst (xs++[y])))else N σ2 H4)
def tLC(wi:TI)(g:TG)(tc:TT)(te:TE)(nv:Nat)(fr:List Nat):TE:=λσ H Q=>wi σ H λJ H1=>LCW J g tc te nv fr σ H1 Q
section
variable{X:Cx}{elt target iter:Expr}{ifs:List Expr}{sc:Scope}{pos:Pos}{wi:TI}{g:TG}{tc:TT}{te:TE}{vars frn:List Str}{fr:List Nat}
def uI(X:Cx)(pins:List (Addr×Obj))(σ:St)(Q:VK)(D C:Addr)(s':Shared):Prop:=
 ∃H',Inv X pins σ H' s'/\Q (.ref D) H'/\(∃m,s'.heap.Ns C m)/\H' C=none/\C≠X.env.locals/\X.s₀.heap.objs.size<=C/\(∀x c,X.env.cells.lookup x=some c->c≠C)/\∀p∈X.pn++pins,p.1≠C
theorem nE(hc:X.calm=true)(hfk:∀y∈sc.names,y.2= .free->X.env.kindOf y.1=some .cell\/X.env.kindOf y.1=some .free)(hnc:∀y∈sc.names,y.2≠ .cell)(hkind:sc.kind= .function)
  (hfr:lL X sc fr frn)
  (hg:∀s₃ H₃ fp pins,PG (fK X (vars++frn) sc s₃ H₃ fp pins) target g) (ht:∀s₃ H₃ fp pins,PTs (fK X (vars++frn) sc s₃ H₃ fp pins) ifs tc) (he:∀s₃ H₃ fp pins,PE (fK X (vars++frn) sc s₃ H₃ fp pins) elt te)
  {pins:List (Addr×Obj)} {s2:Shared} {σ:St} {H2:Hp} {Q:VK} {E:Value->Shared->Prop} {R:Value->Addr->Result->Shared->Prop} {it:Addr} {fp:List Addr} {tn:Nat->Heap->Prop} {J:It}
  (I2:Inv X pins σ H2 s2) (T:Turn X.prog X.w X.K target J fp it tn) (st2:tn 0 s2.heap) (f2:∀b∈fp,lO X pins H2 b)
  (h:LCW J g tc te vars.length fr σ H2 Q)
  (hR:∀D C s',uI X pins σ Q D C s'->R (.ref D) C (.ok .next) s'):
  wpAny (model X.prog X.w) X.A (newList []) (λacc s₃=>wpAny (model X.prog X.w) X.A (newFunctionEnv sc X.env.globals (fo X.env sc.names) [] X.env.qual none .none (some X.env)) (λcenv s₄=>
   codeAny (model X.prog X.w) X.A (.compStart (.ListComp elt [⟨target,iter,ifs,0⟩] sc pos) 0 (.ref it) acc {cenv with scope:=relabel sc X.env}) (R acc cenv.locals) s₄) E s₃) E s2:=by
 have hfc:∀y∈sc.names,y.2= .free->∃c,X.env.cells.lookup y.1=some c:=λy hy hk=>I2.ok.has y.1 (hfk y hy hk);obtain⟨W,⟨m0,w0⟩,turn⟩:=h s2.heap.objs.size I2.fresh;refine wpAny_newObj_type (wpAny_newFunctionEnv hnc (by intro y hy;simp at hy) (λh₁ hns₁ hsb₁=> ?_) hkind);dsimp only at hns₁ hsb₁⊢;have I3:Inv X pins σ (upd H2 s2.heap.objs.size (.lst [])) {s2 with heap:=s2.heap.push {cls:= .type "list",data:= .seq ([]:List Value).toArray}}:=I2.lnew (t':=s2.toks) .nil (FV _);generalize hs3:({s2 with heap:=s2.heap.push {cls:= .type "list",data:= .seq ([]:List Value).toArray}}:Shared)=s3 at I3;have hh3:s3.heap=s2.heap.push {cls:= .type "list",data:= .seq ([]:List Value).toArray}:=by rw[<-hs3]
 have hsz:s3.heap.objs.size=s2.heap.objs.size+1:=by rw[hh3,HZ]
 have k23:∀b o,s2.heap.get? b=some o->s3.heap.get? b=some o:=λb o e=>by rw[hh3];exact FF _ e
 generalize hD:s2.heap.objs.size=D at*;generalize hH3:upd H2 D (.lst [])=H3 at*;have hC:(s2.heap.push {cls:= .type "list",dict:=none,data:= .seq ([]:List Value).toArray}).objs.size=s3.heap.objs.size:=by rw[hh3]
 rw[hC]at hns₁ hsb₁⊢;have hsb₁':Heap.SameBut s3.heap.objs.size (s3.heap.push {cls:= .type "dict",data:= .dict #[]}) h₁:=by rw[hh3]at hsb₁⊢;exact hsb₁
 have k34:∀b o,s3.heap.get? b=some o->h₁.get? b=some o:=λb o e=>hsb₁'.extBut b o (FN (Fz e)) (FF _ e);have fpl:∀b∈fp,b<s2.heap.objs.size:=λb hb=>by obtain⟨o,e,_⟩:=T.obj _ _ st2 b hb;exact Fz e
 have fpD:∀b∈fp,b≠D:=λb hb=>by rw[<-hD];exact FN (fpl b hb)
 have fpC:∀b∈fp,b≠s3.heap.objs.size:=λb hb=>by rw[hsz];exact FN (Iy (hD▸fpl b hb))
 have fr3:∀b∈fp,H3 b=none:=λb hb=>by rw[<-hH3,aC (fpD b hb)];exact(f2 b hb).1
 have fstk:∀b∈fp,b∉frs X.stack:=λb hb z=>by
  obtain⟨_,f1,f2',_⟩:=f2 b hb;rcases Fh.mp (I3.stkSub b z)with e|e
  .exact f1 e
  .exact f2' e
 have st4:tn 0 h₁:=T.keep _ _ _ st2 λb hb o e=>k34 b o (k23 b o e);have csub:∀x c,(fo X.env sc.names).lookup x=some c->X.env.cells.lookup x=some c:=λx c e=>Bf hfc e;generalize hX:fK X (vars++frn) sc s3 H3 fp pins=X';have ok':X'.Ok:=by
  rw[<-hX];refine⟨I3.ok.mod,hkind,I3.ok.glob,I3.ok.blt,Fj _,λx y c e1 e2=>I3.ok.inj x y c (csub x c e1) (csub y c e2),λx hx=>rC (jf hnc hx),(λx c z=>nomatch z),I3.ok.hd,I3.ok.frames, .inl rfl,
   λb hb=>⟨fpC b hb,λx c e z=>(f2 b hb).2.2.2.2.1 x c (csub x c e) z⟩,I3.bs,Fc I3.ok.bsz I3.sz,λb o e hb=> ?_,λb hb=>fstk b hb,I3.stack,I3.stkFree⟩
  rcases(f2 b hb).2.2.2.1 with z|z
  .exact I3.ok.noex b o e z
  .exact absurd (Fb (Fz e) (Fc I3.ok.bsz z)) (Gv _)
 have I4:Inv X' [] (inner vars.length fr σ) H3 {s2 with heap:=h₁,toks:=s2.toks+([]:List (Str×Value)).length}:=by
  have hos:s3.os=s2.os:=by rw[<-hs3]
  have hgn:s3.gens=s2.gens:=by rw[<-hs3]
  refine⟨ok',by rw[<-hX];exact hos.symm,by rw[<-hgn];exact I3.bare,by rw[<-hX];exact Un.kept k34,⟨λx=>([]:List (Str×Value)).reverse.lookup x,by rw[<-hX];exact hns₁,λi x v e1 e2 e3=> ?_⟩,λx c e=> ?_,?_,λx c e=> ?_,λp hp=> ?_,by rw[<-hX];exact I3.hok.kept k34,?_⟩
  .rw[<-hX]at e1 e3⊢;have e1':(vars++frn)[i]?=some x:=e1;unfold inner at e2;by_cases hi:i<vars.length
   .rw[FQ (by simpa using hi),Jb]at e2;rw[E9 hi]at e2;cases e2
   .rw[FR (by simpa using Gh hi),HR,Fm]at e2;rw[FR (Gh hi)]at e1';cases ej:fr[i-vars.length]? with
    |none=>rw[ej]at e2;cases e2
    |some j=>
     rw[ej]at e2;have e2':(σ[j]?).join=some v:=F9 e2;have e2'':σ[j]?=some (some v):=by
      cases q:σ[j]? with
      |none=>rw[q]at e2';cases e2'
      |some o=>rw[q]at e2';exact Fu some e2'
     obtain⟨y,h1,h2,h3,h4⟩:=hfr.get ej;rw[h1]at e1';cases e1';obtain⟨m,hn,hl⟩:=I3.loc;obtain⟨u,r,l⟩:=hl j x v h2 e2'' (by rcases h3 with z|z;exact .inr (.inl z);exact .inr (.inr z));refine⟨u,r, .inr ⟨h4,?_⟩⟩;obtain⟨c,hc1⟩:=rC (env:=X.env) (jf hnc h4);have hc2:=csub x c hc1;rcases l with ⟨k,_⟩|⟨_,c',hc',hcell⟩
     .rcases h3 with z|z
      .rw[z]at k;cases k
      .rw[z]at k;cases k
     .rw[hc2]at hc';cases hc';exact⟨c,hc1,hcell.keeps k34⟩
  .rw[<-hX]at e;obtain⟨v,z⟩:=I3.cell x c (csub x c e);exact⟨v,z.keeps k34⟩
  .rw[<-hX];exact I3.fresh
  .rw[<-hX]at e;exact I3.freeC x c (csub x c e)
  .rw[<-hX]at hp⊢;rw[GX]at hp;obtain⟨q1,q2,q3,q4,q5⟩:=I3.pin p hp;refine⟨k34 _ _ q1,q2,FN (Fz q1),λz=> ?_,q5⟩;rcases Fh.mp (I3.stkSub p.1 z)with e|e
   .exact q3 e
   .exact q4 e
  .rw[<-hX];show(inner vars.length fr σ).length=(vars++frn).length;unfold inner;rw[Fw,HR,E3,Fw,hfr.len]
 have stat:∀ {H':Hp},(∀b∈fp,H' b=none)->∀b∈fp,lO X' [] H' b:=λhn b hb=>by rw[<-hX];obtain⟨_,f1,f2',f3,f4,f5⟩:=f2 b hb;refine⟨hn b hb,fpC b hb,fstk b hb, .inl hb,λx c e=>f4 x c (csub x c e),λp hp=> ?_⟩;exact f5 p (by simpa [fK]using hp)
 have back:∀ {σ7:St} {H7:Hp} {s7:Shared},Inv X' [] σ7 H7 s7->Inv X pins σ H7 s7:=λ{σ7 H7 s7} I7=>by
  have ho:s7.os=s3.os:=by have:=I7.os;rw[<-hX]at this;exact this
  have hu:Un (frs X.stack) fp H3 H7 s3.heap s7.heap:=by have:=I7.base;rw[<-hX]at this;exact this
  have hk:HOk X.prog X.w H7 s7.heap:=by have:=I7.hok;rw[<-hX]at this;exact this
  refine I3.call' ho hu hk I7.bare λb hb=> ?_;obtain⟨_,f1,_,f3,f4,f5⟩:=f2 b hb;exact⟨f3,f1,f4,f5⟩
 have hmod:X'.prog=X.prog/\X'.w=X.w/\X'.K=X.K/\X'.A=X.A/\X'.calm=true/\X'.env=compEnvC sc (fo X.env sc.names) s3.heap.objs.size X.env/\X'.xe=(λ_ _=>False)/\X'.env.locals=s3.heap.objs.size:=by rw[<-hX];exact⟨rfl,rfl,rfl,rfl,hc,rfl,rfl,rfl⟩
 obtain⟨eP,ew,eK,eA,ec,eE,ex,eL⟩:=hmod;have hg':=hg s3 H3 fp pins;have ht':=ht s3 H3 fp pins;have he':=he s3 H3 fp pins;rw[hX]at hg' ht' he';have loop:∀s4:Shared,s4={s2 with heap:=h₁,toks:=s2.toks+([]:List (Str×Value)).length}->
   codeAny (model X.prog X.w) X.A (.compLoop (.ListComp elt [⟨target,iter,ifs,0⟩] sc pos) 0 (.ref it) (.ref D) X'.env) (R (.ref D) s3.heap.objs.size) s4:=by
  rintro s4 rfl;refine codeAny_loop rfl (λn s'=>∃i σ' H',Inv X' [] σ' H' s'/\tn i s'.heap/\(∀b∈fp,H' b=none)/\W i n σ' H') (λn s5 hI=> ?_) m0 ⟨0,_,H3,I4,st4,fr3,w0⟩;obtain⟨i,σ5,H5,I5,st5,fr5,w5⟩:=hI;show wpAny _ X.A ((compTurn (.ListComp elt [⟨target,iter,ifs,0⟩] sc pos) 0 (.ref it) (.ref D) X'.env).onRaise (λx=>do noteFrame x X'.env;theTreesLotGoes x)) _ _ s5;refine wpAny_noted (wpAny_noRaise ?_);rw[compTurn_list];refine FC (wpAny_standAt (FC ?_));rcases turn i n σ5 H5 w5 with ⟨stop,q⟩|⟨go,N,hN,step⟩
  .have z:=T.done X' eP ew eK ec i [] s5 σ5 H5 (λ_ _=>False) I5 (stat fr5) st5 stop;rw[eA]at z;refine thn z λr s6 ⟨hr,I6⟩=> ?_;subst hr;refine F2 (hR _ _ _ ⟨H5,back I6,q,?_,?_,IA I3.lt,I3.sz,λx c e z=> ?_,λp hp z=> ?_⟩)
   .obtain⟨m,hn,_⟩:=I6.loc;rw[eL]at hn;exact⟨m,hn⟩
   .have:=I6.free;rw[eL]at this;exact this
   .obtain⟨v,q⟩:=I3.cell x c e;exact absurd q.lt (by rw[z];exact Gv _)
   .exact absurd (Fz (I3.pin p hp).1) (by rw[z];exact Gv _)
  .have z:=T.item X' eP ew eK ec i [] s5 σ5 H5 (λ_ _=>False) I5 (stat fr5) st5 go;rw[eA]at z;refine thn z λr s6 ⟨u,hr,h6⟩=> ?_;subst hr;refine FC (thn h6 λ_ s7 ⟨x,H7,I7,r7,y7,st7,fr7⟩=> ?_);have I7':=I7.pinned (stat fr7) (T.obj _ _ st7);have zg:=hg' _ s7 σ5 H7 x u _ I7' r7 (step x H7 y7);rw[eP,ew,eA,ex]at zg;refine FC (thn zg λ_ s8 ⟨σ8,H8,I8,q8⟩=> ?_);have zt:=ht' _ s8 σ8 H8 _ I8 q8;rw[eP,ew,eA,ex]at zt;refine FC (thn zt λok s9 ⟨H9,I9,q9⟩=> ?_);have again:∀ {σa:St} {Ha:Hp} {sa:Shared},Inv X' ([]++jY fp s7.heap) σa Ha sa->N σa Ha->∃m,m<n/\∃i σ' H',Inv X' [] σ' H' sa/\tn i sa.heap/\(∀b∈fp,H' b=none)/\W i m σ' H':=λ{σa Ha sa} Ia na=>by obtain⟨m',hm,wa⟩:=hN σa Ha na;refine⟨m',hm,i+1,σa,Ha,Ia.unpinned,T.keep _ _ _ st7 λb hb o e=>(Ia.pin (b,o) (FL _ (FL _ (eB hb e)))).1,λb hb=> ?_,wa⟩;obtain⟨o,e,d⟩:=T.obj _ _ st7 b hb;exact(Ia.pin (b,o) (FL _ (FL _ (eB hb e)))).2.1
   cases ok with
   |false=>
    rw[Fg Fo]at q9;exact F2 ⟨rfl,again I9 q9⟩
   |true=>
    rw[E9 rfl]at q9;have ze:=he' _ s9 σ8 H9 _ I9 q9;rw[eP,ew,eA,ex]at ze;refine FC (FC (thn ze λy sa ⟨yv,Ha,Ia,ra,xs,hxs,hlt,na⟩=>FC ?_));have zm:=cK (X:=X') _ sa σ8 Ha (.ref D) [yv] (.ref D) [y] (λ_ Hb=>N σ8 Hb) Ia rfl (.cons ra .nil) ⟨D,xs,yv,rfl,rfl,hxs,hlt,na⟩;rw[eP,ew,eA,ex]at zm;exact thn zm λ_ sb ⟨vb,Hb,Ib,_,nb⟩=>F2 (F2 ⟨rfl,again Ib nb⟩)
 have e:({(newEnv sc s3.heap.objs.size X.env.globals (fo X.env sc.names) X.env.qual none .none (some X.env) builtinsNs)with scope:=relabel sc X.env}:Env)=X'.env:=by rw[eE];rfl
 have fin:=codeAny_compStart_list (elt:=elt) (target:=target) (iter:=iter) (ifs:=ifs) (rest:=[]) (scope:=sc) (pos:=pos) (loop _ rfl) (T.self _ 0 _ _ _ st4 (loop _ rfl));rw[<-e]at fin;exact fin
theorem AZ{env:Env}(h:sc.names.all (λy=> !(y.2== .free)||(env.kindOf y.1==some .cell||env.kindOf y.1==some .free))=true):∀y∈sc.names,y.2= .free->env.kindOf y.1=some .cell\/env.kindOf y.1=some .free:=λy hy hk=>by have:=GQ.mp h y hy;rw[hk]at this;simpa using this
theorem CP(h:sc.names.all (λy=> !(y.2== .cell))=true):∀y∈sc.names,y.2≠ .cell:=λy hy hk=>by have:=GQ.mp h y hy;rw[hk]at this;simp at this
theorem AG(h:sc.names.all (λy=> !(y.2== .local)||(sc.names.lookup y.1==some .local))=true):∀y∈sc.names,y.2= .local->sc.names.lookup y.1=some .local:=λy hy hk=>by have:=GQ.mp h y hy;rw[hk]at this;simpa using this
theorem bR(hc:X.calm=true)(hfk0:sc.names.all (λy=> !(y.2== .free)||(X.env.kindOf y.1==some .cell||X.env.kindOf y.1==some .free))=true)(hnc0:sc.names.all (λy=> !(y.2== .cell))=true)(hkind:sc.kind= .function)
  (hnames0:sc.names.all (λy=> !(y.2== .local)||(sc.names.lookup y.1==some .local))=true) (hfr:lL X sc fr frn) (hi:PI X target iter wi)
  (hg:∀s₃ H₃ fp pins,PG (fK X (vars++frn) sc s₃ H₃ fp pins) target g) (ht:∀s₃ H₃ fp pins,PTs (fK X (vars++frn) sc s₃ H₃ fp pins) ifs tc) (he:∀s₃ H₃ fp pins,PE (fK X (vars++frn) sc s₃ H₃ fp pins) elt te)
  (hs:∀x,foldedSetIterable iter X.env x=pure x:=by intro _;rfl):PE X (.ListComp elt [⟨target,iter,ifs,0⟩] sc pos) (tLC wi g tc te vars.length fr):=by
 intro pins s σ H Q I h;have hfk:=AZ hfk0;have hnc:=CP hnc0;have hnames:=AG hnames0;rw[eval_ListComp];have hfc:∀y∈sc.names,y.2= .free->∃c,X.env.cells.lookup y.1=some c:=λy hy hk=>I.ok.has y.1 (hfk y hy hk);refine IQ (use:=none) rfl hs (gf hfc) hkind hnames (thn (hi pins s σ H _ I h) λv s1 h1=>thn h1 λitv s2 h2=> ?_);obtain⟨it,fp,tn,J,H2,e,I2,T,st2,f2,q⟩:=h2;subst e;refine nE (R:=λacc C=>compPost (model X.prog X.w) X.A X.xe none (EP X pins σ Q) acc C) hc hfk hnc hkind hfr hg ht he I2 T st2 f2 q λD C s' hb=> ?_;obtain⟨H',I',q',⟨m,hn⟩,hCn,hCL,hCs,hCc,hCp⟩:=hb;refine⟨m,hn,λh' hs'=>⟨.ref D,H',?_,rfl,q'⟩⟩;exact I'.turned (t':=s'.toks) (λb o hb e=>(hs'.2 b hb).trans e) hCn hCL (.inr hCs) hCc hCp
theorem dN{i:Nat}{x:Str}{px spos:Pos}(hN:X.N.Nodup)(hi0:X.N[i]?=some x)(hx:X.env.kindOf x=some .local)(hc:X.calm=true)
  (hfk0:sc.names.all (λy=> !(y.2== .free)||(X.env.kindOf y.1==some .cell||X.env.kindOf y.1==some .free))=true) (hnc0:sc.names.all (λy=> !(y.2== .cell))=true) (hkind:sc.kind= .function)
  (hnames0:sc.names.all (λy=> !(y.2== .local)||(sc.names.lookup y.1==some .local))=true) (hfr:lL X sc fr frn) (hi:PI X target iter wi)
  (hg:∀s₃ H₃ fp pins,PG (fK X (vars++frn) sc s₃ H₃ fp pins) target g) (ht:∀s₃ H₃ fp pins,PTs (fK X (vars++frn) sc s₃ H₃ fp pins) ifs tc) (he:∀s₃ H₃ fp pins,PE (fK X (vars++frn) sc s₃ H₃ fp pins) elt te)
  (hsw:swapsWith (.ListComp elt [⟨target,iter,ifs,0⟩] sc pos) (some (.Name x px)) spos.line X.env=pure true:=by rfl)
  (hs:∀x,foldedSetIterable iter X.env x=pure x:=by intro _;rfl):PS X (.Assign [.Name x px] (.ListComp elt [⟨target,iter,ifs,0⟩] sc pos) spos) (zy (tLC wi g tc te vars.length fr) (bU i)):=by
 intro pins s σ H Dn I h;have hfk:=AZ hfk0;have hnc:=CP hnc0;have hnames:=AG hnames0;rw[exec_Assign_Name_used _ _ _ _ hsw];have hfc:∀y∈sc.names,y.2= .free->∃c,X.env.cells.lookup y.1=some c:=λy hy hk=>I.ok.has y.1 (hfk y hy hk);refine FC (wpAny_standAt (FC ?_));show wpAny _ X.A (do let _<-comprehension (.ListComp elt [⟨target,iter,ifs,0⟩] sc pos) sc X.env _ (newList []) false (eval iter X.env) (some (assign (.Name x px) X.env))) _ _ s;refine FC (thn (Q:=λ_ s'=>SP X pins Dn .next s') (IQ (use:=some (assign (.Name x px) X.env)) (Q:=λ_ s'=>SP X pins Dn .next s') rfl hs (gf hfc) hkind hnames (thn (hi pins s σ H _ I h) λv s1 h1=>thn h1 λitv s2 h2=> ?_)) λ_ s' hq=>F2 (F2 hq));obtain⟨it,fp,tn,J,H2,e,I2,T,st2,f2,q⟩:=h2;subst e;refine nE (R:=λacc C=>compPost (model X.prog X.w) X.A X.xe (some (assign (.Name x px) X.env)) (λ_ s'=>SP X pins Dn .next s') acc C) hc hfk hnc hkind hfr hg ht he I2 T st2 f2 q λD C s' hb=> ?_;obtain⟨H',I',q',⟨m,hn⟩,hCn,hCL,hCs,hCc,hCp⟩:=hb;show wpAny _ X.A (assign (.Name x px) X.env (.ref D)) _ _ s';refine wpAny_assign_Name (oO I' hN hi0 (.inl hx) (v:= .ref D) rfl (λs3 I3 hsb=> ?_) (.inr hx));obtain⟨a,sb,ha⟩:=hsb;have haC:C≠a:=by
  rcases ha with e|e
  .rw[e];exact hCL
  .exact λz=>hCc x a e z.symm
 refine⟨m,hn.sameBut sb haC,λh' hs'=>⟨_,H',?_,q'⟩⟩;exact I3.turned (t':=s3.toks) (λb o hb e=>(hs'.2 b hb).trans e) hCn hCL (.inr hCs) hCc hCp
end
end L2
namespace L2
open PySem PySem.Spec PyProof.Rows
section
variable{X:Cx}{e st:Expr}{te ts:TE}{pos p2:Pos}
def Ei:V->List V->Hp->VK->Prop:=λx vs H Q=>∃i,x= .int i/\vs=[]/\Q (.int (Builtin.Int.intBits i:Nat)) H
theorem B5:MtR X "int.bit_length" Ei:=by intro pins s σ H x vs v us Q I rx rv h;obtain⟨i,rfl,rfl,q⟩:=h;obtain⟨t,rfl⟩:=rx;cases rv.zero;exact call_gives F.slot_int_bit_length (typeIs_int s i t) F.entry_int_bit_length (F.args_int_bit_length_1 _) (PySem.AutoIntG2.int_bit_length_int_0 i t) ⟨.int (Builtin.Int.intBits i:Nat),H,I.tok _,⟨_,rfl⟩,q⟩
def Eh(K:PySem.W.Frag):List V->Hp->VK->Prop:=λxs H Q=>∃x n t b,xs=[x, .ty n]/\jM K H x t/\kitOne K t (.type n)=some b/\Q (.bl b) H
theorem ue:b7 X (.builtin "isinstance") (Eh X.K):=by intro pins s σ H vs us Q I rv h;obtain⟨x,n,t,b,rfl,ty,e,q⟩:=h;obtain⟨u,w,rfl,ru,rw'⟩:=rv.two;cases (show w=Value.type n from rw');exact yq I ru ty e λtk=>⟨.bl b,H,I.tok tk,rfl,q⟩
def Ed(K:PySem.W.Frag):List V->Hp->VK->Prop:=λxs H Q=>∃ (a:Addr) (ns:List Int),xs=[.ref a]/\SqL K H a (ns.map V.int)/\Q (.int ns.sum) H
theorem Bg(hc:X.calm=true):b7 X (.builtin "sum") (Ed X.K):=by
 intro pins s σ H vs us Q I rv h;obtain⟨a,ns,rfl,ha,q⟩:=h;obtain⟨u,rfl,ru⟩:=rv.one;cases ru;obtain⟨is,r1,p1,_⟩:=I.list ha;have hi:=fH r1;obtain⟨xs,ex⟩:=hi.allInts.items;have hl:=p1.isList;rw[ex]at hl;have en:numsOf (intItems xs).toList=ns:=by rw[<-ex];exact hi.numsOf
 rw[nums_intItems]at en;refine sum_intListG (I.ok.hd hc) hl λh' tk t' hk=> ?_;refine⟨.int ns.sum,H,I.kept hk,⟨t',?_⟩,q⟩;rw[preSum_eq,Iu (by simp),en]
end
def Ite(K:PySem.W.Frag)(a:Addr):It:=
 ⟨λi H=>∃xs x,SqL K H a xs/\xs[i]?=some x,
  λi H x H'=>∃t,x= .ref t/\H t=none/\∃v,(∀xs,SqL K H a xs->xs[i]?=some v)/\H'=upd H t (.tup [.int (i:Nat),v]),
  λi H=>∃xs,SqL K H a xs/\xs.length<=i⟩
theorem Inv.own{X:Cx}{pins:List (Addr×Obj)}{s:Shared}{σ:St}{H:Hp}{h₂:Heap}{t':Nat}(ch:List Addr)(I:Inv X pins σ H s)(hf:∀b∈ch,lO X pins H b)
  (kk:∀b o,b∉ch->s.heap.get? b=some o->h₂.get? b=some o):Inv X pins σ H {s with heap:=h₂,gens:=s.gens,drawn:=s.drawn,toks:=t'}:=by
 have hok:HOk X.prog X.w H h₂:=λb v e=>(I.hok b v e).stay (λc o hc q=>kk c o (λhm=>by
   have n:=(hf c hm).1;rcases hc with z|z
   .rw[z,e]at n;cases n
   .rw[z]at n;cases n) q) (λ_ q=>q) λ_ _ q=>q
 have hL:∀m,s.heap.Ns X.env.locals m->h₂.Ns X.env.locals m:=λm hm=>by obtain⟨o,es,ep,ho,r⟩:=hm;exact⟨o,es,ep,kk _ o (λhm=>(hf _ hm).2.1 rfl) ho,r⟩
 exact I.step (h':=h₂) (g':=s.gens) (d':=s.drawn) (t':=t') (ch:=ch) (λb hb=>⟨(hf b hb).2.2.2.1,(hf b hb).2.1,(hf b hb).2.2.2.2.1,(hf b hb).2.2.2.2.2⟩) (λb o _ _ hc e _=>kk b o hc e)
  (λb o _ _ hc e _=>⟨o.slots,kk b o hc e⟩) (λ_ _ _ _ n=>n) (λb o hc e=>⟨o,kk b o hc e⟩) (λ_ _ e=>e) (λ_ _ _ e=>e) (λb ps e=>⟨#[],by rw[e];simp⟩) hL hok I.bare
theorem Inv.pairIn{X:Cx}{pins:List (Addr×Obj)}{s s1:Shared}{σ:St}{H:Hp}{x y:V}{u v:Value}(I:Inv X pins σ H s)(I1:Inv X pins σ H s1)(ru:bH x u)(rv:bH y v)
  (ht:s1.heap.get? s.heap.objs.size=some {cls:= .type "tuple",data:= .seq #[u,v]}):Inv X pins σ (upd H s.heap.objs.size (.tup [x,y])) s1:=by
 have hfr:H s.heap.objs.size=none:=I.fresh;refine⟨I1.ok,I1.os,I1.bare,⟨λb o e n hb hx=>I1.base.keep b o e n hb hx,λb o e n hb hx=>I1.base.slot b o e n hb hx,λb o e n hx=> ?_,I1.base.there,λb ys e=> ?_,λb o u e=> ?_,λb ps e=> ?_⟩,I1.loc,I1.cell,?_,λy c e=> ?_,λp hp=> ?_,?_,I1.len⟩
 .have hb:b≠s.heap.objs.size:=FN (Fb (Fz e) I.sz);rw[aC hb];exact I1.base.free b o e n hx
 .have h1:=I1.base.tups b ys e;rw[aC (aA h1 hfr)];exact h1
 .have h1:=I1.base.frzs b o u e;rw[aC (aA h1 hfr)];exact h1
 .obtain⟨more,h1⟩:=I1.base.tbls b ps e;exact⟨more,by rw[aC (aA h1 hfr)];exact h1⟩
 .rw[aC (FN I.lt)];exact I1.free
 .obtain⟨v,q⟩:=I.cell y c e;rw[aC (FN q.lt)];exact I1.freeC y c e
 .obtain⟨q1,q2,q3,q4,q5⟩:=I1.pin p hp;have hb:p.1≠s.heap.objs.size:=FN (Fz (I.pin p hp).1);exact⟨q1,by rw[aC hb];exact q2,q3,q4,q5⟩
 .intro b o e;by_cases hb:b=s.heap.objs.size
  .subst hb;rw[ah]at e;cases e;exact⟨by show 2<=sizeLine;decide,[u,v], .cons ru (.cons rv .nil),⟨_,ht,rfl,_,rfl⟩⟩
  .rw[aC hb]at e;refine(I1.hok b o e).stay (λ_ _ _ q=>q) (λc q=> ?_) λc ys q=> ?_
   .rw[aC (aA q hfr)];exact q
   .rw[aC (aA q hfr)];exact q
theorem xr{P:Program}{w:World}{K:PySem.W.Frag}{elts:List Expr}{x1:Nat}{tp:Pos}(a it en:Addr)(hne:en≠it):
  Turn P w K (.Tuple elts x1 tp) (Ite K a) [en,it] en (λi h=>(∃old,IsEnum h en it ((i:Nat):Int) old)/\h.IsListIter it a i) where
 mem:=by simp
 obj:=λi h st b hb=>by
  obtain⟨⟨old,he⟩,hi⟩:=st;rcases Fh.mp hb with e|e
  .subst e;exact⟨_,he,λv z=>by have z':Data.fields _=Data.cell v:=z;cases z'⟩
  .have e:b=it:=by simpa using e
   subst e;obtain⟨o,e,c,d⟩:=hi;exact⟨o,e,λv z=>by rw[d]at z;cases z⟩
 keep:=λi h h' st k=>⟨let⟨old,he⟩:=st.1;⟨old,k en (by simp) _ he⟩,st.2.at λo e=>k it (by simp) o e⟩
 item:=by
  intro X hP hw hK hc i pins s σ H E I hf st hg;subst hP hw hK;obtain⟨xs,x,hq,hx⟩:=hg;obtain⟨⟨old,he⟩,hit⟩:=st;obtain⟨its,rv,p,hz⟩:=I.list hq;obtain⟨u,hu,ru⟩:=rv.get hx;obtain⟨f0,f1,f2,f3,f4,f5⟩:=hf en (by simp);obtain⟨g0,g1,g2,g3,g4,g5⟩:=hf it (by simp);refine wpAny_pyNext_enum_item he hit p.isList (x:=u) (by simpa using hu) hne λh₁ heo hit₁ ht₁ hz₁ hk₁=> ?_;refine⟨_,rfl,wpAny_letOwnedTupleGo_enum heo λh₂ he₂ hs₂=> ?_⟩;replace hs₂:Heap.SameBut en h₁ h₂:=hs₂;have hen:en<s.heap.objs.size:=Fz he;obtain⟨oi,hoi,hoc,hod⟩:=id hit;have hitl:it<s.heap.objs.size:=Fz hoi;have hfr:H s.heap.objs.size=none:=I.fresh;have ht₂:h₂.get? s.heap.objs.size=some {cls:= .type "tuple",data:= .seq #[.int i s.toks,u]}:=(hs₂.2 _ (IA hen)).trans ht₁;have kk:∀b o,b≠en->b≠it->s.heap.get? b=some o->h₂.get? b=some o:=λb o h1 h2 e=>(hs₂.2 b h1).trans (hk₁ b o h1 h2 e);have I1:Inv X pins σ H {s with heap:=h₂,gens:=s.gens,drawn:=s.drawn,toks:=s.toks+1}:=I.own [en,it] hf λb o hb e=>kk b o (λz=>hb (by simp[z])) (λz=>hb (by simp[z])) e;have hsz2:h₂.objs.size=s.heap.objs.size+1:=hs₂.1.trans hz₁;have I2:Inv X pins σ (upd H s.heap.objs.size (.tup [.int (i:Nat),x])) {s with heap:=h₂,toks:=s.toks+1}:=I.pairIn I1 ⟨_,rfl⟩ ru ht₂;refine⟨.ref s.heap.objs.size,_,I2,rfl,⟨_,rfl,hfr,x,λys hy=>by rw[I.list_inj hy hq];exact hx,rfl⟩,⟨⟨u,?_⟩,?_⟩,λb hb=> ?_⟩
  .have:((i+1:Nat):Int)=(i:Int)+1:=by lia
   rw[this];exact he₂
  .obtain⟨o,e,c,d⟩:=hit₁;exact⟨o,(hs₂.2 it (Jn hne)).trans e,c,d⟩
  .rcases Fh.mp hb with e|e
   .rw[e,aC (FN hen)];exact f0
   .have e:b=it:=by simpa using e
    rw[e,aC (FN hitl)];exact g0
 done:=by intro X hP hw hK hc i pins s σ H E I hf st hg;subst hP hw hK;obtain⟨xs,hq,hx⟩:=hg;obtain⟨⟨old,he⟩,hit⟩:=st;obtain⟨its,rv,p,hz⟩:=I.list hq;obtain⟨g0,g1,g2,g3,g4,g5⟩:=hf it (by simp);have hl:=rv.length;exact wpAny_pyNext_enum_end (I.ok.hd hc) he hit p.isList (by simp;lia) λh' eb=>⟨rfl,I.turned (t':=s.toks) (λb o hb e=>eb b o hb e) g0 g1 g3 g4 g5⟩
 self:=λ_ _ _ _ _ st h=>let⟨_,he⟩:=st.1;wpAny_pyIter_enum he h
section
variable{X:Cx}{elts:List Expr}{x1:Nat}{tp:Pos}
def CS(K:PySem.W.Frag)(ta:TA):TI:=λσ H R=>ta σ H λvs H1=>∃a,vs=[.ref a]/\(∃xs,H1 a=some (.lst xs))/\R (Ite K a) H1
theorem BS{a:Expr}{ta:TA}{p pos:Pos}(hg:Gl X "enumerate")(hm:X.mg "enumerate"=none)(ha:PA X [a] ta)(hs:starEach [a] X.env=[(false,eval a X.env)]:=by rfl):PI X (.Tuple elts x1 tp) (.Call (.Name "enumerate" p) [a] [] pos) (CS X.K ta):=by
 intro pins s σ H R I h;refine Call_ (iR I hg hm boot_enumerate (Ho (thn (ha pos pins s σ H _ I h) λus s1 ⟨vs,H1,I1,r1,q1⟩=> ?_) hs rfl));obtain⟨l,e,⟨xs,hx⟩,q⟩:=q1;subst e;obtain⟨u,rfl,ru⟩:=r1.one;cases ru;obtain⟨z,its,n,r,hl,e⟩:=I1.lstM hx;refine call_enumerate_1 e λh' he hi hsz hk=> ?_;refine wpAny_pyIter_enum he ⟨s1.heap.objs.size+1,[s1.heap.objs.size+1,s1.heap.objs.size],_,Ite X.K l,H1,rfl,I1.kept (t':=s1.toks) hk,xr l _ _ (Nat.succ_ne_self _),⟨⟨_,he⟩,hi⟩,λb hb=> ?_,q⟩;have hb':s1.heap.objs.size<=b:=by
  rcases Fh.mp hb with e|e
  .rw[e];exact Kj _
  .have e:b=s1.heap.objs.size:=by simpa using e
   rw[e];exact Fj _
 exact I1.fpOk hb' (I1.hok.fresh hb')
end
structure Cal(P:Program)(w:World)(K:PySem.W.Frag)(mg:Str->Option Value)(base:Heap)(k:Nat)(x:Str)(ps:List Str)(sp:Sp):Prop where
 ex:∃ (f:Addr) (fd:FuncData),gJ P w K mg base CX0 k f fd ps sp/\mg x=some (.ref f)/\keepIn K (.ref f)=true/\ip K fd ps []
structure aS(K:PySem.W.Frag)(mg:Str->Option Value)(x:Str)(st:Stmt)(ps:List Str):Prop where
 ex:∃ (f:Addr) (fd:FuncData),Fun K x x st f fd/\ip K fd ps []/\mg x=some (.ref f)
theorem DP{K:PySem.W.Frag}{h:Heap}{mg:Str->Option Value}{x:Str}{st:Stmt}{ps:List Str}{f:Addr}{oc:Value}{od an:Option Addr}{osl:Array (Option Value)}{kV doc pm cdv ct:Value}(X:K.In h)(G:h.Ns mainGlobals mg)
  (a:nsIn K mainGlobals x=some (some (.ref f))) (l:K.lookup f=some ⟨oc,od, .func (fnOf x x (cH st) (bj st) (aq st) .none kV doc pm an cdv ct),osl⟩)
  (c:codeIn K cdv x=true) (k:keepIn K (.ref f)=true)
  (b:∀ (kV doc pm:Value) (an:Option Addr) (cdv ct:Value) (us:List Value),us.length=ps.length->bindArgs (fnOf x x (cH st) (bj st) (aq st) .none kV doc pm an cdv ct) ⟨us,[]⟩=pure (ps.zip us)):aS K mg x st ps:=
 ⟨f,_,nz (st:=st) l c k,(nz (st:=st) l c k).binds b,HS X G a⟩
section
variable{P:Program}{w:World}{K:PySem.W.Frag}{mg:Str->Option Value}{base:Heap}
theorem aS.cal{x:Str}{st:Stmt}{N ps:List Str}{k:Nat}{sp:Sp}(D:aS K mg x st ps)(S:aE N ps (aq st))(len:∀vs H Q E,sp vs H Q E->vs.length=ps.length)
  (hbody:∀ (f:Addr) (cdv:Value) (A:Around) (outer:List Env) (s:Shared) (H:Hp) (vs:List V) (Q:VK) (E:XK),Room k (A.deeper (envOfC x (aq st) s.heap.objs.size f cdv))->sp vs H Q E->
   ∃t,PSs (rq CX0 P w K mg base N x (aq st) f cdv A outer s H E).nox (bj st) t/\t {nx:=λ_ H'=>Q .non H',rt:=Q} (start N vs) H):Cal P w K mg base (k+1) x ps sp:=by
 obtain⟨f,fd,F,b,m⟩:=D.ex;exact⟨f,fd,F.ok S len λcdv A outer s H vs Q E hr hsp=>hbody f cdv A outer s H vs Q E hr hsp,m,F.kp,b⟩
theorem Cal.mono(C:Cal P w K mg base j x ps sp)(h:j<=k):Cal P w K mg base k x ps sp:=by obtain⟨f,fd,F,m,kp,b⟩:=C.ex;exact⟨f,fd,F.mono h,m,kp,b⟩
end
section
variable{X:Cx}{x:Str}{ps:List Str}{j k:Nat}{sp:Sp}{e:Expr}{es:List Expr}{t:TA}{p pos:Pos}
theorem ao(C:Cal X.prog X.w X.K X.mg X.base j x ps sp)(hr:Room k X.A)(hjk:j<=k)(hg:Gl X x)(ha:PA X (e::es) t)(hdb:(x==("__debug__":Str))=false:=by decide)
  (he:starEach (e::es) X.env=(false,eval e X.env)::starEach es X.env:=by rfl) (hpl:(backTo pos (starEach es X.env)).any (·.1)=false:=by rfl):PE X (.Call (.Name x p) (e::es) [] pos) (CF sp [] E0 t):=by
 obtain⟨f,fd,F,m,kp,b⟩:=C.ex;exact BW F (hr.mono hjk) hg m kp b .nil sR ha hdb he hpl
end
end L2
namespace L2
open PySem PySem.Spec PyProof.Rows
theorem Same.upd{H H1:Hp}{l:Addr}{o:HO}(e:Same H H1)(h:H l=none):Same H (upd H1 l o):=λb u q=>by rw[aC (aA q h)];exact e b u q
theorem Same.new(h:H l=none):Same H (L2.upd H l o):=(Same.refl H).upd h
theorem Same.at(e:Same H H1)(h:H l=some o):H1 l=some o:=e l o h
theorem DQ{ts:List Int}{t:Int}(h0:0<=t):lK (ts.map V.int) none (some t)=(ts.take t.toNat).map V.int:=by
 obtain⟨k,rfl⟩:=Gn h0;unfold lK;show((ts.map V.int).drop (HT.sIx _ 0 none)).take (HT.sIx _ _ (some (k:Int)) -HT.sIx _ 0 none)=_;rw[HT.qH,HT.mS,E3,List.drop_zero,Nat.sub_zero,<-List.map_take];show(ts.take (min k ts.length)).map V.int=(ts.take k).map V.int;by_cases hk:k<=ts.length
 .rw[IL hk]
 .rw[Jj (by lia),Gm,Iu (by lia)]
def eS(p:Nat->Bool)(f:Nat->V)(i:Nat):List V:=((List.range i).filter p).map f
theorem vg(p:Nat->Bool)(f:Nat->V)(i:Nat):eS p f (i+1)=if p i=true then eS p f i++[f i]else eS p f i:=by unfold eS;rw[GA,Hj,FW];cases hp:p i<;>simp[hp]
theorem xQ(p:Nat->Bool)(f:Nat->V)(i:Nat):(eS p f i).length<=i:=by unfold eS;rw[E3];exact Fc (Ga _ _) (by simp)
theorem cP{lo:Int}{n:Nat}{g:TG}{tc:TT}{te:TE}{nv:Nat}{fr:List Nat}{σ:St}{H:Hp}{Q:VK}(p:Nat->Bool)(f:Nat->V)(hn:n<=sizeLine)
  (hs:∀ (i:Nat) (vs:St) (H':Hp) (R:V->St->Hp->Prop) (S:St->Hp->Prop),i<n->vs.length=nv->Same H H'->
   (∀vs' H'',vs'.length=nv->Same H' H''->if p i=true then R (f i) (vs'++fr.map λj=>(σ[j]?).join) H'' else S (vs'++fr.map λj=>(σ[j]?).join) H'')->
   g (.int (lo+i)) (vs++fr.map λj=>(σ[j]?).join) H' λσ2 H3=>tc σ2 H3 λb H4=>if b=true then te σ2 H4 λy H5=>R y σ2 H5 else S σ2 H4)
  (hd:∀D H',H D=none->Same H H'->H' D=some (.lst (eS p f n))->Q (.ref D) H'):LCW (Itr lo n) g tc te nv fr σ H Q:=by
 intro D hD;refine⟨λi m σ' H'=>m=n-i/\i<=n/\∃vs:St,vs.length=nv/\σ'=vs++(fr.map λj=>(σ[j]?).join)/\Same H H'/\H' D=some (.lst (eS p f i)),⟨n,by simp,FV _,List.replicate nv none,by simp,rfl,Same.new hD,ah⟩,?_⟩;rintro i m σ' H' ⟨rfl,hi,vs,hv,rfl,sm,hD'⟩;by_cases hlt:i<n
 .refine .inr ⟨hlt,λσ'' H''=>∃vs:St,vs.length=nv/\σ''=vs++(fr.map λj=>(σ[j]?).join)/\Same H H''/\H'' D=some (.lst (eS p f (i+1))),λσ'' H'' q=>⟨n- (i+1),Gp hlt (Gk _),rfl,hlt,q⟩,λx H2 y=> ?_⟩;obtain⟨e1,e2⟩:=y;subst e1 e2;refine hs i vs _ (λy σ2 H5=>∃xs,H5 D=some (.lst xs)/\xs.length<sizeLine/\∃vs:St,vs.length=nv/\σ2=vs++(fr.map λj=>(σ[j]?).join)/\Same H (upd H5 D (.lst (xs++[y])))/\upd H5 D (.lst (xs++[y])) D=some (.lst (eS p f (i+1)))) _ hlt hv sm λvs' H'' hv' sm'=> ?_;have e:=vg p f i;cases hp:p i with
  |true=>
   rw[hp,E9 rfl]at e;rw[E9 rfl];exact⟨_,sm' D _ hD',Ft (xQ p f i) (Fb hlt hn),vs',hv',rfl,(sm.trans sm').upd hD,by rw[ah,e]⟩
  |false=>
   rw[hp,Fg Fo]at e;rw[Fg Fo];exact⟨vs',hv',rfl,sm.trans sm',by rw[e];exact sm' D _ hD'⟩
 .have e:i=n:=Gr hi (Gh hlt);subst e;exact .inl ⟨Fj _,hd D H' hD sm hD'⟩
def dq(p:V->Bool)(f:V->V)(xs:List V):List V:=(xs.filter p).map f
theorem mW(p:V->Bool)(f:V->V)(xs:List V)(i:Nat)(x:V)(h:xs[i]?=some x):dq p f (xs.take (i+1))=if p x=true then dq p f (xs.take i)++[f x]else dq p f (xs.take i):=by unfold dq;rw[GK,h,Hj,FW];cases hp:p x<;>simp[hp]
theorem o6(p:V->Bool)(f:V->V)(xs:List V):(dq p f xs).length<=xs.length:=by unfold dq;rw[E3];exact Ga _ _
theorem bh{K:PySem.W.Frag}{a:Addr}{xs:List V}{g:TG}{tc:TT}{te:TE}{nv:Nat}{fr:List Nat}{σ:St}{H:Hp}{Q:VK}(p:V->Bool)(f:V->V)(ha:SqL K H a xs)(hn:xs.length<=sizeLine)
  (hs:∀ (i:Nat) (x:V) (vs:St) (H':Hp) (R:V->St->Hp->Prop) (S:St->Hp->Prop),xs[i]?=some x->vs.length=nv->Same H H'->
   (∀vs' H'',vs'.length=nv->Same H' H''->if p x=true then R (f x) (vs'++fr.map λj=>(σ[j]?).join) H'' else S (vs'++fr.map λj=>(σ[j]?).join) H'')->
   g x (vs++fr.map λj=>(σ[j]?).join) H' λσ2 H3=>tc σ2 H3 λb H4=>if b=true then te σ2 H4 λy H5=>R y σ2 H5 else S σ2 H4)
  (hd:∀D H',H D=none->Same H H'->H' D=some (.lst (dq p f xs))->Q (.ref D) H'):LCW (Itl K a) g tc te nv fr σ H Q:=by
 intro D hD;refine⟨λi m σ' H'=>m=xs.length-i/\i<=xs.length/\∃vs:St,vs.length=nv/\σ'=vs++(fr.map λj=>(σ[j]?).join)/\Same H H'/\H' D=some (.lst (dq p f (xs.take i))),⟨xs.length,by simp,FV _,List.replicate nv none,by simp,rfl,Same.new hD,ah⟩,?_⟩;rintro i m σ' H' ⟨rfl,hi,vs,hv,rfl,sm,hD'⟩;have ha':=sm.seq ha;by_cases hlt:i<xs.length
 .refine .inr ⟨⟨xs,xs[i],ha',by simp[hlt]⟩,λσ'' H''=>∃vs:St,vs.length=nv/\σ''=vs++(fr.map λj=>(σ[j]?).join)/\Same H H''/\H'' D=some (.lst (dq p f (xs.take (i+1)))),λσ'' H'' q=>⟨xs.length- (i+1),Gp hlt (Gk _),rfl,hlt,q⟩,λx H2 y=> ?_⟩;obtain⟨e1,e2⟩:=y;subst e1;have hx:=e2 xs ha';refine hs i x vs _ (λy σ2 H5=>∃xs',H5 D=some (.lst xs')/\xs'.length<sizeLine/\∃vs:St,vs.length=nv/\σ2=vs++(fr.map λj=>(σ[j]?).join)/\Same H (upd H5 D (.lst (xs'++[y])))/\upd H5 D (.lst (xs'++[y])) D=some (.lst (dq p f (xs.take (i+1))))) _ hx hv sm λvs' H'' hv' sm'=> ?_;have e:=mW p f xs i x hx;cases hp:p x with
  |true=>
   rw[hp,E9 rfl]at e;rw[E9 rfl];refine⟨_,sm' D _ hD',Ft (o6 p f _) ?_,vs',hv',rfl,(sm.trans sm').upd hD,by rw[ah,e]⟩;rw[FP];lia
  |false=>
   rw[hp,Fg Fo]at e;rw[Fg Fo];exact⟨vs',hv',rfl,sm.trans sm',by rw[e];exact sm' D _ hD'⟩
 .have e:i=xs.length:=Gr hi (Gh hlt);subst e;refine .inl ⟨⟨xs,ha',Fj _⟩,hd D H' hD sm ?_⟩;rw[Gm]at hD';exact hD'
def dA(p:Nat->V->Bool)(f:Nat->V->V):Nat->List V->List V
 |_,[]=>[]
 |i,x::r=>if p i x=true then f i x::dA p f (i+1) r else dA p f (i+1) r
theorem mX(p:Nat->V->Bool)(f:Nat->V->V):∀ (i:Nat) (xs:List V) (x:V),dA p f i (xs++[x])=if p (i+xs.length) x=true then dA p f i xs++[f (i+xs.length) x]else dA p f i xs
 |i,[],x=>by simp[dA]
 |i,y::r,x=>by
  have e:i+(y::r).length=i+1+r.length:=by simp;lia
  rw[J3,dA,mX p f (i+1) r x,e]
  conv=>rhs;rw[dA]
  by_cases h1:p i y=true<;>by_cases h2:p (i+1+r.length) x=true<;>simp[h1,h2]
theorem o7(p:Nat->V->Bool)(f:Nat->V->V):∀ (i:Nat) (xs:List V),(dA p f i xs).length<=xs.length
 |_,[]=>Fj _
 |i,x::r=>by have:=o7 p f (i+1) r;rw[dA];split<;>simp<;>lia
theorem AL{K:PySem.W.Frag}{a:Addr}{xs:List V}{g:TG}{tc:TT}{te:TE}{nv:Nat}{fr:List Nat}{σ:St}{H:Hp}{Q:VK}(p:Nat->V->Bool)(f:Nat->V->V)(ha:SqL K H a xs)(hn:xs.length<=sizeLine)
  (hs:∀ (i:Nat) (x:V) (t:Addr) (vs:St) (H':Hp) (R:V->St->Hp->Prop) (S:St->Hp->Prop),xs[i]?=some x->vs.length=nv->Same H H'->H' t=some (.tup [.int (i:Nat),x])->
   (∀vs' H'',vs'.length=nv->Same H' H''->if p i x=true then R (f i x) (vs'++fr.map λj=>(σ[j]?).join) H'' else S (vs'++fr.map λj=>(σ[j]?).join) H'')->
   g (.ref t) (vs++fr.map λj=>(σ[j]?).join) H' λσ2 H3=>tc σ2 H3 λb H4=>if b=true then te σ2 H4 λy H5=>R y σ2 H5 else S σ2 H4)
  (hd:∀D H',H D=none->Same H H'->H' D=some (.lst (dA p f 0 xs))->Q (.ref D) H'):LCW (Ite K a) g tc te nv fr σ H Q:=by
 intro D hD;refine⟨λi m σ' H'=>m=xs.length-i/\i<=xs.length/\∃vs:St,vs.length=nv/\σ'=vs++(fr.map λj=>(σ[j]?).join)/\Same H H'/\H' D=some (.lst (dA p f 0 (xs.take i))),⟨xs.length,by simp,FV _,List.replicate nv none,by simp,rfl,Same.new hD,ah⟩,?_⟩;rintro i m σ' H' ⟨rfl,hi,vs,hv,rfl,sm,hD'⟩;have ha':=sm.seq ha;by_cases hlt:i<xs.length
 .refine .inr ⟨⟨xs,xs[i],ha',by simp[hlt]⟩,λσ'' H''=>∃vs:St,vs.length=nv/\σ''=vs++(fr.map λj=>(σ[j]?).join)/\Same H H''/\H'' D=some (.lst (dA p f 0 (xs.take (i+1)))),λσ'' H'' q=>⟨xs.length- (i+1),Gp hlt (Gk _),rfl,hlt,q⟩,λx H2 y=> ?_⟩;obtain⟨t,e1,ht,v,e2,e3⟩:=y;subst e1 e3;have hx:=e2 xs ha';have sm1:Same H' (upd H' t (.tup [.int (i:Nat),v])):=Same.new ht;refine hs i v t vs _ (λy σ2 H5=>∃xs',H5 D=some (.lst xs')/\xs'.length<sizeLine/\∃vs:St,vs.length=nv/\σ2=vs++(fr.map λj=>(σ[j]?).join)/\Same H (upd H5 D (.lst (xs'++[y])))/\upd H5 D (.lst (xs'++[y])) D=some (.lst (dA p f 0 (xs.take (i+1))))) _ hx hv (sm.trans sm1) ah λvs' H'' hv' sm'=> ?_;have e:dA p f 0 (xs.take (i+1))=if p i v=true then dA p f 0 (xs.take i)++[f i v]else dA p f 0 (xs.take i):=by rw[GK,hx];show dA p f 0 (xs.take i++[v])=_;rw[mX,FP,IL hi,IS]
  have hD'':=sm' D _ (sm1 D _ hD');cases hp:p i v with
  |true=>
   rw[hp,E9 rfl]at e;rw[E9 rfl];refine⟨_,hD'',Ft (o7 p f _ _) ?_,vs',hv',rfl,((sm.trans sm1).trans sm').upd hD,by rw[ah,e]⟩;rw[FP];lia
  |false=>
   rw[hp,Fg Fo]at e;rw[Fg Fo];exact⟨vs',hv',rfl,(sm.trans sm1).trans sm',by rw[e];exact hD''⟩
 .have e:i=xs.length:=Gr hi (Gh hlt);subst e;refine .inl ⟨⟨xs,ha',Fj _⟩,hd D H' hD sm ?_⟩;rw[Gm]at hD';exact hD'
end L2
namespace L2
open PySem PySem.Spec PyProof.Rows
inductive RdN(K:PySem.W.Frag)(xs:List V)(H:Hp)(Q:VK):Prop
 |mk (p:Addr) (ys:List V) (e:xs=[.ref p]) (s:SqL K H p ys\/SqT K H p ys) (q:Q (.int ys.length) H):RdN K xs H Q
def Ef(K:PySem.W.Frag):List V->Hp->VK->Prop:=λxs H Q=>RdN K xs H Q
def BL(K:PySem.W.Frag):List V->Hp->VK->Prop:=λxs H Q=>∃p ys,xs=[.ref p]/\(SqL K H p ys\/SqT K H p ys)/\∀l,H l=none->Q (.ref l) (upd H l (.lst ys))
section
variable{X:Cx}{K:PySem.W.Frag}
theorem av(h:X.K=K):IxR X (BM K):=by subst h;exact Ce
theorem fW(h:X.K=K):IxR X (Eg K):=by subst h;exact DK
theorem mZ(h:X.K=K):OpR X (compareOp .In) (rIn K false):=by subst h;exact xT
theorem f9(h:X.K=K):OpR X (compareOp .NotIn) (rIn K true):=by subst h;exact qT
theorem aM(h:X.K=K):b7 X (.builtin "len") (Ef K):=by subst h;intro pins s σ H xs us Q I r hq;obtain⟨p,ys,e,hs,q⟩:=hq;exact rJ pins s σ H xs us Q I r ⟨p,ys,e,hs,q⟩
theorem oH(h:X.K=K):b7 X (.type "list") (BL K):=by subst h;exact rH
theorem gG(h:X.K=K):b7 X (.builtin "isinstance") (Eh K):=by subst h;exact ue
theorem yO(h:X.K=K)(hc:X.calm=true):b7 X (.builtin "sum") (Ed K):=by subst h;exact Bg hc
theorem ja(h:X.K=K):SlR X (Ee K):=by subst h;exact BE
theorem BX{o:Expr}{to:TE}{name:Str}{apos cpos:Pos}{T id:String}{r:V->List V->Hp->VK->Prop}(h:X.K=K)(pa:PlainAttrs T)(slot:Slot T name id)(hty:typeOf (.builtin id)=pure (.type "method_descriptor"))(hm:MtR X id r)(ho:PE X o to)
  (hbase:attributeBase o name X.env (eval o X.env)=eval o X.env:=by rfl) (hline:(apos.endLine==cpos.line)=true:=by rfl):PE X (.Call (.Attribute o name apos) [] [] cpos) (D8 K T r to):=by subst h;exact Du pa slot hty hm ho hbase hline
theorem gZ{o e:Expr}{es:List Expr}{to:TE}{t:TA}{name:Str}{apos cpos:Pos}{T id:String}{r:V->List V->Hp->VK->Prop}(h:X.K=K)(pa:PlainAttrs T)(slot:Slot T name id)(hty:typeOf (.builtin id)=pure (.type "method_descriptor"))(hm:MtR X id r)(ho:PE X o to)(ha:PA X (e::es) t)
  (hbase:attributeBase o name X.env (eval o X.env)=eval o X.env:=by rfl)
  (hfew:((backTo cpos (starEach (e::es) X.env)).all (λx=> !x.1)&&(backToKw cpos (keywordEach [] X.env)).all (λx=>x.1.isSome)
   &&decide ((e::es).length+([]:List Keyword).length+(if([]:List Keyword).isEmpty then 0 else 1)<30))=true:=by rfl)
  (hline:(apos.endLine==cpos.line)=true:=by rfl) (hs:starEach (e::es) X.env=(false,eval e X.env)::starEach es X.env:=by rfl) (hplain:(backTo cpos (starEach es X.env)).any (·.1)=false:=by rfl):
  PE X (.Call (.Attribute o name apos) (e::es) [] cpos) (tBM K T r to t):=by subst h;exact Ek pa slot hty hm ho ha hbase hfew hline hs hplain
theorem aF(h:X.K=K)(hl:PE X l tl):PI X tg l (CQ K tl):=by subst h;exact BR hl
theorem wU(h:X.K=K)(hl:PE X l tl):PI X tg l (Et K tl):=by subst h;exact Dm hl
theorem sP{elts:List Expr}{x1:Nat}{tp:Pos}{a:Expr}{ta:TA}{p pos:Pos}(h:X.K=K)(hg:Gl X "enumerate")(hm:X.mg "enumerate"=none)(ha:PA X [a] ta)(hs:starEach [a] X.env=[(false,eval a X.env)]:=by rfl):
  PI X (.Tuple elts x1 tp) (.Call (.Name "enumerate" p) [a] [] pos) (CS K ta):=by subst h;exact BS hg hm ha hs
theorem lZ{es:List Expr}{k:Nat}{t:TGs}{n:Nat}{pos:Pos}(h:X.K=K)(hc:X.calm=true)(hp:PGs X es t)(hn:(assignEach es X.env).length=n:=by rfl)(hst:(assignEach es X.env).findIdx? (·.1)=none:=by rfl):
  PG X (.Tuple es k pos) (Ew K n t):=by subst h;exact Dp hc hp hn hst
end
end L2
namespace L2
open PySem PySem.Spec PyProof.Rows
def pS(H H':Hp):Prop:=∀b xs,H b=some (.tup xs)->H' b=some (.tup xs)
theorem Same.tups(e:Same H H'):pS H H':=λb xs h=>e b _ h
theorem pS.trans(a:pS H H1)(b:pS H1 H2):pS H H2:=λc o h=>b c o (a c o h)
def Tups(H:Hp)(xs:List V)(ps:List (Int×Int)):Prop:=Paired (λx (q:Int×Int)=>∃t,x=V.ref t/\H t=some (.tup [.int q.1, .int q.2])) xs ps
theorem Tups.same(h:Tups H xs ps)(e:pS H H'):Tups H' xs ps:=Paired.mapP h λ_ _ ⟨t,h1,h2⟩=>⟨t,h1,e t _ h2⟩
theorem Tups.len{xs:List V}{ps:List (Int×Int)}(h:Tups H xs ps):xs.length=ps.length:=JQ h
theorem Paired.at:∀ {a:List α} {b:List β} {i:Nat} {x:α},Paired F a b->a[i]?=some x->∃y,b[i]?=some y/\F x y
 |_,_,_,_, .nil,h=>by simp at h
 |a::_,b::_,0,x, .cons r t,h=>by
  have e:a=x:=by simpa using h
  subst e;exact⟨b,rfl,r⟩
 |_,_,i+1,x, .cons r t,h=>by obtain⟨y,h1,h2⟩:=Paired.at (i:=i) t (by simpa using h);exact⟨y,by simpa using h1,h2⟩
end L2
namespace L2
open PySem PySem.Spec PyProof.Rows
structure eZ(K:PySem.W.Frag)(m qual:Str)(st:Stmt)(ps:List Str)(f:Addr):Prop where
 ex:∃fd:FuncData,Fun K m qual st f fd/\ip K fd ps []
theorem DD{K:PySem.W.Frag}{m qual:Str}{st:Stmt}{ps:List Str}{f:Addr}{oc:Value}{od an:Option Addr}{osl:Array (Option Value)}{kV doc pm cdv ct:Value}
  (l:K.lookup f=some ⟨oc,od, .func (fnOf m qual (cH st) (bj st) (aq st) .none kV doc pm an cdv ct),osl⟩) (c:codeIn K cdv qual=true) (k:keepIn K (.ref f)=true)
  (b:∀ (kV doc pm:Value) (an:Option Addr) (cdv ct:Value) (us:List Value),us.length=ps.length->bindArgs (fnOf m qual (cH st) (bj st) (aq st) .none kV doc pm an cdv ct) ⟨us,[]⟩=pure (ps.zip us)):eZ K m qual st ps f:=
 ⟨_,nz (st:=st) l c k,(nz (st:=st) l c k).binds b⟩
structure dU(P:Program)(w:World)(K:PySem.W.Frag)(mg:Str->Option Value)(base:Heap)(k:Nat)(f:Addr)(ps:List Str)(sp:Sp):Prop where
 ex:∃fd:FuncData,gJ P w K mg base CX0 k f fd ps sp/\ip K fd ps []
 kp:keepIn K (.ref f)=true
structure dH(P:Program)(w:World)(K:PySem.W.Frag)(mg:Str->Option Value)(base:Heap)(k:Nat)(C:Addr)(m:Str)(ps:List Str)(sp:Sp):Prop where
 cl:Cls K C
 ex:∃f,Meth K C m f/\dU P w K mg base k f ps sp
structure jQ(P:Program)(w:World)(K:PySem.W.Frag)(mg:Str->Option Value)(base:Heap)(k:Nat)(x:Str)(C:Addr)(ps:List Str)(sp:Sp):Prop where
 ex:∃f,Mk K C f/\dU P w K mg base k f ps sp
 g:mg x=some (.ref C)
structure yY(P:Program)(w:World)(K:PySem.W.Frag)(mg:Str->Option Value)(base:Heap)(k:Nat)(C:Addr)(m:Str)(ps:List Str)(sp:Sp):Prop where
 ex:∃f,dU P w K mg base k f ps sp/\PySem.W.findCls K (.ref C) (.type "type") m=some (.val (.ref f))
 ga:specialIn K (.ref C) "__getattribute__"=some (some (.builtin "type.__getattribute__"))
 rd:PySem.W.readsIn K C (.type "type")=true
section
variable{P:Program}{w:World}{K:PySem.W.Frag}{mg:Str->Option Value}{base:Heap}
theorem eZ.fn{m qual:Str}{st:Stmt}{N ps:List Str}{k:Nat}{sp:Sp}{f:Addr}(D:eZ K m qual st ps f)(S:aE N ps (aq st))(len:∀vs H Q E,sp vs H Q E->vs.length=ps.length)
  (hbody:∀ (cdv:Value) (A:Around) (outer:List Env) (s:Shared) (H:Hp) (vs:List V) (Q:VK) (E:XK),Room k (A.deeper (envOfC qual (aq st) s.heap.objs.size f cdv))->sp vs H Q E->
   ∃t,PSs (rq CX0 P w K mg base N qual (aq st) f cdv A outer s H E).nox (bj st) t/\t {nx:=λ_ H'=>Q .non H',rt:=Q} (start N vs) H):dU P w K mg base (k+1) f ps sp:=by
 obtain⟨fd,F,b⟩:=D.ex;exact⟨⟨fd,F.ok S len hbody,b⟩,F.kp⟩
theorem dU.mono(C:dU P w K mg base j f ps sp)(h:j<=k):dU P w K mg base k f ps sp:=by obtain⟨⟨fd,F,b⟩,kp⟩:=C;exact⟨⟨fd,F.mono h,b⟩,kp⟩
end
inductive RdM(Dom:Addr->Prop)(m:Str)(spf:Addr->Sp)(t:TA)(σ:St)(Q:VK)(x:V)(H:Hp):Prop
 |mk (a C dx:Addr) (fs:List (Str×V)) (e:x= .ref a) (h:H a=some (.ins C dx fs)) (d:Dom C) (l:fs.lookup m=none) (q:t σ H λvs H2=>spf C (x::vs) H2 Q E0):RdM Dom m spf t σ Q x H
def zx(Dom:Addr->Prop)(m:Str)(spf:Addr->Sp)(ta:TE)(t:TA):TE:=λσ H Q=>ta σ H (RdM Dom m spf t σ Q)
def D7(C:Addr)(sp:Sp)(ta:TE)(t:TA):TE:=λσ H Q=>ta σ H λx H1=>x= .ref C/\t σ H1 λvs H2=>sp vs H2 Q E0
section
variable{X:Cx}{j k:Nat}{C:Addr}{x m:Str}{ps:List Str}{sp:Sp}{Dom:Addr->Prop}{spf:Addr->Sp}{e o:Expr}{es:List Expr}{ta:TE}{t:TA}{p pos apos:Pos}
theorem fQ{pl:Sem Bool}(M:∀C,Dom C->dH X.prog X.w X.K X.mg X.base j C m ps (spf C))(hr:Room k X.A)(hjk:j<=k)(he:PE X o ta)(ha:PA X (e::es) t)
  (hst:starEach (e::es) X.env=(false,eval e X.env)::starEach es X.env:=by rfl) (hpl:(backTo pos (starEach es X.env)).any (·.1)=false:=by rfl)
  (ht:eval (.Call (.Attribute o m apos) (e::es) [] pos) X.env=(do
   let ov<-eval o X.env
   standAt apos.atName
   let(f,first)<-holding [ov] (getMethod ov m pl)
   callWith pos f first (backTo pos (starEach (e::es) X.env)) (backToKw pos (keywordEach [] X.env))):=by rfl):
  PE X (.Call (.Attribute o m apos) (e::es) [] pos) (zx Dom m spf ta t):=by
 intro pins s σ H Q I h;refine Jo (pl:=pl) (thn (he pins s σ H _ I h) λu s1 hq_=> ?_) ht;obtain⟨x,H1,I1,rx,a,C,dx,fs,ex,ea,dm,l,q⟩:=hq_;subst ex;obtain rfl:u=Value.ref a:=rx;obtain⟨c,f,hm,⟨fd,F,hb⟩,kp⟩:=M C dm;refine ny I1 ea c hm l ?_;refine IP (first:=[.ref a]) (h₀:=X.base) I.ok.mod.kin hm.kp (thn (ha pos pins s1 σ H1 _ I1 q) λus s2 ⟨vs,H2,I2,r,q2⟩=>⟨I2.kIn,?_⟩) hst hpl;exact qI (us:= .ref a::us) (vs:= .ref a::vs) (dvs:=[]) F (hr.mono hjk) hb .nil sR I2 (.cons rfl r) (by rw[GX];exact q2)
theorem fD{pl:Sem Bool}(M:∀C,Dom C->dH X.prog X.w X.K X.mg X.base j C m ps (spf C))(hr:Room k X.A)(hjk:j<=k)(he:PE X o ta)
  (ht:eval (.Call (.Attribute o m apos) [] [] pos) X.env=(do
   let ov<-eval o X.env
   standAt apos.atName
   let(f,first)<-holding [ov] (getMethod ov m pl)
   callWith pos f first (backTo pos (starEach [] X.env)) (backToKw pos (keywordEach [] X.env))):=by rfl):
  PE X (.Call (.Attribute o m apos) [] [] pos) (zx Dom m spf ta DZ):=by
 intro pins s σ H Q I h;refine Jo (pl:=pl) (thn (he pins s σ H _ I h) λu s1 hq_=> ?_) ht;obtain⟨x,H1,I1,rx,a,C,dx,fs,ex,ea,dm,l,q⟩:=hq_;subst ex;obtain rfl:u=Value.ref a:=rx;obtain⟨c,f,hm,⟨fd,F,hb⟩,kp⟩:=M C dm;refine ny I1 ea c hm l ?_;exact PySem.W.callWith_K0 (first:=[.ref a]) I1.kIn hm.kp (qI (us:=[.ref a]) (vs:=[.ref a]) (dvs:=[]) F (hr.mono hjk) hb .nil sR I1 (.cons rfl .nil) q)
theorem iL(M:jQ X.prog X.w X.K X.mg X.base j x C ps sp)(hr:Room k X.A)(hjk:j+1<=k)(hg:Gl X x)(ha:PA X (e::es) t)(hdb:(x==("__debug__":Str))=false:=by decide)
  (he:starEach (e::es) X.env=(false,eval e X.env)::starEach es X.env:=by rfl) (hpl:(backTo pos (starEach es X.env)).any (·.1)=false:=by rfl):PE X (.Call (.Name x p) (e::es) [] pos) (CC C sp [] E0 t):=by
 obtain⟨⟨f,mk,⟨fd,F,b⟩,kp⟩,g⟩:=M;exact BU mk F (hr.mono hjk) hg g b .nil sR ha hdb he hpl
theorem jk{pl:Sem Bool}(M:yY X.prog X.w X.K X.mg X.base j C m ps sp)(hr:Room k X.A)(hjk:j<=k)(he:PE X o ta)(ha:PA X (e::es) t)
  (hst:starEach (e::es) X.env=(false,eval e X.env)::starEach es X.env:=by rfl) (hpl:(backTo pos (starEach es X.env)).any (·.1)=false:=by rfl)
  (ht:eval (.Call (.Attribute o m apos) (e::es) [] pos) X.env=(do
   let ov<-eval o X.env
   standAt apos.atName
   let(f,first)<-holding [ov] (getMethod ov m pl)
   callWith pos f first (backTo pos (starEach (e::es) X.env)) (backToKw pos (keywordEach [] X.env))):=by rfl):
  PE X (.Call (.Attribute o m apos) (e::es) [] pos) (D7 C sp ta t):=by
 intro pins s σ H Q I h;refine Jo (pl:=pl) (thn (he pins s σ H _ I h) λu s1 ⟨x,H1,I1,rx,ex,q⟩=> ?_) ht;subst ex;obtain rfl:u=Value.ref C:=rx;obtain⟨⟨f,⟨⟨fd,F,hb⟩,kp⟩,hf⟩,ga,rd⟩:=M;refine PySem.W.method_cls I1.kIn ga (PySem.W.cls_value I1.kIn rd hf rfl ?_);have I1':=I1.tok (s1.toks+1);refine IP (first:=[]) (h₀:=X.base) I.ok.mod.kin kp (thn (ha pos pins _ σ H1 _ I1' q) λus s2 ⟨vs,H2,I2,r,q2⟩=>⟨I2.kIn,?_⟩) hst hpl;exact qI (us:=us) (vs:=vs) (dvs:=[]) F (hr.mono hjk) hb .nil sR I2 r (by rw[GX];exact q2)
variable{K:PySem.W.Frag}{f:Str}{value:Expr}{tv:TE}{pos':Pos}
theorem de(h:X.K=K)(he:PE X e ta)(hb:attributeBase e f X.env (eval e X.env)=eval e X.env):PE X (.Attribute e f pos) (D3 K ta f):=by subst h;exact Dt he hb
theorem eJ(h:X.K=K)(ha:PE X o ta)(hv:PE X value tv)(hs:swapsWith value (some (.Attribute o f pos')) pos.line X.env=pure false):PS X (.Assign [.Attribute o f pos'] value pos) (Eb K ta tv f):=by subst h;exact Dj ha hv hs
def CK(K:PySem.W.Frag):List V->Hp->VK->Prop:=λxs H Q=>∃ (a:Addr) (ns:List Int),xs=[.ref a]/\SqL K H a (ns.map V.int)/\ns≠[]/\∀m∈ns,(∀z∈ns,z<=m)->Q (.int m) H
theorem yQ(hc:X.calm=true):b7 X (.builtin "max") (CK X.K):=by
 intro pins s σ H vs us Q I rv h;obtain⟨a,ns,rfl,ha,hne,q⟩:=h;obtain⟨u,rfl,ru⟩:=rv.one;cases ru;obtain⟨is,r1,p1,_⟩:=I.list ha;have hi:=fH r1;obtain⟨xs,ex⟩:=hi.allInts.items;have hl:=p1.isList;rw[ex]at hl;have en:numsOf (intItems xs).toList=ns:=by rw[<-ex];exact hi.numsOf
 rw[nums_intItems]at en;have hsz:xs.size=ns.length:=by rw[<-en];simp
 have hpos:0<ns.length:=by
  cases ns with
  |nil=>exact absurd rfl hne
  |cons _ _=>simp
 have num:∀i,i<ns.length->ns[i]?=some (numAt xs i):=λi hi'=>by
  unfold numAt;rw[<-en,Fm,Jp];have:i<xs.size:=by lia
  rw[Array.getElem?_eq_getElem this];rfl
 refine max_intList (I.ok.hd hc) hl (by lia) λv h' tk hv hk=> ?_;obtain⟨t,rfl⟩:=intItems_at hv;obtain⟨b1,b2⟩:=argBest_gt (numAt xs) (xs.size-1);refine⟨.int (numAt xs (argBest (λi j=>decide (numAt xs i>numAt xs j)) (xs.size-1))),H,I.kept hk,⟨_,rfl⟩,q _ ?_ λz hz=> ?_⟩
 .exact E7 (num _ (by lia))
 .obtain⟨i,hi'⟩:=Gw hz;have hil:i<ns.length:=(Fd.mp hi').1;rw[num i hil]at hi';cases hi';exact b2 i (by lia)
theorem iT(h:X.K=K)(hc:X.calm=true):b7 X (.builtin "max") (CK K):=by subst h;exact yQ hc
variable{a b:Expr}{rest:List Expr}{tb:TE}
end
theorem Cc{K:PySem.W.Frag}{a:Addr}{xs:List V}{g:TG}{tc:TT}{te:TE}{nv:Nat}{fr:List Nat}{σ:St}{H:Hp}{Q:VK}(p:V->Bool)(f:V->V)(ha:H a=some (.tup xs))(hn:xs.length<=sizeLine)
  (hs:∀ (i:Nat) (x:V) (vs:St) (H':Hp) (R:V->St->Hp->Prop) (S:St->Hp->Prop),xs[i]?=some x->vs.length=nv->Same H H'->
   (∀vs' H'',vs'.length=nv->Same H' H''->if p x=true then R (f x) (vs'++fr.map λj=>(σ[j]?).join) H'' else S (vs'++fr.map λj=>(σ[j]?).join) H'')->
   g x (vs++fr.map λj=>(σ[j]?).join) H' λσ2 H3=>tc σ2 H3 λb H4=>if b=true then te σ2 H4 λy H5=>R y σ2 H5 else S σ2 H4)
  (hd:∀D H',H D=none->Same H H'->H' D=some (.lst (dq p f xs))->Q (.ref D) H'):LCW (Itt K a) g tc te nv fr σ H Q:=by
 intro D hD;refine⟨λi m σ' H'=>m=xs.length-i/\i<=xs.length/\∃vs:St,vs.length=nv/\σ'=vs++(fr.map λj=>(σ[j]?).join)/\Same H H'/\H' D=some (.lst (dq p f (xs.take i))),⟨xs.length,by simp,FV _,List.replicate nv none,by simp,rfl,Same.new hD,ah⟩,?_⟩;rintro i m σ' H' ⟨rfl,hi,vs,hv,rfl,sm,hD'⟩;have ha':SqT K H' a xs:=SqT.of (sm.at ha);by_cases hlt:i<xs.length
 .refine .inr ⟨⟨xs,xs[i],ha',by simp[hlt]⟩,λσ'' H''=>∃vs:St,vs.length=nv/\σ''=vs++(fr.map λj=>(σ[j]?).join)/\Same H H''/\H'' D=some (.lst (dq p f (xs.take (i+1)))),λσ'' H'' q=>⟨xs.length- (i+1),Gp hlt (Gk _),rfl,hlt,q⟩,λx H2 y=> ?_⟩;obtain⟨e1,e2⟩:=y;subst e1;have hx:=e2 xs ha';refine hs i x vs _ (λy σ2 H5=>∃xs',H5 D=some (.lst xs')/\xs'.length<sizeLine/\∃vs:St,vs.length=nv/\σ2=vs++(fr.map λj=>(σ[j]?).join)/\Same H (upd H5 D (.lst (xs'++[y])))/\upd H5 D (.lst (xs'++[y])) D=some (.lst (dq p f (xs.take (i+1))))) _ hx hv sm λvs' H'' hv' sm'=> ?_;have e:=mW p f xs i x hx;cases hp:p x with
  |true=>
   rw[hp,E9 rfl]at e;rw[E9 rfl];refine⟨_,sm' D _ hD',Ft (o6 p f _) ?_,vs',hv',rfl,(sm.trans sm').upd hD,by rw[ah,e]⟩;rw[FP];lia
  |false=>
   rw[hp,Fg Fo]at e;rw[Fg Fo];exact⟨vs',hv',rfl,sm.trans sm',by rw[e];exact sm' D _ hD'⟩
 .have e:i=xs.length:=Gr hi (Gh hlt);subst e;refine .inl ⟨⟨xs,ha',Fj _⟩,hd D H' hD sm ?_⟩;rw[Gm]at hD';exact hD'
theorem aR(f:Str)(v:V)(fs:List (Str×V)):(bq f v fs).lookup f=some v:=by rw[fS,E9 rfl]
theorem aJ(v:V)(fs:List (Str×V))(h:¬g=f):(bq f v fs).lookup g=fs.lookup g:=by rw[fS,Fg h]
end L2
namespace L2
open PySem PySem.Spec PyProof.Rows
def Df(K:PySem.W.Frag):List V->Hp->VK->Prop:=λxs H Q=>∃p ys,xs=[.ref p]/\((SqL K H p ys/\∀l,H l=none->Q (.ref l) (upd H l (.tup ys)))\/(SqT K H p ys/\Q (.ref p) H))
theorem dR{X:Cx}{K:PySem.W.Frag}(h:X.K=K):b7 X (.type "tuple") (Df K):=by subst h;exact oG
structure TyC(K:PySem.W.Frag)(C:Addr):Prop where
 ha:findIn K (.ref C) "__class__"=some (some (.builtin "object.__class__"))
 hn:specialIn K (.builtin "object.__class__") "__get__"=some (some (.builtin "getset_descriptor.__get__"))
 ht:takesIn K (.builtin "object.__class__")=some true
 hm:mroIn K C (.type "object")=some true
theorem TyC.ty{K:PySem.W.Frag}{C:Addr}{H:Hp}{a dx:Addr}{fs:List (Str×V)}(t:TyC K C)(c:Cls K C)(e:H a=some (.ins C dx fs)):jM K H (.ref a) (.ref C):= .ins e c t.ha t.hn t.ht t.hm
end L2
namespace L2
theorem ke{σ:St}(Pm:St->Hp->Prop)(hrest:∀σ' H',Pm σ' H'->u D σ' H')(h:(∀σ' H',Pm σ' H'->u D σ' H')->t {D with nx:=u D} (σ.set i (some v)) H):bU i v σ H (Bx t u D):=h hrest
theorem sE{σ:St}(Pm:St->Hp->Prop)(hrest:∀σ' H',Pm σ' H'->u D σ' H')(h:(∀σ' H',Pm σ' H'->u D σ' H')->t {D with nx:=u D} (σ.set i (some c)) H):Bx (zy (tC c) (bU i)) (Bx t u) D σ H:=h hrest
end L2
namespace L2
open PySem PySem.Spec PyProof.Rows
section
variable{prog:Program}{w:World}{A:Around}{E:Value->Shared->Prop}{s:Shared}
end
end L2
namespace L2
open PySem PySem.Spec PyProof.Rows
section
variable{X:Cx}{tg:Expr}
def EG(ta:TA):TE:=λσ H Q=>ta σ H λvs H1=>∃j:Int,vs=[.int j]/\∀p,H1 p=none->Q (.ref p) (upd H1 p (.rng 0 j))
theorem Dr{a:Expr}{ta:TA}{p pos:Pos}(hg:Gl X "range")(hm:X.mg "range"=none)(ha:PA X [a] ta)(hs:starEach [a] X.env=[(false,eval a X.env)]:=by rfl):PE X (.Call (.Name "range" p) [a] [] pos) (EG ta):=by
 intro pins s σ H Q I h;refine Call_ (iR I hg hm boot_range (Ho (thn (ha pos pins s σ H _ I h) λus s1 ⟨vs,H1,I1,r1,q1⟩=> ?_) hs rfl));obtain⟨j,e,q⟩:=q1;subst e;cases r1 with
 |cons r rr=>
  cases rr;obtain⟨t,rfl⟩:=r;refine call_range_1 ?_;exact⟨.ref s1.heap.objs.size,_,I1.laid (λb o e=>FF _ e) (Fj _) (show b6 X.prog X.w _ _ _ (.rng 0 j)from⟨_,_,_,FZ _ rfl⟩),rfl,q _ (I1.hok.fresh (Fj _))⟩
end
end L2
namespace L2
open PySem PySem.Spec PyProof.Rows
theorem xK(bs:List Bool):(List.range bs.length).all (λi=>bs.getD i true)=bs.all id:=by
 rw[Gz,GQ,GQ];constructor
 .intro h b hb;obtain⟨i,hi⟩:=Gw hb;have hil:i<bs.length:=(Fd.mp hi).1;have:=h i (Fl.mpr hil);rw[Ff,hi]at this;exact this
 .intro h i hi;have hil:=Fl.mp hi;rw[Ff,Fs hil];exact h _ (Gj hil)
theorem xJ(bs:List Bool):(List.range bs.length).any (λi=>bs.getD i true)=bs.any id:=by
 rw[Gz,Ih,Ih];constructor
 .rintro⟨i,hi,h⟩;have hil:=Fl.mp hi;rw[Ff,Fs hil]at h;exact⟨_,Gj hil,h⟩
 .rintro⟨b,hb,h⟩;obtain⟨i,hi⟩:=Gw hb;have hil:i<bs.length:=(Fd.mp hi).1;refine⟨i,Fl.mpr hil,?_⟩;rw[Ff,hi];exact h
section
variable{X:Cx}
theorem kU{bs:List Bool}{its:List Value}(r:Vals (bs.map V.bl) its):TruthOf prog w A (λi v=>its.toArray[i]?=some v) (λi=>bs.getD i true):=by
 intro i v s Q E hP hQ;have hv:its[i]?=some v:=by simpa using hP
 have hil:i<its.length:=(Fd.mp hv).1;have hl:=r.length;rw[E3]at hl;have hb:(bs.map V.bl)[i]?=some (V.bl (bs.getD i true)):=by rw[Fm,Ff,Fs (show i<bs.length by lia)];rfl
 obtain⟨u,hu,ru⟩:=r.get hb;rw[hv]at hu;cases hu;cases ru;exact HV hQ
def CM(K:PySem.W.Frag):List V->Hp->VK->Prop:=λxs H Q=>∃ (a:Addr) (bs:List Bool),xs=[.ref a]/\SqL K H a (bs.map V.bl)/\Q (.bl (bs.all id)) H
def CL(K:PySem.W.Frag):List V->Hp->VK->Prop:=λxs H Q=>∃ (a:Addr) (bs:List Bool),xs=[.ref a]/\SqL K H a (bs.map V.bl)/\Q (.bl (bs.any id)) H
theorem yT(hc:X.calm=true):b7 X (.builtin "all") (CM X.K):=by
 intro pins s σ H vs us Q I rv h;obtain⟨a,bs,rfl,ha,q⟩:=h;obtain⟨u,rfl,ru⟩:=rv.one;cases ru;obtain⟨its,r1,p1,_⟩:=I.list ha;have hl:=p1.isList;have hlt:a<s.heap.objs.size:=by obtain⟨_,e,_⟩:=hl;exact Fz e
 have len:=r1.length;rw[E3]at len;refine call_all_walk (Jd hl ⟨s.heap.objs.size,[s.heap.objs.size,a],[s.heap.objs.size],its.toArray.size,_,_,λi=>bs.getD i true,rfl,Walks.list (A:=X.A.in1) (I.ok.hd hc) _ a (FN hlt) its.toArray,⟨⟨_,FZ _ rfl,rfl,rfl⟩,hl.push _⟩,kU r1,λh' tk hk=> ?_⟩);refine⟨.bl (bs.all id),H,I.kept (old_kept hk),?_,q⟩;rw[F3,<-len,xK];rfl
theorem yS(hc:X.calm=true):b7 X (.builtin "any") (CL X.K):=by
 intro pins s σ H vs us Q I rv h;obtain⟨a,bs,rfl,ha,q⟩:=h;obtain⟨u,rfl,ru⟩:=rv.one;cases ru;obtain⟨its,r1,p1,_⟩:=I.list ha;have hl:=p1.isList;have hlt:a<s.heap.objs.size:=by obtain⟨_,e,_⟩:=hl;exact Fz e
 have len:=r1.length;rw[E3]at len;refine call_any_walk (Jd hl ⟨s.heap.objs.size,[s.heap.objs.size,a],[s.heap.objs.size],its.toArray.size,_,_,λi=>bs.getD i true,rfl,Walks.list (A:=X.A.in1) (I.ok.hd hc) _ a (FN hlt) its.toArray,⟨⟨_,FZ _ rfl,rfl,rfl⟩,hl.push _⟩,kU r1,λh' tk hk=> ?_⟩);refine⟨.bl (bs.any id),H,I.kept (old_kept hk),?_,q⟩;rw[F3,<-len,xJ];rfl
theorem nI{K:PySem.W.Frag}(h:X.K=K)(hc:X.calm=true):b7 X (.builtin "all") (CM K):=by subst h;exact yT hc
theorem vZ{K:PySem.W.Frag}(h:X.K=K)(hc:X.calm=true):b7 X (.builtin "any") (CL K):=by subst h;exact yS hc
end
end L2
namespace L2
open PySem PySem.Spec PyProof.Rows
def iz:List Expr->Option (List Int)
 | []=>some []
 | .Constant (.int i) _ _::es=>(iz es).map (i:: ·)
 |_=>none
inductive kz:List Expr->List Int->Prop
 |nil:kz [] []
 |cons {i:Int} {j:Nat} {p:Pos} {es:List Expr} {zs:List Int} (h:kz es zs):kz (.Constant (.int i) j p::es) (i::zs)
theorem jy:∀ {es:List Expr} {zs:List Int},iz es=some zs->kz es zs
 | [],zs,h=>by have e:zs=[]:=(F9 h).symm;subst e;exact .nil
 |e::es,zs,h=>by
  unfold iz at h;split at h
  .rename_i hh;cases hh
  .rename_i hh;cases hh;cases hc:iz es with
   |none=>rw[hc]at h;cases h
   |some ys=>
    rw[hc]at h;have e:_::ys=zs:=F9 h;subst e;exact .cons (jy hc)
  .cases h
def CD(zs:List Int):TA:=λ_ H Q=>Q (zs.map V.int) H
theorem xP(h:kz es zs):PA X es (CD zs):=by
 induction h with
 |nil=>exact ab
 | @cons i j p es zs h ih=>exact aa (ag (i:=i) (j:=j) (pos:=p)) ih
def zR:Stmt->Expr
 | .Assign _ e _=>e
 |_=> .Constant .none 0 ⟨0,0,0,0⟩
def wb:Expr->Expr
 | .Subscript e _ _=>e
 |_=> .Constant .none 0 ⟨0,0,0,0⟩
def vP:Expr->List Expr
 | .List es _=>es
 |_=>[]
structure PSp(X:Cx)(st:Stmt)(t:TS):Prop where
 h:PS X st t
end L2
namespace L2
open PySem PySem.Spec PyProof.Rows
theorem nH:∀ (names:List (Str×NameKind)) (n:Nat) (acc:List (Str×Addr)) {x:Str} {c:Addr},(x,c)∈cellsFrom n names acc->(x,c)∈acc\/n<=c
 | [],_,_,_,_,h=> .inl h
 |(name,kind)::r,n,acc,x,c,h=>by
  unfold cellsFrom at h;split at h
  .rcases nH r (n+1) _ h with h|h
   .rcases Fh.mp h with e|h
    .cases e;exact .inr (Fj _)
    .exact .inl h
   .exact .inr (by lia)
  .exact nH r n acc h
theorem rG:∀ (names:List (Str×NameKind)) (h:Heap) (acc:List (Str×Addr)) {x:Str} {c:Addr},(x,c)∈cellsFrom h.objs.size names acc->(x,c)∈acc\/(pushCells h names).IsCell c none
 | [],_,_,_,_,h=> .inl h
 |(name,kind)::r,h,acc,x,c,e=>by
  unfold cellsFrom at e;unfold pushCells;split at e
  .rename_i hk;rw[E9 hk];have e':(x,c)∈cellsFrom (h.push {cls:= .type "cell",data:= .cell none}).objs.size r ((name,h.objs.size)::acc):=by rw[HZ];exact e
   rcases rG r _ _ e' with e|e
   .rcases Fh.mp e with e|e
    .cases e;exact .inr ⟨_,Kg _ _ _ _ (FZ _ rfl),rfl⟩
    .exact .inl e
   .exact .inr e
  .rename_i hk;rw[Fg hk];exact rG r h acc e
theorem vT(n0:Nat):∀ (names:List (Str×NameKind)) (n:Nat) (acc:List (Str×Addr)),(∀p∈acc,p.2<n)->n0<=n->(∀x y c,(x,c)∈acc->(y,c)∈acc->n0<=c->x=y)->∀x y c,(x,c)∈cellsFrom n names acc->(y,c)∈cellsFrom n names acc->n0<=c->x=y
 | [],_,_,_,_,h=>h
 |(name,kind)::r,n,acc,hl,hn,h=>by
  unfold cellsFrom;split
  .refine vT n0 r (n+1) _ (λp hp=> ?_) (by lia) λx y c hx hy hc=> ?_
   .rcases Fh.mp hp with e|hp
    .subst e;exact Gk _
    .exact Iy (hl p hp)
   .rcases Fh.mp hx with ex|hx<;>rcases Fh.mp hy with ey|hy
    .cases ex;cases ey;rfl
    .cases ex;exact absurd (hl _ hy) (Gv _)
    .cases ey;exact absurd (hl _ hx) (Gv _)
    .exact h x y c hx hy hc
  .exact vT n0 r n acc hl hn h
theorem rF:∀ (names:List (Str×NameKind)) (n:Nat) (acc:List (Str×Addr)) (x:Str),((∃y∈names,y.1=x/\y.2= .cell)\/∃c,acc.lookup x=some c)->∃c,(cellsFrom n names acc).lookup x=some c
 | [],_,_,_,h=>by
  rcases h with ⟨y,hy,_⟩|h
  .cases hy
  .exact h
 |(name,kind)::r,n,acc,x,h=>by
  unfold cellsFrom;have lk:(∃c,acc.lookup x=some c)->∃c,((name,n)::acc).lookup x=some c:=λ⟨c,e⟩=>by
   rw[Hu];cases hx:x==name with
   |true=>exact⟨_,rfl⟩
   |false=>exact⟨c,e⟩
  split
  .refine rF r (n+1) _ x ?_;rcases h with ⟨y,hy,h1,h2⟩|h
   .rcases Fh.mp hy with e|hy
    .subst e;refine .inr ⟨n,?_⟩;rw[Hu,show(x==name)=true from by simpa using h1.symm]
    .exact .inl ⟨y,hy,h1,h2⟩
   .exact .inr (lk h)
  .rename_i hk;refine rF r n acc x ?_;rcases h with ⟨y,hy,h1,h2⟩|h
   .rcases Fh.mp hy with e|hy
    .subst e;exact absurd (by simpa using h2) hk
    .exact .inl ⟨y,hy,h1,h2⟩
   .exact .inr h
theorem vS(n0:Nat):∀ (names:List (Str×NameKind)) (n:Nat) (acc:List (Str×Addr)) (x:Str),n0<=n->((∃y∈names,y.1=x/\y.2= .cell)\/∀c,acc.lookup x=some c->n0<=c)->∀c,(cellsFrom n names acc).lookup x=some c->n0<=c
 | [],_,_,_,_,h,c,e=>by
  rcases h with ⟨y,hy,_⟩|h
  .cases hy
  .exact h c e
 |(name,kind)::r,n,acc,x,hn,h,c,e=>by
  unfold cellsFrom at e;split at e
  .refine vS n0 r (n+1) _ x (by lia) ?_ c e;by_cases hx:x=name
   .refine .inr λc e=> ?_;rw[Hu,show(x==name)=true from by simpa using hx]at e;cases e;exact hn
   .rcases h with ⟨y,hy,h1,h2⟩|h
    .rcases Fh.mp hy with e|hy
     .subst e;exact absurd h1.symm hx
     .exact .inl ⟨y,hy,h1,h2⟩
    .refine .inr λc e=> ?_;rw[Hu,show(x==name)=false from by simpa using hx]at e;exact h c e
  .rename_i hk;refine vS n0 r n acc x hn ?_ c e;rcases h with ⟨y,hy,h1,h2⟩|h
   .rcases Fh.mp hy with e|hy
    .subst e;exact absurd (by simpa using h2) hk
    .exact .inl ⟨y,hy,h1,h2⟩
   .exact .inr h
theorem je{sc:Scope}(h:(relabel sc env).names.lookup x=some .cell\/(relabel sc env).names.lookup x=some .free):∃y∈sc.names,y.1=x/\(y.2= .cell\/y.2= .free):=by
 obtain⟨k,hk,m⟩:∃k,(k=NameKind.cell\/k=NameKind.free)/\(x,k)∈(relabel sc env).names:=by
  rcases h with h|h
  .exact⟨_, .inl rfl,Ge h⟩
  .exact⟨_, .inr rfl,Ge h⟩
 obtain⟨y,hy,e⟩:=Fn.mp (show(x,k)∈sc.names.map _ from m);obtain⟨n,k0⟩:=y;dsimp only at e;split at e
 .rename_i hc;have e1:n=x:=Fu Prod.fst e;refine⟨_,hy,e1, .inr ?_⟩;simp only[Fp,Ja]at hc;exact hc.1.1
 .have e1:n=x:=Fu Prod.fst e;have e2:k0=k:=Fu Prod.snd e;refine⟨_,hy,e1,?_⟩;show k0=_\/k0=_;rw[e2];exact hk
theorem og{M:Model}{A:Around}{E:Value->Shared->Prop}{s:Shared}{scope:Scope}{globals:Addr}{closure:List (Str×Addr)}{qual:Str}{func:Option Addr}{code:Value}{outer:Env}{Q:Env->Shared->Prop}
  (h:Q (newEnv scope s.heap.objs.size globals (cellsFrom (s.heap.objs.size+1) scope.names closure) qual func code (some outer) builtinsNs) {s with heap:=pushCells (s.heap.push {cls:= .type "dict",data:= .dict #[]}) scope.names}):
  wpAny M A (newFunctionEnv scope globals closure [] qual func code (some outer)) Q E s:=by
 simp only[newFunctionEnv,Option.isSome_some,J0];refine FC (wpAny_alloc ?_);refine FC (wpAny_layCells _ (λname kind cells=>by cases hkc:kind==NameKind.cell<;>simp[hkc]) _ _ _ _ ?_);rw[show({s with heap:=s.heap.push {cls:= .type "dict",data:= .dict #[]}}:Shared).heap.objs.size=s.heap.objs.size+1 from HZ ..];refine FC ?_;rw[List.forIn_nil];exact F2 (F2 h)
theorem kq{env:Env}(h:∀y∈names,y.2= .free->∃c,env.cells.lookup y.1=some c)(e:(x,c)∈fo env names):env.cells.lookup x=some c:=by
 have go:∀ (names:List (Str×NameKind)) (acc:List (Str×Addr)),(∀y∈names,y.2= .free->∃c,env.cells.lookup y.1=some c)->(∀x c,(x,c)∈acc->env.cells.lookup x=some c)->∀x c,(x,c)∈names.foldl (e7 env) acc->env.cells.lookup x=some c:=by
  intro names
  induction names with
  |nil=>intro acc _ ha x c e;exact ha x c e
  |cons y r ih=>
   intro acc h ha;refine ih _ (λz hz=>h z (Fe _ hz)) λx c e=> ?_;unfold e7 at e;split at e
   .rename_i hk;obtain⟨a,ey⟩:=h y Fq (by simpa using hk);rcases Fh.mp e with e|e
    .have e1:x=y.1:=Fu Prod.fst e;have e2:c=(env.cells.lookup y.1).getD 0:=Fu Prod.snd e;rw[e1,e2,ey];rfl
    .exact ha x c e
   .exact ha x c e
 exact go names [] h (λ_ _ z=>by cases z) x c e
theorem rE:∀ (names:List (Str×NameKind)) (n:Nat) (acc:List (Str×Addr)) (x:Str),(∀y∈names,y.1=x->y.2≠ .cell)->(cellsFrom n names acc).lookup x=acc.lookup x
 | [],_,_,_,_=>rfl
 |(name,kind)::r,n,acc,x,h=>by
  unfold cellsFrom;split
  .rename_i hk;rw[rE r (n+1) _ x λy hy=>h y (Fe _ hy),Hu];cases hx:x==name with
   |true=>
    have e:x=name:=by simpa using hx
    exact absurd (by simpa using hk) (h _ Fq e.symm)
   |false=>rfl
  .exact rE r n acc x λy hy=>h y (Fe _ hy)
def f6(X:Cx)(N':List Str)(sc:Scope)(s₃:Shared)(H₃:Hp)(fp:List Addr)(pins:List (Addr×Obj)):Cx where
 prog:=X.prog
 w:=X.w
 K:=X.K
 mg:=X.mg
 base:=X.base
 A:=X.A
 N:=N'
 s₀:=s₃
 H₀:=H₃
 env:=compEnvC sc (cellsFrom (s₃.heap.objs.size+1) sc.names (fo X.env sc.names)) s₃.heap.objs.size X.env
 outer:=X.stack
 stack:=X.stack
 ex:=fp
 fn:=λx=>sc.names.lookup x==some .cell
 calm:=X.calm
 pn:=X.pn++pins
 xe:=λ_ _=>False
section
variable{X:Cx}{elt target iter:Expr}{ifs:List Expr}{sc:Scope}{pos:Pos}{wi:TI}{g:TG}{tc:TT}{te:TE}{vars frn:List Str}{fr:List Nat}
theorem t6(hc:X.calm=true)(hfk:∀y∈sc.names,y.2= .free->X.env.kindOf y.1=some .cell\/X.env.kindOf y.1=some .free)(hno:sc.names.all (λy=> !(y.2== .cell)|| !(frn.contains y.1))=true)(hkind:sc.kind= .function)
  (hfr:lL X sc fr frn)
  (hg:∀s₃ H₃ fp pins,PG (f6 X (vars++frn) sc s₃ H₃ fp pins) target g) (ht:∀s₃ H₃ fp pins,PTs (f6 X (vars++frn) sc s₃ H₃ fp pins) ifs tc) (he:∀s₃ H₃ fp pins,PE (f6 X (vars++frn) sc s₃ H₃ fp pins) elt te)
  {pins:List (Addr×Obj)} {s2:Shared} {σ:St} {H2:Hp} {Q:VK} {E:Value->Shared->Prop} {R:Value->Addr->Result->Shared->Prop} {it:Addr} {fp:List Addr} {tn:Nat->Heap->Prop} {J:It}
  (I2:Inv X pins σ H2 s2) (T:Turn X.prog X.w X.K target J fp it tn) (st2:tn 0 s2.heap) (f2:∀b∈fp,lO X pins H2 b)
  (h:LCW J g tc te vars.length fr σ H2 Q)
  (hR:∀D C s',uI X pins σ Q D C s'->R (.ref D) C (.ok .next) s'):
  wpAny (model X.prog X.w) X.A (newList []) (λacc s₃=>wpAny (model X.prog X.w) X.A (newFunctionEnv sc X.env.globals (fo X.env sc.names) [] X.env.qual none .none (some X.env)) (λcenv s₄=>
   codeAny (model X.prog X.w) X.A (.compStart (.ListComp elt [⟨target,iter,ifs,0⟩] sc pos) 0 (.ref it) acc {cenv with scope:=relabel sc X.env}) (R acc cenv.locals) s₄) E s₃) E s2:=by
 have hfc:∀y∈sc.names,y.2= .free->∃c,X.env.cells.lookup y.1=some c:=λy hy hk=>I2.ok.has y.1 (hfk y hy hk);obtain⟨W,⟨m0,w0⟩,turn⟩:=h s2.heap.objs.size I2.fresh;refine wpAny_newObj_type (og ?_);dsimp only;have I3:Inv X pins σ (upd H2 s2.heap.objs.size (.lst [])) {s2 with heap:=s2.heap.push {cls:= .type "list",data:= .seq ([]:List Value).toArray}}:=I2.lnew (t':=s2.toks) .nil (FV _);generalize hs3:({s2 with heap:=s2.heap.push {cls:= .type "list",data:= .seq ([]:List Value).toArray}}:Shared)=s3 at I3;have hh3:s3.heap=s2.heap.push {cls:= .type "list",data:= .seq ([]:List Value).toArray}:=by rw[<-hs3]
 have hsz:s3.heap.objs.size=s2.heap.objs.size+1:=by rw[hh3,HZ]
 have k23:∀b o,s2.heap.get? b=some o->s3.heap.get? b=some o:=λb o e=>by rw[hh3];exact FF _ e
 generalize hD:s2.heap.objs.size=D at*;generalize hH3:upd H2 D (.lst [])=H3 at*;have hC:(s2.heap.push {cls:= .type "list",dict:=none,data:= .seq ([]:List Value).toArray}).objs.size=s3.heap.objs.size:=by rw[hh3]
 rw[hC];have h1e:pushCells ((s2.heap.push {cls:= .type "list",dict:=none,data:= .seq ([]:List Value).toArray}).push {cls:= .type "dict",data:= .dict #[]}) sc.names=pushCells (s3.heap.push {cls:= .type "dict",data:= .dict #[]}) sc.names:=by rw[hh3]
 rw[h1e];have hns₁:(pushCells (s3.heap.push {cls:= .type "dict",data:= .dict #[]}) sc.names).Ns s3.heap.objs.size (λ_=>none):=(Heap.Ns.new s3.heap (.type "dict")).keeps (Kg _ _);have k34:∀b o,s3.heap.get? b=some o->(pushCells (s3.heap.push {cls:= .type "dict",data:= .dict #[]}) sc.names).get? b=some o:=λb o e=>Kg _ _ _ _ (FF _ e);have hcf:∀ {x c},(x,c)∈cellsFrom (s3.heap.objs.size+1) sc.names (fo X.env sc.names)->(x,c)∈fo X.env sc.names\/(pushCells (s3.heap.push {cls:= .type "dict",data:= .dict #[]}) sc.names).IsCell c none:=λ{x c} e=>by refine rG sc.names (s3.heap.push {cls:= .type "dict",data:= .dict #[]}) _ (x:=x) ?_;rw[HZ];exact e
 generalize pushCells (s3.heap.push {cls:= .type "dict",data:= .dict #[]}) sc.names=h₁ at*;have fpl:∀b∈fp,b<s2.heap.objs.size:=λb hb=>by obtain⟨o,e,_⟩:=T.obj _ _ st2 b hb;exact Fz e
 have fpD:∀b∈fp,b≠D:=λb hb=>by rw[<-hD];exact FN (fpl b hb)
 have fpC:∀b∈fp,b≠s3.heap.objs.size:=λb hb=>by rw[hsz];exact FN (Iy (hD▸fpl b hb))
 have fr3:∀b∈fp,H3 b=none:=λb hb=>by rw[<-hH3,aC (fpD b hb)];exact(f2 b hb).1
 have fstk:∀b∈fp,b∉frs X.stack:=λb hb z=>by
  obtain⟨_,f1,f2',_⟩:=f2 b hb;rcases Fh.mp (I3.stkSub b z)with e|e
  .exact f1 e
  .exact f2' e
 have st4:tn 0 h₁:=T.keep _ _ _ st2 λb hb o e=>k34 b o (k23 b o e);have csub0:∀x c,(fo X.env sc.names).lookup x=some c->X.env.cells.lookup x=some c:=λx c e=>Bf hfc e;have cmem:∀x c,(x,c)∈fo X.env sc.names->∃y,X.env.cells.lookup y=some c:=λx c e=>⟨x,kq hfc e⟩;have csub:∀x c,(cellsFrom (s3.heap.objs.size+1) sc.names (fo X.env sc.names)).lookup x=some c->(∃y,X.env.cells.lookup y=some c)\/(s3.heap.objs.size+1<=c/\h₁.IsCell c none):=λx c e=>by
  have m:=Ge e;rcases nH _ _ _ m with h|h
  .exact .inl (cmem _ _ h)
  .rcases hcf m with h'|h'
   .exact .inl (cmem _ _ h')
   .exact .inr ⟨h,h'⟩
 have clt:∀y c,X.env.cells.lookup y=some c->c<s3.heap.objs.size:=λy c e=>by obtain⟨v,q⟩:=I3.cell y c e;exact q.lt
 have cinj:∀x y c,(cellsFrom (s3.heap.objs.size+1) sc.names (fo X.env sc.names)).lookup x=some c->(cellsFrom (s3.heap.objs.size+1) sc.names (fo X.env sc.names)).lookup y=some c->x=y:=λx y c e1 e2=>by
  have low:∀p∈fo X.env sc.names,p.2<s3.heap.objs.size+1:=λp hp=>by obtain⟨y,hy⟩:=cmem p.1 p.2 hp;exact Iy (clt y _ hy)
  by_cases hc:s3.heap.objs.size+1<=c
  .exact vT (s3.heap.objs.size+1) sc.names _ _ low (Fj _) (λx y c hx _ hc=>absurd (Fb (low _ hx) hc) (Gv _)) x y c (Ge e1) (Ge e2) hc
  .have in1:(x,c)∈fo X.env sc.names:=by
    rcases nH _ _ _ (Ge e1)with h|h
    .exact h
    .exact absurd h hc
   have in2:(y,c)∈fo X.env sc.names:=by
    rcases nH _ _ _ (Ge e2)with h|h
    .exact h
    .exact absurd h hc
   exact I3.ok.inj x y c (kq hfc in1) (kq hfc in2)
 generalize hX:f6 X (vars++frn) sc s3 H3 fp pins=X';have ok':X'.Ok:=by
  rw[<-hX];refine⟨I3.ok.mod,hkind,I3.ok.glob,I3.ok.blt,Fj _,cinj,λx hx=> ?_,(λx c z e=> ?_),I3.ok.hd,I3.ok.frames, .inl rfl,
   λb hb=>⟨fpC b hb,λx c e z=> ?_⟩,I3.bs,Fc I3.ok.bsz I3.sz,λb o e hb=> ?_,λb hb=>fstk b hb,I3.stack,I3.stkFree⟩
  .obtain⟨y,hy,h1,h2|h2⟩:=je hx
   .exact rF _ _ _ x (.inl ⟨y,hy,h1,h2⟩)
   .exact rF _ _ _ x (.inr (rC ⟨y,hy,h1,h2⟩))
  .have hz:sc.names.lookup x=some .cell:=by simpa using (show(sc.names.lookup x==some NameKind.cell)=true from z)
   exact HW (vS (s3.heap.objs.size+1) sc.names _ _ x (Fj _) (.inl ⟨_,Ge hz,rfl,rfl⟩) c e)
  .rcases csub x c e with ⟨y,hy⟩|⟨h,_⟩
   .exact(f2 b hb).2.2.2.2.1 y c hy z
   .subst z;have q:=fpl c hb;rw[hsz,<-hD]at h;exact Gv _ (Fb q (HW (HW h)))
  rcases(f2 b hb).2.2.2.1 with z|z
  .exact I3.ok.noex b o e z
  .exact absurd (Fb (Fz e) (Fc I3.ok.bsz z)) (Gv _)
 have I4:Inv X' [] (inner vars.length fr σ) H3 {s2 with heap:=h₁}:=by
  have hos:s3.os=s2.os:=by rw[<-hs3]
  have hgn:s3.gens=s2.gens:=by rw[<-hs3]
  refine⟨ok',by rw[<-hX];exact hos.symm,by rw[<-hgn];exact I3.bare,by rw[<-hX];exact Un.kept k34,⟨λ_=>none,by rw[<-hX];exact hns₁,λi x v e1 e2 e3=> ?_⟩,λx c e=> ?_,?_,λx c e=> ?_,λp hp=> ?_,by rw[<-hX];exact I3.hok.kept k34,?_⟩
  .rw[<-hX]at e1 e3⊢;have e1':(vars++frn)[i]?=some x:=e1;unfold inner at e2;by_cases hi:i<vars.length
   .rw[FQ (by simpa using hi),Jb]at e2;rw[E9 hi]at e2;cases e2
   .rw[FR (by simpa using Gh hi),HR,Fm]at e2;rw[FR (Gh hi)]at e1';cases ej:fr[i-vars.length]? with
    |none=>rw[ej]at e2;cases e2
    |some j=>
     rw[ej]at e2;have e2':(σ[j]?).join=some v:=F9 e2;have e2'':σ[j]?=some (some v):=by
      cases q:σ[j]? with
      |none=>rw[q]at e2';cases e2'
      |some o=>rw[q]at e2';exact Fu some e2'
     obtain⟨y,h1,h2,h3,h4⟩:=hfr.get ej;rw[h1]at e1';cases e1';obtain⟨m,hn,hl⟩:=I3.loc;obtain⟨u,r,l⟩:=hl j x v h2 e2'' (by rcases h3 with z|z;exact .inr (.inl z);exact .inr (.inr z));refine⟨u,r, .inr ⟨h4,?_⟩⟩;have hxn:∀y∈sc.names,y.1=x->y.2≠ .cell:=λy hy hyx hyc=>by have:=GQ.mp hno y hy;rw[hyc,hyx]at this;have hm:frn.contains x=true:=List.contains_iff_mem.mpr (E7 h1);rw[hm]at this;cases this
     have hfree:∃y∈sc.names,y.1=x/\y.2= .free:=by
      obtain⟨y,hy,z1,z2|z2⟩:=je h4
      .exact absurd z2 (hxn y hy z1)
      .exact⟨y,hy,z1,z2⟩
     obtain⟨c,hc0⟩:=rC (env:=X.env) hfree;have hc1:(cellsFrom (s3.heap.objs.size+1) sc.names (fo X.env sc.names)).lookup x=some c:=(rE sc.names _ _ x hxn).trans hc0;have hc2:=csub0 x c hc0;rcases l with ⟨k,_⟩|⟨_,c',hc',hcell⟩
     .rcases h3 with z|z
      .rw[z]at k;cases k
      .rw[z]at k;cases k
     .rw[hc2]at hc';cases hc';exact⟨c,hc1,hcell.keeps k34⟩
  .rw[<-hX]at e;rcases csub x c e with ⟨y,hy⟩|⟨_,h⟩
   .obtain⟨v,z⟩:=I3.cell y c hy;exact⟨v,z.keeps k34⟩
   .exact⟨_,h⟩
  .rw[<-hX];exact I3.fresh
  .rw[<-hX]at e;rcases csub x c e with ⟨y,hy⟩|⟨h,_⟩
   .exact I3.freeC y c hy
   .exact I3.hok.fresh (HW h)
  .rw[<-hX]at hp⊢;rw[GX]at hp;obtain⟨q1,q2,q3,q4,q5⟩:=I3.pin p hp;refine⟨k34 _ _ q1,q2,FN (Fz q1),λz=> ?_,q5⟩;rcases Fh.mp (I3.stkSub p.1 z)with e|e
   .exact q3 e
   .exact q4 e
  .rw[<-hX];show(inner vars.length fr σ).length=(vars++frn).length;unfold inner;rw[Fw,HR,E3,Fw,hfr.len]
 have stat:∀ {H':Hp},(∀b∈fp,H' b=none)->∀b∈fp,lO X' [] H' b:=λhn b hb=>by
  rw[<-hX];obtain⟨_,f1,f2',f3,f4,f5⟩:=f2 b hb;refine⟨hn b hb,fpC b hb,fstk b hb, .inl hb,λx c e=> ?_,λp hp=> ?_⟩
  .rcases csub x c e with ⟨y,hy⟩|⟨h,_⟩
   .exact f4 y c hy
   .exact λz=>by subst z;have q:=fpl c hb;rw[hsz,<-hD]at h;exact Gv _ (Fb q (HW (HW h)))
  exact f5 p (by simpa [f6]using hp)
 have back:∀ {σ7:St} {H7:Hp} {s7:Shared},Inv X' [] σ7 H7 s7->Inv X pins σ H7 s7:=λ{σ7 H7 s7} I7=>by
  have ho:s7.os=s3.os:=by have:=I7.os;rw[<-hX]at this;exact this
  have hu:Un (frs X.stack) fp H3 H7 s3.heap s7.heap:=by have:=I7.base;rw[<-hX]at this;exact this
  have hk:HOk X.prog X.w H7 s7.heap:=by have:=I7.hok;rw[<-hX]at this;exact this
  refine I3.call' ho hu hk I7.bare λb hb=> ?_;obtain⟨_,f1,_,f3,f4,f5⟩:=f2 b hb;exact⟨f3,f1,f4,f5⟩
 have hmod:X'.prog=X.prog/\X'.w=X.w/\X'.K=X.K/\X'.A=X.A/\X'.calm=true/\X'.env=compEnvC sc (cellsFrom (s3.heap.objs.size+1) sc.names (fo X.env sc.names)) s3.heap.objs.size X.env/\X'.xe=(λ_ _=>False)/\X'.env.locals=s3.heap.objs.size:=by rw[<-hX];exact⟨rfl,rfl,rfl,rfl,hc,rfl,rfl,rfl⟩
 obtain⟨eP,ew,eK,eA,ec,eE,ex,eL⟩:=hmod;have hg':=hg s3 H3 fp pins;have ht':=ht s3 H3 fp pins;have he':=he s3 H3 fp pins;rw[hX]at hg' ht' he';have loop:∀s4:Shared,s4={s2 with heap:=h₁}->
   codeAny (model X.prog X.w) X.A (.compLoop (.ListComp elt [⟨target,iter,ifs,0⟩] sc pos) 0 (.ref it) (.ref D) X'.env) (R (.ref D) s3.heap.objs.size) s4:=by
  rintro s4 rfl;refine codeAny_loop rfl (λn s'=>∃i σ' H',Inv X' [] σ' H' s'/\tn i s'.heap/\(∀b∈fp,H' b=none)/\W i n σ' H') (λn s5 hI=> ?_) m0 ⟨0,_,H3,I4,st4,fr3,w0⟩;obtain⟨i,σ5,H5,I5,st5,fr5,w5⟩:=hI;show wpAny _ X.A ((compTurn (.ListComp elt [⟨target,iter,ifs,0⟩] sc pos) 0 (.ref it) (.ref D) X'.env).onRaise (λx=>do noteFrame x X'.env;theTreesLotGoes x)) _ _ s5;refine wpAny_noted (wpAny_noRaise ?_);rw[compTurn_list];refine FC (wpAny_standAt (FC ?_));rcases turn i n σ5 H5 w5 with ⟨stop,q⟩|⟨go,N,hN,step⟩
  .have z:=T.done X' eP ew eK ec i [] s5 σ5 H5 (λ_ _=>False) I5 (stat fr5) st5 stop;rw[eA]at z;refine thn z λr s6 ⟨hr,I6⟩=> ?_;subst hr;refine F2 (hR _ _ _ ⟨H5,back I6,q,?_,?_,IA I3.lt,I3.sz,λx c e z=> ?_,λp hp z=> ?_⟩)
   .obtain⟨m,hn,_⟩:=I6.loc;rw[eL]at hn;exact⟨m,hn⟩
   .have:=I6.free;rw[eL]at this;exact this
   .obtain⟨v,q⟩:=I3.cell x c e;exact absurd q.lt (by rw[z];exact Gv _)
   .exact absurd (Fz (I3.pin p hp).1) (by rw[z];exact Gv _)
  .have z:=T.item X' eP ew eK ec i [] s5 σ5 H5 (λ_ _=>False) I5 (stat fr5) st5 go;rw[eA]at z;refine thn z λr s6 ⟨u,hr,h6⟩=> ?_;subst hr;refine FC (thn h6 λ_ s7 ⟨x,H7,I7,r7,y7,st7,fr7⟩=> ?_);have I7':=I7.pinned (stat fr7) (T.obj _ _ st7);have zg:=hg' _ s7 σ5 H7 x u _ I7' r7 (step x H7 y7);rw[eP,ew,eA,ex]at zg;refine FC (thn zg λ_ s8 ⟨σ8,H8,I8,q8⟩=> ?_);have zt:=ht' _ s8 σ8 H8 _ I8 q8;rw[eP,ew,eA,ex]at zt;refine FC (thn zt λok s9 ⟨H9,I9,q9⟩=> ?_);have again:∀ {σa:St} {Ha:Hp} {sa:Shared},Inv X' ([]++jY fp s7.heap) σa Ha sa->N σa Ha->∃m,m<n/\∃i σ' H',Inv X' [] σ' H' sa/\tn i sa.heap/\(∀b∈fp,H' b=none)/\W i m σ' H':=λ{σa Ha sa} Ia na=>by obtain⟨m',hm,wa⟩:=hN σa Ha na;refine⟨m',hm,i+1,σa,Ha,Ia.unpinned,T.keep _ _ _ st7 λb hb o e=>(Ia.pin (b,o) (FL _ (FL _ (eB hb e)))).1,λb hb=> ?_,wa⟩;obtain⟨o,e,d⟩:=T.obj _ _ st7 b hb;exact(Ia.pin (b,o) (FL _ (FL _ (eB hb e)))).2.1
   cases ok with
   |false=>
    rw[Fg Fo]at q9;exact F2 ⟨rfl,again I9 q9⟩
   |true=>
    rw[E9 rfl]at q9;have ze:=he' _ s9 σ8 H9 _ I9 q9;rw[eP,ew,eA,ex]at ze;refine FC (FC (thn ze λy sa ⟨yv,Ha,Ia,ra,xs,hxs,hlt,na⟩=>FC ?_));have zm:=cK (X:=X') _ sa σ8 Ha (.ref D) [yv] (.ref D) [y] (λ_ Hb=>N σ8 Hb) Ia rfl (.cons ra .nil) ⟨D,xs,yv,rfl,rfl,hxs,hlt,na⟩;rw[eP,ew,eA,ex]at zm;exact thn zm λ_ sb ⟨vb,Hb,Ib,_,nb⟩=>F2 (F2 ⟨rfl,again Ib nb⟩)
 have e:({(newEnv sc s3.heap.objs.size X.env.globals (cellsFrom (s3.heap.objs.size+1) sc.names (fo X.env sc.names)) X.env.qual none .none (some X.env) builtinsNs)with scope:=relabel sc X.env}:Env)=X'.env:=by rw[eE];rfl
 have fin:=codeAny_compStart_list (elt:=elt) (target:=target) (iter:=iter) (ifs:=ifs) (rest:=[]) (scope:=sc) (pos:=pos) (loop _ rfl) (T.self _ 0 _ _ _ st4 (loop _ rfl));rw[<-e]at fin;exact fin
theorem Ds(hc:X.calm=true)(hfk0:sc.names.all (λy=> !(y.2== .free)||(X.env.kindOf y.1==some .cell||X.env.kindOf y.1==some .free))=true)(hno:sc.names.all (λy=> !(y.2== .cell)|| !(frn.contains y.1))=true)(hkind:sc.kind= .function)
  (hnames0:sc.names.all (λy=> !(y.2== .local)||(sc.names.lookup y.1==some .local))=true) (hfr:lL X sc fr frn) (hi:PI X target iter wi)
  (hg:∀s₃ H₃ fp pins,PG (f6 X (vars++frn) sc s₃ H₃ fp pins) target g) (ht:∀s₃ H₃ fp pins,PTs (f6 X (vars++frn) sc s₃ H₃ fp pins) ifs tc) (he:∀s₃ H₃ fp pins,PE (f6 X (vars++frn) sc s₃ H₃ fp pins) elt te)
  (hs:∀x,foldedSetIterable iter X.env x=pure x:=by intro _;rfl):PE X (.ListComp elt [⟨target,iter,ifs,0⟩] sc pos) (tLC wi g tc te vars.length fr):=by
 intro pins s σ H Q I h;have hfk:=AZ hfk0;have hnames:=AG hnames0;rw[eval_ListComp];have hfc:∀y∈sc.names,y.2= .free->∃c,X.env.cells.lookup y.1=some c:=λy hy hk=>I.ok.has y.1 (hfk y hy hk);refine IQ (use:=none) rfl hs (gf hfc) hkind hnames (thn (hi pins s σ H _ I h) λv s1 h1=>thn h1 λitv s2 h2=> ?_);obtain⟨it,fp,tn,J,H2,e,I2,T,st2,f2,q⟩:=h2;subst e;refine t6 (R:=λacc C=>compPost (model X.prog X.w) X.A X.xe none (EP X pins σ Q) acc C) hc hfk hno hkind hfr hg ht he I2 T st2 f2 q λD C s' hb=> ?_;obtain⟨H',I',q',⟨m,hn⟩,hCn,hCL,hCs,hCc,hCp⟩:=hb;refine⟨m,hn,λh' hs'=>⟨.ref D,H',?_,rfl,q'⟩⟩;exact I'.turned (t':=s'.toks) (λb o hb e=>(hs'.2 b hb).trans e) hCn hCL (.inr hCs) hCc hCp
end
end L2
namespace L2
open PySem PySem.Spec PyProof.Rows
def zW(K:PySem.W.Frag):List V->Hp->VK->Prop:=λxs H Q=>∃ (a:Addr) (ns:List Int),xs=[.ref a]/\SqL K H a (ns.map V.int)/\ns.length<64/\∀l (ms:List Int),H l=none->ms.Perm ns->ms.Pairwise (· <= ·)->Q (.ref l) (upd H l (.lst (ms.map V.int)))
theorem iW{ns:List Int}(h:IntsAre vs ns):Vals (ns.map V.int) vs:=by
 induction h with
 |nil=>exact .nil
 |cons n t _ ih=>exact .cons ⟨t,rfl⟩ ih
theorem vV{X:Cx}:b7 X (.builtin "sorted") (zW X.K):=by
 intro pins s σ H vs us Q I rv h;obtain⟨a,ns,rfl,ha,h64,q⟩:=h;obtain⟨u,rfl,ru⟩:=iX rv;cases ru;obtain⟨its,r1,p1,hz⟩:=I.list ha;have hi:=fH r1;have hlen:=r1.length;rw[E3]at hlen;refine sorted_ints p1.isList hi (by lia) λout ms h1 h2 h3=> ?_;obtain⟨e,he⟩:=sortedAll_at s.heap its out;have hv:=iW h1;refine⟨.ref (s.heap.objs.size+1),_,I.laid (t':=s.toks) (λb o e=>sortedAll_old e) (Kj _) (show b6 X.prog X.w _ _ _ (.lst (ms.map V.int))from⟨?_,out.toList,e,hv,?_⟩),rfl,q _ ms (I.hok.fresh (Kj _)) h2 h3⟩
 .rw[E3,h2.length_eq];exact Fc (Ic h64) (by decide)
 .rw[he]
theorem ud{X:Cx}{K:PySem.W.Frag}(h:X.K=K):b7 X (.builtin "sorted") (zW K):=by subst h;exact vV
end L2
namespace L2
open PySem PySem.Spec PySem.W PyProof.Rows PySem.SeqAt
end L2
namespace L2
open PySem PySem.Spec PyProof.Rows
theorem ym{lo:Int}{n:Nat}{g:TG}{tc:TT}{te:TE}{nv:Nat}{fr:List Nat}{σ:St}{H:Hp}{Q:VK}(all:Bool)(Pv:Int->Prop)(hn:n<=sizeLine)
  (hs:∀ (i:Nat) (vs:St) (H':Hp) (R:V->St->Hp->Prop) (S:St->Hp->Prop),i<n->vs.length=nv->Same H H'->
   (∀z vs' H'',Pv z->vs'.length=nv->Same H' H''->R (.int z) (vs'++fr.map λj=>(σ[j]?).join) H'')->(all=false->∀vs' H'',vs'.length=nv->Same H' H''->S (vs'++fr.map λj=>(σ[j]?).join) H'')->
   g (.int (lo+i)) (vs++fr.map λj=>(σ[j]?).join) H' λσ2 H3=>tc σ2 H3 λb H4=>if b=true then te σ2 H4 λy H5=>R y σ2 H5 else S σ2 H4)
  (hd:∀D H' (zs:List Int),H D=none->Same H H'->H' D=some (.lst (zs.map V.int))->(∀z∈zs,Pv z)->zs.length<=n->(all=true->zs.length=n)->Q (.ref D) H'):LCW (Itr lo n) g tc te nv fr σ H Q:=by
 intro D hD;refine⟨λi m σ' H'=>m=n-i/\i<=n/\∃ (vs:St) (zs:List Int),vs.length=nv/\σ'=vs++(fr.map λj=>(σ[j]?).join)/\Same H H'/\H' D=some (.lst (zs.map V.int))/\(∀z∈zs,Pv z)/\zs.length<=i/\(all=true->zs.length=i),⟨n,by simp,FV _,List.replicate nv none,[],by simp,rfl,Same.new hD,ah,by simp,by simp,by simp⟩,?_⟩;rintro i m σ' H' ⟨rfl,hi,vs,zs,hv,rfl,sm,hD',hz,hl,ha⟩;by_cases hlt:i<n
 .refine .inr ⟨hlt,λσ'' H''=>∃ (vs:St) (zs:List Int),vs.length=nv/\σ''=vs++(fr.map λj=>(σ[j]?).join)/\Same H H''/\H'' D=some (.lst (zs.map V.int))/\(∀z∈zs,Pv z)/\zs.length<=i+1/\(all=true->zs.length=i+1),λσ'' H'' q=>⟨n- (i+1),Gp hlt (Gk _),rfl,hlt,q⟩,λx H2 y=> ?_⟩;obtain⟨e1,e2⟩:=y;subst e1 e2;refine hs i vs _ (λy σ2 H5=>∃xs,H5 D=some (.lst xs)/\xs.length<sizeLine/\∃ (vs:St) (zs:List Int),vs.length=nv/\σ2=vs++(fr.map λj=>(σ[j]?).join)/\Same H (upd H5 D (.lst (xs++[y])))/\upd H5 D (.lst (xs++[y])) D=some (.lst (zs.map V.int))/\(∀z∈zs,Pv z)/\zs.length<=i+1/\(all=true->zs.length=i+1)) _ hlt hv sm (λz vs' H'' pz hv' sm'=> ?_) λhall vs' H'' hv' sm'=> ?_
  .refine⟨_,sm' D _ hD',by rw[E3];exact Ft hl (Fb hlt hn),vs',zs++[z],hv',rfl,(sm.trans sm').upd hD,by rw[ah,FW];rfl,λu hu=> ?_,by rw[Fw];exact HH hl,λe=>by rw[Fw,ha e];rfl⟩;rcases FE.mp hu with h|h
   .exact hz u h
   .rw[FI.mp h];exact pz
  .exact⟨vs',zs,hv',rfl,sm.trans sm',sm' D _ hD',hz,Nat.le_succ_of_le hl,λe=>by rw[hall]at e;cases e⟩
 .have e:i=n:=Gr hi (Gh hlt);subst e;exact .inl ⟨Fj _,hd D H' zs hD sm hD' hz hl ha⟩
end L2
namespace L2
section
variable{t u:TS}{σ:St}{H:Hp}{n:St->Hp->Prop}{r:VK}{b c:St->Hp->Prop}
end
theorem EO{α:Type}{p:List α->Prop}(h:p [])(us:List α)(e:us.length=0):p us:=by
 cases us with
 |nil=>exact h
 |cons a r=>cases e
theorem B9{α:Type}{p:List α->Prop}{n:Nat}(h:∀ (a:α) (r:List α),r.length=n->p (a::r))(us:List α)(e:us.length=n+1):p us:=by
 cases us with
 |nil=>cases e
 |cons a r=>exact h a r (Nat.succ.inj e)
theorem gE{α:Type}{p:List α->Prop}(h:∀a,p [a])(us:List α)(e:us.length=1):p us:=B9 (p:=p) (λa r=>EO (p:=λr=>p (a::r)) (h a) r) us e
theorem cB{α:Type}{p:List α->Prop}(h:∀a b,p [a,b])(us:List α)(e:us.length=2):p us:=B9 (p:=p) (λa r=>gE (p:=λr=>p (a::r)) (h a) r) us e
theorem lD{α:Type}{p:List α->Prop}(h:∀a b c,p [a,b,c])(us:List α)(e:us.length=3):p us:=B9 (p:=p) (λa r=>cB (p:=λr=>p (a::r)) (h a) r) us e
theorem vF{α:Type}{p:List α->Prop}(h:∀a b c d,p [a,b,c,d])(us:List α)(e:us.length=4):p us:=B9 (p:=p) (λa r=>lD (p:=λr=>p (a::r)) (h a) r) us e
end L2
namespace L2
open PySem PySem.Spec PySem.W PyProof.Rows PySem.SeqAt
def e9(H H':Hp):Prop:=∀b xs,H b=some (.tup xs)->H' b=some (.tup xs)
theorem e9.of(h:Same H H'):e9 H H':=λb xs e=>h b _ e
theorem e9.trans(a:e9 H H1)(b:e9 H1 H2):e9 H H2:=λc xs e=>b c xs (a c xs e)
theorem e9.upd{H:Hp}{q:Addr}{ys:List V}{o:HO}(h:H q=some (.lst ys)):e9 H (upd H q o):=λb xs e=>by rw[aC (gK e h (by intro z;cases z))];exact e
theorem e9.new(h:H q=none):e9 H (L2.upd H q o):=λb xs e=>by rw[aC (aA e h)];exact e
def cS(H:Hp)(xs:List V)(ts:List (Nat×Nat)):Prop:=xs.length=ts.length/\∀ (i:Nat) (t:Nat×Nat),ts[i]?=some t->∃a,xs[i]?=some (.ref a)/\H a=some (.tup [.int t.1, .int t.2])
theorem cS.ts{H H':Hp}{xs:List V}{ts:List (Nat×Nat)}(h:cS H xs ts)(e:e9 H H'):cS H' xs ts:=
 ⟨h.1,λi t ht=>by obtain⟨a,h1,h2⟩:=h.2 i t ht;exact⟨a,h1,e _ _ h2⟩⟩
theorem cS.nil:cS H [] []:=⟨rfl,λi t h=>by simp at h⟩
theorem cS.at{H:Hp}{xs:List V}{ts:List (Nat×Nat)}(h:cS H xs ts){i:Nat}{y:V}(hy:xs[i]?=some y):∃a t,ts[i]?=some t/\y= .ref a/\H a=some (.tup [.int t.1, .int t.2]):=by
 have hi:i<ts.length:=by rw[<-h.1];exact(Fd.mp hy).1
 obtain⟨a,h1,h2⟩:=h.2 i (ts[i]) (Fs hi);rw[hy]at h1;exact⟨a,ts[i],Fs hi,F9 h1,h2⟩
def wO(K:PySem.W.Frag):List V->Hp->VK->Prop:=λxs H Q=>∃ (p:Addr) (ns:List Int),xs=[.ref p]/\SqL K H p (ns.map V.int)/\ns.length+1<4096/\
 ∀l,H l=none->Q (.ref l) (upd H l (.set (λk=>(firstMet (λi=>ns.getD i 0) ns.length).any (· ==k)) (firstMet (λi=>ns.getD i 0) ns.length).length))
theorem yP{X:Cx}(hc:X.calm=true):b7 X (.type "set") (wO X.K):=by
 intro pins s σ H vs us Q I rv h;obtain⟨p,ns,rfl,ha,hn,q⟩:=h;obtain⟨u,rfl,ru⟩:=iX rv;cases ru;obtain⟨its,r1,p1,hz⟩:=I.list ha;have hi:=fH r1;have hlen:=r1.length;rw[E3]at hlen;refine call_set_list (ns:=ns) (I.ok.hd hc) p1.isList (by simpa using hi) (by rw[F3];show its.length+1<4096;lia) λh' tk hS hk=> ?_;have esz:its.toArray.size=ns.length:=by rw[F3,hlen]
 rw[esz]at hS;exact⟨.ref s.heap.objs.size,_,I.laid (t':=tk) (λb o e=>hk b o (Fz e) e) (Fj _) (show b6 X.prog X.w _ _ _ (.set _ _)from hS),rfl,q _ (I.hok.fresh (Fj _))⟩
theorem vW{X:Cx}{K:PySem.W.Frag}(h:X.K=K)(hc:X.calm=true):b7 X (.type "set") (wO K):=by subst h;exact yP hc
def Di:List V->Hp->VK->Prop:=λxs H Q=>∃ (p:Addr) (S:Int->Bool) (n:Nat),xs=[.ref p]/\H p=some (.set S n)/\Q (.int n) H
theorem vY:b7 X (.builtin "len") Di:=by intro pins s σ H vs us Q I rv h;obtain⟨p,S,n,rfl,hp,q⟩:=h;obtain⟨u,rfl,ru⟩:=iX rv;cases ru;obtain⟨o,es,ep,t,ho,hex,hd,hel,hmem,hb,hf,hn⟩:=I.hok p _ hp;have hb4:es.size<4096:=hb;exact call_len_set ho hex hd hf (Int.lt_of_lt_of_le (show(es.size:Int)<4096 by lia) (by decide)) ⟨.int n,H,I.tok _,⟨_,by rw[hn]⟩,q⟩
def Dh:List V->Hp->VK->Prop:=λxs H Q=>∃ (p:Addr) (n:Nat),xs=[.ref p]/\H p=some (.rng 0 n)/\n<=1000/\∀l,H l=none->Q (.ref l) (upd H l (.lst (((List.range n).map λi:Nat=>(i:Int)).map V.int)))
theorem mE:∀ (acc:List Value) (n k:Nat),acc.length=n->(∀ (i:Nat) (v:Value),acc[i]?=some v->∃t,v= .int (((k+i:Nat)):Int) t)->Vals (((List.range' k n).map λi:Nat=>(i:Int)).map V.int) acc
 | [],0,_,_,_=> .nil
 |v::r,n+1,k,hl,h=>by
  obtain⟨t,e⟩:=h 0 v rfl;subst e;exact .cons ⟨t,rfl⟩ (mE r n (k+1) (Nat.succ.inj hl) λi u hu=>by obtain⟨t',e'⟩:=h (i+1) u (by simpa using hu);exact⟨t',by rw[e',show k+(i+1)=k+1+i by lia]⟩)
theorem vX{X:Cx}(hc:X.calm=true):b7 X (.type "list") Dh:=by
 intro pins s σ H vs us Q I rv h;obtain⟨p,n,rfl,hp,hn,q⟩:=h;obtain⟨u,rfl,ru⟩:=iX rv;cases ru;obtain⟨t,u,v,e⟩:=I.hok p _ hp;have hr:IsRange s.heap p 0 (n:Int) 1 t u v:=e;refine call_list_range (n:=n) (I.ok.hd hc) hr (small_one (by decide) (by decide) (by lia) (by lia)) (by rw[rangeSize_nat];lia) (by lia) λh' tk acc' c' hk hD hI=> ?_;have hv:Vals (((List.range n).map λi:Nat=>(i:Int)).map V.int) acc'.toList:=by rw[Hw];refine mE acc'.toList n 0 (by rw[IJ];exact hI.1) λi w hw=> ?_;obtain⟨t',e'⟩:=hI.2 i w (by rw[<-hw,Jp]);exact⟨t',by rw[e'];congr 1;lia⟩
 refine⟨.ref s.heap.objs.size,_,I.laid (t':=tk) hk (Fj _) (show b6 X.prog X.w _ _ _ (.lst _)from⟨?_,acc'.toList,c',hv,?_⟩),rfl,q _ (I.hok.fresh (Fj _))⟩
 .rw[E3,E3,FD];exact Fc hn (by decide)
 .rw[Array.toArray_toList];exact hD
theorem AK{K:PySem.W.Frag}{a:Addr}{xs:List V}{g:TG}{tc:TT}{te:TE}{nv:Nat}{fr:List Nat}{σ:St}{H:Hp}{Q:VK}(Rl:V->V->Hp->Prop)(hRl:∀x y H H',e9 H H'->Rl x y H->Rl x y H')(ha:SqL K H a xs)(hn:xs.length<=sizeLine)
  (hs:∀ (i:Nat) (x:V) (vs:St) (H':Hp) (R:V->St->Hp->Prop) (S:St->Hp->Prop),xs[i]?=some x->vs.length=nv->Same H H'->
   (∀y vs' H'',Rl x y H''->vs'.length=nv->Same H' H''->R y (vs'++fr.map λj=>(σ[j]?).join) H'')->
   g x (vs++fr.map λj=>(σ[j]?).join) H' λσ2 H3=>tc σ2 H3 λb H4=>if b=true then te σ2 H4 λy H5=>R y σ2 H5 else S σ2 H4)
  (hd:∀D H' (ys:List V),H D=none->Same H H'->H' D=some (.lst ys)->ys.length=xs.length->(∀ (j:Nat) (x y:V),xs[j]?=some x->ys[j]?=some y->Rl x y H')->Q (.ref D) H'):LCW (Itl K a) g tc te nv fr σ H Q:=by
 intro D hD;refine⟨λi m σ' H'=>m=xs.length-i/\i<=xs.length/\∃ (vs:St) (ys:List V),vs.length=nv/\σ'=vs++(fr.map λj=>(σ[j]?).join)/\Same H H'/\H' D=some (.lst ys)/\ys.length=i/\(∀ (j:Nat) (x y:V),xs[j]?=some x->ys[j]?=some y->Rl x y H'),⟨xs.length,by simp,FV _,List.replicate nv none,[],by simp,rfl,Same.new hD,ah,rfl,by simp⟩,?_⟩;rintro i m σ' H' ⟨rfl,hi,vs,ys,hv,rfl,sm,hD',hl,hz⟩;have ha':SqL K H' a xs:=sm.seq ha;by_cases hlt:i<xs.length
 .refine .inr ⟨⟨xs,xs[i],ha',by simp[hlt]⟩,λσ'' H''=>∃ (vs:St) (ys:List V),vs.length=nv/\σ''=vs++(fr.map λj=>(σ[j]?).join)/\Same H H''/\H'' D=some (.lst ys)/\ys.length=i+1/\(∀ (j:Nat) (x y:V),xs[j]?=some x->ys[j]?=some y->Rl x y H''),λσ'' H'' q=>⟨xs.length- (i+1),Gp hlt (Gk _),rfl,hlt,q⟩,λx H2 y=> ?_⟩;obtain⟨e1,e2⟩:=y;subst e1;have hx:=e2 xs ha';refine hs i x vs _ (λy σ2 H5=>∃xs',H5 D=some (.lst xs')/\xs'.length<sizeLine/\∃ (vs:St) (ys:List V),vs.length=nv/\σ2=vs++(fr.map λj=>(σ[j]?).join)/\Same H (upd H5 D (.lst (xs'++[y])))/\upd H5 D (.lst (xs'++[y])) D=some (.lst ys)/\ys.length=i+1/\(∀ (j:Nat) (x z:V),xs[j]?=some x->ys[j]?=some z->Rl x z (upd H5 D (.lst (xs'++[y]))))) _ hx hv sm (λy vs' H'' pz hv' sm'=> ?_);have hD2:=sm' D _ hD';refine⟨_,hD2,by rw[hl];exact Fb hlt hn,vs',ys++[y],hv',rfl,(sm.trans sm').upd hD,ah,by rw[Fw,hl];rfl,λj x' z hx' hz'=> ?_⟩;refine hRl _ _ _ _ (e9.upd hD2) ?_;by_cases hj:j<ys.length
  .rw[FQ hj]at hz';exact hRl _ _ _ _ (e9.of sm') (hz j x' z hx' hz')
  .rw[FR (by lia)]at hz';have hj2:j-ys.length=0:=by
    cases e:j-ys.length with
    |zero=>rfl
    |succ n=>rw[e]at hz';simp at hz'
   rw[hj2]at hz';cases hz';have ej:j=i:=by lia
   subst ej;rw[hx]at hx';cases hx';exact pz
 .have e:i=xs.length:=Gr hi (Gh hlt);subst e;exact .inl ⟨⟨xs,ha',Fj _⟩,hd D H' ys hD sm hD' hl hz⟩
end L2
namespace L2
open PySem PySem.Spec PyProof.Rows
def Itz(K:PySem.W.Frag)(a b:Addr):It:=
 ⟨λi H=>∃xs ys x y,SqL K H a xs/\SqL K H b ys/\xs[i]?=some x/\ys[i]?=some y,
  λi H x H'=>∃t,x= .ref t/\H t=none/\∃v u,(∀xs,SqL K H a xs->xs[i]?=some v)/\(∀ys,SqL K H b ys->ys[i]?=some u)/\H'=upd H t (.tup [v,u]),
  λi H=>∃xs ys,SqL K H a xs/\SqL K H b ys/\(xs.length<=i\/ys.length<=i)⟩
theorem wj{z TI TO i1 i2 b:Addr}(h:b∈[z,TO,i1,i2]):b∈[z,TI,TO,i1,i2]:=by
 rcases Fh.mp h with h|h
 .exact Fh.mpr (.inl h)
 .exact Fe _ (Fe _ h)
theorem eO{z TO i1 i2 b:Addr}(hb:b∉ [z,TO,i1,i2]):b≠z/\b≠TO/\b≠i1/\b≠i2:=by simp only[Fh,Jk,or_false,not_or]at hb;exact hb
theorem zh{P:Program}{w:World}{K:PySem.W.Frag}{elts:List Expr}{x1:Nat}{tp:Pos}(l1 l2 z TI TO i1 i2:Addr)(D:ZipApart z TI TO i1 i2 l1 l2):
  Turn P w K (.Tuple elts x1 tp) (Itz K l1 l2) [z,TI,TO,i1,i2] z (λi h=>IsZip h z TI TO .none/\IsPair h TI (.ref i1) (.ref i2)/\(∃a b,IsPair h TO a b)/\h.IsListIter i1 l1 i/\h.IsListIter i2 l2 i) where
 mem:=by simp
 obj:=λi h st b hb=>by
  obtain⟨hz,hTI,⟨a',b',hTO⟩,h1,h2⟩:=st;simp only[Fh,Jk,or_false]at hb;rcases hb with rfl|rfl|rfl|rfl|rfl
  .exact⟨_,hz,λv q=>by have q':Data.fields _=Data.cell v:=q;cases q'⟩
  .exact⟨_,hTI,λv q=>by have q':Data.seq _ _=Data.cell v:=q;cases q'⟩
  .exact⟨_,hTO,λv q=>by have q':Data.seq _ _=Data.cell v:=q;cases q'⟩
  .obtain⟨o,e,c,d⟩:=h1;exact⟨o,e,λv q=>by rw[d]at q;cases q⟩
  .obtain⟨o,e,c,d⟩:=h2;exact⟨o,e,λv q=>by rw[d]at q;cases q⟩
 keep:=λi h h' st k=>by obtain⟨hz,hTI,⟨a',b',hTO⟩,h1,h2⟩:=st;exact⟨k z (by simp) _ hz,k TI (by simp) _ hTI,⟨a',b',k TO (by simp) _ hTO⟩,h1.at λo e=>k i1 (by simp) o e,h2.at λo e=>k i2 (by simp) o e⟩
 item:=by
  intro X hP hw hK hc i pins s σ H E I hf st hg;subst hP hw hK;obtain⟨xs,ys,x,y,hq1,hq2,hx,hy⟩:=hg;obtain⟨hz,hTI,⟨a',b',hTO⟩,h1,h2⟩:=st;obtain⟨its,rv,p1,hz1⟩:=I.list hq1;obtain⟨jts,rw',p2,hz2⟩:=I.list hq2;obtain⟨u,hu,ru⟩:=rv.get hx;obtain⟨v,hv,rv'⟩:=rw'.get hy;refine wpAny_pyNext_zip_item D hz hTI hTO h1 h2 p1.isList p2.isList (x:=u) (y:=v) (by simpa using hu) (by simpa using hv) λh₁ hzo hTO₁ h1₁ h2₁ ht₁ hsz₁ hk₁=> ?_;refine⟨_,rfl,wpAny_letOwnedTupleGo_zip hzo λh₂ hz₂ hs₂=> ?_⟩;replace hs₂:Heap.SameBut z h₁ h₂:=hs₂;have hzl:z<s.heap.objs.size:=Fz hz;have hTIl:TI<s.heap.objs.size:=Fz hTI;have hTOl:TO<s.heap.objs.size:=Fz hTO;have h1l:i1<s.heap.objs.size:=by obtain⟨o,e,_⟩:=h1;exact Fz e
  have h2l:i2<s.heap.objs.size:=by obtain⟨o,e,_⟩:=h2;exact Fz e
  have hfr:H s.heap.objs.size=none:=I.fresh;have ht₂:h₂.get? s.heap.objs.size=some {cls:= .type "tuple",data:= .seq #[u,v]}:=(hs₂.2 _ (IA hzl)).trans ht₁;have kk:∀c o,c≠z->c≠TO->c≠i1->c≠i2->s.heap.get? c=some o->h₂.get? c=some o:=λc o c1 c2 c3 c4 e=>(hs₂.2 c c1).trans (hk₁ c o c1 c2 c3 c4 e);have I1:Inv X pins σ H {s with heap:=h₂,gens:=s.gens,drawn:=s.drawn,toks:=s.toks}:=I.own [z,TO,i1,i2] (λb hb=>hf b (wj hb)) λb o hb e=>kk b o (eO hb).1 (eO hb).2.1 (eO hb).2.2.1 (eO hb).2.2.2 e;have I2:Inv X pins σ (upd H s.heap.objs.size (.tup [x,y])) {s with heap:=h₂}:=I.pairIn I1 ru rv' ht₂;refine⟨.ref s.heap.objs.size,_,I2,rfl,⟨_,rfl,hfr,x,y,λzs hy=>by rw[I.list_inj hy hq1];exact hx,λzs hz=>by rw[I.list_inj hz hq2];exact hy,rfl⟩,⟨hz₂,?_,⟨_,_,(hs₂.2 TO D.TOz).trans hTO₁⟩,?_,?_⟩,λb hb=> ?_⟩
  .exact kk TI _ D.TIz D.TITO D.TIi1 D.TIi2 hTI
  .obtain⟨o,e,c,d⟩:=h1₁;exact⟨o,(hs₂.2 i1 D.i1z).trans e,c,d⟩
  .obtain⟨o,e,c,d⟩:=h2₁;exact⟨o,(hs₂.2 i2 D.i2z).trans e,c,d⟩
  .have hb0:=(hf b hb).1;have hbl:b≠s.heap.objs.size:=by
    simp only[Fh,Jk,or_false]at hb;rcases hb with rfl|rfl|rfl|rfl|rfl
    .exact FN hzl
    .exact FN hTIl
    .exact FN hTOl
    .exact FN h1l
    .exact FN h2l
   rw[aC hbl];exact hb0
 done:=by
  intro X hP hw hK hc i pins s σ H E I hf st hg;subst hP hw hK;obtain⟨xs,ys,hq1,hq2,hle⟩:=hg;obtain⟨hz,hTI,⟨a',b',hTO⟩,h1,h2⟩:=st;obtain⟨its,rv,p1,hz1⟩:=I.list hq1;obtain⟨jts,rw',p2,hz2⟩:=I.list hq2;have e1:=rv.length;have e2:=rw'.length;refine wpAny_pyNext_zip_end (I.ok.hd hc) D hz hTI hTO h1 h2 p1.isList p2.isList (by
   rcases hle with h|h
   .exact .inl (by simp;lia)
   .exact .inr (by simp;lia)) λh₂ kk=>⟨rfl,?_⟩
  exact I.own [z,TO,i1,i2] (λb hb=>hf b (wj hb)) λb o hb e=>kk b o (eO hb).1 (eO hb).2.1 (eO hb).2.2.1 (eO hb).2.2.2 e
 self:=λ_ _ _ _ _ st h=>wpAny_pyIter_zip st.1 h
section
variable{X:Cx}{elts:List Expr}{x1:Nat}{tp:Pos}
def Es(K:PySem.W.Frag)(ta:TA):TI:=λσ H R=>ta σ H λvs H1=>∃a b,vs=[.ref a, .ref b]/\(∃xs,SqL K H1 a xs)/\(∃ys,SqL K H1 b ys)/\R (Itz K a b) H1
theorem Dl{a b:Expr}{ta:TA}{p pos:Pos}(hg:Gl X "zip")(hm:X.mg "zip"=none)(ha:PA X [a,b] ta)(hs:starEach [a,b] X.env=(false,eval a X.env)::starEach [b] X.env:=by rfl)(hpl:(backTo pos (starEach [b] X.env)).any (·.1)=false:=by rfl):PI X (.Tuple elts x1 tp) (.Call (.Name "zip" p) [a,b] [] pos) (Es X.K ta):=by
 intro pins s σ H R I h;refine Ip (iR I hg hm boot_zip ?_);refine Ho (thn (ha pos pins s σ H _ I h) λus s1 ⟨vs,H1,I1,r1,q1⟩=> ?_) hs hpl;obtain⟨a,b,e,⟨xs,hx⟩,⟨ys,hy⟩,q⟩:=q1;subst e;obtain⟨u,v,rfl,ru,rv⟩:=za r1;cases ru;cases rv;obtain⟨its,r2,p2,hz2⟩:=I1.list hx;obtain⟨jts,r3,p3,hz3⟩:=I1.list hy;have la:a<s1.heap.objs.size:=by obtain⟨o,e,_⟩:=p2.isList;exact Fz e
 have lb:b<s1.heap.objs.size:=by obtain⟨o,e,_⟩:=p3.isList;exact Fz e
 refine call_zip_2 p2.isList p3.isList λh' hz hTI hTO h1 h2 hsz hk=> ?_;refine wpAny_pyIter_zip hz ⟨s1.heap.objs.size+4,[s1.heap.objs.size+4,s1.heap.objs.size+2,s1.heap.objs.size+3,s1.heap.objs.size,s1.heap.objs.size+1],_,Itz X.K a b,H1,rfl,I1.kept (t':=s1.toks) hk,zh a b _ _ _ _ _ (zipApart_new la lb),⟨hz,hTI,⟨_,_,hTO⟩,h1,h2⟩,λc hc=> ?_,q⟩;have hc':s1.heap.objs.size<=c:=by
  simp only[Fh,Jk,or_false]at hc;rcases hc with e|e|e|e|e<;>rw[e]
  .exact IF _ _
  .exact IF _ _
  .exact IF _ _
  .exact Fj _
  .exact IF _ _
 exact I1.fpOk hc' (I1.hok.fresh hc')
theorem BQ{K:PySem.W.Frag}{a b:Expr}{ta:TA}{p pos:Pos}(h:X.K=K)(hg:Gl X "zip")(hm:X.mg "zip"=none)(ha:PA X [a,b] ta)(hs:starEach [a,b] X.env=(false,eval a X.env)::starEach [b] X.env:=by rfl)(hpl:(backTo pos (starEach [b] X.env)).any (·.1)=false:=by rfl):PI X (.Tuple elts x1 tp) (.Call (.Name "zip" p) [a,b] [] pos) (Es K ta):=by subst h;exact Dl hg hm ha hs hpl
end
def hide(H:Hp)(D:Addr):Hp:=λb=>if b=D then none else H b
theorem fX(h:b≠D):hide H D b=H b:=by unfold hide;rw[Fg h]
theorem tQ:hide (upd H D o) D=hide H D:=by
 funext b;unfold hide;split
 .rfl
 .rename_i h;exact aC h
theorem fv:Same (hide H D) H:=λb o e=>by
 unfold hide at e;split at e
 .cases e
 .exact e
theorem pB(h:Same H H'):Same (hide H D) (hide H' D):=λb o e=>by
 unfold hide at e⊢;split at e
 .cases e
 .rename_i hb;rw[Fg hb];exact h b o e
theorem h9{K:PySem.W.Frag}{a:Addr}{xs:List V}{g:TG}{tc:TT}{te:TE}{nv:Nat}{fr:List Nat}{σ:St}{H:Hp}{Q:VK}(Rl:V->V->Hp->Prop)(hRl:∀x y H H',Same H H'->Rl x y H->Rl x y H')(ha:SqL K H a xs)(hn:xs.length<=sizeLine)
  (hs:∀ (i:Nat) (x:V) (vs:St) (D:Addr) (H':Hp) (R:V->St->Hp->Prop) (S:St->Hp->Prop),xs[i]?=some x->vs.length=nv->Same H H'->(∃l,H' D=some (.lst l))->
   (∀y vs' H'',Rl x y (hide H'' D)->vs'.length=nv->Same H' H''->R y (vs'++fr.map λj=>(σ[j]?).join) H'')->
    g x (vs++fr.map λj=>(σ[j]?).join) H' λσ2 H3=>tc σ2 H3 λb H4=>if b=true then te σ2 H4 λy H5=>R y σ2 H5 else S σ2 H4)
  (hd:∀D H' (ys:List V),H D=none->Same H H'->H' D=some (.lst ys)->ys.length=xs.length->(∀ (j:Nat) (x y:V),xs[j]?=some x->ys[j]?=some y->Rl x y (hide H' D))->Q (.ref D) H'):LCW (Itl K a) g tc te nv fr σ H Q:=by
 intro D hD;refine⟨λi m σ' H'=>m=xs.length-i/\i<=xs.length/\∃ (vs:St) (ys:List V),vs.length=nv/\σ'=vs++(fr.map λj=>(σ[j]?).join)/\Same H H'/\H' D=some (.lst ys)/\ys.length=i/\(∀ (j:Nat) (x y:V),xs[j]?=some x->ys[j]?=some y->Rl x y (hide H' D)),⟨xs.length,by simp,FV _,List.replicate nv none,[],by simp,rfl,Same.new hD,ah,rfl,by simp⟩,?_⟩;rintro i m σ' H' ⟨rfl,hi,vs,ys,hv,rfl,sm,hD',hl,hz⟩;have ha':SqL K H' a xs:=sm.seq ha;by_cases hlt:i<xs.length
 .refine .inr ⟨⟨xs,xs[i],ha',by simp[hlt]⟩,λσ'' H''=>∃ (vs:St) (ys:List V),vs.length=nv/\σ''=vs++(fr.map λj=>(σ[j]?).join)/\Same H H''/\H'' D=some (.lst ys)/\ys.length=i+1/\(∀ (j:Nat) (x y:V),xs[j]?=some x->ys[j]?=some y->Rl x y (hide H'' D)),λσ'' H'' q=>⟨xs.length- (i+1),Gp hlt (Gk _),rfl,hlt,q⟩,λx H2 y=> ?_⟩;obtain⟨e1,e2⟩:=y;subst e1;have hx:=e2 xs ha';refine hs i x vs D _ (λy σ2 H5=>∃xs',H5 D=some (.lst xs')/\xs'.length<sizeLine/\∃ (vs:St) (ys:List V),vs.length=nv/\σ2=vs++(fr.map λj=>(σ[j]?).join)/\Same H (upd H5 D (.lst (xs'++[y])))/\upd H5 D (.lst (xs'++[y])) D=some (.lst ys)/\ys.length=i+1/\(∀ (j:Nat) (x z:V),xs[j]?=some x->ys[j]?=some z->Rl x z (hide (upd H5 D (.lst (xs'++[y]))) D))) _ hx hv sm ⟨_,hD'⟩ (λy vs' H'' pz hv' sm'=> ?_);have hD2:=sm' D _ hD';refine⟨_,hD2,by rw[hl];exact Fb hlt hn,vs',ys++[y],hv',rfl,(sm.trans sm').upd hD,ah,by rw[Fw,hl];rfl,λj x' z hx' hz'=> ?_⟩;rw[tQ];by_cases hj:j<ys.length
  .rw[FQ hj]at hz';exact hRl _ _ _ _ (pB sm') (hz j x' z hx' hz')
  .rw[FR (by lia)]at hz';have hj2:j-ys.length=0:=by
    cases e:j-ys.length with
    |zero=>rfl
    |succ n=>rw[e]at hz';simp at hz'
   rw[hj2]at hz';cases hz';have ej:j=i:=by lia
   subst ej;rw[hx]at hx';cases hx';exact pz
 .have e:i=xs.length:=Gr hi (Gh hlt);subst e;exact .inl ⟨⟨xs,ha',Fj _⟩,hd D H' ys hD sm hD' hl hz⟩
theorem Cb{K:PySem.W.Frag}{a:Addr}{xs:List V}{g:TG}{tc:TT}{te:TE}{nv:Nat}{fr:List Nat}{σ:St}{H:Hp}{Q:VK}(Rl:V->V->Hp->Prop)(hRl:∀x y H H',Same H H'->Rl x y H->Rl x y H')(ha:H a=some (.tup xs))(hn:xs.length<=sizeLine)
  (hs:∀ (i:Nat) (x:V) (vs:St) (D:Addr) (H':Hp) (R:V->St->Hp->Prop) (S:St->Hp->Prop),xs[i]?=some x->vs.length=nv->Same H H'->(∃l,H' D=some (.lst l))->
   (∀y vs' H'',Rl x y (hide H'' D)->vs'.length=nv->Same H' H''->R y (vs'++fr.map λj=>(σ[j]?).join) H'')->
    g x (vs++fr.map λj=>(σ[j]?).join) H' λσ2 H3=>tc σ2 H3 λb H4=>if b=true then te σ2 H4 λy H5=>R y σ2 H5 else S σ2 H4)
  (hd:∀D H' (ys:List V),H D=none->Same H H'->H' D=some (.lst ys)->ys.length=xs.length->(∀ (j:Nat) (x y:V),xs[j]?=some x->ys[j]?=some y->Rl x y (hide H' D))->Q (.ref D) H'):LCW (Itt K a) g tc te nv fr σ H Q:=by
 intro D hD;refine⟨λi m σ' H'=>m=xs.length-i/\i<=xs.length/\∃ (vs:St) (ys:List V),vs.length=nv/\σ'=vs++(fr.map λj=>(σ[j]?).join)/\Same H H'/\H' D=some (.lst ys)/\ys.length=i/\(∀ (j:Nat) (x y:V),xs[j]?=some x->ys[j]?=some y->Rl x y (hide H' D)),⟨xs.length,by simp,FV _,List.replicate nv none,[],by simp,rfl,Same.new hD,ah,rfl,by simp⟩,?_⟩;rintro i m σ' H' ⟨rfl,hi,vs,ys,hv,rfl,sm,hD',hl,hz⟩;have ha':SqT K H' a xs:=SqT.of (sm.at ha);by_cases hlt:i<xs.length
 .refine .inr ⟨⟨xs,xs[i],ha',by simp[hlt]⟩,λσ'' H''=>∃ (vs:St) (ys:List V),vs.length=nv/\σ''=vs++(fr.map λj=>(σ[j]?).join)/\Same H H''/\H'' D=some (.lst ys)/\ys.length=i+1/\(∀ (j:Nat) (x y:V),xs[j]?=some x->ys[j]?=some y->Rl x y (hide H'' D)),λσ'' H'' q=>⟨xs.length- (i+1),Gp hlt (Gk _),rfl,hlt,q⟩,λx H2 y=> ?_⟩;obtain⟨e1,e2⟩:=y;subst e1;have hx:=e2 xs ha';refine hs i x vs D _ (λy σ2 H5=>∃xs',H5 D=some (.lst xs')/\xs'.length<sizeLine/\∃ (vs:St) (ys:List V),vs.length=nv/\σ2=vs++(fr.map λj=>(σ[j]?).join)/\Same H (upd H5 D (.lst (xs'++[y])))/\upd H5 D (.lst (xs'++[y])) D=some (.lst ys)/\ys.length=i+1/\(∀ (j:Nat) (x z:V),xs[j]?=some x->ys[j]?=some z->Rl x z (hide (upd H5 D (.lst (xs'++[y]))) D))) _ hx hv sm ⟨_,hD'⟩ (λy vs' H'' pz hv' sm'=> ?_);have hD2:=sm' D _ hD';refine⟨_,hD2,by rw[hl];exact Fb hlt hn,vs',ys++[y],hv',rfl,(sm.trans sm').upd hD,ah,by rw[Fw,hl];rfl,λj x' z hx' hz'=> ?_⟩;rw[tQ];by_cases hj:j<ys.length
  .rw[FQ hj]at hz';exact hRl _ _ _ _ (pB sm') (hz j x' z hx' hz')
  .rw[FR (by lia)]at hz';have hj2:j-ys.length=0:=by
    cases e:j-ys.length with
    |zero=>rfl
    |succ n=>rw[e]at hz';simp at hz'
   rw[hj2]at hz';cases hz';have ej:j=i:=by lia
   subst ej;rw[hx]at hx';cases hx';exact pz
 .have e:i=xs.length:=Gr hi (Gh hlt);subst e;exact .inl ⟨⟨xs,ha',Fj _⟩,hd D H' ys hD sm hD' hl hz⟩
theorem Ca{K:PySem.W.Frag}{a b:Addr}{xs ys:List V}{n:Nat}{g:TG}{tc:TT}{te:TE}{nv:Nat}{fr:List Nat}{σ:St}{H:Hp}{Q:VK}(f:Nat->V)(ha:SqL K H a xs)(hb:SqL K H b ys)(hxn:xs.length=n)(hyn:ys.length=n)(hn:n<=sizeLine)
  (hs:∀ (i:Nat) (x y:V) (vs:St) (H':Hp) (t:Addr) (R:V->St->Hp->Prop) (S:St->Hp->Prop),xs[i]?=some x->ys[i]?=some y->vs.length=nv->Same H H'->H' t=none->
   (∀vs' H'',vs'.length=nv->Same (upd H' t (.tup [x,y])) H''->R (f i) (vs'++fr.map λj=>(σ[j]?).join) H'')->
   g (.ref t) (vs++fr.map λj=>(σ[j]?).join) (upd H' t (.tup [x,y])) λσ2 H3=>tc σ2 H3 λb H4=>if b=true then te σ2 H4 λy H5=>R y σ2 H5 else S σ2 H4)
  (hd:∀D H',H D=none->Same H H'->H' D=some (.lst ((List.range n).map f))->Q (.ref D) H'):LCW (Itz K a b) g tc te nv fr σ H Q:=by
 intro D hD;refine⟨λi m σ' H'=>m=n-i/\i<=n/\∃vs:St,vs.length=nv/\σ'=vs++(fr.map λj=>(σ[j]?).join)/\Same H H'/\H' D=some (.lst ((List.range i).map f)),⟨n,by simp,FV _,List.replicate nv none,by simp,rfl,Same.new hD,ah⟩,?_⟩;rintro i m σ' H' ⟨rfl,hi,vs,hv,rfl,sm,hD'⟩;have ha':SqL K H' a xs:=sm.seq ha;have hb':SqL K H' b ys:=sm.seq hb;by_cases hlt:i<n
 .have lx:i<xs.length:=by lia
  have ly:i<ys.length:=by lia
  refine .inr ⟨⟨xs,ys,xs[i],ys[i],ha',hb',by simp[lx],by simp[ly]⟩,λσ'' H''=>∃vs:St,vs.length=nv/\σ''=vs++(fr.map λj=>(σ[j]?).join)/\Same H H''/\H'' D=some (.lst ((List.range (i+1)).map f)),λσ'' H'' q=>⟨n- (i+1),Gp hlt (Gk _),rfl,hlt,q⟩,λx H2 y=> ?_⟩;obtain⟨t,e1,ht,v,u,e2,e3,e4⟩:=y;subst e1 e4;have hx:=e2 xs ha';have hy:=e3 ys hb';refine hs i v u vs H' t (λy σ2 H5=>∃xs',H5 D=some (.lst xs')/\xs'.length<sizeLine/\∃vs:St,vs.length=nv/\σ2=vs++(fr.map λj=>(σ[j]?).join)/\Same H (upd H5 D (.lst (xs'++[y])))/\upd H5 D (.lst (xs'++[y])) D=some (.lst ((List.range (i+1)).map f))) _ hx hy hv sm ht λvs' H'' hv' sm'=> ?_;have smt:Same H' (upd H' t (.tup [v,u])):=Same.new ht;refine⟨_,sm' D _ (smt D _ hD'),by rw[E3,FD];exact Fb hlt hn,vs',hv',rfl,((sm.trans smt).trans sm').upd hD,?_⟩;rw[ah,GA,FW];rfl
 .have e:i=n:=Gr hi (Gh hlt);subst e;exact .inl ⟨⟨xs,ys,ha',hb', .inl (by lia)⟩,hd D H' hD sm hD'⟩
def bo(H:Hp)(xs:List V)(M:List (List Int)):Prop:=xs.length=M.length/\∀ (i:Nat) (r:List Int),M[i]?=some r->∃a,xs[i]?=some (.ref a)/\H a=some (.lst (r.map V.int))
theorem bo.same(h:bo H xs M)(e:Same H H'):bo H' xs M:=
 ⟨h.1,λi r hr=>by obtain⟨a,h1,h2⟩:=h.2 i r hr;exact⟨a,h1,e.at h2⟩⟩
theorem bo.at{H:Hp}{xs:List V}{M:List (List Int)}(h:bo H xs M){i:Nat}{y:V}(hy:xs[i]?=some y):∃a r,M[i]?=some r/\y= .ref a/\H a=some (.lst (r.map V.int)):=by
 have hi:i<M.length:=by rw[<-h.1];exact(Fd.mp hy).1
 obtain⟨a,h1,h2⟩:=h.2 i (M[i]) (Fs hi);rw[hy]at h1;exact⟨a,M[i],Fs hi,F9 h1,h2⟩
theorem bo.of{ys:List V}{M:List (List Int)}(hl:ys.length=M.length)(h:∀ (j:Nat) (r:List Int) (y:V),M[j]?=some r->ys[j]?=some y->∃a,y= .ref a/\H a=some (.lst (r.map V.int))):bo H ys M:=by
 refine⟨hl,λi r hr=> ?_⟩;have hi:i<ys.length:=by rw[hl];exact(Fd.mp hr).1
 obtain⟨a,e,ha⟩:=h i r _ hr (Fs hi);exact⟨a,by rw[Fs hi,e],ha⟩
def ik(H:Hp)(xs:List V)(M:List (List Int)):Prop:=xs.length=M.length/\∀ (i:Nat) (r:List Int),M[i]?=some r->∃a,xs[i]?=some (.ref a)/\H a=some (.tup (r.map V.int))
theorem ik.ts(h:ik H xs M)(e:e9 H H'):ik H' xs M:=
 ⟨h.1,λi r hr=>by obtain⟨a,h1,h2⟩:=h.2 i r hr;exact⟨a,h1,e _ _ h2⟩⟩
theorem ik.at{H:Hp}{xs:List V}{M:List (List Int)}(h:ik H xs M){i:Nat}{y:V}(hy:xs[i]?=some y):∃a r,M[i]?=some r/\y= .ref a/\H a=some (.tup (r.map V.int)):=by
 have hi:i<M.length:=by rw[<-h.1];exact(Fd.mp hy).1
 obtain⟨a,h1,h2⟩:=h.2 i (M[i]) (Fs hi);rw[hy]at h1;exact⟨a,M[i],Fs hi,F9 h1,h2⟩
theorem AX{K:PySem.W.Frag}{a:Addr}{xs:List V}{g:TG}{tb:TS}{D:Ends}{σ:St}{H:Hp}(Pv:Nat->St->Hp->Prop)(h0:Pv 0 σ H)(hl:∀i σ H,i<=xs.length->Pv i σ H->SqL K H a xs)
  (hs:∀ (i:Nat) x t σ H,xs[i]?=some x->H t=none->Pv i σ H->g (.ref t) σ (upd H t (.tup [.int (i:Nat),x])) λσ2 H2=>tb {D with nx:=Pv (i+1),ct:=Pv (i+1),bk:=D.nx} σ2 H2) (hd:∀σ H,Pv xs.length σ H->D.nx σ H):
  ∃W:Nat->Nat->St->Hp->Prop,(∃m,W 0 m σ H)/\∀i m σ H,W i m σ H->
   ((Ite K a).stop i H/\D.nx σ H)\/((Ite K a).go i H/\∃N:St->Hp->Prop,(∀σ' H',N σ' H'->∃m',m'<m/\W (i+1) m' σ' H')/\∀x H',(Ite K a).yld i H x H'->g x σ H' λσ2 H2=>tb {D with nx:=N,ct:=N,bk:=D.nx} σ2 H2):=by
 refine⟨λi m σ H=>m=xs.length-i/\i<=xs.length/\Pv i σ H,⟨xs.length,by simp,FV _,h0⟩,?_⟩;rintro i m σ H ⟨rfl,hi,p⟩;have q:=hl i σ H hi p;by_cases hlt:i<xs.length
 .refine .inr ⟨⟨xs,xs[i],q,by simp[hlt]⟩,Pv (i+1),λσ' H' p'=>⟨xs.length- (i+1),Gp hlt (Gk _),rfl,hlt,p'⟩,λx H' y=> ?_⟩;obtain⟨t,e1,ht,v,e2,e3⟩:=y;subst e1 e3;exact hs i v t σ H (e2 xs q) ht p
 .have e:i=xs.length:=Gr hi (Gh hlt);subst e;exact .inl ⟨⟨xs,q,Fj _⟩,hd σ H p⟩
theorem Cq(xs:List V)(i:Nat):lK xs none (some (i:Int))=xs.take i:=by
 unfold lK;show(xs.drop (HT.sIx _ 0 none)).take (HT.sIx _ _ (some (i:Int)) -HT.sIx _ 0 none)=_;rw[HT.qH,HT.mS,List.drop_zero,Nat.sub_zero];by_cases hk:i<=xs.length
 .rw[IL hk]
 .rw[Jj (by lia),Gm,Iu (by lia)]
theorem yH(xs:List V)(i:Nat):lK xs (some (i:Int)) none=xs.drop i:=by
 unfold lK;show(xs.drop (HT.sIx _ 0 (some (i:Int)))).take (HT.sIx _ _ none-HT.sIx _ 0 (some (i:Int)))=_;rw[HT.qH,HT.mS,Iu (by rw[Hi];lia)];by_cases hk:i<=xs.length
 .rw[IL hk]
 .rw[Jj (by lia),List.drop_length,List.drop_of_length_le (by lia)]
theorem fG:∀ {a b:List Int},a.map V.int=b.map V.int->a=b
 | [],[],_=>rfl
 | [],_::_,h=>by simp at h
 |_::_,[],h=>by simp at h
 |x::a,y::b,h=>by
  rw[FT,FT]at h;injection h with h1 h2
  rw[V.int.inj h1,fG h2]
theorem mf{H:Hp}{a:Addr}{r s:List Int}(h:H a=some (.lst (r.map V.int)))(g:H a=some (.lst (s.map V.int))):r=s:=by
 rw[h]at g;injection g with g
 injection g with g
 exact fG g
theorem bo.cut{xs:List V}{M:List (List Int)}(h:bo H xs M)(i:Nat):bo H (xs.take i++xs.drop (i+1)) (M.take i++M.drop (i+1)):=by
 have hl:=h.1;refine⟨by rw[Fw,Fw,FP,FP,Hi,Hi,hl],λj r hr=> ?_⟩;by_cases hj:j<(M.take i).length
 .rw[FQ hj]at hr;rw[FP]at hj;rw[Ie (by lia)]at hr;obtain⟨a,h1,h2⟩:=h.2 j r hr;exact⟨a,by rw[FQ (by rw[FP,hl];exact hj),Ie (by lia)];exact h1,h2⟩
 .rw[FR (by lia)]at hr;have e:(xs.take i).length=(M.take i).length:=by rw[FP,FP,hl]
  rw[IT]at hr;obtain⟨a,h1,h2⟩:=h.2 _ r hr;exact⟨a,by rw[FR (by lia),IT,e];exact h1,h2⟩
theorem Bs{H:Hp}{a:Addr}{r s:List Int}(h:H a=some (.tup (r.map V.int)))(g:H a=some (.tup (s.map V.int))):r=s:=by
 rw[h]at g;injection g with g
 injection g with g
 exact fG g
section
variable{X:Cx}{e lo st:Expr}{te tl ts:TE}{pos p2:Pos}
end
end L2
namespace L2
open PySem PySem.Spec PySem.W PyProof.Rows
theorem kB:∀ {ns:List Int} {z:Int},z∈ns->Builtin.Int.intBits z<=WData.weightAll (ns.map WData.int)
 | [],z,h=>by cases h
 |n::ns,z,h=>by
  rw[FT,WData.weightAll];rcases Fh.mp h with rfl|h
  .rw[WData.weight];show(if z==0 then 0 else z.natAbs.log2+1)<=_;lia
  .have:=kB h;lia
theorem ui{ns:List Int}(h:WData.layableAll [WData.list (ns.map WData.int)]=true):∀z∈ns,Builtin.Int.intBits z<=2^20:=λz hz=>by have h1:=layableW_arg h _ Fq;obtain⟨_,_,h3⟩:=layableW_iff.mp h1;rw[WData.weight]at h3;exact Fc (kB hz) h3
theorem yZ{l:PySem.W.OpenLaw}{n k:Nat}{q:Program}{loose:List Str}{XP:(Str->Option Value)->Heap->Prop}{YP:World->Heap->Prop}{d:DefRec}{K:Params->PySem.W.Frag}{CX:World->CXT}{sp:World->Sp}{x:Str}
  (hn:l.most=some n) (hn2:n<=sizeLine) (hdf:d.params.defaults=[]) (hr:Room k callerA)
  (hY:∀ (w:World) (h:Heap),YP w h->(K w.params).In h)
  (F:∀ (w:World) (mg:Str->Option Value) (fa:Addr) (h:Heap),(K w.params).In h->h.Ns mainGlobals mg->mg d.name=some (.ref fa)->
   ∃fd:FuncData,(∀ (s:Shared) (u:Value),BindsTo s fd ⟨[u],[]⟩ [(x,u)])/\
    ∀base:Heap,(K w.params).In base->base.Ns mainGlobals mg->gJ l.prog w (K w.params) mg base (CX w) k fa fd [x] (sp w))
  (hsp:∀ (w:World) (H:Hp) (a:Addr) (ns:List Int),ns.length<=n->(∀z∈ns,Builtin.Int.intBits z<=2^20)->Only H->SqL (K w.params) H a (ns.map V.int)->sp w [.ref a] H (λv _=>v= .bl true) λ_ _ _=>False)
  (hCX:∀ (w:World) (H:Hp) (s:Shared) (e:Value) (s':Shared),CX w [] H s (λ_ _ _=>False) e s'->False):
  PySem.W.WalkO q loose XP YP l.row.toRowW d [] (λf vs=>PySem.call f vs):=by
 intro w s₀ s₁ mg mb G Y fa o pm cd doc dV kV ho hd hcd hD hmg hg args vals as hpre hlay hrd hwl hlo;obtain rfl:dV= .none:=Dflts.none hD hdf;obtain rfl:kV= .none:=Dflts.noKw hD;obtain⟨a,vs,ns,rfl,rfl,hobj,hints,hlen⟩:=Att.xE hn hpre hwl;have hb:=ui hlay;have KX:=hY w _ Y;obtain⟨fd,hbd,hF⟩:=F w mg fa _ KX G.T.g hmg;refine enter_call (J1 (AM KX G.T.g G.T.b G.T.builtins G.T.nolimit hg hobj hints (Fc hlen hn2) hr hF hbd (λH hO hS=>hsp w H a ns hlen hb hO hS) λH e s'=>hCX w H s₁ e s') λr s' hq=> ?_);obtain⟨rfl,h2,h3,h4⟩:=hq;exact⟨.inl ⟨.bool true, .bool true,[],rfl,λ_=>rfl, .bool true,Att.xN l _,λ_=>⟨List.Pairwise.nil,λ_ hm=>(nomatch hm)⟩⟩,h2,h3,h4⟩
def bO(i j:Int):Prop:=Builtin.Int.intBits i+Builtin.Int.intBits j<=2^26
theorem bO.ok(h:bO i j):IntMulOk i j:=by
 unfold IntMulOk;have h':Builtin.Int.intTooBig ((Builtin.Int.intBits i:Int)+(Builtin.Int.intBits j:Int))=false:=by unfold Builtin.Int.intTooBig;have hb:bitsLine=2^27:=rfl;unfold bO at h;simp only[hb,decide_eq_false_iff_not];lia
 simp[h']
theorem bQ:OpR X (binaryOp .Mult) (rI bO λi j=> .int (i*j)):=opI λ_ _ _ _ _ _ _ hc q=>mul_int q hc.ok
end L2
namespace L2
open PySem PySem.Spec PySem.W PyProof.Rows PySem.SeqAt
def di(H:Hp)(xs:List V)(ts:List (Nat×Nat×Int)):Prop:=xs.length=ts.length/\∀ (i:Nat) (t:Nat×Nat×Int),ts[i]?=some t->∃a,xs[i]?=some (.ref a)/\H a=some (.tup [.int t.1, .int t.2.1, .int t.2.2])
theorem di.ts{H H':Hp}{xs:List V}{ts:List (Nat×Nat×Int)}(h:di H xs ts)(e:e9 H H'):di H' xs ts:=
 ⟨h.1,λi t ht=>by obtain⟨a,h1,h2⟩:=h.2 i t ht;exact⟨a,h1,e _ _ h2⟩⟩
theorem di.nil:di H [] []:=⟨rfl,λi t h=>by simp at h⟩
theorem di.append{H:Hp}{xs ys:List V}{ts us:List (Nat×Nat×Int)}(h:di H xs ts)(g:di H ys us):di H (xs++ys) (ts++us):=by
 refine⟨by rw[Fw,Fw,h.1,g.1],λi u hu=> ?_⟩;by_cases hi:i<ts.length
 .rw[FQ hi]at hu;obtain⟨b,h1,h2⟩:=h.2 i u hu;exact⟨b,by rw[FQ (by rw[h.1];exact hi)];exact h1,h2⟩
 .rw[FR (by lia)]at hu;obtain⟨b,h1,h2⟩:=g.2 _ u hu;exact⟨b,by rw[FR (by rw[h.1];lia),h.1];exact h1,h2⟩
theorem di.one(ha:H a=some (.tup [.int t.1, .int t.2.1, .int t.2.2])):di H [.ref a] [t]:=
 ⟨rfl,λi u hu=>by
  cases i with
  |zero=>cases hu;exact⟨a,rfl,ha⟩
  |succ n=>simp at hu⟩
theorem di.at{H:Hp}{xs:List V}{ts:List (Nat×Nat×Int)}(h:di H xs ts){i:Nat}{y:V}(hy:xs[i]?=some y):∃a t,ts[i]?=some t/\y= .ref a/\H a=some (.tup [.int t.1, .int t.2.1, .int t.2.2]):=by
 have hi:i<ts.length:=by rw[<-h.1];exact(Fd.mp hy).1
 obtain⟨a,h1,h2⟩:=h.2 i (ts[i]) (Fs hi);rw[hy]at h1;exact⟨a,ts[i],Fs hi,F9 h1,h2⟩
theorem xf{z:Int}(h:z.natAbs<2^k):Builtin.Int.intBits z<=k:=by
 unfold Builtin.Int.intBits;by_cases h0:z=0
 .subst h0;exact FV _
 .have e:(z==0)=false:=by simpa using h0
  rw[e];show z.natAbs.log2+1<=k;have:z.natAbs.log2<k:=(Nat.log2_lt (by lia)).mpr h;lia
theorem bO.of{i j:Int}(hi:i.natAbs<2^k)(hj:j.natAbs<2^m)(h:k+m<=2^26):bO i j:=by unfold bO;have:=xf hi;have:=xf hj;lia
theorem iA{i j:Int}(hi:i.natAbs<2^k)(hj:j.natAbs<2^m):(i*j).natAbs<2^(k+m):=by rw[Int.natAbs_mul,Nat.pow_add];exact Nat.mul_lt_mul'' hi hj
end L2
namespace L2
open PySem PySem.Spec PySem.W PyProof.Rows
end L2
namespace L2
open PySem PySem.Spec PyProof.Rows
section
variable{κ:Type}[DecidableEq κ]
def dX(kvs:List (κ×V))(k:κ):Option V:=(kvs.find? λkv=>decide (kv.1=k)).map (·.2)
def f7(kvs:List (κ×V))(k:κ)(v:V):List (κ×V):=
 if(kvs.any λkv=>decide (kv.1=k))=true then kvs.map (λkv=>if kv.1=k then(kv.1,v)else kv)else kvs++[(k,v)]
def CT(kvs:List (κ×V))(k:κ):List (κ×V):=kvs.filter λkv=>decide (kv.1≠k)
theorem cU{p:κ×V}{r:List (κ×V)}{k:κ}(e:p.1=k):dX (p::r) k=some p.2:=by simp[dX,Iq,e]
theorem cV{p:κ×V}{r:List (κ×V)}{k:κ}(e:¬p.1=k):dX (p::r) k=dX r k:=by simp[dX,Iq,e]
theorem iY(k:κ):∀kvs:List (κ×V),(kvs.any λkv=>decide (kv.1=k))=(dX kvs k).isSome
 | []=>rfl
 |p::r=>by
  rw[IH];by_cases e:p.1=k
  .simp only[cU e,E6 e,Bool.true_or,Option.isSome_some]
  .rw[cV e,E8 e,Km];exact iY k r
theorem rP(k j:κ)(y:V):∀kvs:List (κ×V),dX (kvs.map λkv=>if kv.1=k then(kv.1,y)else kv) j=(dX kvs j).map λx=>if j=k then y else x
 | []=>rfl
 |p::r=>by
  have ih:=rP k j y r;rw[FT];by_cases h:p.1=k
  .rw[E9 h];by_cases e:p.1=j
   .rw[cU (p:=(p.1,y)) e,cU e,Jt,E9 (e.symm.trans h)]
   .rw[cV (p:=(p.1,y)) e,cV e,ih]
  .rw[Fg h];by_cases e:p.1=j
   .rw[cU (p:=p) e,cU e,Jt,Fg (λz=>h (e.trans z))]
   .rw[cV (p:=p) e,cV e,ih]
theorem oJ(k j:κ)(y:V):∀kvs:List (κ×V),dX kvs k=none->dX (kvs++[(k,y)]) j=if j=k then some y else dX kvs j
 | [],_=>by
  by_cases e:k=j
  .rw[E9 e.symm];exact cU (p:=(k,y)) e
  .rw[Fg (λz=>e z.symm)];exact cV (p:=(k,y)) e
 |p::r,hn=>by
  rw[J3];have hk:¬p.1=k:=λz=>by rw[cU z]at hn;cases hn
  rw[cV hk]at hn;have ih:=oJ k j y r hn;by_cases e:p.1=j
  .rw[cU e,cU e,Fg (λz=>hk (e.trans z))]
  .rw[cV e,cV e,ih]
theorem rO(kvs:List (κ×V))(k j:κ)(y:V):dX (f7 kvs k y) j=if j=k then some y else dX kvs j:=by
 unfold f7;by_cases a:(kvs.any λkv=>decide (kv.1=k))=true
 .rw[E9 a,rP];rw[iY]at a;by_cases e:j=k
  .obtain⟨x,hx⟩:=J2.mp a;rw[E9 e,e,hx,Jt,E9 rfl]
  .rw[Fg e];cases dX kvs j with
   |none=>rfl
   |some x=>rw[Jt,Fg e]
 .rw[Fg a];refine oJ k j y kvs ?_;rw[iY]at a;cases q:dX kvs k with
  |none=>rfl
  |some x=>rw[q]at a;exact(a rfl).elim
theorem fT(kvs:List (κ×V))(k:κ)(v:V):(f7 kvs k v).length<=kvs.length+1:=by
 unfold f7;split
 .rw[E3];lia
 .rw[Fw,FK,Kh];lia
theorem gO.isSome_eq{o:Option V}{u:Option Value}(r:gO o u):o.isSome=u.isSome:=by
 cases o with
 |none=>cases u with
  |none=>rfl
  |some _=>exact(show False from r).elim
 |some _=>cases u with
  |none=>exact(show False from r).elim
  |some _=>rfl
theorem gO.getD{o:Option V}{u:Option Value}(r:gO o u)(rd:bH d d'):bH (o.getD d) (u.getD d'):=by
 cases o with
 |none=>cases u with
  |none=>exact rd
  |some _=>exact(show False from r).elim
 |some _=>cases u with
  |none=>exact(show False from r).elim
  |some _=>exact r
theorem KV.val(r:KV kvs vs)(k:κ):gO (dX kvs k) (valueAt vs k):=by
 unfold KV at r
 induction r with
 |nil=>exact FA
 | @cons p q ps qs h t ih=>
  obtain⟨h1,h2⟩:=h;by_cases e:p.1=k
  .have e':q.1=k:=h1.symm.trans e;have b:valueAt (q::qs) k=some q.2:=by simp[valueAt,Iq,e']
   rw[cU e,b];exact h2
  .have e':¬q.1=k:=λz=>e (h1.trans z);have b:valueAt (q::qs) k=valueAt qs k:=by simp[valueAt,Iq,e']
   rw[cV e,b];exact ih
theorem KV.any{kvs:List (κ×V)}{vs:List (κ×Value)}(r:KV kvs vs)(k:κ):(kvs.any λkv=>decide (kv.1=k))=vs.any λkv=>decide (kv.1=k):=by
 unfold KV at r
 induction r with
 |nil=>rfl
 |cons h t ih=>rw[IH,IH,ih,h.1]
theorem KV.repl{kvs:List (κ×V)}{vs:List (κ×Value)}(r:KV kvs vs)(k:κ)(ry:bH y u):
  KV (kvs.map λkv=>if kv.1=k then(kv.1,y)else kv) (vs.map λkv=>if kv.1=k then(kv.1,u)else kv):=by
 unfold KV at r⊢
 induction r with
 |nil=>exact .nil
 | @cons p q ps qs h t ih=>
  rw[FT,FT];refine .cons ?_ ih;obtain⟨h1,h2⟩:=h;by_cases e:p.1=k
  .rw[E9 e,E9 (h1.symm.trans e)];exact⟨h1,ry⟩
  .rw[Fg e,Fg (λz=>e (h1.trans z))];exact⟨h1,h2⟩
theorem KV.put(r:KV kvs vs)(k:κ)(ry:bH y u):KV (f7 kvs k y) (stored vs k u):=by
 unfold f7 stored;rw[r.any k];by_cases e:(vs.any λkv=>decide (kv.1=k))=true
 .rw[E9 e,E9 e];exact r.repl k ry
 .rw[Fg e,Fg e];exact Paired.snoc r ⟨rfl,ry⟩
theorem KV.drop(r:KV kvs vs)(k:κ):KV (CT kvs k) (without vs k):=by
 unfold KV at r⊢;unfold CT without
 induction r with
 |nil=>exact .nil
 | @cons p q ps qs h t ih=>
  obtain⟨h1,h2⟩:=h;rw[Gu,Gu];by_cases e:p.1=k
  .have a:¬decide (p.1≠k)=true:=by simp[e]
   have b:¬decide (q.1≠k)=true:=by simp[h1.symm.trans e]
   rw[Fg a,Fg b];exact ih
  .have e':¬q.1=k:=λz=>e (h1.trans z);have a:decide (p.1≠k)=true:=by simp[e]
   have b:decide (q.1≠k)=true:=by simp[e']
   rw[E9 a,E9 b];exact .cons ⟨h1,h2⟩ ih
theorem KV.keys{kvs:List (κ×V)}{vs:List (κ×Value)}(r:KV kvs vs):kvs.map (·.1)=vs.map (·.1):=by
 unfold KV at r
 induction r with
 |nil=>rfl
 |cons h t ih=>rw[FT,FT,ih,h.1]
theorem KV.length{kvs:List (κ×V)}{vs:List (κ×Value)}(r:KV kvs vs):kvs.length=vs.length:=JQ r
end
theorem pw(r:bH (kV k) u):(cw P w).is k u=true:=by
 cases k with
 |inl i=>obtain⟨t,e⟩:=(show∃t,u=Value.int i t from r);subst e;exact tF P w i t
 |inr x=>obtain⟨t,e⟩:=(show∃t,u=Value.str x t from r);subst e;exact tE P w x t
theorem pA:∀ {ks:List Key} {us:List Value},Vals (ks.map kV) us->ItemsAre (cw P w) ks us
 | [],_,r=>by rw[Ig]at r;cases r;exact .nil
 |k::ks,_,r=>by
  rw[FT]at r;cases r with
  |cons h t=>exact .cons (pw h) (pA t)
abbrev KT(H:Hp):List (List Key×V)->List (List Key×Addr×Value)->Prop:=Paired λp q=>p.1=q.1/\H q.2.1=some (.tup (p.1.map kV))/\bH p.2 q.2.2
theorem KT.val(r:KT H kvs xs)(k:List Key):gO (dX kvs k) ((atKey xs k).map (·.2)):=by
 induction r with
 |nil=>exact FA
 | @cons p q ps qs h t ih=>
  obtain⟨h1,_,h2⟩:=h;by_cases e:p.1=k
  .have e':q.1=k:=h1.symm.trans e;have b:atKey (q::qs) k=some q.2:=by simp[atKey,Iq,e']
   rw[cU e,b];exact h2
  .have e':¬q.1=k:=λz=>e (h1.trans z);have b:atKey (q::qs) k=atKey qs k:=by simp[atKey,Iq,e']
   rw[cV e,b];exact ih
theorem KT.repl{kvs:List (List Key×V)}{xs:List (List Key×Addr×Value)}(r:KT H kvs xs)(k:List Key)(ry:bH y u):
  KT H (kvs.map λkv=>if kv.1=k then(kv.1,y)else kv) (xs.map (putAt k u)):=by
 induction r with
 |nil=>exact .nil
 | @cons p q ps qs h t ih=>
  rw[FT,FT];refine .cons ?_ ih;obtain⟨h1,h2,h3⟩:=h;unfold putAt;by_cases e:p.1=k
  .rw[E9 e,E9 (h1.symm.trans e)];exact⟨h1,h2,ry⟩
  .rw[Fg e,Fg (λz=>e (h1.trans z))];exact⟨h1,h2,h3⟩
theorem KT.put(r:KT H kvs xs)(k:List Key)(hb:H b=some (.tup (k.map kV)))(ry:bH y u):
  KT H (f7 kvs k y) (storedH xs k b u):=by
 have e:(kvs.any λkv=>decide (kv.1=k))=(atKey xs k).isSome:=by rw[iY,(r.val k).isSome_eq,JU]
 unfold f7 storedH;rw[e];by_cases q:(atKey xs k).isSome=true
 .rw[E9 q,E9 q];exact r.repl k ry
 .rw[Fg q,Fg q];exact Paired.snoc r ⟨rfl,hb,ry⟩
theorem KT.keeps(r:KT H kvs xs)(ht:∀b ys,H b=some (.tup ys)->H' b=some (.tup ys)):KT H' kvs xs:=
 Paired.mapP r λ_ _ z=>⟨z.1,ht _ _ z.2.1,z.2.2⟩
section
variable{P:Program}{w:World}{H:Hp}{h:Heap}{a:Addr}
theorem CJ(ok:HOk P w H h)(e:Rd H a u):b6 P w H h a u:=e.ok ok
theorem pH{kvs:List (Key×V)}(ok:HOk P w H h)(e:Rd H a (.dK kvs)):kvs.length<=sizeLine/\(a==sysModules)=false/\∃vs,KV kvs vs/\h.DictOf (cw P w) a vs:=
 show b6 P w H h a (.dK kvs)from CJ ok e
theorem xa{kvs:List (Key×V)}(ok:HOk P w H h)(e:H a=some (.dK kvs)):kvs.length<=sizeLine/\(a==sysModules)=false/\∃vs,KV kvs vs/\h.DictOf (cw P w) a vs:=pH ok (.inl e)
theorem nu{ks:List Key}(ok:HOk P w H h)(e:H a=some (.tup (ks.map kV))):(tupleKind (cw P w)).is h ks a:=by obtain⟨_,its,r,o,h1,h2,n,h3⟩:=(show b6 P w H h a (.tup (ks.map kV))from ok a _ e);exact⟨o,its.toArray,n,h1,h2,h3,by simpa using pA r⟩
theorem pG{kvs:List (List Key×V)}(ok:HOk P w H h)(e:Rd H a (.dT kvs)):kvs.length<=sizeLine/\(a==sysModules)=false/\
  ∃xs,KT H kvs xs/\h.DictOfH (tupleKind (cw P w)) a xs:=by
 obtain⟨z,y,xs,r,o,es,ep,h1,h2,h3,h4,h5⟩:=(show b6 P w H h a (.dT kvs)from CJ ok e);refine⟨z,y,xs,r,o,es,ep,h1,h2,h3,h4,λx hx=> ?_,h5⟩;have all:∀ {l:List (List Key×V)} {m:List (List Key×Addr×Value)},KT H l m->∀x∈m,(tupleKind (cw P w)).is h x.1 x.2.1:=by
  intro l m q
  induction q with
  |nil=>intro x hx;exact nomatch hx
  | @cons p q ps qs hq t ih=>
   intro x hx;rcases Fh.mp hx with e|hx
   .subst e;exact nu ok (by rw[<-hq.1];exact hq.2.1)
   .exact ih x hx
 exact all r x hx
theorem Ez{kvs:List (List Key×V)}(ok:HOk P w H h)(e:H a=some (.dT kvs)):kvs.length<=sizeLine/\(a==sysModules)=false/\
  ∃xs,KT H kvs xs/\h.DictOfH (tupleKind (cw P w)) a xs:=pG ok (.inl e)
end
def kA(H:Hp)(a:Addr)(y:V)(r:Option V):Prop:=
 (∃kvs k,Rd H a (.dK kvs)/\y=kV k/\r=dX kvs k)\/∃kvs k b,Rd H a (.dT kvs)/\y= .ref b/\H b=some (.tup (k.map kV))/\r=dX kvs k
def yX(H:Hp)(a:Addr)(y v:V)(H':Hp):Prop:=
 (∃kvs k,H a=some (.dK kvs)/\y=kV k/\kvs.length<sizeLine/\H'=upd H a (.dK (f7 kvs k v)))\/
 ∃kvs k b,H a=some (.dT kvs)/\y= .ref b/\H b=some (.tup (k.map kV))/\kvs.length<sizeLine/\H'=upd H a (.dT (f7 kvs k v))
theorem kA.k{H:Hp}{a:Addr}{kvs:List (Key×V)}{k:Key}(e:H a=some (.dK kvs)):kA H a (kV k) (dX kvs k):= .inl ⟨kvs,k, .inl e,rfl,rfl⟩
theorem kA.t{k:List Key}(e:H a=some (.dT kvs))(eb:H b=some (.tup (k.map kV))):kA H a (.ref b) (dX kvs k):= .inr ⟨kvs,k,b, .inl e,rfl,eb,rfl⟩
theorem yX.k{H:Hp}{a:Addr}{kvs:List (Key×V)}{k:Key}{v:V}(e:H a=some (.dK kvs))(hl:kvs.length<sizeLine):yX H a (kV k) v (upd H a (.dK (f7 kvs k v))):= .inl ⟨kvs,k,e,rfl,hl,rfl⟩
theorem yX.t{kvs:List (List Key×V)}{k:List Key}(e:H a=some (.dT kvs))(eb:H b=some (.tup (k.map kV)))(hl:kvs.length<sizeLine):
  yX H a (.ref b) v (upd H a (.dT (f7 kvs k v))):= .inr ⟨kvs,k,b,e,rfl,eb,hl,rfl⟩
section
variable{X:Cx}{pins:List (Addr×Obj)}{σ:St}{H:Hp}{s:Shared}{a:Addr}{y v:V}{u r:Value}{o:Option V}{A:Around}{E:Value->Shared->Prop}
theorem Inv.big(I:Inv X pins σ H s):sysModules<s.heap.objs.size:=by have h:mainGlobals<s.heap.objs.size:=(I.mod.glob.keeps I.bk).lt;exact HP (by decide) h
theorem yG(hu:A.units+1<cLine)(I:Inv X pins σ H s)(g:kA H a y (some v))(ry:bH y u)(h:∀w' s',Inv X pins σ H s'->bH v w'->Q w' s'):
  wpAny (model X.prog X.w) A (getItem (.ref a) u) Q E s:=by
 rcases g with ⟨kvs,k,e,ey,l⟩|⟨kvs,k,b,e,ey,eb,l⟩
 .subst ey;obtain⟨z,hd,vs,rel,dd⟩:=pH I.hok e;obtain⟨w',hw,rw'⟩:=gO.some_of (v:=v) (o:=valueAt vs k) (by rw[l];exact rel.val k);exact wpAny_getItem_of (pw ry) dd.mapOf hw (h w' _ (I.tok _) rw')
 .subst ey;cases (show u=Value.ref b from ry);obtain⟨z,hd,xs,rel,dd⟩:=pG I.hok e;obtain⟨w',hw,rw'⟩:=gO.some_of (v:=v) (o:=(atKey xs k).map (·.2)) (by rw[l];exact rel.val k);obtain⟨p,hp,hp2⟩:=Jf.mp hw;refine wpAny_getItem_heap (IU hu) (nu I.hok eb) dd hp ?_;rw[hp2];exact h w' _ (I.tok _) rw'
theorem EU(hu:A.units+1<cLine)(I:Inv X pins σ H s)(g:kA H a y o)(ry:bH y u)(h:∀s',Inv X pins σ H s'->Q (.bool o.isSome) s'):
  wpAny (model X.prog X.w) A (compareOp .In u (.ref a)) Q E s:=by
 rcases g with ⟨kvs,k,e,ey,l⟩|⟨kvs,k,b,e,ey,eb,l⟩
 .subst ey;obtain⟨z,hd,vs,rel,dd⟩:=pH I.hok e;refine wpAny_in_of (pw ry) hd dd.mapOf ?_;rw[<-(rel.val k).isSome_eq,<-l];exact h _ (I.tok _)
 .subst ey;cases (show u=Value.ref b from ry);obtain⟨z,hd,xs,rel,dd⟩:=pG I.hok e;refine wpAny_in_heap (IU hu) (nu I.hok eb) hd dd ?_;have q:=(rel.val k).isSome_eq;rw[JU]at q;rw[<-q,<-l];exact h _ (I.tok _)
theorem Cp(hu:A.units+1<cLine)(I:Inv X pins σ H s)(g:kA H a y o)(ry:bH y u)(h:∀s',Inv X pins σ H s'->Q (.bool (!o.isSome)) s'):
  wpAny (model X.prog X.w) A (compareOp .NotIn u (.ref a)) Q E s:=by
 rcases g with ⟨kvs,k,e,ey,l⟩|⟨kvs,k,b,e,ey,eb,l⟩
 .subst ey;obtain⟨z,hd,vs,rel,dd⟩:=pH I.hok e;refine wpAny_notIn_of (pw ry) hd dd.mapOf ?_;rw[<-(rel.val k).isSome_eq,<-l];exact h _ (I.tok _)
 .subst ey;cases (show u=Value.ref b from ry);obtain⟨z,hd,xs,rel,dd⟩:=pG I.hok e;refine wpAny_notIn_heap (IU hu) (nu I.hok eb) hd dd ?_;have q:=(rel.val k).isSome_eq;rw[JU]at q;rw[<-q,<-l];exact h _ (I.tok _)
theorem rp{h':Heap}(I:Inv X pins σ H s)(mu:Mut (H a))(hs:Heap.SameBut a s.heap h')(he:∃q,h'.get? a=some q)(new:b6 X.prog X.w (upd H a ob) h' a ob):
  Inv X pins σ (upd H a ob) {s with heap:=h',toks:=t'}:=
 I.write (x:=a) (e:=a) mu (.inl rfl) (λb q hb z=>(hs.2 b hb).trans z) he new
theorem A9{h':Heap}{kvs:List (Key×V)}(z:kvs.length<=sizeLine)(hd:(a==sysModules)=false)(rel:KV kvs vs)(dd:h'.DictOf (cw P w) a vs):
  b6 P w H' h' a (.dK kvs):=⟨z,hd,vs,rel,dd⟩
theorem yF(hu:A.units+1<cLine)(I:Inv X pins σ H s)(g:yX H a y v H')(ry:bH y u)(rv:bH v r)(h:∀s',Inv X pins σ H' s'->Q () s'):
  wpAny (model X.prog X.w) A (setItem (.ref a) u r) Q E s:=by
 rcases g with ⟨kvs,k,e,ey,l,eH⟩|⟨kvs,k,b,e,ey,eb,l,eH⟩
 .subst ey eH;obtain⟨z,hd,vs,rel,dd⟩:=xa I.hok e;have hz:vs.length<=sizeLine:=by rw[<-rel.length];exact z
  have hl:(f7 kvs k v).length<=sizeLine:=by have:=fT kvs k v;lia
  refine wpAny_setItem_pairs (hsz:=hz) (pw ry) dd λh' dd' hs=>h _ ?_;have he:∃q,h'.get? a=some q:=let⟨q,_,_,hq,_⟩:=dd';⟨q,hq⟩;exact rp I (by rw[e];exact FA) hs he (A9 hl hd (rel.put k rv) dd')
 .subst ey eH;cases (show u=Value.ref b from ry);obtain⟨z,hd,xs,rel,dd⟩:=Ez I.hok e;have hz:xs.length<=sizeLine:=by rw[<-JQ rel];exact z
  have hl:(f7 kvs k v).length<=sizeLine:=by have:=fT kvs k v;lia
  refine wpAny_setItem_heap (hsz:=hz) (IU hu) (nu I.hok eb) dd λh' dd' hs=>h _ ?_;obtain⟨q,es,ep,hq,h2,h3,h4,_,h5⟩:=dd';refine rp I (by rw[e];exact FA) hs ⟨q,hq⟩ ⟨hl,hd,_,(rel.put k eb rv).keeps λc ys ec=> ?_,q,es,ep,hq,h2,h3,h4,h5⟩;rw[aC (gK ec e (λz=>nomatch z))];exact ec
end
section
variable{X:Cx}{pins:List (Addr×Obj)}{σ:St}{H:Hp}{s:Shared}{a:Addr}{kvs:List (Key×V)}{k:Key}{u:Value}{A:Around}{E:Value->Shared->Prop}
end
def EC(i:Expr):Prop:=∀ov iv,subscripted i false ov iv=operate [ov,iv] (getItem ov iv)
theorem BD{prog:Program}{w:World}{A:Around}{E:Value->Shared->Prop}{s:Shared}{env:Env}{value slice:Expr}{pos:Pos}{T id:String}{Q:Value->Shared->Prop}
  (hl:typeLookup (.type T) "__getitem__"=pure (some (.builtin id))) (hs:EC slice)
  (h:wpAny (model prog w) A (eval value env) (λo s₁=>wpAny (model prog w) A (eval slice env) (λi s₂=>s₂.TypeIs o T/\wpAny (model prog w) A (getItem o i) Q E s₂) E s₁) E s):
  wpAny (model prog w) A (eval (.Subscript value slice pos) env) Q E s:=by
 refine Subscript_ (Jr h (λo s₁ h₁=>Jr h₁ (λi s₂ h₂=> ?_) λ_ _ x=>x) λ_ _ x=>x);obtain⟨hT,h₂⟩:=h₂;unfold subscriptTail;refine FC ?_;rw[getitemInPython_of_ne hT.not_modules];refine FC (wpAny_specialOf hT hl ?_);have fin:wpAny (model prog w) A (subscripted slice false o i) (λr s₃=>wpAny (model prog w) A (letTemporaryGo value o r>>=λ_=>pure r) Q E s₃) E s₂:=by rw[hs o i];exact wpAny_operating (Jr h₂ (λr s₃ h₃=>FC (wpAny_letTemporaryGo (F2 h₃))) λ_ _ x=>x)
 first
  |exact F2 (FC fin)
  |exact FC (F2 (FC fin))
  |exact FC fin
theorem tY{X:Cx}{pins:List (Addr×Obj)}{σ:St}{H:Hp}{s:Shared}{a:Addr}{y:V}{o:Option V}(I:Inv X pins σ H s)(g:kA H a y o):s.TypeIs (.ref a) "dict":=by
 rcases g with ⟨kvs,k,e,_,_⟩|⟨kvs,k,b,e,_,_,_⟩
 .obtain⟨_,_,vs,_,dd⟩:=pH I.hok e;exact dd.typeIs
 .obtain⟨_,_,xs,_,dd⟩:=pG I.hok e;exact dd.typeIs
def D5(td ty:TE):TE:=λσ H Q=>td σ H λx H1=>ty σ H1 λy H2=>∃a v,x= .ref a/\kA H2 a y (some v)/\Q v H2
def EL(ty td:TE):TE:=λσ H Q=>ty σ H λy H1=>td σ H1 λx H2=>∃a o,x= .ref a/\kA H2 a y o/\Q (.bl o.isSome) H2
def Bz(ty td:TE):TE:=λσ H Q=>ty σ H λy H1=>td σ H1 λx H2=>∃a o,x= .ref a/\kA H2 a y o/\Q (.bl (!o.isSome)) H2
def Ec(td ty tv:TE):TS:=λD σ H=>tv σ H λv H1=>td σ H1 λx H2=>ty σ H2 λy H3=>∃a H4,x= .ref a/\yX H3 a y v H4/\D.nx σ H4
section
variable{X:Cx}{o i e value:Expr}{pos pos' tpos:Pos}{td ty tv:TE}
theorem BV(hu:X.A.units+1<cLine)(ho:PE X o td)(hi:PE X i ty)(hs:EC i):PE X (.Subscript o i pos) (D5 td ty):=by intro pins s σ H Q I h;refine BD PySem.F.slot_dict_getitem.lookup hs (thn (ho pins s σ H _ I h) λu s1 ⟨x,H1,I1,rx,q1⟩=>thn (hi pins s1 σ H1 _ I1 q1) λiv s2 hq_=> ?_);obtain⟨y,H2,I2,ry,a,v,ex,g,q2⟩:=hq_;subst ex;obtain rfl:u=Value.ref a:=rx;exact⟨tY I2 g,yG hu I2 g ry λw' s3 I3 rw'=>⟨v,H2,I3,rw',q2⟩⟩
theorem Dv(hu:X.A.units+1<cLine)(hi:PE X i ty)(ho:PE X o td):PC X .In i o (EL ty td):=by intro pins s σ H Q I h;refine thn (hi pins s σ H _ I h) λiv s1 ⟨y,H1,I1,ry,q1⟩=>thn (ho pins s1 σ H1 _ I1 q1) λu s2 hq_=> ?_;obtain⟨x,H2,I2,rx,a,ov,ex,g,q2⟩:=hq_;subst ex;obtain rfl:u=Value.ref a:=rx;exact EU hu I2 g ry λs3 I3=>⟨.bl ov.isSome,H2,I3,rfl,q2⟩
theorem xO(hu:X.A.units+1<cLine)(hi:PE X i ty)(ho:PE X o td):PC X .NotIn i o (Bz ty td):=by intro pins s σ H Q I h;refine thn (hi pins s σ H _ I h) λiv s1 ⟨y,H1,I1,ry,q1⟩=>thn (ho pins s1 σ H1 _ I1 q1) λu s2 hq_=> ?_;obtain⟨x,H2,I2,rx,a,ov,ex,g,q2⟩:=hq_;subst ex;obtain rfl:u=Value.ref a:=rx;exact Cp hu I2 g ry λs3 I3=>⟨.bl (!ov.isSome),H2,I3,rfl,q2⟩
theorem BP(hu:X.A.units+1<cLine)(ho:PE X o td)(hi:PE X i ty)(hv:PE X value tv)(hs:swapsWith value (some (.Subscript o i pos')) pos.line X.env=pure false):
  PS X (.Assign [.Subscript o i pos'] value pos) (Ec td ty tv):=by
 intro pins s σ H D I h;refine wpAny_Assign_Subscript (thn (hv pins s σ H _ I h) λr s1 ⟨v,H1,I1,rv,q1⟩=>thn (ho pins s1 σ H1 _ I1 q1) λu s2 ⟨x,H2,I2,rx,q2⟩=>thn (hi pins s2 σ H2 _ I2 q2) λiv s3 hq_=> ?_) hs;obtain⟨y,H3,I3,ry,a,H4,ex,g,q3⟩:=hq_;subst ex;obtain rfl:u=Value.ref a:=rx;exact yF hu I3 g ry rv λs4 I4=>⟨σ,H4,I4,q3⟩
end
theorem tX(h:Heap)(hb:sysModules<h.objs.size):b6 P w H (h.push {cls:= .type "dict",data:= .dict #[]}) h.objs.size (.dK []):=
 ⟨FV _,Ik.mpr (Jn (FN hb)),[], .nil,Heap.DictOf.new h⟩
def C6:TE:=λ_ H Q=>∀p,H p=none->Q (.ref p) (upd H p (.dK []))
section
variable{X:Cx}{pos:Pos}
theorem Aa:PE X (.Dict [] [] pos) C6:=λpins s σ H Q I h=>
 wpAny_Dict_empty ⟨.ref s.heap.objs.size,_,I.laid (a:=s.heap.objs.size) (o:= .dK []) (t':=s.toks) (λ_ _ q=>FF _ q) (Fj _) (tX s.heap I.big),rfl,h _ (I.hok.fresh (Fj _))⟩
end
structure M1(X:Cx)(o:Expr)(m:Str)(apos:Pos)(e:Expr)(cpos:Pos):Prop where
 base:attributeBase o m X.env (eval o X.env)=eval o X.env
 few:((backTo cpos (starEach [e] X.env)).all (λx=> !x.1)&&(backToKw cpos (keywordEach [] X.env)).all (λx=>x.1.isSome)
  &&decide (([e]:List Expr).length+([]:List Keyword).length+(if([]:List Keyword).isEmpty then 0 else 1)<30))=true
 line:(apos.endLine==cpos.line)=true
 trees:backTo cpos (starEach [e] X.env)=[(false,eval e X.env)]
structure M2(X:Cx)(o:Expr)(m:Str)(apos:Pos)(e f:Expr)(cpos:Pos):Prop where
 base:attributeBase o m X.env (eval o X.env)=eval o X.env
 few:((backTo cpos (starEach [e,f] X.env)).all (λx=> !x.1)&&(backToKw cpos (keywordEach [] X.env)).all (λx=>x.1.isSome)
  &&decide (([e,f]:List Expr).length+([]:List Keyword).length+(if([]:List Keyword).isEmpty then 0 else 1)<30))=true
 line:(apos.endLine==cpos.line)=true
 trees:backTo cpos (starEach [e,f] X.env)=[(false,eval e X.env),(false,eval f X.env)]
def IsD(H:Hp)(a:Addr):Prop:=(∃kvs,Rd H a (.dK kvs))\/∃kvs,Rd H a (.dT kvs)
theorem DL{X:Cx}{pins:List (Addr×Obj)}{σ:St}{H:Hp}{s:Shared}{a:Addr}(I:Inv X pins σ H s)(d:IsD H a):
  s.TypeIs (.ref a) "dict"/\(∀b,Value.ref a= .ref b->∃ob,s.heap.get? b=some ob/\ob.dict=none)/\(a==sysModules)=false:=by
 rcases d with ⟨kvs,e⟩|⟨kvs,e⟩
 .obtain⟨_,hd,vs,_,dd⟩:=pH I.hok e;refine⟨dd.typeIs,λb q=> ?_,hd⟩;cases q;obtain⟨ob,_,_,h1,h2,_⟩:=dd;exact⟨ob,h1,h2.2.1⟩
 .obtain⟨_,hd,xs,_,dd⟩:=pG I.hok e;refine⟨dd.typeIs,λb q=> ?_,hd⟩;cases q;obtain⟨ob,_,_,h1,h2,_⟩:=dd;exact⟨ob,h1,h2.2.1⟩
section
variable{X:Cx}{pins:List (Addr×Obj)}{σ:St}{H:Hp}{s:Shared}{a:Addr}{y d:V}{u r:Value}{o:Option V}{A:Around}{E:Value->Shared->Prop}
end
section
variable{X:Cx}{o e f:Expr}{apos cpos:Pos}{td ty tx:TE}
end
section
variable{X:Cx}{pins:List (Addr×Obj)}{σ:St}{H:Hp}{s:Shared}{a:Addr}{kvs:List (Key×V)}{A:Around}{E:Value->Shared->Prop}
end
section
variable{X:Cx}{pins:List (Addr×Obj)}{σ:St}{H:Hp}{s:Shared}{a:Addr}{y:V}{u:Value}{A:Around}{E:Value->Shared->Prop}
end
section
variable{X:Cx}
end
section
variable{κ:Type}[DecidableEq κ]
end
end L2
namespace PySem
open Sem (wp)
theorem rh:typeLookup (.type "list") "keys"=pure none:=by rw[typeLookup_type,builtinLookup_eq_fast];kernel_rfl
theorem fJ:entryFor table "dict.update.loop"=some Builtin.«dict.update.loop»:=entryFor_of_tree (by kernel_rfl)
theorem cF:plainId "dict.update.loop"=true:=by decide+kernel
theorem nt{A:Around}{s:Shared}{o:Obj}
  (hx:s.heap.get? a=some o) (hc:o.cls= .type "list") (hdat:o.data= .seq xs k) (hd:o.dict=none) (hA:A.handled=none)
  (h:∀h' tk,(∀b ob,s.heap.get? b=some ob->h'.get? b=some ob)->Q none {s with heap:=h',toks:=tk}):wpAny (model prog w) A (getAttr? (.ref a) "keys") Q E s:=by
 obtain⟨c,dct,dat,sl⟩:=o;simp only at hc hdat hd;subst hc hdat hd;obtain⟨hp,g,d,tk,os⟩:=s;have hT:∀tk',(⟨hp,g,d,tk',os⟩:Shared).TypeIs (.ref a) "list":=λ_=>⟨_,hx,rfl⟩;have f1:=sub_AttributeError;have f3:=IV.lookup;have f4:=IV.bind (.ref a);have f5:=am_list_getattr_none;unfold getAttr? getAttrBy? getAttrBy
 repeat (any_goals (first|assumption|exact hT _|((with_reducible show wpAny _ _ (call (Value.builtin "list.__getattribute__") _ _) _ _ _);refine call_meets IV (hT _) am_entry_list_getattribute (F.args_list_getattribute_2 _ _) (meets_getattribute_miss_list a xs k sl "keys" _ rh (by decide+kernel) (by size_fits)) ⟨hx,hA,λh' tk' e hx'=> ?_⟩)|wp_step))
 obtain⟨t',u',he⟩:=hx'.there;show wpAny _ _ (getattributeRaised _ _ _ _ _ _ _) _ _ _;unfold getattributeRaised
 repeat (any_goals (first|assumption|wp_step))
 exact h _ _ hx'.keeps
end PySem
namespace L2
open PySem PySem.Spec PyProof.Rows
def iJ(m:List (Key×V))(ps:List (Key×V)):List (Key×V):=ps.foldl (λm p=>f7 m p.1 p.2) m
theorem CW(e:H a=some u):upd H a u=H:=by
 funext b;by_cases hb:b=a
 .subst hb;rw[ah,e]
 .rw[aC hb]
section
variable{X:Cx}{pins:List (Addr×Obj)}{σ:St}
theorem rQ{A:Around}(hh:A.in1.handled=none){ys:List V}:
  ∀ (ps:List (Key×V)) (i:Nat) (z:Int) (s:Shared) (H:Hp) (kvs:List (Key×V)),Inv X pins σ H s->H d=some (.dK kvs)->kvs.length+ps.length<=sizeLine->lO X pins H it->s.heap.IsListIter it l i->H l=some (.lst ys)->i+ps.length=ys.length->
   (∀j p,ps[j]?=some p->∃t,ys[i+j]?=some (.ref t)/\H t=some (.tup [kV p.1,p.2]))->(∀s',Inv X pins σ (upd H d (.dK (iJ kvs ps))) s'->R (.ok (.ret .none)) s')->
   codeAny (model X.prog X.w) A (.builtin "dict.update.loop" ⟨[.ref d, .ref it,rawInt z, .none],[]⟩) R s
 | [],i,z,s,H,kvs,I,hd,hsz,hf,hit,hl,hi,hp,hR=>by obtain⟨its,rv,p1,hz⟩:=I.list (.inl (show Rd H l (.lst ys)from .inl hl));obtain⟨f0,f1,f2,f3,f4,f5⟩:=hf;have hlen:=rv.length;refine Ju fJ ?_;rw[Jv cF _];show wpAny _ A.in1 (pyNext (.ref it)>>=_) _ _ s;refine FC (wpAny_pyNext_list_end hh hit p1.isList (by simp at hi⊢;lia) λh' eb=> ?_);have I':Inv X pins σ H {s with heap:=h'}:=I.turned (t':=s.toks) (λb o hb e=>eb b o hb e) f0 f1 f3 f4 f5;show wpAny _ _ (Builtin.Dict.addKeywords d []>>=_) _ _ _;refine FC (F2 (F2 (hR _ ?_)));rw[show iJ kvs []=kvs from rfl,CW hd];exact I'
 |p::ps,i,z,s,H,kvs,I,hd,hsz,hf,hit,hl,hi,hp,hR=>by
  obtain⟨its,rv,p1,hz⟩:=I.list (.inl (show Rd H l (.lst ys)from .inl hl));obtain⟨f0,f1,f2,f3,f4,f5⟩:=id hf;obtain⟨t,hy,ht⟩:=hp 0 p rfl;obtain⟨u,hu,ru⟩:=rv.get hy;refine Ju fJ ?_;rw[Jv cF _];show wpAny _ A.in1 (pyNext (.ref it)>>=_) _ _ s;refine FC (wpAny_pyNext_list_item hit p1.isList (x:=u) (by simpa using hu) λh₁ hit₁ sb=> ?_);have I1:Inv X pins σ H {s with heap:=h₁}:=I.turned (t':=s.toks) (λb o hb e=>(sb.2 b hb).trans e) f0 f1 f3 f4 f5;cases ru;obtain⟨jts,rt,pt,_⟩:=I1.tuple (SqT.of ht);obtain⟨u1,u2,rfl,r1,r2⟩:=Vals.two rt;obtain⟨o,ho,hc,n,hdat⟩:=pt;have hT:({s with heap:=h₁}:Shared).TypeIs (.ref t) "tuple":=⟨o,ho,hc⟩;show wpAny _ _ (holding [Value.ref t] _>>=_) _ _ _;refine FC (wpAny_holding (FC (wpAny_tryCatch ?_)));unfold Builtin.Dict.pairItems;refine FC (wpAny_typeOf hT ?_);rw[E9 (by decide)];refine FC (wpAny_seqItems ho hdat (F2 ?_));show wpAny _ _ (holding [u1,u2] (dictSet d u1 u2)) _ _ _;obtain⟨zz,hds,vs,rel,dd⟩:=xa I1.hok hd;have hz':vs.length<=sizeLine:=by rw[<-rel.length];exact zz
  have hlp:(f7 kvs p.1 p.2).length<=kvs.length+1:=fT kvs p.1 p.2;have hln:(p::ps).length=ps.length+1:=rfl;refine wpAny_holding (wpAny_dictSet_pairs (hsz:=hz') (pw r1) dd λh' dd' hs=> ?_);have he:∃q,h'.get? d=some q:=let⟨q,_,_,hq,_⟩:=dd';⟨q,hq⟩;have I2:=rp (t':=s.toks+1) I1 (by rw[hd];exact FA) hs he (A9 (by lia) hds (rel.put p.1 r2) dd');have nd:it≠d:=λe=>by rw[e,hd]at f0;cases f0
  have nl:l≠d:=λe=>by rw[e,hd]at hl;cases hl
  refine F2 ⟨plainId_quiet cF _,rQ hh ps (i+1) (z+1) _ _ (f7 kvs p.1 p.2) I2 ah (by lia) ⟨by rw[aC nd];exact f0,f1,f2,f3,f4,f5⟩ ?_ (by rw[aC nl];exact hl) (by lia) (λj q hq=> ?_) λs' I'=>hR s' ?_⟩
  .obtain⟨o',e',c',d'⟩:=hit₁;exact⟨o',(hs.2 it nd).trans e',c',d'⟩
  .obtain⟨t',h1,h2⟩:=hp (j+1) q hq;refine⟨t',by rw[show i+1+j=i+(j+1) by lia];exact h1,?_⟩;rw[aC (λe=>by rw[e,hd]at h2;cases h2)];exact h2
  .rw[fM]at I';exact I'
def BN:List V->Hp->VK->Prop:=λxs H Q=>∃ (l:Addr) (ys:List V) (ps:List (Key×V)),xs=[.ref l]/\H l=some (.lst ys)/\ps.length=ys.length/\ps.length<=1000/\
 (∀ (j:Nat) (p:Key×V),ps[j]?=some p->∃t:Addr,ys[j]?=some (.ref t)/\H t=some (.tup [kV p.1,p.2]))/\∀d,H d=none->Q (.ref d) (upd H d (.dK (iJ [] ps)))
theorem uf(hc:X.calm=true):b7 X (.type "dict") BN:=by
 intro pins s σ H xs us Q I rv h;obtain⟨l,ys,ps,rfl,hl,hlen,h1000,hp,q⟩:=h;obtain⟨u,rfl,ru⟩:=iX rv;cases ru;have hh:=I.ok.hd hc;refine callType_codes (Q₁:=λobj s₁=>obj= .ref s.heap.objs.size/\s₁={s with heap:=s.heap.push {cls:= .type "dict",data:= .dict #[]}}) F.kt_called_dict (F.kt_typeCall_dict_1 _) F.entry_dict_init (kt_code_dict_new _ ⟨rfl,rfl⟩) ?_;rintro obj s₁ ⟨rfl,rfl⟩;have I1:Inv X pins σ (upd H s.heap.objs.size (.dK [])) {s with heap:=s.heap.push {cls:= .type "dict",data:= .dict #[]}}:=I.laid (a:=s.heap.objs.size) (o:= .dK []) (t':=s.toks) (λ_ _ q=>FF _ q) (Fj _) (tX s.heap I.big);have hfr:H s.heap.objs.size=none:=I.fresh;have nl:l≠s.heap.objs.size:=aA hl hfr;have hl1:upd H s.heap.objs.size (.dK []) l=some (.lst ys):=by rw[aC nl];exact hl
 have hnew:(s.heap.push {cls:= .type "dict",data:= .dict #[]}).DictOf (cw X.prog X.w) s.heap.objs.size []:=Heap.DictOf.new s.heap;obtain⟨its,rv,p1,hz⟩:=I1.list (.inl (show Rd _ l (.lst ys)from .inl hl1));obtain⟨o,n,ho,hc',hd',hdat⟩:=id p1;have hTl:({s with heap:=s.heap.push {cls:= .type "dict",data:= .dict #[]}}:Shared).TypeIs (.ref l) "list":=⟨o,ho,hc'⟩;refine⟨hnew.typeIs,F.args_dict_init_2 _ _,?_⟩;unfold Builtin.«dict.__init__»;refine FC ?_;unfold Builtin.Dict.selfAndRest;refine FC (wpAny_notOrdered_dict hnew.typeIs ?_);show wpAny _ _ (pure (s.heap.objs.size,[Value.ref l])) _ _ _;refine F2 ?_;show wpAny _ _ (Builtin.Dict.updateFrom "dict.__init__" s.heap.objs.size (.ref l) [] .none) _ _ _;unfold Builtin.Dict.updateFrom;refine FC (wpAny_typeOf hTl ?_);rw[E9 (by decide)];refine FC (nt ho hc' hdat hd' hh λh' tk kp=> ?_);have I2:=I1.own (h₂:=h') (t':=tk) [] (λ_ z=>nomatch z) λb ob _ e=>kp b ob e;rw[E9 (show(none:Option Value).isNone=true from rfl)];refine FC (wpAny_rule ?_);obtain⟨its2,rv2,p2,hz2⟩:=I2.list (.inl (show Rd _ l (.lst ys)from .inl hl1));refine FC (Jd p2.isList ?_);have I3:=I2.own (h₂:=h'.push {cls:= .type "list_iterator",data:= .fields #[.ref l, .int 0 0]}) (t':=tk) [] (λ_ z=>nomatch z) λb ob _ e=>FF _ e;refine F2 ⟨plainId_quiet cF _,rQ (A:=X.A.in1) hh ps 0 0 _ _ [] I3 ah (Fc (by show 0+ps.length<=1000;lia) (by decide)) (I2.fpOk (Fj _) I2.fresh) ⟨_,FZ _ rfl,rfl,rfl⟩ hl1 (by lia) (λj p hp'=> ?_) λs' I'=>⟨rfl, .ref s.heap.objs.size,_,I',rfl,?_⟩⟩
 .obtain⟨t,h1,h2⟩:=hp j p hp';refine⟨t,by rw[IS];exact h1,?_⟩;rw[aC (aA h2 hfr)];exact h2
 .rw[fM];exact q _ hfr
end
end L2
namespace L2
open PySem PySem.Spec PyProof.Rows PySem.W
theorem kZ:plainId "list.__iadd__"=true:=by decide+kernel
section
variable{prog:Program}{w:World}{A:Around}{E:Value->Shared->Prop}{s:Shared}{T:String}{r d:Addr}{n:Nat}{P:Nat->Value->Prop}{OK:Heap->Prop}
theorem rA(Kd:KdlSrc prog w T r d n P OK)(hh:A.handled=none)(hok:OK s.heap)(hn:n<=sizeLine)
  (h:∀h' tk acc c,(∀b o,s.heap.get? b=some o->h'.get? b=some o)->h'.get? s.heap.objs.size=some {cls:= .type "list",dict:=none,data:= .seq acc c,slots:= #[]}->ItemsOf P acc n->R (.ok (.ret (.ref s.heap.objs.size))) {s with heap:=h',toks:=tk}):
  codeAny (model prog w) A (.builtin "proto.collect" ⟨[.ref r],[]⟩) R s:=by
 have hlt:=Kd.there _ hok;refine Ju entry_proto_collect' ?_;show wpAny _ _ (do again (.builtin "list.__iadd__" ⟨[<-newList [], .ref r],[]⟩)) _ _ s;refine FC (wpAny_newList (F2 ⟨Code.quiet_builtin _ (by decide+kernel),Ju entry_list_iadd' ?_⟩));rw[Jv kZ _];show wpAny _ _ (Builtin.List.listExtendWith (.ref s.heap.objs.size) (.ref r) (.ref s.heap.objs.size)) _ _ {s with heap:=s.heap.push (seqObj "list" #[] 0)};exact kdl_extend (s:={s with heap:=s.heap.push (seqObj "list" #[] 0)}) Kd hh (Kd.keep s.heap (s.heap.push (seqObj "list" #[] 0)) hok λb _ o e=>FF _ e) s.heap.objs.size (IA hlt.1) (IA hlt.2) (.ref s.heap.objs.size) 0 (FZ _ rfl)
  (λh' tk acc c hk hS hacc=>h h' tk acc c (λb o e=>hk b o (FN (Fz e)) (FF _ e)) hS hacc) hn
theorem t9(Kd:KdlSrc prog w T r d n P OK)(hh:A.handled=none)(hok:OK s.heap)(hn:n<=sizeLine)
  (h:∀h' tk (vs:List Value),(∀b o,s.heap.get? b=some o->h'.get? b=some o)->s.heap.objs.size<h'.objs.size->vs.length=n->(∀j v,vs[j]?=some v->P j v)->Q vs {s with heap:=h',toks:=tk}):
  wpAny (model prog w) A (collect (.ref r)) Q E s:=by
 unfold collect;refine FC (wpAny_runValue (rA Kd hh hok hn λh' tk acc c hk hS hacc=> ?_));show wpAny (model prog w) A (do
   let o<-load s.heap.objs.size
   match o.data with
   | .seq xs _=>pure xs.toList
   |_=>unsupported "internal:collect") Q E {s with heap:=h',toks:=tk}
 refine FC (wpAny_load hS ?_);exact F2 (h h' tk acc.toList hk (Fz hS) (by rw[IJ];exact hacc.1) λj v e=>hacc.2 j v (by rw[<-Jp];exact e))
theorem uT(Kd:KdlSrc prog w T r d n P OK)(hh:A.handled=none)(hok:OK s.heap)(hI:∀vs:List Value,vs.length=n->(∀j v,vs[j]?=some v->P j v)->IntsAre vs ns)(h64:n<64)
  (h:∀ (a:Addr) h' tk (out:Array Value) (ns':List Int) e,(∀b o,s.heap.get? b=some o->h'.get? b=some o)->s.heap.objs.size<=a->h'.get? a=some (seqObj "list" out e)->IntsAre out.toList ns'->ns'.Perm ns->ns'.Pairwise (· <= ·)->Q (.ref a) {s with heap:=h',toks:=tk}):
  wpAny (model prog w) A (call (.builtin "sorted") [.ref r]) Q E s:=by
 refine Calls.call_function_entry kind_sorted plain_sorted entry_sorted (args_sorted1 _) ?_;unfold Builtin.«sorted»;refine FC (m:=checkCount "sorted" 1 1 _) (F2 ?_);refine FC (t9 Kd hh hok (Fc (Ic h64) (by decide)) λh1 tk vs hk hsz hl hv=> ?_);have hi:=hI vs hl hv;refine FC (wpAny_newList ?_);have hoL:(h1.push (seqObj "list" vs.toArray 0)).get? h1.objs.size=some (seqObj "list" vs.toArray 0):=FZ _ rfl;refine FC (wpAny_holding (wpAny_call_entry slot_list_sort ⟨_,hoL,rfl⟩ entry_list_sort (list_sort_tree hoL hi (by lia) λout ns' a1 a2 a3=>⟨_,rfl,?_⟩) (args_list_sort _)));obtain⟨e,he⟩:=sortedHeap_at (out:=out) hoL;refine F2 ⟨_,rfl,h _ _ tk out ns' e (λb o eb=> ?_) (Ic hsz) he a1 a2 a3⟩;have hb:=Fz eb;rw[sortedHeap_old (FN (HP hb hsz)) (by rw[size_push'];exact Iy (HP hb hsz))];exact FF _ (hk b o eb)
end
def kx(v d:Addr):HO:= .ext λh=>h.IsValuesView v d
def C5(td:TE):TE:=λσ H Q=>td σ H λx H1=>∃ (a:Addr) (kvs:List (Key×V)),x= .ref a/\H1 a=some (.dK kvs)/\∀v,H1 v=none->Q (.ref v) (upd H1 v (kx v a))
def Dg:List V->Hp->VK->Prop:=λxs H Q=>∃ (v a:Addr) (kvs:List (Key×V)) (ns:List Int),xs=[.ref v]/\H v=some (kx v a)/\H a=some (.dK kvs)/\kvs.map (·.2)=ns.map V.int/\ns.length<64/\
 ∀l (ms:List Int),H l=none->ms.Perm ns->ms.Pairwise (· <= ·)->Q (.ref l) (upd H l (.lst (ms.map V.int)))
theorem Cd:∀ {kvs:List (Key×V)} {vs:List (Key×Value)},KV kvs vs->Vals (kvs.map (·.2)) (vs.map (·.2)):=by
 intro kvs vs r
 induction r with
 |nil=>exact .nil
 |cons h _ ih=>exact .cons h.2 ih
section
variable{X:Cx}{o:Expr}{apos cpos:Pos}{td:TE}
theorem vU(hc:X.calm=true):b7 X (.builtin "sorted") Dg:=by
 intro pins s σ H xs us Q I rv h;obtain⟨v,a,kvs,ns,rfl,hv,ha,hns,h64,q⟩:=h;obtain⟨u,rfl,ru⟩:=iX rv;cases ru;obtain⟨hview,_,_⟩:=I.hok v _ hv;obtain⟨z,hds,vs,rel,dd⟩:=xa I.hok ha;obtain⟨ep,hat⟩:=dd.dictAt;have hlen:vs.length=ns.length:=by have h1:=rel.length;have h2:=Fu List.length hns;rw[E3,E3]at h2;lia
 refine uT (ns:=ns) (kdl_values (knd:=cw X.prog X.w) (kvs:=vs) (ep:=ep)) (I.ok.hd hc) ⟨hview,hat⟩ (λws hl hw=> ?_) (by lia) λl h' tk out ms e hk hsz he h1 h2 h3=> ?_
 .rw[kdl_vals_eq ws hl hw];have hk:=Cd rel;rw[hns]at hk;exact fH hk
 .have hvv:=iW h1;refine⟨.ref l,_,I.laid (t':=tk) hk hsz (show b6 X.prog X.w _ _ _ (.lst (ms.map V.int))from⟨?_,out.toList,e,hvv,?_⟩),rfl,q _ ms (I.hok.fresh hsz) h2 h3⟩
  .rw[E3,h2.length_eq];exact Fc (Ic h64) (by decide)
  .rw[he]
theorem z9(ho:PE X o td)(hbase:attributeBase o "values" X.env (eval o X.env)=eval o X.env:=by rfl)(hline:(apos.endLine==cpos.line)=true:=by rfl):PE X (.Call (.Attribute o "values" apos) [] [] cpos) (C5 td):=by
 intro pins s σ H Q I h;refine wpAny_Call_method0_late hbase hline (thn (ho pins s σ H _ I h) λu s1 hq_=> ?_);obtain⟨x,H1,I1,rx,a,kvs,ex,ha,q1⟩:=hq_;subst ex;obtain rfl:u=Value.ref a:=rx;obtain⟨t1,t2,lo⟩:=DL I1 (.inl ⟨kvs, .inl ha⟩);obtain⟨_,_,vs,_,dd⟩:=xa I1.hok ha;refine⟨"dict","dict.values",PySem.F.plainAttrs_dict,J4,PySem.F.type_dict_values,t1,t2,Je rfl (PySem.evalArgs_none ?_)⟩;refine call_meetsIn J4 dd.typeIs PySem.F.entry_dict_values (PySem.F.args_dict_values_1 _) (meets_dict_values (cw X.prog X.w) a lo) ⟨⟨vs,dd⟩,?_⟩;exact⟨.ref s1.heap.objs.size,_,I1.laid (a:=s1.heap.objs.size) (o:=kx s1.heap.objs.size a) (t':=s1.toks) (λ_ _ q=>FF _ q) (Fj _)
  ⟨⟨_,FZ _ rfl,rfl,rfl⟩,⟨_,FZ _ rfl⟩,λh1 h2 hφ hk=>let⟨o,ho,r⟩:=hφ;⟨o,hk o ho,r⟩⟩,rfl,q1 _ (I1.hok.fresh (Fj _))⟩
end
end L2
namespace L2
open PySem PySem.Spec PySem.W PyProof.Rows PySem.SeqAt
def CFd(_ j:Int):Prop:=j≠0/\j.natAbs.log2<9000
theorem Ah:OpR X (binaryOp .FloorDiv) (rI CFd λi j=> .int (i.fdiv j)):=opI λ_ _ _ _ _ _ _ hc q=>floordiv_int hc.1 q (.inl (PyProof.noPylong_of_log2 hc.2))
end L2
namespace Bh
def bits(n:Nat):List Int:=((List.range 8).filter n.testBit).map λ(k:Nat)=>(k:Int)
theorem bg{n:Nat}:z∈bits n↔∃k:Nat,k<8/\n.testBit k=true/\z=k:=by
 unfold bits;simp only[Fn,FH,Fl];constructor
 .rintro⟨k,⟨h1,h2⟩,rfl⟩;exact⟨k,h1,h2,rfl⟩
 .rintro⟨k,h1,h2,rfl⟩;exact⟨k,⟨h1,h2⟩,rfl⟩
theorem jw{n k:Nat}(h:k<8):(k:Int)∈bits n↔n.testBit k=true:=by
 rw[bg];constructor
 .rintro⟨j,_,h2,e⟩;have:k=j:=by lia
  rw[this];exact h2
 .intro h2;exact⟨k,h,h2,rfl⟩
theorem v8(h:z∈bits n):0<=z/\z<8:=by obtain⟨k,h1,_,rfl⟩:=bg.mp h;lia
theorem bZ(n:Nat):(bits n).length<=8:=by unfold bits;rw[E3];exact Fc (Ga _ _) (by simp)
theorem Em(hn:n<256)(hm:m<256):n|||m<256:=GF (n:=8) hn hm
theorem nN(hn:n<256):n&&&m<256:=Ft Jw hn
def zM(ns:List Int):Nat:=ns.foldl (λs t=>s|||2^t.toNat) 0
theorem wH:∀ (ns:List Int) (s k:Nat),(∀z∈ns,0<=z)->((ns.foldl (λs (t:Int)=>s|||2^t.toNat) s).testBit k=true↔s.testBit k=true\/(k:Int)∈ns)
 | [],s,k,_=>by simp
 |z::r,s,k,h=>by
  rw[Gs,wH r _ k (λy hy=>h y (Fe _ hy)),GG,Jx,Gq,Fh,decide_eq_true_eq];have hz:=h z Fq;have:z.toNat=k↔(k:Int)=z:=by lia
  rw[this,or_assoc]
theorem vO{n m:Nat}(hn:n<256)(hm:m<256)(h:∀k,k<8->(n.testBit k=true↔m.testBit k=true)):n=m:=by
 refine Fv λk=> ?_;by_cases hk:k<8
 .have:=h k hk;cases e1:n.testBit k with
  |true=>exact(this.mp e1).symm
  |false=>
   cases e2:m.testBit k with
   |true=>exact absurd (this.mpr e2) (by rw[e1];simp)
   |false=>rfl
 .have hp:2^8<=2^k:=Fy (by lia) (by lia);rw[Gb (by lia),Gb (by lia)]
theorem gT{n k:Nat}:n.testBit k=decide (n/2^k % 2=1):=Jl
theorem Bi:∀n:Nat,n<256->(List.range (if n=0 then 0 else n.log2+1)).filter n.testBit=(List.range 8).filter n.testBit:=by decide+kernel
end Bh
namespace Bh
theorem Dy:∀a:Nat,a<256->∀k:Nat,k<8->a.testBit k=false->a|||2^k=a+2^k:=by decide+kernel
def xA(ns:List Int):Nat:=(ns.map λz=>2^z.toNat).sum
theorem kD:∀ (ns:List Int) (s:Nat),s<256->(∀z∈ns,0<=z/\z<8)->ns.Nodup->(∀z∈ns,s.testBit z.toNat=false)->ns.foldl (λs (t:Int)=>s|||2^t.toNat) s=s+xA ns
 | [],s,_,_,_,_=>by simp[xA]
 |z::r,s,hs,hr,hd,hb=>by
  have hz:=hr z Fq;have e:=Dy s hs z.toNat (by lia) (hb z Fq);have hlt:s|||2^z.toNat<256:=Em hs (Fb (Hm (by lia) (show z.toNat<8 by lia)) (by lia));rw[Gs,kD r _ hlt (λy hy=>hr y (Fe _ hy)) (Hv.mp hd).2 (λy hy=> ?_),e]
  .simp only[xA,FT,Kn];lia
  .rw[GG,hb y (Fe _ hy),Gq,Km];have hne:y≠z:=λq=>(Hv.mp hd).1 (q▸hy);have:=hr y (Fe _ hy);exact E8 (by lia)
theorem zK{ns:List Int}(hr:∀z∈ns,0<=z/\z<8)(hd:ns.Nodup):zM ns=xA ns:=by unfold zM;rw[kD ns 0 (by lia) hr hd (λz _=>Hc _),IS]
theorem zL(h:∀z∈ns,0<=z)(k:Nat):(zM ns).testBit k=true↔(k:Int)∈ns:=by unfold zM;rw[wH ns 0 k h,Hc];simp
end Bh
namespace Bh
def fO(f:List Int)(t:Int):List Int:=f++f.map λp=>((p.toNat|||2^t.toNat:Nat):Int)
def Ab(n:Nat):List Int:=(bits n).foldl fO [0]
theorem xB(f:List Int)(t:Int):(fO f t).length=2*f.length:=by unfold fO;rw[Fw,E3];lia
theorem pC:∀ (ts:List Int) (f:List Int),(ts.foldl fO f).length=2^ts.length*f.length
 | [],f=>by simp
 |t::r,f=>by rw[Gs,pC r,xB,FK,Jy,Nat.mul_assoc]
theorem zB(h:∀p∈f,0<=p):∀p∈fO f t,0<=p:=λp hp=>by
 rcases FE.mp hp with q|q
 .exact h p q
 .obtain⟨x,_,rfl⟩:=Fn.mp q;lia
theorem tU:∀ (ts:List Int) (f:List Int),(∀p∈f,0<=p)->∀p∈ts.foldl fO f,0<=p
 | [],_,h=>h
 |t::r,f,h=>by rw[Gs];exact tU r _ (zB h)
end Bh
namespace Bh
def ER(n:Nat):List Nat:=(List.range 8).filter n.testBit
theorem Ct(n:Nat):bits n=(ER n).map λ(k:Nat)=>(k:Int):=rfl
end Bh
namespace Bh
theorem lH:∀ {i j:Nat},i<=j->(∀k,i<=k->p k=false)->(List.range j).filter p=(List.range i).filter p:=by
 intro i j hij h
 induction j with
 |zero=>
      have:i=0:=by lia
      subst this;rfl
 |succ j ih=>
  by_cases e:i=j+1
  .subst e;rfl
  .rw[GA,Hj,ih (by lia)];simp[h j (by lia)]
end Bh
namespace Bh
theorem xD:∀n:Nat,n<256->(bits n).length=n % 2+(bits (n/2)).length:=by decide+kernel
theorem dy(h:n<=8):2^n<=256:=Fy (n:=2) (by lia) h
end Bh
namespace Bh
abbrev sz(n:Nat):Nat:=(bits n).length
theorem fw(n:Nat):sz n=((List.range 8).filter n.testBit).length:=by show(bits n).length=_;unfold bits;rw[E3]
theorem kl:∀ (l:List Nat),(∀x∈l,p x=true->q x=true)->(l.filter p).length<=(l.filter q).length
 | [],_=>Fj _
 |x::l,h=>by
  have ih:=kl l λy hy=>h y (Fe _ hy);have hx:=h x Fq;cases hp:p x<;>cases hq:q x
  .simp only[Gu,hp,hq];exact ih
  .simp only[Gu,hp,hq,E9,FK];exact Nat.le_succ_of_le ih
  .rw[hp]at hx;rw[hx rfl]at hq;cases hq
  .simp only[Gu,hp,hq,E9,FK];lia
theorem km:∀ (l:List Nat),(∀x∈l,p x=true->q x=true)->(l.filter p).length=(l.filter q).length->∀x∈l,p x=q x
 | [],_,_=>λx hx=>by cases hx
 |x::l,h,e=>λy hy=>by
  have h':∀z∈l,p z=true->q z=true:=λz hz=>h z (Fe _ hz);have le:=kl l h';have hx:=h x Fq;cases hp:p x<;>cases hq:q x
  .simp only[Gu,hp,hq]at e;rcases Fh.mp hy with rfl|hy
   .rw[hp,hq]
   .exact km l h' e y hy
  .simp only[Gu,hp,hq,E9,FK]at e;have e':(l.filter p).length=(l.filter q).length+1:=e;lia
  .rw[hp]at hx;rw[hx rfl]at hq;cases hq
  .simp only[Gu,hp,hq,E9,FK]at e;rcases Fh.mp hy with rfl|hy
   .rw[hp,hq]
   .exact km l h' (by lia) y hy
theorem fN{a b:Nat}(h:∀k,k<8->a.testBit k=true->b.testBit k=true):sz a<=sz b:=by rw[fw,fw];exact kl _ λk hk=>h k (Fl.mp hk)
theorem CG{a b:Nat}(ha:a<256)(hb:b<256)(h:∀k,k<8->a.testBit k=true->b.testBit k=true)(e:sz a=sz b):a=b:=by rw[fw,fw]at e;refine vO ha hb λk hk=> ?_;rw[km _ (λk hk=>h k (Fl.mp hk)) e k (Fl.mpr hk)]
theorem xy(a b:Nat):sz (a&&&b)<=sz a:=fN λk _ h=>by rw[FG,Fp]at h;exact h.1
def au(ms:List Int)(s:Nat):Nat:=ms.foldl (λr m=>max r (sz (s&&&m.toNat))) 0
theorem qN:∀ (ms:List Int) (s r:Nat),r<=ms.foldl (λr (m:Int)=>max r (sz (s&&&m.toNat))) r/\(∀m∈ms,sz (s&&&m.toNat)<=ms.foldl (λr (m:Int)=>max r (sz (s&&&m.toNat))) r)/\
  (ms.foldl (λr (m:Int)=>max r (sz (s&&&m.toNat))) r=r\/∃m∈ms,sz (s&&&m.toNat)=ms.foldl (λr (m:Int)=>max r (sz (s&&&m.toNat))) r)
 | [],s,r=>⟨Fj _,λm hm=>(by cases hm), .inl rfl⟩
 |x::ms,s,r=>by
  obtain⟨h1,h2,h3⟩:=qN ms s (max r (sz (s&&&x.toNat)));rw[Gs];refine⟨Fc (Nat.le_max_left _ _) h1,λm hm=> ?_,?_⟩
  .rcases Fh.mp hm with rfl|hm
   .exact Fc (Nat.le_max_right _ _) h1
   .exact h2 m hm
  .rcases h3 with h3|⟨m,hm,e⟩
   .rw[h3];rcases Nat.le_total r (sz (s&&&x.toNat))with h|h
    .rw[Nat.max_eq_right h];exact .inr ⟨x,Fq,rfl⟩
    .rw[Nat.max_eq_left h];exact .inl rfl
   .exact .inr ⟨m,Fe _ hm,e⟩
theorem gy{m:Int}(h:m∈ms):sz (s&&&m.toNat)<=au ms s:=(qN ms s 0).2.1 m h
theorem wN(h:ms≠[]):∃m∈ms,sz (s&&&m.toNat)=au ms s:=by
 rcases(qN ms s 0).2.2 with e|e
 .cases ms with
  |nil=>exact absurd rfl h
  |cons m r=>
   have:=gy (s:=s) (m:=m) (ms:=m::r) Fq;have e':au (m::r) s=0:=e;exact⟨m,Fq,by lia⟩
 .exact e
theorem jg(h:ms≠[])(hb:∀m∈ms,sz (s&&&m.toNat)<=b):au ms s<=b:=by obtain⟨m,hm,e⟩:=wN (s:=s) h;rw[<-e];exact hb m hm
theorem kG(h1:∃m∈ms,sz (s&&&m.toNat)=r)(h2:∀m∈ms,sz (s&&&m.toNat)<=r):au ms s=r:=by obtain⟨m,hm,e⟩:=h1;have a:=gy (s:=s) hm;have b:=jg (s:=s) (ms:=ms) (by rintro rfl;cases hm) h2;lia
theorem jW(ms:List Int)(s:Nat):au ms s<=sz s:=by
 cases ms with
 |nil=>exact FV _
 |cons m r=>exact jg (by simp) λm _=>xy _ _
theorem bK{s k j:Nat}(hk:s.testBit k=true):(s^^^2^k).testBit j=(s.testBit j&& !decide (k=j)):=by
 rw[GY,Gq];by_cases e:k=j
 .subst e;simp[hk]
 .simp[e]
theorem cv:∀s:Nat,s<256->∀k:Nat,k<8->s.testBit k=true->s^^^2^k<s:=by decide+kernel
theorem xI{s:Nat}(hne:ms≠[])(hs:s<256)(hno:∀m∈ms,¬(m.toNat&&&s=s)):
  (∃k,k<8/\s.testBit k=true/\au ms (s^^^2^k)=au ms s)/\∀k,s.testBit k=true->au ms (s^^^2^k)<=au ms s:=by
 have mono:∀k,s.testBit k=true->au ms (s^^^2^k)<=au ms s:=λk hk=>jg hne λm hm=>by refine Fc (fN λj _ hj=> ?_) (gy hm);rw[FG,bK hk,Fp,Fp]at hj;rw[FG,Fp];exact⟨hj.1.1,hj.2⟩
 refine⟨?_,mono⟩;obtain⟨m,hm,e⟩:=wN (s:=s) hne;have hx:∃k,k<8/\s.testBit k=true/\m.toNat.testBit k=false:=by
  refine FU λhc=>hno m hm ?_;refine Fv λj=> ?_;rw[FG];cases hj:s.testBit j with
  |false=>simp
  |true=>
   have hj8:j<8:=by refine HN λh=> ?_;rw[Gb (Fb hs (Fy (by lia) h:2^8<=2^j))]at hj;cases hj
   cases hmj:m.toNat.testBit j with
   |true=>rfl
   |false=>exact absurd ⟨j,hj8,hj,hmj⟩ hc
 obtain⟨k,hk8,hk,hmk⟩:=hx;refine⟨k,hk8,hk,Gr (mono k hk) ?_⟩;rw[<-e];refine Fc (fN λj _ hj=> ?_) (gy hm);rw[FG,Fp]at hj;rw[FG,bK hk,Fp,Fp];refine⟨⟨hj.1,?_⟩,hj.2⟩;by_cases ej:k=j
 .subst ej;rw[hmk]at hj;exact absurd hj.2 Fo
 .simp[ej]
theorem BK{m:Int}(hm:m∈ms)(h:m.toNat&&&s=s):au ms s=sz s:=by refine Gr (jW ms s) ?_;have:=gy (s:=s) hm;rw[IW,h]at this;exact this
theorem df:∀n:Nat,n<9->Ab (2^n-1)=(List.range (2^n)).map λk:Nat=>(k:Int):=by decide+kernel
end Bh
namespace Bh
def dP(lv:List Int)(s i:Nat):Int:=(List.range i).foldl (λr k=>if s.testBit k=true then(if lv.getD (s^^^2^k) 0>r then lv.getD (s^^^2^k) 0 else r)else r) 0
theorem kR(lv:List Int)(s i:Nat):dP lv s (i+1)=if s.testBit i=true then(if lv.getD (s^^^2^i) 0>dP lv s i then lv.getD (s^^^2^i) 0 else dP lv s i)else dP lv s i:=by unfold dP;rw[GA,GL];rfl
theorem kS(lv:List Int)(s:Nat):∀i,0<=dP lv s i/\(∀k,k<i->s.testBit k=true->lv.getD (s^^^2^k) 0<=dP lv s i)/\(dP lv s i=0\/∃k,k<i/\s.testBit k=true/\dP lv s i=lv.getD (s^^^2^k) 0)
 |0=>⟨Int.le_refl 0,λk hk=>absurd hk (by lia), .inl rfl⟩
 |i+1=>by
  obtain⟨h0,h1,h2⟩:=kS lv s i;rw[kR];have lift:dP lv s i=0\/∃k,k<i+1/\s.testBit k=true/\dP lv s i=lv.getD (s^^^2^k) 0:=by
   rcases h2 with h2|⟨k,hk,a,b⟩
   .exact .inl h2
   .exact .inr ⟨k,by lia,a,b⟩
  by_cases hb:s.testBit i=true
  .rw[E9 hb];by_cases hg:lv.getD (s^^^2^i) 0>dP lv s i
   .rw[E9 hg];refine⟨by lia,λk hk hkb=> ?_, .inr ⟨i,by lia,hb,rfl⟩⟩;by_cases e:k=i
    .subst e;exact Int.le_refl _
    .have:=h1 k (by lia) hkb;lia
   .rw[Fg hg];refine⟨h0,λk hk hkb=> ?_,lift⟩;by_cases e:k=i
    .subst e;lia
    .exact h1 k (by lia) hkb
  .rw[Fg hb];refine⟨h0,λk hk hkb=> ?_,lift⟩;by_cases e:k=i
   .subst e;exact absurd hkb hb
   .exact h1 k (by lia) hkb
theorem rL{s n k:Nat}(hs:s<2^n)(hk:s.testBit k=true):k<n:=by refine HN λh=> ?_;rw[Gb (Fb hs (Fy (by lia) h))]at hk;cases hk
theorem B7{lv:List Int}(hn:n<=8)(hs:s<2^n)(hne:ms≠[])(hno:∀m∈ms,¬(m.toNat&&&s=s))(hlv:∀t,t<s->lv.getD t 0=(au ms t:Int)):dP lv s n=(au ms s:Int):=by
 have h256:s<256:=Fb hs (dy hn);obtain⟨⟨k,hk8,hk,ek⟩,le⟩:=xI hne h256 hno;obtain⟨h0,h1,h2⟩:=kS lv s n;have a:=h1 k (rL hs hk) hk;rw[hlv _ (cv s h256 k hk8 hk),ek]at a;rcases h2 with h2|⟨j,hj,hjb,e⟩
 .lia
 .rw[hlv _ (cv s h256 j (by lia) hjb)]at e;have:=le j hjb;lia
theorem Ep(h:∃m∈ms,m.toNat&&&s=s):(sz s:Int)=(au ms s:Int):=by obtain⟨m,hm,e⟩:=h;rw[BK hm e]
def Far(r:Int)(ps:List Int):Prop:=∀a∈ps,∀b∈ps,a≠b->(sz (a.toNat&&&b.toNat):Int)<=r-2
theorem Ck(r:Int):Far r []:=λa ha=>by cases ha
theorem A1{z:Int}(h:Far r ps)(hz:∀a∈ps,¬((sz (a.toNat&&&z.toNat):Int)>r-2)):Far r (ps++[z]):=by
 intro a ha b hb ne;rcases FE.mp ha with ha1|ha1<;>rcases FE.mp hb with hb1|hb1
 .exact h a ha1 b hb1 ne
 .have:b=z:=by simpa using hb1
  subst this;have:=hz a ha1;lia
 .have:a=z:=by simpa using ha1
  subst this;have:=hz b hb1;rw[IW];lia
 .have e1:a=z:=by simpa using ha1
  have e2:b=z:=by simpa using hb1
  exact absurd (e1.trans e2.symm) ne
theorem zf:∀r:Nat,0<r->r<8->sz (2^r-1)=r/\sz (2^r-1-2^(r-1)+2^r)=r/\sz ((2^r-1)&&& (2^r-1-2^(r-1)+2^r))+1=r/\2^r-1≠2^r-1-2^(r-1)+2^r/\2^r-1-2^(r-1)+2^r<2^(r+1):=by
 intro r h0 h8
 match r,h0,h8 with
 |1,_,_=>decide+kernel
 |2,_,_=>decide+kernel
 |3,_,_=>decide+kernel
 |4,_,_=>decide+kernel
 |5,_,_=>decide+kernel
 |6,_,_=>decide+kernel
 |7,_,_=>decide+kernel
 |r+8,_,h8=>lia
theorem uN:∀r:Nat,r<9->sz (2^r-1)=r:=by decide+kernel
theorem wk{n r:Nat}{ps:List Int}(hn:n<=8)(hr:r<=n)(hp:ps=[]\/(0<r/\r<n/\Far r ps)):∃s,s<2^n/\sz s=r/\(s:Int)∉ps:=by
 have lowlt:2^r-1<2^n:=by have h1:2^r<=2^n:=Fy (by lia) hr;have h2:0<2^r:=GC (by lia);lia
 rcases hp with rfl|⟨r0,r1,hf⟩
 .exact⟨2^r-1,lowlt,uN r (by lia),by simp⟩
 .obtain⟨a1,a2,a3,a4,a5⟩:=zf r r0 (by lia);by_cases hA:((2^r-1:Nat):Int)∈ps
  .refine⟨2^r-1-2^(r-1)+2^r,Fb a5 (Fy (by lia) (by lia)),a2,λhB=> ?_⟩;have:=hf _ hA _ hB (by lia);rw[E4,E4]at this;lia
  .exact⟨2^r-1,lowlt,a1,hA⟩
def mG(r:Nat)(ps:List Int)(s:Nat):Bool:=decide (sz s=r)&&decide ((s:Int)∉ps)
def dn(n r:Nat)(ps:List Int):List Int:=((List.range (2^n)).filter (mG r ps)).map λs:Nat=>(s:Int)
theorem kf:z∈dn n r ps↔∃s:Nat,s<2^n/\sz s=r/\(s:Int)∉ps/\z=s:=by
 unfold dn;rw[Fn];constructor
 .rintro⟨s,hs,rfl⟩;rw[FH,Fl]at hs;have h2:=hs.2;unfold mG at h2;rw[Fp,F7,F7]at h2;exact⟨s,hs.1,h2.1,h2.2,rfl⟩
 .rintro⟨s,h1,h2,h3,rfl⟩;refine⟨s,FH.mpr ⟨Fl.mpr h1,?_⟩,rfl⟩;unfold mG;rw[E6 h2,E6 h3];rfl
section
variable{n r:Nat}{ps ms:List Int}
theorem oh(hn:n<=8)(hr:r<=n)(hp:ps=[]\/(0<r/\r<n/\Far r ps)):dn n r ps≠[]:=by obtain⟨s,h1,h2,h3⟩:=wk hn hr hp;have:(s:Int)∈dn n r ps:=kf.mpr ⟨s,h1,h2,h3,rfl⟩;intro e;rw[e]at this;cases this
end
end Bh
namespace Bh
theorem hE:∀x:Nat,x<256->∀k:Nat,k<8->(x|||2^k) - (x&&&2^k)=x^^^2^k/\(x&&&2^k)<=(x|||2^k):=by decide+kernel
end Bh
namespace Bh
theorem ig:∀ (n x y:Nat),x<=n->(x&&&y)+(x^^^ (x&&&y))=x:=by
 intro n
 induction n with
 |zero=>
  intro x y h;have:x=0:=by lia
  subst this;simp
 |succ n ih=>
  intro x y h;by_cases h0:x=0
  .subst h0;simp
  have i:=ih (x/2) (y/2) (by lia);rw[<-Nat.and_div_two,<-Nat.xor_div_two]at i;have a2:(x&&&y) % 2=1↔x % 2=1/\y % 2=1:=Nat.and_mod_two_eq_one;have b2:(x^^^ (x&&&y)) % 2=1↔¬((x % 2=1)↔((x&&&y) % 2=1)):=Nat.xor_mod_two_eq_one;by_cases hx:x % 2=1<;>by_cases hy:y % 2=1
  .have a:=a2.mpr ⟨hx,hy⟩;have b:¬(x^^^ (x&&&y)) % 2=1:=λz=>(b2.mp z) ⟨λ_=>a,λ_=>hx⟩;lia
  .have a:¬(x&&&y) % 2=1:=λz=>hy (a2.mp z).2;have b:=b2.mpr λz=>a (z.mp hx);lia
  .have a:¬(x&&&y) % 2=1:=λz=>hx (a2.mp z).1;have b:¬(x^^^ (x&&&y)) % 2=1:=λz=>(b2.mp z) ⟨λq=>absurd q hx,λq=>absurd q a⟩;lia
  .have a:¬(x&&&y) % 2=1:=λz=>hx (a2.mp z).1;have b:¬(x^^^ (x&&&y)) % 2=1:=λz=>(b2.mp z) ⟨λq=>absurd q hx,λq=>absurd q a⟩;lia
def aT(s t:Nat):Nat:=s^^^ (s&&&t)
theorem B8(s t:Nat):(s||| (s&&&t)) - (s&&& (s&&&t))=aT s t:=by
 have h:=ig s s t (Fj _);have e1:s||| (s&&&t)=s:=Fv λj=>by rw[GG,FG];cases s.testBit j<;>simp
 have e2:s&&& (s&&&t)=s&&&t:=Fv λj=>by rw[FG,FG];cases s.testBit j<;>simp
 rw[e1,e2];unfold aT;lia
theorem eT(s t j:Nat):(aT s t).testBit j=(s.testBit j&& !t.testBit j):=by unfold aT;rw[GY,FG];cases s.testBit j<;>cases t.testBit j<;>rfl
theorem cR(s t:Nat):aT s t<=s:=by have:=ig s s t (Fj _);unfold aT;lia
theorem tK{s k:Nat}(hk:s.testBit k=true):aT s (2^k)=s^^^2^k:=by refine Fv λj=> ?_;rw[eT,bK hk,Gq]
theorem iq:∀s:Nat,s<256->∀k:Nat,k<8->s.testBit k=true->sz (s^^^2^k)+1=sz s:=by decide+kernel
theorem j5(s k j:Nat):(s|||2^k).testBit j=(s.testBit j||decide (k=j)):=by rw[GG,Gq]
theorem rS:∀s:Nat,s<256->∀k:Nat,k<8->sz (s|||2^k)<=sz s+1:=by decide+kernel
theorem BJ(hs:s<256)(hk:k<8):au ms s<=au ms (s|||2^k)/\au ms (s|||2^k)<=au ms s+1:=by
 cases ms with
 |nil=>exact⟨Fj _,FV _⟩
 |cons m0 r=>
  have hne:m0::r≠[]:=by simp
  refine⟨jg hne λm hm=>Fc (fN λj _ hj=> ?_) (gy hm),jg hne λm hm=> ?_⟩
  .rw[FG,Fp]at hj;rw[FG,j5,hj.1,hj.2];rfl
  .have h1:sz ((s|||2^k)&&&m.toNat)<=sz ((s&&&m.toNat)|||2^k):=fN λj _ hj=>by
    rw[FG,j5,Fp,Jx]at hj;rw[j5,FG];rcases hj.1 with h|h
    .rw[h,hj.2];rfl
    .rw[h];simp
   have h2:=rS (s&&&m.toNat) (nN hs) k hk;have h3:=gy (s:=s) hm;lia
end Bh
namespace Bh
def eW(ms:List Int)(s:Nat):Bool:=decide (au ms s=sz s)
def cJ(ms:List Int)(s:Nat):Bool:= !eW ms s&&(bits s).all λz=>eW ms (aT s (2^z.toNat))
def kE(ms:List Int)(s i:Nat):Bool:=(List.range i).all λk=> !(s.testBit k&&decide ((au ms (s^^^2^k):Int)<(sz s:Int) -1))
theorem uW(ms:List Int)(s i:Nat):kE ms s (i+1)=(kE ms s i&& !(s.testBit i&&decide ((au ms (s^^^2^i):Int)<(sz s:Int) -1))):=by unfold kE;rw[GA,List.all_append];simp
theorem BH(hn:n<=8)(hs:s<2^n):cJ ms s=(decide ((au ms s:Int)<(sz s:Int))&&kE ms s n):=by
 have h256:s<256:=Fb hs (dy hn);have hle:=jW ms s;have e1:(!eW ms s)=decide ((au ms s:Int)<(sz s:Int)):=by
  unfold eW;by_cases h:au ms s=sz s
  .rw[E6 h,E8 (by lia)];rfl
  .rw[E8 h,E6 (by lia)];rfl
 have e2:((bits s).all λz=>eW ms (aT s (2^z.toNat)))=kE ms s n:=by
  unfold kE;rw[Gz,GQ,GQ];constructor
  .intro h k hk;have hkn:=Fl.mp hk;cases hb:s.testBit k with
   |false=>rfl
   |true=>
    have:=h (k:Int) ((jw (by lia)).mpr hb);rw[E4,tK hb]at this;unfold eW at this;have e:=Fi this;have d:=iq s h256 k (by lia) hb;rw[E8 (by lia)];rfl
  .intro h z hz;obtain⟨k,hk8,hb,rfl⟩:=bg.mp hz;have:=h k (Fl.mpr (rL hs hb));rw[hb]at this;rw[E4,tK hb];unfold eW;have d:=iq s h256 k hk8 hb;have l:=jW ms (s^^^2^k);by_cases hc:(au ms (s^^^2^k):Int)<(sz s:Int) -1
   .rw[E6 hc]at this;cases this
   .exact E6 (by lia)
 unfold cJ;rw[e1,e2]
def fj(ms:List Int)(s i:Nat):Nat:=(List.range i).foldl (λf k=>if(!s.testBit k&&decide (au ms (s|||2^k)=au ms s))=true then f|||2^k else f) s
theorem rB(ms:List Int)(s i:Nat):fj ms s (i+1)=if(!s.testBit i&&decide (au ms (s|||2^i)=au ms s))=true then fj ms s i|||2^i else fj ms s i:=by unfold fj;rw[GA,GL];rfl
theorem dG(ms:List Int)(s j:Nat):∀i,(fj ms s i).testBit j=(s.testBit j||(decide (j<i)&&(!s.testBit j&&decide (au ms (s|||2^j)=au ms s))))
 |0=>by simp[fj]
 |i+1=>by
  rw[rB];have ih:=dG ms s j i;by_cases e:i=j
  .subst e;by_cases hc:(!s.testBit i&&decide (au ms (s|||2^i)=au ms s))=true
   .rw[E9 hc,j5,ih,hc];simp
   .rw[Fg hc,ih,F4.mpr hc];simp
  .have e2:decide (j<i+1)=decide (j<i):=by
    by_cases h:j<i
    .rw[E6 h,E6 (by lia)]
    .rw[E8 h,E8 (by lia)]
   by_cases hc:(!s.testBit i&&decide (au ms (s|||2^i)=au ms s))=true
   .rw[E9 hc,j5,ih,e2,E8 e,GP]
   .rw[Fg hc,ih,e2]
def outs(n s:Nat):List Int:=bits (aT (2^n-1) s)
theorem fh(s k:Nat):(aT (2^n-1) s).testBit k=(decide (k<n)&& !s.testBit k):=by rw[eT,Gx]
def jI(ms:List Int)(n s:Nat):Nat:=(outs n s).foldl (λf z=>if au ms (s|||2^z.toNat)=au ms s then f|||2^z.toNat else f) s
theorem gd{α β:Type}(p:α->Bool)(f:β->α->β):∀ (l:List α) (b:β),(l.filter p).foldl f b=l.foldl (λb x=>if p x=true then f b x else b) b
 | [],_=>rfl
 |x::l,b=>by
  cases h:p x
  .rw[Gu,h];simp only[Bool.false_eq_true,if_false,Gs,h];exact gd p f l b
  .rw[Gu,h];simp only[J0,Gs,h];exact gd p f l _
theorem yL(hn:n<=8):jI ms n s=fj ms s n:=by
 unfold jI outs bits;rw[List.foldl_map,lH hn λk hk=>by rw[fh,E8 (by lia)];rfl,gd];unfold fj;have key:∀ (l:List Nat) (b:Nat),(∀k∈l,k<n)->l.foldl (λf k=>if(aT (2^n-1) s).testBit k=true then(if au ms (s|||2^((k:Nat):Int).toNat)=au ms s then f|||2^((k:Nat):Int).toNat else f)else f) b=l.foldl (λf k=>if(!s.testBit k&&decide (au ms (s|||2^k)=au ms s))=true then f|||2^k else f) b:=by
  intro l
  induction l with
  |nil=>intro b _;rfl
  |cons k l ih=>
   intro b h;rw[Gs,Gs,ih _ λx hx=>h x (Fe _ hx)];congr 1;rw[fh,E6 (h k Fq),E4];cases s.testBit k<;>by_cases hc:au ms (s|||2^k)=au ms s<;>simp[hc]
 exact key _ _ λk hk=>Fl.mp hk
def fY(ms:List Int)(n s:Nat):Bool:=(outs n s).all λz=>decide (au ms (s|||2^z.toNat)=au ms s+1)
theorem Cj(hn:n<=8)(hs:s<2^n):fY ms n s=decide (fj ms s n=s):=by
 have h256:s<256:=Fb hs (dy hn);rw[Gz,F7];unfold fY outs;rw[GQ];constructor
 .intro h;refine Fv λj=> ?_;rw[dG];by_cases hj:j<n
  .cases hb:s.testBit j with
   |true=>rfl
   |false=>
    have:=h (j:Int) ((jw (by lia)).mpr (by rw[fh,E6 hj,hb];rfl));rw[E4]at this;have e:=Fi this;rw[E8 (show¬au ms (s|||2^j)=au ms s by lia)];simp
  .rw[E8 hj];simp
 .intro h z hz;obtain⟨k,hk8,hb,rfl⟩:=bg.mp hz;rw[fh,Fp,F7]at hb;have hsk:s.testBit k=false:=by
   have:=hb.2;cases hq:s.testBit k
   .rfl
   .rw[hq]at this;cases this
  have c:=dG ms s k n;rw[h,hsk,E6 hb.1]at c;rw[E4];obtain⟨r1,r2⟩:=BJ (ms:=ms) h256 hk8;by_cases e:au ms (s|||2^k)=au ms s
  .rw[E6 e]at c;cases c
  .exact E6 (by lia)
end Bh
namespace Bh
theorem vJ{α β:Type}{l:List α}{f:α->Option β}{i:Nat}{x:α}{y:β}(hx:l[i]?=some x)(hb:∀j z,j<i->l[j]?=some z->f z=none)(h:f x=some y):l.findSome? f=some y:=by
 rw[He];obtain⟨hi,e⟩:=Fd.mp hx;refine⟨l.take i,x,l.drop (i+1),?_,h,λz hz=> ?_⟩
 .rw[<-e,List.getElem_cons_drop,List.take_append_drop]
 .obtain⟨j,hj⟩:=Gw hz;have hjl:j<(l.take i).length:=(Fd.mp hj).1;rw[FP]at hjl;rw[Ie (by lia)]at hj;exact hb j z (by lia) hj
theorem w4{α β:Type}{l:List α}{f:α->Option β}(h:∀ (j:Nat) z,l[j]?=some z->f z=none):l.findSome? f=none:=by rw[Hg];intro z hz;obtain⟨j,hj⟩:=Gw hz;exact h j z hj
theorem w6{β:Type}{N i:Nat}{f:Nat->Option β}{y:β}(hi:i<N)(hb:∀j,j<i->f j=none)(h:f i=some y):(List.range N).findSome? f=some y:=by refine vJ (i:=i) (Gi hi) (λj z hj hz=> ?_) h;rw[Gi (by lia)]at hz;cases hz;exact hb j hj
theorem eU{β:Type}{N:Nat}{f:Nat->Option β}(h:∀j,j<N->f j=none):(List.range N).findSome? f=none:=by rw[Hg];intro z hz;exact h z (Fl.mp hz)
theorem kh{α β:Type}(p:α->Bool)(f:α->Option β):∀l:List α,(l.filter p).findSome? f=l.findSome? λx=>if p x=true then f x else none
 | []=>rfl
 |x::l=>by
  rw[Gu,List.findSome?_cons];by_cases h:p x=true
  .rw[E9 h,E9 h,List.findSome?_cons,kh p f l]
  .rw[Fg h,Fg h,kh p f l]
theorem tR{β:Type}{f:Nat->Option β}{n m:Nat}(hnm:n<=m)(h:∀k,n<=k->f k=none):(List.range m).findSome? f=(List.range n).findSome? f:=by
 cases e:(List.range n).findSome? f with
 |none=>
  rw[Hg]at e;refine eU λj _=> ?_;by_cases hj:j<n
  .exact e j (Fl.mpr hj)
  .exact h j (by lia)
 |some y=>
  rw[He]at e;obtain⟨l1,a,l2,e1,e2,e3⟩:=e;rw[He];refine⟨l1,a,l2++List.range' n (m-n),?_,e2,e3⟩;have:List.range m=List.range n++List.range' n (m-n):=by
   have e:List.range' 0 n++List.range' (0+n) (m-n)=List.range' 0 (n+(m-n)):=List.range'_append_1;have:n+(m-n)=m:=by lia
   rw[this,IS]at e;rw[Hw,Hw,e]
  rw[this,e1,GN,J3]
theorem yy{β:Type}{ms:List Int}{N:Nat}{near c:Nat->Bool}{f:Nat->β}(hs:ms.Pairwise (· <= ·))(hm:∀z,z∈ms↔∃o:Nat,o<N/\near o=true/\z=o):
  ms.findSome? (λz=>if c z.toNat=true then some (f z.toNat)else none)=(List.range N).findSome? λo=>if(near o&&c o)=true then some (f o)else none:=by
 cases e:(List.range N).findSome? λo=>if(near o&&c o)=true then some (f o)else none with
 |none=>
  rw[Hg]at e⊢;intro z hz;obtain⟨o,h1,h2,rfl⟩:=(hm z).mp hz;have:=e o (Fl.mpr h1);rw[h2,GR]at this;rw[E4];exact this
 |some y=>
  rw[He]at e;obtain⟨l1,o,l2,e1,e2,e3⟩:=e;have ho:o<N:=Fl.mp (by rw[e1];simp);by_cases hc:(near o&&c o)=true
  .rw[E9 hc]at e2;rw[Fp]at hc;cases e2;have hmin:∀t,t<o->(near t&&c t)≠true:=λt ht hh=>by
    have hl:l1.length=o:=by
     have:(List.range N)[l1.length]?=some o:=by rw[e1];simp
     have hlt:l1.length<N:=by have:=(Fd.mp this).1;rw[FD]at this;exact this
     rw[Gi hlt]at this;exact F9 this
    have:(List.range N)[t]?=some t:=Gi (by lia);rw[e1,FQ (by lia)]at this;have:=e3 t (E7 this);rw[E9 hh]at this;cases this
   have hmem:(o:Int)∈ms:=(hm _).mpr ⟨o,ho,hc.1,rfl⟩;cases e4:ms.findSome? (λz=>if c z.toNat=true then some (f z.toNat)else none)with
   |none=>
    rw[Hg]at e4;have:=e4 _ hmem;rw[E4,E9 hc.2]at this;cases this
   |some w=>
    rw[He]at e4;obtain⟨k1,z,k2,q1,q2,q3⟩:=e4;have hz:z∈ms:=by rw[q1];simp
    obtain⟨t,t1,t2,rfl⟩:=(hm z).mp hz;rw[E4]at q2;by_cases ct:c t=true
    .rw[E9 ct]at q2;cases q2;have h1:¬t<o:=λh=>hmin t h (by rw[t2,ct];rfl);have h2:(t:Int)<=o:=by
      rw[q1]at hmem hs;rcases FE.mp hmem with h|h
      .have:=q3 _ h;rw[E4,E9 hc.2]at this;cases this
      .rcases Fh.mp h with h|h
       .lia
       .exact(List.pairwise_cons.mp (List.pairwise_append.mp hs).2.1).1 _ h
     have:t=o:=by lia
     rw[this]
    .rw[Fg ct]at q2;cases q2
  .rw[Fg hc]at e2;cases e2
abbrev Ans:=Option (Int×Int×Int)
def jK(told:List Int)(one other:Nat):Bool:= !(decide (told.getD other 0-told.getD one 0=0)||decide (told.getD other 0-told.getD one 0=1))
def uQ(told:List Int)(one k:Nat):Ans:=if(!one.testBit k&&jK told one (one|||2^k))=true then some (one,((one|||2^k:Nat):Int),-1)else none
def lR(n:Nat)(told:List Int)(one:Nat):Ans:=(List.range n).findSome? (uQ told one)
def fP(n:Nat)(told:List Int):Ans:=(List.range (2^n)).findSome? (lR n told)
def mK(told:List Int)(one:Nat)(z:Int):Ans:=if jK told one (one|||2^z.toNat)=true then some (one,((one|||2^z.toNat:Nat):Int),-1)else none
theorem oP(hn:n<=8):(outs n one).findSome? (mK told one)=lR n told one:=by
 unfold outs bits lR;rw[List.findSome?_map,kh];refine Eq.trans ?_ (tR (f:=λk=>if decide (k<n)=true then uQ told one k else none) (n:=n) hn λk hk=> ?_)|>.trans ?_
 .refine Fu (λf=>List.findSome? f (List.range 8)) (funext λk=> ?_);rw[fh];by_cases h1:k<n
  .rw[E6 h1,GR,E9 rfl];unfold uQ;cases one.testBit k with
   |true=>rfl
   |false=>
    show(if true=true then mK told one (k:Int)else none)=_;rw[E9 rfl];unfold mK;rw[E4];rfl
  .rw[E8 h1];rfl
 .have:¬k<n:=by lia
  rw[E8 this];rfl
 .cases e:(List.range n).findSome? (uQ told one)with
  |none=>
   rw[Hg]at e;refine eU λj hj=> ?_;rw[E9 (E6 hj)];exact e j (Fl.mpr hj)
  |some y=>
   rw[He]at e⊢;obtain⟨l1,a,l2,e1,e2,e3⟩:=e;have mem:∀x∈List.range n,(if decide (x<n)=true then uQ told one x else none)=uQ told one x:=λx hx=>E9 (E6 (Fl.mp hx));refine⟨l1,a,l2,e1,?_,λx hx=> ?_⟩
   .rw[mem a (by rw[e1];simp)];exact e2
   .rw[mem x (by rw[e1];exact Gg _ hx)];exact e3 x hx
def near(a b:Nat):Bool:=decide (sz a=sz (a&&&b)+1)&&decide (sz b=sz (a&&&b)+1)
def jx(told:List Int)(a b:Nat):Bool:=decide (told.getD a 0=told.getD (a&&&b) 0)&&(decide (told.getD b 0=told.getD (a&&&b) 0)&&decide (told.getD (a|||b) 0>told.getD (a&&&b) 0))
def CO(told:List Int)(one o:Nat):Ans:=if(near one o&&(decide (one<o)&&jx told one o))=true then some (one,o,-1)else none
def qR(n:Nat)(told:List Int)(one:Nat):Ans:=(List.range (2^n)).findSome? (CO told one)
def gB(n:Nat)(told:List Int):Ans:=(List.range (2^n)).findSome? (qR n told)
def kJ(told:List Int)(one:Nat)(z:Int):Ans:=if(decide (one<z.toNat)&&jx told one z.toNat)=true then some (one,(z.toNat:Int),-1)else none
def fb(s t y:Nat):Nat:=aT s (2^t)|||2^y
def jD(n s:Nat)(t:Int):List Int:=(outs n s).map λy=>((fb s t.toNat y.toNat:Nat):Int)
def ib(n s:Nat):List Int:=(bits s).flatMap (jD n s)
theorem A2:∀n:Nat,n<9->∀s:Nat,s<256->(bits s).length*(outs n s).length<64:=by decide+kernel
theorem pE(n s:Nat)(t:Int):(jD n s t).length=(outs n s).length:=by unfold jD;rw[E3]
theorem nA{α β:Type}{f:α->List β}{m:Nat}(h:∀x,(f x).length=m):∀l:List α,(l.flatMap f).length=l.length*m
 | []=>by simp
 |x::l=>by rw[List.flatMap_cons,Fw,h,nA h l,FK,Nat.succ_mul];lia
theorem vM(hn:n<=8)(hs:s<256):(ib n s).length<64:=by unfold ib;rw[nA (pE n s)];exact A2 n (by lia) s hs
theorem jv{n s:Nat}(hn:n<=8):z∈outs n s↔∃y:Nat,y<n/\s.testBit y=false/\z=y:=by
 unfold outs;rw[bg];constructor
 .rintro⟨k,h1,h2,rfl⟩;rw[fh,Fp]at h2;refine⟨k,Fi h2.1,?_,rfl⟩;cases e:s.testBit k with
  |false=>rfl
  |true=>rw[e]at h2;cases h2.2
 .rintro⟨y,h1,h2,rfl⟩;refine⟨y,by lia,?_,rfl⟩;rw[fh,E6 h1,h2];rfl
theorem gp{s t y j:Nat}:(fb s t y).testBit j=((s.testBit j&& !decide (t=j))||decide (y=j)):=by unfold fb;rw[j5,eT,Gq]
theorem B4{n s t y:Nat}(hn:n<=8)(hs:s<2^n)(ht:s.testBit t=true)(hy:y<n)(hy':s.testBit y=false):fb s t y<2^n/\near s (fb s t y)=true:=by
 have s256:s<256:=Fb hs (dy hn);have tn:=rL hs ht;have lt:fb s t y<2^n:=by unfold fb;exact GF (Ft (cR _ _) hs) (Hm (by lia) hy)
 refine⟨lt,?_⟩;have hty:t≠y:=λe=>by rw[e,hy']at ht;cases ht
 have e1:s&&&fb s t y=s^^^2^t:=Fv λj=>by
  rw[FG,gp,bK ht];by_cases h:y=j
  .subst h;rw[hy'];rfl
  .rw[E8 h,GP];cases s.testBit j<;>rfl
 have e2:fb s t y^^^2^y=s^^^2^t:=Fv λj=>by
  have hby:(fb s t y).testBit y=true:=by rw[gp,E6 rfl,Jz]
  rw[bK hby,gp,bK ht];by_cases h:y=j
  .subst h;rw[hy',E6 rfl];rfl
  .rw[E8 h,GP,IB,HU]
 have z1:=iq s s256 t (by lia) ht;have z2:=iq (fb s t y) (Fb lt (dy hn)) y (by lia) (by rw[gp,E6 rfl,Jz]);unfold near;rw[e1];rw[e2]at z2;rw[E6 (by lia),E6 (by lia)];rfl
theorem qB{a b:Nat}(ha:a<256)(hb:b<256)(h:sz b=sz (a&&&b)+1):∃k,k<8/\b.testBit k=true/\a.testBit k=false/\b^^^2^k=a&&&b:=by
 have ex:∃k,k<8/\b.testBit k=true/\a.testBit k=false:=by
  refine FU λhn=> ?_;have:b=a&&&b:=CG hb (nN ha) (λk hk hbk=>by
   rw[FG,hbk,HU];cases e:a.testBit k with
   |true=>rfl
   |false=>exact absurd ⟨k,hk,hbk,e⟩ hn)|>λf=>by
    refine Fv λk=> ?_;rw[FG];by_cases hk:k<8
    .cases hbk:b.testBit k with
     |false=>rw[GS]
     |true=>
      cases e:a.testBit k with
      |true=>rfl
      |false=>exact absurd ⟨k,hk,hbk,e⟩ hn
    .have:b<2^k:=Fb hb (Fy (n:=2) (i:=8) (by lia) (by lia));rw[Gb this,GS]
  rw[<-this]at h;lia
 obtain⟨k,hk,hbk,hak⟩:=ex;refine⟨k,hk,hbk,hak,?_⟩;have hd:=iq b hb k hk hbk;have hlt:b^^^2^k<256:=HP (cv b hb k hk hbk) hb;refine(CG (nN ha) hlt (λj hj hab=> ?_) (by lia)).symm;rw[FG,Fp]at hab;rw[bK hbk,hab.2,GR];have:k≠j:=λe=>by rw[e,hab.1]at hak;cases hak
 rw[E8 this];rfl
theorem nk(hn:n<=8)(hs:s<2^n)(z:Int):z∈ib n s↔∃o:Nat,o<2^n/\near s o=true/\z=o:=by
 have s256:s<256:=Fb hs (dy hn);unfold ib jD;rw[List.mem_flatMap];constructor
 .rintro⟨t,ht,hz⟩;obtain⟨y,hy,rfl⟩:=Fn.mp hz;obtain⟨t',_,ht',rfl⟩:=bg.mp ht;obtain⟨y',hy1,hy2,rfl⟩:=(jv hn).mp hy;rw[E4,E4];obtain⟨h1,h2⟩:=B4 hn hs ht' hy1 hy2;exact⟨_,h1,h2,rfl⟩
 .rintro⟨o,ho,hno,rfl⟩;have o256:o<256:=Fb ho (dy hn);unfold near at hno;rw[Fp]at hno;have n1:=Fi hno.1;have n2:=Fi hno.2;obtain⟨y,hy8,hoy,hsy,ey⟩:=qB s256 o256 n2;obtain⟨t,ht8,hst,hot,et⟩:=qB (a:=o) (b:=s) o256 s256 (by rw[IW];exact n1);refine⟨(t:Int),bg.mpr ⟨t,ht8,hst,rfl⟩,Fn.mpr ⟨(y:Int),(jv hn).mpr ⟨y,rL ho hoy,hsy,rfl⟩,?_⟩⟩;rw[E4,E4];refine Fu (λx:Nat=>(x:Int)) (Fv λj=> ?_);rw[gp];have b1:=Fu (λx=>x.testBit j) ey;have b2:=Fu (λx=>x.testBit j) et;simp only[bK hoy,bK hst,FG]at b1 b2;rw[b2];by_cases h:y=j
  .subst h;rw[hoy,E6 rfl,Jz]
  .rw[E8 h,GP];rw[E8 h,IB,HU]at b1;rw[b1];cases s.testBit j<;>cases o.testBit j<;>rfl
theorem kI{told ms:List Int}(hn:n<=8)(ho:one<2^n)(hp:ms.Perm (ib n one))(hs:ms.Pairwise (· <= ·)):ms.findSome? (kJ told one)=qR n told one:=
 yy (near:=near one) (c:=λo=>decide (one<o)&&jx told one o) (f:=λo:Nat=>((one:Int),(o:Int),(-1:Int))) hs λz=>(hp.mem_iff).trans (nk hn ho z)
def vR(n:Nat)(told:List Int):Ans:=if told.getD 0 0=0 then(fP n told).or (gB n told)else some (0,0,-1)
end Bh
namespace Bh
def mrg(ms:List Int)(x y:Nat):List Int:=ms.map λm=>if m=ms.getD x 0 then ms.getD y 0 else m
theorem fE(ms:List Int)(x y:Nat):(mrg ms x y).length=ms.length:=E3 ..
theorem fR{ms:List Int}(hz:z<ms.length):(mrg ms x y).getD z 0=if ms.getD z 0=ms.getD x 0 then ms.getD y 0 else ms.getD z 0:=by
 have e:ms.getD z 0=ms[z]:=by simp[hz]
 have e2:(mrg ms x y).getD z 0=(mrg ms x y)[z]'(by rw[fE];exact hz):=by simp[fE,hz]
 rw[e2,e];unfold mrg;rw[List.getElem_map]
structure Mks(p:Nat)(ts:List (Nat×Nat))(S:Nat->Prop)(ms:List Int):Prop where
 len:ms.length=p
 eq:∀k t,ts[k]?=some t->S k->ms.getD t.1 0=ms.getD t.2 0
 cl:∀P:Nat->Prop,(∀k t,ts[k]?=some t->S k->(P t.1↔P t.2))->∀x y,x<p->y<p->ms.getD x 0=ms.getD y 0->(P x↔P y)
def start(p:Nat):List Int:=(List.range p).map λi:Nat=>(i:Int)
theorem Mks.start(p:Nat)(ts:List (Nat×Nat)):Mks p ts (λ_=>False) (start p):=by
 refine⟨by simp[Bh.start],λ_ _ _ h=>h.elim,λP _ x y hx hy e=> ?_⟩;have ex:(Bh.start p).getD x 0=(x:Int):=by simp[Bh.start,hx]
 have ey:(Bh.start p).getD y 0=(y:Int):=by simp[Bh.start,hy]
 rw[ex,ey]at e;have:x=y:=by lia
 rw[this]
theorem Mks.step(h:Mks p ts S ms)(hb:∀t∈ts,t.1<p/\t.2<p)(hk:ts[k]?=some t):
  Mks p ts (λj=>S j\/j=k) (mrg ms t.1 t.2):=by
 have b:=hb t (E7 hk);refine⟨by rw[fE];exact h.len,λj u hj hs=> ?_,λP hP x y hx hy e=> ?_⟩
 .have bu:=hb u (E7 hj);rw[fR (by rw[h.len];exact bu.1),fR (by rw[h.len];exact bu.2)];rcases hs with hs|rfl
  .rw[h.eq j u hj hs]
  .rw[hk]at hj;cases hj;rw[E9 rfl];split<;>rfl
 .have h1:=h.cl P λj u hj hs=>hP j u hj (.inl hs);have ht:=hP k t hk (.inr rfl);rw[fR (by rw[h.len];exact hx),fR (by rw[h.len];exact hy)]at e;by_cases c1:ms.getD x 0=ms.getD t.1 0
  .by_cases c2:ms.getD y 0=ms.getD t.1 0
   .exact h1 x y hx hy (c1.trans c2.symm)
   .rw[E9 c1,Fg c2]at e;exact(h1 x t.1 hx b.1 c1).trans (ht.trans (h1 t.2 y b.2 hy e))
  .by_cases c2:ms.getD y 0=ms.getD t.1 0
   .rw[Fg c1,E9 c2]at e;exact(h1 x t.2 hx b.2 e).trans (ht.symm.trans (h1 t.1 y b.1 hy c2.symm))
   .rw[Fg c1,Fg c2]at e;exact h1 x y hx hy e
theorem Mks.congr(h:Mks p ts S ms)(e:∀j t,ts[j]?=some t->(S j↔S' j)):Mks p ts S' ms:=
 ⟨h.len,λk t hk hs=>h.eq k t hk ((e k t hk).mpr hs),λP hP x y hx hy=>h.cl P (λk t hk hs=>hP k t hk ((e k t hk).mp hs)) x y hx hy⟩
structure Wk(p:Nat)(ts:List (Nat×Nat))(S:Nat->Prop)(ms:List Int)(pt:Nat)(seen row:List Nat)(here:Option (Nat×Nat)):Prop where
 self:pt∈seen
 sub:∀x∈row,x∈seen
 nd:seen.Nodup
 cls:∀x∈seen,x<p/\ms.getD x 0=ms.getD pt 0
 done:∀x∈seen,x∈row\/(∀k t,ts[k]?=some t->S k->(∀hi,here=some hi->x=hi.1->k<hi.2)->(t.1=x->t.2∈seen)/\(t.2=x->t.1∈seen))
theorem Wk.start(hp:pt<p):Wk p ts S ms pt [pt] [pt] none:=
 ⟨FI.mpr rfl,λ_ h=>h,by simp,λx hx=>by rw[FI.mp hx];exact⟨hp,rfl⟩,λx hx=> .inl hx⟩
theorem Wk.pop(w:Wk p ts S ms pt seen (row++[h]) none):Wk p ts S ms pt seen row (some (h,0)):=by
 refine⟨w.self,λx hx=>w.sub x (Gg _ hx),w.nd,w.cls,λx hx=> ?_⟩;rcases w.done x hx with hr|hd
 .rcases FE.mp hr with hr|hr
  .exact .inl hr
  .refine .inr λk t hk hs hh=> ?_;have:=hh (h,0) rfl (FI.mp hr);exact absurd this (Ir _)
 .exact .inr λk t hk hs _=>hd k t hk hs λ_ e=>nomatch e
theorem Wk.push{ms:List Int}(w:Wk p ts S ms pt seen row (some (h,i)))
  (hy:y∉seen) (hp:y<p) (hc:ms.getD y 0=ms.getD pt 0):Wk p ts S ms pt (seen++[y]) (row++[y]) (some (h,i)):=by
 refine⟨Gg _ w.self,λx hx=> ?_,?_,λx hx=> ?_,λx hx=> ?_⟩
 .rcases FE.mp hx with hx|hx
  .exact Gg _ (w.sub x hx)
  .exact FL _ hx
 .rw[JV];exact⟨w.nd,by simp,λa ha b hb e=>by rw[FI.mp hb]at e;rw[e]at ha;exact hy ha⟩
 .rcases FE.mp hx with hx|hx
  .exact w.cls x hx
  .rw[FI.mp hx];exact⟨hp,hc⟩
 .rcases FE.mp hx with hx|hx
  .rcases w.done x hx with hr|hd
   .exact .inl (Gg _ hr)
   .exact .inr λk t hk hs hh=>⟨λe=>Gg _ ((hd k t hk hs hh).1 e),λe=>Gg _ ((hd k t hk hs hh).2 e)⟩
  .exact .inl (FL _ hx)
theorem Wk.over{ts:List (Nat×Nat)}(w:Wk p ts S ms pt seen row (some (h,n)))(hn:ts.length<=n):Wk p ts S ms pt seen row none:=by
 refine⟨w.self,w.sub,w.nd,w.cls,λx hx=> ?_⟩;rcases w.done x hx with hr|hd
 .exact .inl hr
 .refine .inr λk t hk hs _=>hd k t hk hs λz ez _=> ?_;cases ez;show k<n;exact Fb (Fd.mp hk).1 hn
theorem Wk.fin{ms:List Int}(m:Mks p ts S ms)(hpt:pt<p)(w:Wk p ts S ms pt seen [] none)(z:Nat)(hz:z<p):z∈seen↔ms.getD z 0=ms.getD pt 0:=by
 refine⟨λh=>(w.cls z h).2,λe=> ?_⟩;have:=m.cl (λx=>x∈seen) (λk t hk hs=> ?_) pt z hpt hz e.symm
 .exact this.mp w.self
 .refine⟨λh=> ?_,λh=> ?_⟩
  .rcases w.done _ h with hr|hd
   .cases hr
   .exact(hd k t hk hs λ_ ez=>nomatch ez).1 rfl
  .rcases w.done _ h with hr|hd
   .cases hr
   .exact(hd k t hk hs λ_ ez=>nomatch ez).2 rfl
def rg(p:Nat)(ts:List (Nat×Nat))(l:List Int):List Int:=l.foldl (λms k=>mrg ms (ts.getD k.toNat (0,0)).1 (ts.getD k.toNat (0,0)).2) (start p)
theorem o8(p:Nat)(ts:List (Nat×Nat))(l:List Int)(k:Int):rg p ts (l++[k])=mrg (rg p ts l) (ts.getD k.toNat (0,0)).1 (ts.getD k.toNat (0,0)).2:=by unfold rg;rw[GL];rfl
theorem kQ(p:Nat)(ts:List (Nat×Nat)):∀l:List Int,(rg p ts l).length=p:=by
 intro l;unfold rg;have:∀ (l:List Int) (ms:List Int),ms.length=p->(l.foldl (λms k=>mrg ms (ts.getD k.toNat (0,0)).1 (ts.getD k.toNat (0,0)).2) ms).length=p:=by
  intro l
  induction l with
  |nil=>intro ms h;exact h
  |cons k r ih=>intro ms h;rw[Gs];exact ih _ (by rw[fE];exact h)
 exact this l _ (by simp[start])
def tu(p:Nat)(ts:List (Nat×Nat))(s:Nat):List Int:=rg p ts (bits s)
theorem gH(hs:s<2^n){k:Int}(h:k∈bits s):0<=k/\k.toNat<n:=by obtain⟨j,hj,hb,rfl⟩:=bg.mp h;refine⟨F0 _,?_⟩;rw[E4];refine HN λhn=> ?_;have:s.testBit j=false:=Gb (Fb hs (Fy (by lia) hn));rw[this]at hb;cases hb
def gF(val:Nat->Int):Nat->Nat
 |0=>0
 |i+1=>if(List.range i).any (λj=>val j==val i)=true then gF val i else gF val i+1
theorem jH(h:∃j,j<i/\val j=val i):gF val (i+1)=gF val i:=by obtain⟨j,hj,e⟩:=h;show(if _ then _ else _)=_;rw[E9];rw[Ih];exact⟨j,Fl.mpr hj,by rw[e];simp⟩
theorem ie(h:¬∃j,j<i/\val j=val i):gF val (i+1)=gF val i+1:=by show(if _ then _ else _)=_;rw[Fg];rw[Ih];rintro⟨j,hj,e⟩;exact h ⟨j,Fl.mp hj,by simpa using e⟩
def pcs(p:Nat)(ts:List (Nat×Nat))(s:Nat):Nat:=gF (λi=>(tu p ts s).getD i 0) p
end Bh
namespace Bh
theorem Bd(i l:Nat):min i l+(l- (i+1))<=l:=by lia
def mn(l st:Nat):Nat:=if l^^^st<l then l^^^st else l
theorem nq{x y i:Nat}(hx:x.testBit i=false)(hy:y.testBit i=true)(h:∀j,i<j->x.testBit j=y.testBit j):x<y:=by
 have e:x/2^(i+1)=y/2^(i+1):=Fv λj=>by rw[Hn,Hn];exact h _ (by lia)
 rw[Jl]at hx hy;have hx':=Gy hx;have hy':=Fi hy;rw[Jy,<-Nat.div_div_eq_div_mul,<-Nat.div_div_eq_div_mul]at e;refine HN λhle=> ?_;have:=Nat.div_le_div_right (c:=2^i) hle;lia
theorem nr{st:Nat}(h:0<st):st.testBit st.log2=true:=Nat.testBit_log2 (by lia)
theorem pR{st j:Nat}(h:st.log2<j):st.testBit j=false:=
 Gb (Fb (Nat.lt_log2_self (n:=st)) (Fy (by lia) h))
theorem wX{l st:Nat}(h:0<st):mn l st=if l.testBit st.log2=true then l^^^st else l:=by
 unfold mn;cases hb:l.testBit st.log2 with
 |true=>
  rw[E9 rfl,E9];refine nq (i:=st.log2) ?_ hb λj hj=> ?_
  .rw[GY,hb,nr h];rfl
  .rw[GY,pR hj,Bool.xor_false]
 |false=>
  rw[Fg Fo,Fg];refine J5 (Ic (nq (i:=st.log2) hb ?_ λj hj=> ?_))
  .rw[GY,hb,nr h];rfl
  .rw[GY,pR hj,Bool.xor_false]
theorem EE(u v w:Nat):(u^^^w)^^^ (v^^^w)=u^^^v:=by rw[IC v w,F6,<-F6 w w v,GU,IX]
theorem DB(h:0<st):mn (u^^^v) st=mn u st^^^mn v st:=by
 rw[wX h,wX h,wX h,GY];cases u.testBit st.log2<;>cases v.testBit st.log2
 .rfl
 .show(u^^^v)^^^st=u^^^ (v^^^st);rw[F6]
 .show(u^^^v)^^^st=(u^^^st)^^^v;rw[F6,IC v st,<-F6]
 .show u^^^v=(u^^^st)^^^ (v^^^st);rw[EE]
theorem wW(st:Nat):mn 0 st=0:=by unfold mn;rw[Fg (by lia)]
theorem B6(h:0<w):mn w w=0:=by rw[wX h,nr h,E9 rfl,GU]
def red(ss:List Nat)(v:Nat):Nat:=ss.foldl mn v
theorem zU(ss:List Nat)(w v:Nat):red (ss++[w]) v=mn (red ss v) w:=by unfold red;rw[GL];rfl
theorem zT(ss:List Nat):red ss 0=0:=by
 induction ss with
 |nil=>rfl
 |cons s r ih=>show red r (mn 0 s)=0;rw[wW];exact ih
theorem wM(h:∀s∈ss,0<s)(u v:Nat):red ss (u^^^v)=red ss u^^^red ss v:=by
 induction ss generalizing u v with
 |nil=>rfl
 |cons s r ih=>
  show red r (mn (u^^^v) s)=red r (mn u s)^^^red r (mn v s);rw[DB (h s Fq),ih λz hz=>h z (Fe _ hz)]
inductive ck(vs:List Nat):Nat->Prop
 |zero:ck vs 0
 |add {x v:Nat}:ck vs x->v∈vs->ck vs (x^^^v)
theorem ck.of_mem(h:v∈vs):ck vs v:=by
 have:=ck.add ck.zero h
 rwa [IX]at this
theorem ck.xor(hx:ck vs x)(hy:ck vs y):ck vs (x^^^y):=by
 induction hy with
 |zero=>rw[Hx];exact hx
 |add _ hv ih=>rw[<-F6];exact ih.add hv
theorem ck.sub(h:∀v∈vs,ck ws v)(hx:ck vs x):ck ws x:=by
 induction hx with
 |zero=>exact .zero
 |add _ hv ih=>exact ih.xor (h _ hv)
theorem ck.snoc:ck (vs++[w]) x↔ck vs x\/ck vs (x^^^w):=by
 constructor
 .intro h
  induction h with
  |zero=>exact .inl .zero
  | @add x v _ hv ih=>
   rcases FE.mp hv with hv|hv
   .rcases ih with ih|ih
    .exact .inl (ih.add hv)
    .refine .inr ?_;rw[F6,IC v w,<-F6];exact ih.add hv
   .rw[FI.mp hv];rcases ih with ih|ih
    .refine .inr ?_;rw[F6,GU,Hx];exact ih
    .exact .inl ih
 .rintro(h|h)
  .exact h.sub λv hv=> .of_mem (Gg _ hv)
  .have h1:=(h.sub (ws:=vs++[w]) λv hv=> .of_mem (Gg _ hv)).add (v:=w) (FL _ (FI.mpr rfl));rw[F6,GU,Hx]at h1;exact h1
theorem uX(v:Nat):ck ss (red ss v^^^v):=by
 have gen:∀ (r ss:List Nat) (u v:Nat),(∀s∈r,s∈ss)->ck ss (u^^^v)->ck ss (red r u^^^v):=by
  intro r
  induction r with
  |nil=>intro ss u v _ h;exact h
  |cons s r ih=>
   intro ss u v hs h;show ck ss (red r (mn u s)^^^v);refine ih ss _ v (λz hz=>hs z (Fe _ hz)) ?_;unfold mn;split
   .rw[F6,IC s v,<-F6];exact h.add (hs s Fq)
   .exact h
 refine gen ss ss v v (λ_ h=>h) ?_;rw[GU];exact .zero
def stp(ss:List Nat)(v:Nat):List Nat:=if 0<red ss v then ss++[red ss v]else ss
def i4(vs:List Nat):List Nat:=vs.foldl stp []
theorem i3(vs:List Nat)(v:Nat):i4 (vs++[v])=stp (i4 vs) v:=by unfold i4;rw[GL];rfl
structure Ech(vs ss:List Nat):Prop where
 pos:∀s∈ss,0<s
 kill:∀s∈ss,red ss s=0
 span:∀x,ck ss x↔ck vs x
theorem sL(hp:∀s∈ss,0<s)(hk:∀s∈ss,red ss s=0)(h:ck ss x):red ss x=0:=by
 induction h with
 |zero=>exact zT ss
 |add _ hv ih=>rw[wM hp,ih,hk _ hv];rfl
theorem Ech.red{vs ss:List Nat}(h:Ech vs ss)(v:Nat):red ss v=0↔ck vs v:=by
 rw[<-h.span v];constructor
 .intro e;have:=uX (ss:=ss) v;rw[e,IX]at this;exact this
 .exact sL h.pos h.kill
theorem Ech.step(h:Ech vs ss)(v:Nat):Ech (vs++[v]) (stp ss v):=by
 unfold stp;by_cases h0:0<Bh.red ss v
 .rw[E9 h0];have idem:Bh.red ss (Bh.red ss v)=Bh.red ss v:=by have e:=sL h.pos h.kill (uX (ss:=ss) v);rw[wM h.pos]at e;have:=Fu (· ^^^Bh.red ss v) e;simpa [F6]using this
  refine⟨λs hs=> ?_,λs hs=> ?_,λx=> ?_⟩
  .rcases FE.mp hs with hs|hs
   .exact h.pos s hs
   .rw[FI.mp hs];exact h0
  .rw[zU];rcases FE.mp hs with hs|hs
   .rw[h.kill s hs,wW]
   .rw[FI.mp hs,idem,B6 h0]
  .have hv:=(h.span _).mp (uX (ss:=ss) v);rw[ck.snoc,ck.snoc,h.span,h.span];have key:∀y,ck vs (y^^^Bh.red ss v)↔ck vs (y^^^v):=λy=>by
    constructor
    .intro hy;have:=hy.xor hv;rw[F6,<-F6 (Bh.red ss v),GU,IX]at this;exact this
    .intro hy;have:=hy.xor hv;rw[IC (Bh.red ss v) v,F6,<-F6 v,GU,IX]at this;exact this
   rw[key]
 .rw[Fg h0];have hin:ck vs v:=(h.red v).mp (by lia);refine⟨h.pos,h.kill,λx=> ?_⟩;rw[h.span,ck.snoc];constructor
  .exact λhx=> .inl hx
  .rintro(hx|hx)
   .exact hx
   .have:=hx.xor hin;rw[F6,GU,Hx]at this;exact this
theorem pF(vs:List Nat):Ech vs (i4 vs):=by
 have gen:∀ (r vs ss:List Nat),Ech vs ss->Ech (vs++r) (r.foldl stp ss):=by
  intro r
  induction r with
  |nil=>intro vs ss h;rw[GX];exact h
  |cons v r ih=>
   intro vs ss h;have:=ih _ _ (h.step v);rw[GN]at this;exact this
 exact gen vs [] [] ⟨by simp,by simp,λx=>Iff.rfl⟩
def rkX(vs:List Nat):Nat:=(i4 vs).length
theorem qJ(h:ck vs v):rkX (vs++[v])=rkX vs:=by unfold rkX;rw[i3,stp,Fg];have:=((pF vs).red v).mpr h;lia
theorem jc(h:¬ck vs v):rkX (vs++[v])=rkX vs+1:=by
 unfold rkX;rw[i3,stp,E9]
 .rw[Fw];rfl
 .refine Nat.pos_of_ne_zero λe=>h (((pF vs).red v).mp e)
def fA(vs:List Nat):List Nat:=vs.foldl (λacc v=>if v∈acc then acc else acc++acc.map (· ^^^v)) [0]
theorem mL(vs:List Nat)(v:Nat):fA (vs++[v])=if v∈fA vs then fA vs else fA vs++(fA vs).map (· ^^^v):=by unfold fA;rw[GL];rfl
theorem lV{α:Type}{P:List α->Prop}(h0:P [])(h1:∀l a,P l->P (l++[a])):∀l,P l:=by
 have:∀l:List α,P l.reverse:=by
  intro l
  induction l with
  |nil=>exact h0
  |cons a r ih=>rw[List.reverse_cons];exact h1 _ _ ih
 intro l;have:=this l.reverse
 rwa [List.reverse_reverse]at this
theorem fq(vs:List Nat):∀x,x∈fA vs↔ck vs x:=by
 refine lV (P:=λvs=>∀x,x∈fA vs↔ck vs x) ?_ ?_ vs
 .intro x;constructor
  .intro h;rw[FI.mp h];exact .zero
  .intro h;cases h with
   |zero=>exact FI.mpr rfl
   |add _ hv=>cases hv
 .intro vs v ih x;rw[mL,ck.snoc];by_cases hv:v∈fA vs
  .rw[E9 hv,ih x];have hv':=(ih v).mp hv;constructor
   .exact λh=> .inl h
   .rintro(h|h)
    .exact h
    .have:=h.xor hv';rw[F6,GU,Hx]at this;exact this
  .rw[Fg hv,FE,ih x,Fn];constructor
   .rintro(h|⟨y,hy,rfl⟩)
    .exact .inl h
    .refine .inr ?_;rw[F6,GU,Hx];exact(ih y).mp hy
   .rintro(h|h)
    .exact .inl h
    .refine .inr ⟨x^^^v,(ih _).mpr h,?_⟩;rw[F6,GU,Hx]
theorem kP(vs:List Nat):(fA vs).Nodup/\(fA vs).length=2^rkX vs:=by
 refine lV (P:=λvs=>(fA vs).Nodup/\(fA vs).length=2^rkX vs) ⟨by simp[fA],rfl⟩ ?_ vs;rintro vs v ⟨h1,h2⟩;rw[mL];by_cases hv:v∈fA vs
 .rw[E9 hv,qJ ((fq vs v).mp hv)];exact⟨h1,h2⟩
 .have hv':¬ck vs v:=λh=>hv ((fq vs v).mpr h);rw[Fg hv,jc hv',Fw,E3,h2,Jy,Nat.mul_two];refine⟨JV.mpr ⟨h1,?_,?_⟩,rfl⟩
  .rw[List.Nodup,List.pairwise_map];refine h1.imp λ{a b} hab e=>hab ?_;have:=Fu (· ^^^v) e;simpa [F6]using this
  .intro a ha b hb e;obtain⟨y,hy,rfl⟩:=Fn.mp hb;subst e;have:=((fq vs _).mp ha).xor ((fq vs _).mp hy);rw[IC y v,F6,GU,Hx]at this;exact hv' this
theorem iE:∀ {a b:List Nat},a.Nodup->(∀x∈a,x∈b)->a.length<=b.length
 | [],_,_,_=>FV _
 |x::r,b,nd,h=>by have hx:=h x Fq;rw[Hv]at nd;have ih:=iE (a:=r) (b:=b.erase x) nd.2 λy hy=>(List.mem_erase_of_ne (λe=>by rw[e]at hy;exact nd.1 hy)).mpr (h y (Fe _ hy));rw[IY hx]at ih;have:0<b.length:=Hr hx;rw[FK];lia
theorem z6(h:2^a<=2^b):a<=b:=(Nat.pow_le_pow_iff_right (by lia)).mp h
theorem zQ(h:∀v∈vs,ck ws v):rkX vs<=rkX ws:=by have h1:=kP vs;have h2:=kP ws;have:=iE h1.1 λx hx=>(fq ws x).mpr (((fq vs x).mp hx).sub h);rw[h1.2,h2.2]at this;exact z6 this
end Bh
namespace Bh
def par(p:Nat)(ms:List Int)(c:Int)(z:Nat):Bool:=(List.range p).foldl (λb i=>b^^ (z.testBit i&&decide (ms.getD i 0=c))) false
theorem Dw(ms:List Int)(c:Int):∀ (l:List Nat) (z w:Nat) (a b:Bool),
  l.foldl (λb i=>b^^ ((z^^^w).testBit i&&decide (ms.getD i 0=c))) (a^^b)=(l.foldl (λb i=>b^^ (z.testBit i&&decide (ms.getD i 0=c))) a^^l.foldl (λb i=>b^^ (w.testBit i&&decide (ms.getD i 0=c))) b):=by
 intro l
 induction l with
 |nil=>intros;rfl
 |cons i r ih=>
  intro z w a b;rw[Gs,Gs,Gs,<-ih,GY];congr 1;cases a<;>cases b<;>cases z.testBit i<;>cases w.testBit i<;>cases decide (ms.getD i 0=c)<;>rfl
theorem qQ(p:Nat)(ms:List Int)(c:Int)(z w:Nat):par p ms c (z^^^w)=(par p ms c z^^par p ms c w):=Dw ms c (List.range p) z w false false
theorem Ac(p:Nat)(ms:List Int)(c:Int):par p ms c 0=false:=by
 unfold par
 induction (List.range p)with
 |nil=>rfl
 |cons i r ih=>rw[Gs,Hc];exact ih
theorem ma(ms:List Int)(c:Int)(hx:x<p):par p ms c (2^x)=decide (ms.getD x 0=c):=by
 unfold par;have gen:∀n,(List.range n).foldl (λb i=>b^^ ((2^x).testBit i&&decide (ms.getD i 0=c))) false=(decide (x<n)&&decide (ms.getD x 0=c)):=by
  intro n
  induction n with
  |zero=>rfl
  |succ n ih=>
   rw[GA,GL,ih];show((decide (x<n)&&decide (ms.getD x 0=c))^^ ((2^x).testBit n&&decide (ms.getD n 0=c)))=_;rw[Gq];by_cases e:x=n
   .subst e;simp
   .have h1:decide (x=n)=false:=E8 e;have h2:decide (x<n+1)=decide (x<n):=by
     by_cases h:x<n
     .rw[E6 h,E6 (by lia)]
     .rw[E8 h,E8 (by lia)]
    rw[h1,h2];simp
 rw[gen,E6 hx,GR]
def fi(t:Nat×Nat):Nat:=2^t.1^^^2^t.2
theorem tP{ts:List (Nat×Nat)}{ms:List Int}(h:Mks p ts (λ_=>True) ms)(hb:∀t∈ts,t.1<p/\t.2<p)(hx:x<p)(hy:y<p):ck (ts.map fi) (2^x^^^2^y)↔ms.getD x 0=ms.getD y 0:=by
 constructor
 .intro hs;have hz:∀c z,ck (ts.map fi) z->par p ms c z=false:=by
   intro c z hz
   induction hz with
   |zero=>exact Ac p ms c
   |add _ hv ih=>
    obtain⟨t,ht,rfl⟩:=Fn.mp hv;obtain⟨k,hk⟩:=Gw ht;have e:=h.eq k t hk trivial;have bt:=hb t ht;rw[qQ,ih,fi,qQ,ma ms c bt.1,ma ms c bt.2,e];simp
  have h1:=hz (ms.getD x 0) _ hs;rw[qQ,ma _ _ hx,ma _ _ hy,E6 rfl]at h1;have:decide (ms.getD y 0=ms.getD x 0)=true:=by simpa using h1
  exact(Fi this).symm
 .intro e;have:=h.cl (λz=>ck (ts.map fi) (2^x^^^2^z)) (λk t hk _=> ?_) x y hx hy e
  .refine this.mp ?_;rw[GU];exact .zero
  .have hm:fi t∈ts.map fi:=Fn.mpr ⟨t,E7 hk,rfl⟩;have e1:∀a b c:Nat,a^^^b^^^ (b^^^c)=a^^^c:=λa b c=>by rw[F6,<-F6 b b c,GU,IX]
   constructor
   .intro h1;have:=h1.add hm;rw[fi,e1]at this;exact this
   .intro h1;have:=h1.add hm;rw[fi,IC (2^t.1),e1]at this;exact this
theorem fF:∀ {a b:List Int},a.Nodup->(∀x∈a,x∈b)->a.length<=b.length
 | [],_,_,_=>FV _
 |x::r,b,nd,h=>by have hx:=h x Fq;rw[Hv]at nd;have ih:=fF (a:=r) (b:=b.erase x) nd.2 λy hy=>(List.mem_erase_of_ne (λe=>by rw[e]at hy;exact nd.1 hy)).mpr (h y (Fe _ hy));rw[IY hx]at ih;have:0<b.length:=Hr hx;rw[FK];lia
theorem ko(val:Nat->Int):∀p,∃L:List Int,L.Nodup/\(∀v,v∈L↔∃i,i<p/\val i=v)/\L.length=gF val p
 |0=>⟨[],by simp,λv=>by simp,rfl⟩
 |p+1=>by
  obtain⟨L,nd,hm,hl⟩:=ko val p;by_cases h:∃j,j<p/\val j=val p
  .refine⟨L,nd,λv=> ?_,by rw[jH h];exact hl⟩;rw[hm v];obtain⟨j,hj,e⟩:=h;constructor
   .rintro⟨i,hi,e'⟩;exact⟨i,by lia,e'⟩
   .rintro⟨i,hi,e'⟩;by_cases hip:i=p
    .subst hip;exact⟨j,hj,e.trans e'⟩
    .exact⟨i,by lia,e'⟩
  .refine⟨L++[val p],?_,λv=> ?_,by rw[ie h,Fw,hl];rfl⟩
   .rw[JV];refine⟨nd,by simp,λa ha b hb e=> ?_⟩;rw[FI.mp hb]at e;rw[e]at ha;exact h ((hm _).mp ha)
   .rw[FE,hm v,FI];constructor
    .rintro(⟨i,hi,e⟩|e)
     .exact⟨i,by lia,e⟩
     .exact⟨p,by lia,e.symm⟩
    .rintro⟨i,hi,e⟩;by_cases hip:i=p
     .subst hip;exact .inr e.symm
     .exact .inl ⟨i,by lia,e⟩
theorem yK{ms:List Int}(hl:ms.length=p)(hx:x<p)(hy:y<p)(hne:¬ms.getD x 0=ms.getD y 0):gF (λi=>(mrg ms x y).getD i 0) p+1=gF (λi=>ms.getD i 0) p:=by
 obtain⟨L,nd,hm,hL⟩:=ko (λi=>ms.getD i 0) p;obtain⟨L',nd',hm',hL'⟩:=ko (λi=>(mrg ms x y).getD i 0) p;have hxL:ms.getD x 0∈L:=(hm _).mpr ⟨x,hx,rfl⟩;have key:∀v,v∈L'↔v∈L.erase (ms.getD x 0):=by
  intro v;rw[nd.mem_erase_iff,hm' v,hm v];constructor
  .rintro⟨i,hi,e⟩;have e2:(mrg ms x y).getD i 0=v:=e;rw[fR (by rw[hl];exact hi)]at e2;split at e2
   .rw[<-e2];exact⟨λe3=>hne e3.symm,y,hy,rfl⟩
   .rename_i hc;rw[<-e2];exact⟨hc,i,hi,rfl⟩
  .rintro⟨hv,i,hi,e⟩;refine⟨i,hi,?_⟩;show(mrg ms x y).getD i 0=v;have e2:ms.getD i 0=v:=e;rw[fR (by rw[hl];exact hi),Fg (by rw[e2];exact hv)];exact e2
 have h1:=fF nd' λv hv=>(key v).mp hv;have h2:=fF (nd.erase _) λv hv=>(key v).mpr hv;rw[IY hxL]at h1 h2;have:0<L.length:=Hr hxL;lia
theorem Ay{ms:List Int}(hl:ms.length=p)(e:ms.getD x 0=ms.getD y 0):mrg ms x y=ms:=by
 unfold mrg;rw[<-e]
 conv=>rhs;rw[<-Hh ms]
 refine GJ λm _=> ?_;show(if m=_ then _ else m)=m;split
 .rename_i h;exact h.symm
 .rfl
def mkA(p:Nat)(ts:List (Nat×Nat)):List Int:=ts.foldl (λms t=>mrg ms t.1 t.2) (start p)
theorem tD(p:Nat)(ts:List (Nat×Nat))(t:Nat×Nat):mkA p (ts++[t])=mrg (mkA p ts) t.1 t.2:=by unfold mkA;rw[GL];rfl
theorem DC(ts:List (Nat×Nat))(hb:∀t∈ts,t.1<p/\t.2<p):Mks p ts (λ_=>True) (mkA p ts):=by
 revert hb
 refine lV (P:=λts=>(∀t∈ts,t.1<p/\t.2<p)->Mks p ts (λ_=>True) (mkA p ts)) ?_ ?_ ts
 .intro _;exact⟨by simp[mkA,start],λk t hk=>by simp at hk,λP _=>(Mks.start p []).cl P λk t hk=>by simp at hk⟩
 .intro ts t ih hb;have h:=ih λu hu=>hb u (Gg _ hu);have hbt:=hb t (FL _ (FI.mpr rfl));rw[tD];have hk:(ts++[t])[ts.length]?=some t:=by simp
  have h':Mks p (ts++[t]) (λj=>j<ts.length) (mkA p ts):=by refine⟨h.len,λk u hku hs=>h.eq k u (by rw[FQ hs]at hku;exact hku) trivial,λP hP=>h.cl P λk u hku _=> ?_⟩;have hkl:k<ts.length:=(Fd.mp hku).1;exact hP k u (by rw[FQ hkl];exact hku) hkl
  refine(h'.step hb hk).congr λj u hj=> ?_;have:=(Fd.mp hj).1;rw[Fw]at this;have:j<ts.length+1:=this;constructor
  .intro _;trivial
  .intro _;lia
theorem yJ(p:Nat):gF (λi=>(start p).getD i 0) p=p:=by
 have gen:∀n,n<=p->gF (λi=>(start p).getD i 0) n=n:=by
  intro n
  induction n with
  |zero=>intro _;rfl
  |succ n ih=>
   intro hn;rw[ie,ih (by lia)];rintro⟨j,hj,e⟩;have e2:(start p).getD j 0=(start p).getD n 0:=e;have e3:(start p).getD j 0=(j:Int):=by
    have:j<p:=by lia
    simp[start,this]
   have e4:(start p).getD n 0=(n:Int):=by
    have:n<p:=by lia
    simp[start,this]
   rw[e3,e4]at e2;lia
 exact gen p (Fj _)
theorem As(ts:List (Nat×Nat))(hb:∀t∈ts,t.1<p/\t.2<p):gF (λi=>(mkA p ts).getD i 0) p+rkX (ts.map fi)=p:=by
 revert hb
 refine lV (P:=λts=>(∀t∈ts,t.1<p/\t.2<p)->gF (λi=>(mkA p ts).getD i 0) p+rkX (ts.map fi)=p) ?_ ?_ ts
 .intro _;exact yJ p
 .intro ts t ih hb;have hb0:∀u∈ts,u.1<p/\u.2<p:=λu hu=>hb u (Gg _ hu);have h:=ih hb0;have hM:=DC ts hb0;have hbt:=hb t (FL _ (FI.mpr rfl));have hi:ck (ts.map fi) (fi t)↔_:=tP hM hb0 hbt.1 hbt.2;rw[tD,FW];show _+rkX (ts.map fi++[fi t])=p;by_cases e:(mkA p ts).getD t.1 0=(mkA p ts).getD t.2 0
  .rw[Ay hM.len e,qJ (hi.mpr e)];exact h
  .rw[jc λz=>e (hi.mp z)];have:=yK hM.len hbt.1 hbt.2 e;lia
end Bh
namespace Bh
def dot(n:Nat)(r:List Int)(x:Nat):Bool:=par n r 1 x
def Bin(n:Nat)(r:List Int):Prop:=r.length=n/\∀z∈r,z=0\/z=1
theorem Bin.at{r:List Int}(h:Bin n r)(hj:j<n):r.getD j 0=0\/r.getD j 0=1:=by
 have:j<r.length:=by rw[h.1];exact hj
 have e:r.getD j 0=r[j]:=by simp[this]
 rw[e];exact h.2 _ (Gj this)
def El(n:Nat)(M L:List (List Int))(c:Nat):Prop:=∀x,(∀j,j<c->x.testBit j=false)->((∀r∈L,dot n r x=false)↔∃y,y<2^c/\∀r∈M,dot n r (x^^^y)=false)
theorem El.start(n:Nat)(M:List (List Int)):El n M M 0:=by
 intro x _;constructor
 .intro h;exact⟨0,by decide,by rw[Hx];exact h⟩
 .rintro⟨y,hy,h⟩;have:y=0:=by have:(2:Nat)^0=1:=rfl;lia
  rw[this,Hx]at h;exact h
end Bh
namespace Bh
structure Mat(n:Nat)(r:Nat->Nat):Prop where
 n8:n<=8
 zero:r 0=0
 step:∀s k,s<2^n->k<n->r s<=r (s|||2^k)/\r (s|||2^k)<=r s+1
 sub:∀s j k,s<2^n->j<n->k<n->r (s|||2^j)=r s->r (s|||2^k)=r s->r (s|||2^j|||2^k)=r s
def Sub(a b:Nat):Prop:=∀k,a.testBit k=true->b.testBit k=true
theorem Sub.refl(a:Nat):Sub a a:=λ_ h=>h
theorem Sub.trans(h:Sub a b)(g:Sub b c):Sub a c:=λk hk=>g k (h k hk)
theorem Sub.lt(h:Sub a b)(hb:b<2^n):a<2^n:=JX _ λi hi=>by
 cases e:a.testBit i with
 |false=>rfl
 |true=>
  have:=h i e;rw[Gb (Fb hb (Fy (by lia) hi))]at this;cases this
theorem bA(hs:s<2^n)(hk:k<n):s|||2^k<2^n:=GF hs (Hm (by lia) hk)
theorem bL(s k j:Nat):(s|||2^k).testBit j=(s.testBit j||decide (k=j)):=by rw[GG,Gq]
theorem dB{s k:Nat}(h:s.testBit k=true):s|||2^k=s:=Fv λj=>by
 rw[bL];by_cases e:k=j
 .subst e;rw[h];rfl
 .rw[E8 e,GP]
def upto(s t:Nat):Nat->Nat
 |0=>s
 |i+1=>if t.testBit i=true then upto s t i|||2^i else upto s t i
theorem dY(s t i:Nat):upto s t (i+1)=if t.testBit i=true then upto s t i|||2^i else upto s t i:=rfl
theorem gR(s t j:Nat):∀i,(upto s t i).testBit j=(s.testBit j||(decide (j<i)&&t.testBit j))
 |0=>by simp[upto]
 |i+1=>by
  rw[dY];by_cases hb:t.testBit i=true
  .rw[E9 hb,bL,gR s t j i];by_cases e:i=j
   .subst e;simp[hb]
   .have h2:decide (j<i+1)=decide (j<i):=by
     by_cases h:j<i
     .rw[E6 h,E6 (by lia)]
     .rw[E8 h,E8 (by lia)]
    rw[E8 e,h2,GP]
  .rw[Fg hb,gR s t j i];by_cases e:i=j
   .subst e;simp[hb]
   .have h2:decide (j<i+1)=decide (j<i):=by
     by_cases h:j<i
     .rw[E6 h,E6 (by lia)]
     .rw[E8 h,E8 (by lia)]
    rw[h2]
theorem gS(ht:t<2^n):upto s t n=s|||t:=Fv λj=>by
 rw[gR,GG];by_cases h:j<n
 .rw[E6 h,GR]
 .rw[Gb (Fb ht (Fy (by lia) (by lia))),GS]
theorem gu(hs:s<2^n):∀i,i<=n->upto s t i<2^n
 |0,_=>hs
 |i+1,hi=>by
  rw[dY];split
  .exact bA (gu hs i (by lia)) (by lia)
  .exact gu hs i (by lia)
theorem jZ(h:Sub s t):s|||t=t:=Fv λj=>by
 rw[GG];cases e:s.testBit j with
 |false=>rfl
 |true=>rw[h j e];rfl
namespace Mat
variable{n:Nat}{r:Nat->Nat}(M:Mat n r)
include M
theorem mono(h:Sub s t)(ht:t<2^n):r s<=r t:=by
 have hs:=h.lt ht;have gen:∀i,i<=n->r s<=r (upto s t i):=by
  intro i
  induction i with
  |zero=>intro _;exact Fj _
  |succ i ih=>
   intro hi;rw[dY];split
   .exact Fc (ih (by lia)) (M.step _ i (gu hs i (by lia)) (by lia)).1
   .exact ih (by lia)
 have:=gen n (Fj _);rw[gS ht,jZ h]at this;exact this
theorem keep(h:Sub s t)(ht:t<2^n)(hk:k<n)(e:r (s|||2^k)=r s):r (t|||2^k)=r t:=by
 have hs:=h.lt ht;have gen:∀i,i<=n->r (upto s t i|||2^k)=r (upto s t i):=by
  intro i
  induction i with
  |zero=>intro _;exact e
  |succ i ih=>
   intro hi;have ih:=ih (by lia);rw[dY];split
   .have hl:=gu (t:=t) hs i (by lia);generalize upto s t i=u at*;have s1:=M.step u i hl (by lia);have s2:=M.step (u|||2^i) k (bA hl (by lia)) hk;have s3:=M.step (u|||2^k) i (bA hl hk) (by lia);have ec:u|||2^k|||2^i=u|||2^i|||2^k:=by rw[IZ,Nat.or_comm (2^k),<-IZ]
    rw[ec]at s3;by_cases e1:r (u|||2^i)=r u
    .have:=M.sub u i k hl (by lia) hk e1 ih;lia
    .lia
   .exact ih
 have:=gen n (Fj _);rw[gS ht,jZ h]at this;exact this
theorem closed{s t:Nat}(hs:s<2^n)(ht:t<2^n)(h:∀k,t.testBit k=true->r (s|||2^k)=r s):r (s|||t)=r s:=by
 have gen:∀i,i<=n->r (upto s t i)=r s:=by
  intro i
  induction i with
  |zero=>intro _;rfl
  |succ i ih=>
   intro hi;have ih:=ih (by lia);rw[dY];split
   .rename_i hb;have hsu:Sub s (upto s t i):=λj hj=>by rw[gR,hj];rfl
    rw[M.keep hsu (gu hs i (by lia)) (by lia) (h i hb)];exact ih
   .exact ih
 have:=gen n (Fj _)
 rwa [gS ht]at this
end Mat
def grow(r:Nat->Nat)(s t:Nat):Nat->Nat
 |0=>s
 |i+1=>if t.testBit i=true/\r (grow r s t i)<r (grow r s t i|||2^i)then grow r s t i|||2^i else grow r s t i
theorem yw(r:Nat->Nat)(s t i:Nat):grow r s t (i+1)=if t.testBit i=true/\r (grow r s t i)<r (grow r s t i|||2^i)then grow r s t i|||2^i else grow r s t i:=rfl
theorem da:∀s:Nat,s<256->∀k:Nat,k<8->s.testBit k=false->sz (s|||2^k)=sz s+1:=by decide+kernel
theorem CN(h:n<=8):2^n<=256:=Fy (n:=2) (by lia) h
namespace Mat
variable{n:Nat}{r:Nat->Nat}(M:Mat n r)
include M
theorem dS(hs:s<2^n):s<256:=Fb hs (CN M.n8)
theorem tN:∀s,s<2^n->r s<=sz s:=by
 intro s hs;have gen:∀i,i<=n->r (upto 0 s i)<=sz (upto 0 s i):=by
  intro i
  induction i with
  |zero=>intro _;show r 0<=_;rw[M.zero];exact FV _
  |succ i ih=>
   intro hi;have ih:=ih (by lia);rw[dY];have hl:upto 0 s i<2^n:=gu (GC (by lia)) i (by lia);split
   .have hb:(upto 0 s i).testBit i=false:=by rw[gR];simp
    rw[da _ (M.dS hl) i (by have:=M.n8;lia) hb];have:=(M.step _ i hl (by lia)).2;lia
   .exact ih
 have:=gen n (Fj _);rw[gS hs,Nat.zero_or]at this;exact this
theorem vH{s t:Nat}(hst:Sub s t)(ht:t<2^n)(hf:r s=sz s):∀i,i<=n->Sub s (grow r s t i)/\Sub (grow r s t i) t/\r (grow r s t i)=sz (grow r s t i)/\
  ∀k,k<i->t.testBit k=true->r (grow r s t i|||2^k)=r (grow r s t i):=by
 intro i
 induction i with
 |zero=>intro _;exact⟨Sub.refl _,hst,hf,λk hk=>absurd hk (Ir _)⟩
 |succ i ih=>
  intro hi;obtain⟨h1,h2,h3,h4⟩:=ih (by lia);rw[yw];have hl:=h2.lt ht;generalize grow r s t i=g at*;have n8:=M.n8;by_cases c:t.testBit i=true/\r g<r (g|||2^i)
  .rw[E9 c];have hb:g.testBit i=false:=by
    cases e:g.testBit i with
    |false=>rfl
    |true=>rw[dB e]at c;exact absurd c.2 (Gv _)
   have st:=M.step g i hl (by lia);have hl2:=bA (k:=i) hl (by lia);have hsub:Sub g (g|||2^i):=λj hj=>by rw[bL,hj];rfl
   refine⟨h1.trans hsub,λj hj=> ?_,?_,λk hk hk2=> ?_⟩
   .rw[bL]at hj;by_cases e:i=j
    .subst e;exact c.1
    .rw[E8 e,GP]at hj;exact h2 j hj
   .rw[da g (M.dS hl) i (by lia) hb];lia
   .by_cases e:k=i
    .subst e;rw[dB];rw[bL];simp
    .exact M.keep hsub hl2 (by lia) (h4 k (by lia) hk2)
  .rw[Fg c];refine⟨h1,h2,h3,λk hk hk2=> ?_⟩;by_cases e:k=i
   .subst e;have st:=M.step g k hl (by lia);have:¬r g<r (g|||2^k):=λz=>c ⟨hk2,z⟩;lia
   .exact h4 k (by lia) hk2
theorem extend(hst:Sub s t)(ht:t<2^n)(hf:r s=sz s):∃g,Sub s g/\Sub g t/\r g=sz g/\r g=r t:=by
 obtain⟨h1,h2,h3,h4⟩:=M.vH hst ht hf n (Fj _);refine⟨grow r s t n,h1,h2,h3,?_⟩;have hl:=h2.lt ht;have:=M.closed hl ht λk hk=>h4 k (by
  refine HN λhn=> ?_;rw[Gb (Fb ht (Fy (by lia) hn))]at hk;cases hk) hk
 rw[jZ h2]at this;exact this.symm
end Mat
end Bh
namespace Bh
theorem gh(a b:Nat):Sub (a&&&b) a:=λk h=>by rw[FG,Fp]at h;exact h.1
theorem oN(a b:Nat):Sub (a&&&b) b:=λk h=>by rw[FG,Fp]at h;exact h.2
theorem BC(h:Sub a b)(g:Sub a c):Sub a (b&&&c):=λk hk=>by rw[FG,h k hk,g k hk];rfl
theorem iZ(hs:s<2^n):Sub s (2^n-1):=λk hk=>by rw[Gx];refine E6 (HN λh=> ?_);rw[Gb (Fb hs (Fy (by lia) h))]at hk;cases hk
theorem cx(n:Nat):2^n-1<2^n:=by have:0<2^n:=GC (by lia);lia
theorem gw:sz 0=0:=by decide
namespace Mat
variable{n:Nat}{r:Nat->Nat}(M:Mat n r)
include M
theorem wZ(h:Sub x b)(hb:b<2^n):r b+sz x<=r x+sz b:=by
 have hx:=h.lt hb;have gen:∀i,i<=n->r (upto x b i)+sz x<=r x+sz (upto x b i):=by
  intro i
  induction i with
  |zero=>intro _;exact Fj _
  |succ i ih=>
   intro hi;have ih:=ih (by lia);rw[dY];have hl:=gu (t:=b) hx i (by lia);split
   .generalize upto x b i=u at*;cases e:u.testBit i with
    |true=>rw[dB e];exact ih
    |false=>
     rw[da u (M.dS hl) i (by have:=M.n8;lia) e];have:=(M.step u i hl (by lia)).2;lia
   .exact ih
 have:=gen n (Fj _);rw[gS hb,jZ h]at this;exact this
theorem gn(h:Sub x b)(hb:b<2^n)(hf:r b=sz b):r x=sz x:=by have h1:=M.wZ h hb;have h2:=M.tN x (h.lt hb);lia
theorem nJ(hm:∀z,z∈ms↔∃b:Nat,b<2^n/\z=(b:Int)/\r b=sz b/\r b=r (2^n-1))(hs:s<2^n):au ms s=r s:=by
 obtain⟨g,_,hgs,hgf,hgr⟩:=M.extend (s:=0) (t:=s) (λk h=>by rw[Hc]at h;cases h) hs (by rw[M.zero,gw]);obtain⟨b,hgb,hbf,hbz,hbr⟩:=M.extend (t:=2^n-1) (iZ (hgs.lt hs)) (cx n) hgf;have hbl:b<2^n:=hbf.lt (cx n);have key:∀b:Nat,b<2^n->r b=sz b->sz (s&&&b)<=r s:=λb hb hf=>by rw[<-M.gn (oN s b) hb hf];exact M.mono (gh s b) hs
 refine kG ⟨(b:Int),(hm _).mpr ⟨b,hbl,rfl,hbz,hbr⟩,?_⟩ λm hmm=> ?_
 .rw[E4];have h1:=key b hbl hbz;have h2:sz g<=sz (s&&&b):=fN λk _ hk=>BC hgs hgb k hk;lia
 .obtain⟨b',hb',rfl,hf',_⟩:=(hm m).mp hmm;rw[E4];exact key b' hb' hf'
theorem Cu(hm:∀z,z∈ms↔∃b:Nat,b<2^n/\z=(b:Int)/\r b=sz b/\r b=r (2^n-1)):ms≠[]:=by obtain⟨b,_,hbf,hbz,hbr⟩:=M.extend (s:=0) (t:=2^n-1) (λk h=>by rw[Hc]at h;cases h) (cx n) (by rw[M.zero,gw]);intro e;have:=(hm (b:Int)).mpr ⟨b,hbf.lt (cx n),rfl,hbz,hbr⟩;rw[e]at this;cases this
end Mat
def cQ(cols:List Nat)(s:Nat):List Nat:=(bits s).map λz:Int=>cols.getD z.toNat 0
theorem dC{cols:List Nat}{s v:Nat}:v∈cQ cols s↔∃k,k<8/\s.testBit k=true/\v=cols.getD k 0:=by
 unfold cQ;rw[Fn];constructor
 .rintro⟨z,hz,rfl⟩;obtain⟨k,hk,hb,rfl⟩:=bg.mp hz;exact⟨k,hk,hb,by rw[E4]⟩
 .rintro⟨k,hk,hb,rfl⟩;exact⟨(k:Int),bg.mpr ⟨k,hk,hb,rfl⟩,by rw[E4]⟩
def rkC(cols:List Nat)(s:Nat):Nat:=rkX (cQ cols s)
theorem uV(cols:List Nat)(hk:k<8):rkC cols (s|||2^k)=rkX (cQ cols s++[cols.getD k 0]):=by
 refine Gr (zQ λv hv=> ?_) (zQ λv hv=> ?_)
 .obtain⟨j,hj,hb,rfl⟩:=dC.mp hv;rw[bL]at hb;by_cases e:k=j
  .subst e;exact .of_mem (FL _ (FI.mpr rfl))
  .rw[E8 e,GP]at hb;exact .of_mem (Gg _ (dC.mpr ⟨j,hj,hb,rfl⟩))
 .rcases FE.mp hv with hv|hv
  .obtain⟨j,hj,hb,rfl⟩:=dC.mp hv;exact .of_mem (dC.mpr ⟨j,hj,by rw[bL,hb];rfl,rfl⟩)
  .rw[FI.mp hv];exact .of_mem (dC.mpr ⟨k,hk,by rw[bL];simp,rfl⟩)
theorem AE(cols:List Nat)(h8:n<=8):Mat n (rkC cols):=by
 refine⟨h8,?_,λs k hs hk=> ?_,λs j k hs hj hk e1 e2=> ?_⟩
 .show rkX (cQ cols 0)=0;have:bits 0=[]:=by decide
  have:cQ cols 0=[]:=by unfold cQ;rw[this];rfl
  rw[this];rfl
 .rw[uV cols (by lia)];show rkX _<=_/\_<=rkX _+1;by_cases h:ck (cQ cols s) (cols.getD k 0)
  .rw[qJ h];lia
  .rw[jc h];lia
 .rw[uV cols (by lia)]at e1 e2⊢;have in1:ck (cQ cols s) (cols.getD j 0):=by refine FU λh=> ?_;rw[jc h]at e1;have:rkX (cQ cols s)+1=rkX (cQ cols s):=e1;lia
  have in2:ck (cQ cols s) (cols.getD k 0):=by refine FU λh=> ?_;rw[jc h]at e2;have:rkX (cQ cols s)+1=rkX (cQ cols s):=e2;lia
  have sub:∀v∈cQ cols s,v∈cQ cols (s|||2^j):=λv hv=>by obtain⟨i,hi,hb,rfl⟩:=dC.mp hv;exact dC.mpr ⟨i,hi,by rw[bL,hb];rfl,rfl⟩
  rw[qJ (in2.sub λv hv=> .of_mem (sub v hv))];show rkC cols (s|||2^j)=_;rw[uV cols (by lia)];exact e1
def rkG(m:Nat)(gone:List Int)(s:Nat):Nat:=min (sz s) m- (if(s:Int)∈gone then 1 else 0)
structure oa(n m:Nat)(gone:List Int):Prop where
 size:∀z∈gone,∃s:Nat,s<2^n/\z=(s:Int)/\sz s=m
 far:Far (m:Int) gone
 mid:gone=[]\/(0<m/\m<n)
theorem oa.not(h:oa n m gone)(hs:¬sz s=m):¬(s:Int)∈gone:=λhm=>by
 obtain⟨t,_,e,ht⟩:=h.size _ hm;have:s=t:=by lia
 rw[this]at hs;exact hs ht
theorem wc{s j k:Nat}(hj:s.testBit j=false)(hk:s.testBit k=false)(hjk:j≠k):(s|||2^j)&&& (s|||2^k)=s:=Fv λi=>by
 rw[FG,bL,bL];by_cases e1:j=i
 .subst e1;rw[hj,E8 (Jn hjk)];simp
 .by_cases e2:k=i
  .subst e2;rw[hk,E8 e1];simp
  .rw[E8 e1,E8 e2];simp
theorem AB(h8:n<=8)(h:oa n m gone):Mat n (rkG m gone):=by
 have b256:∀ {s},s<2^n->s<256:=λhs=>Fb hs (CN h8);have one:∀ (s:Nat),(if(s:Int)∈gone then 1 else 0)<=1:=λs=>by split<;>lia
 have off:∀ {s:Nat},¬sz s=m->rkG m gone s=min (sz s) m:=λhs=>by unfold rkG;rw[Fg (h.not hs)];rfl
 have low:∀ (s:Nat),rkG m gone s<=min (sz s) m/\min (sz s) m<=rkG m gone s+1:=λs=>by unfold rkG;have:=one s;lia
 refine⟨h8,?_,λs k hs hk=> ?_,λs j k hs hj hk e1 e2=> ?_⟩
 .unfold rkG;rw[gw];lia
 .cases e:s.testBit k with
  |true=>rw[dB e];lia
  |false=>
   have hz:=da s (b256 hs) k (by lia) e;have l1:=low s;have l2:=low (s|||2^k);by_cases c1:sz s=m
   .have o2:=off (s:=s|||2^k) (by lia);lia
   .have o1:=off c1;by_cases c2:sz (s|||2^k)=m
    .lia
    .have o2:=off c2;lia
 .cases ej:s.testBit j with
  |true=>rw[dB ej];exact e2
  |false=>
   cases ek:s.testBit k with
   |true=>
    have hk2:(s|||2^j).testBit k=true:=by rw[bL,ek];rfl
    rw[dB hk2];exact e1
   |false=>
    by_cases hjk:j=k
    .subst hjk;rw[dB (by rw[bL];simp)];exact e1
    .have zj:=da s (b256 hs) j (by lia) ej;have zk:=da s (b256 hs) k (by lia) ek;have ek2:(s|||2^j).testBit k=false:=by rw[bL,ek,E8 hjk];rfl
     have zjk:=da (s|||2^j) (b256 (bA hs hj)) k (by lia) ek2;by_cases c1:sz s=m
     .have oj:=off (s:=s|||2^j) (by lia);have ojk:=off (s:=s|||2^j|||2^k) (by lia);lia
     .have o1:=off c1;by_cases c2:sz (s|||2^j)=m
      .exfalso;have gj:((s|||2^j:Nat):Int)∈gone:=by
        refine FU λhn=> ?_;have:rkG m gone (s|||2^j)=min (sz (s|||2^j)) m:=by unfold rkG;rw[Fg hn];rfl
        lia
       have gk:((s|||2^k:Nat):Int)∈gone:=by
        refine FU λhn=> ?_;have:rkG m gone (s|||2^k)=min (sz (s|||2^k)) m:=by unfold rkG;rw[Fg hn];rfl
        lia
       have hne:((s|||2^j:Nat):Int)≠((s|||2^k:Nat):Int):=λe=>by
        have e':s|||2^j=s|||2^k:=by lia
        have:(s|||2^j).testBit k=(s|||2^k).testBit k:=by rw[e']
        rw[ek2,bL]at this;simp at this
       have:=h.far _ gj _ gk hne;rw[E4,E4,wc ej ek hjk]at this;lia
      .have oj:=off c2;have ok:=off (s:=s|||2^k) (by lia);by_cases c3:sz (s|||2^j|||2^k)=m
       .lia
       .have:=off c3;lia
end Bh
namespace Bh
theorem jC(p q:Nat->Bool):∀l:List Nat,(l.filter λk=>p k&&q k).length+(l.filter λk=>p k&& !q k).length=(l.filter p).length
 | []=>rfl
 |k::l=>by have ih:=jC p q l;rw[Gu,Gu,Gu];cases hp:p k<;>cases hq:q k<;>simp[hp,hq]<;>lia
theorem zA{s a b:Nat}(q:Nat->Bool)(ha:∀k,k<8->a.testBit k=(s.testBit k&&q k))(hb:∀k,k<8->b.testBit k=(s.testBit k&& !q k)):sz a+sz b=sz s:=by rw[fw,fw,fw,<-jC s.testBit q (List.range 8)];have e1:(List.range 8).filter a.testBit=(List.range 8).filter λk=>s.testBit k&&q k:=Hy λk hk=>ha k (Fl.mp hk);have e2:(List.range 8).filter b.testBit=(List.range 8).filter λk=>s.testBit k&& !q k:=Hy λk hk=>hb k (Fl.mp hk);rw[e1,e2]
theorem cM{n s:Nat}(k:Nat):(aT (2^n-1) s).testBit k=(decide (k<n)&& !s.testBit k):=by rw[eT,Gx]
theorem bB{n s k:Nat}(hs:s<2^n)(h:s.testBit k=true):k<n:=by refine HN λhn=> ?_;rw[Gb (Fb hs (Fy (by lia) hn))]at h;cases h
theorem BA(hn:n<=8)(hs:s<2^n):sz s+sz (aT (2^n-1) s)=n:=by
 have h:=zA (s:=2^n-1) (a:=s) (b:=aT (2^n-1) s) s.testBit (λk _=> ?_) λk _=> ?_
 .rw[h];exact uN n (by lia)
 .rw[Gx];cases hb:s.testBit k with
  |false=>rw[GS]
  |true=>rw[E6 (bB hs hb)];rfl
 .rw[cM,Gx]
def kT(n:Nat)(r:Nat->Nat)(s:Nat):Nat:=sz s+r (aT (2^n-1) s) -r (2^n-1)
namespace Mat
variable{n:Nat}{r:Nat->Nat}(M:Mat n r)
include M
theorem Co(hs:s<2^n):r (2^n-1)<=sz s+r (aT (2^n-1) s):=by have hl:aT (2^n-1) s<2^n:=Ft (cR _ _) (cx n);have h:=M.wZ (iZ hl) (cx n);have h1:=BA M.n8 hs;have h2:=uN n (by have:=M.n8;lia);lia
theorem eX(hs:s<2^n):((kT n r s:Nat):Int)=(sz s:Int)+(r (aT (2^n-1) s):Nat) - (r (2^n-1):Nat):=by have:=M.Co hs;unfold kT;lia
end Mat
end Bh
namespace Bh
theorem yU:∀n:Nat,n<9->bits (2^n-1)=(List.range n).map λj:Nat=>(j:Int):=by decide+kernel
end Bh
namespace Bh
theorem jm{s k:Nat}(h:s.testBit k=true):s|||2^k=s:=Fv λj=>by
 rw[bL];by_cases e:k=j
 .subst e;rw[h];rfl
 .rw[E8 e,GP]
theorem vh(s k:Nat):s|||2^k|||2^k=s|||2^k:=by rw[IZ,Nat.or_self]
theorem qS(s j k:Nat):s|||2^j|||2^k=s|||2^k|||2^j:=by rw[IZ,Nat.or_comm (2^j),<-IZ]
theorem gi(hs:s<2^n)(hk:k<n):s|||2^k<2^n:=GF hs (Hm (by lia) hk)
theorem mh{n s k:Nat}(hk:k<n)(h:s.testBit k=false):aT (2^n-1) (s|||2^k)|||2^k=aT (2^n-1) s:=Fv λj=>by
 rw[bL,cM,cM,bL];by_cases e:k=j
 .subst e;rw[h,E6 hk,E6 rfl];rfl
 .rw[E8 e,GP,GP]
theorem yl(n:Nat):aT (2^n-1) 0=2^n-1:=Fv λj=>by rw[cM,Hc,Gx];simp
theorem mH{s k:Nat}(hs:s<256)(hk:k<8)(h:s.testBit k=false):sz (s|||2^k)=sz s+1:=da s hs k hk h
theorem tM:aT (2^n-1) s<2^n:=Ft (cR _ _) (by have:0<2^n:=GC (by lia);lia)
theorem sz0:sz 0=0:=by decide
theorem Mat.dual(M:Mat n r):Mat n (kT n r):=by
 have n8:=M.n8;refine⟨n8,?_,λs k hs hk=> ?_,λs j k hs hj hk h1 h2=> ?_⟩
 .unfold kT;rw[yl,sz0];lia
 .by_cases hb:s.testBit k=true
  .rw[jm hb];lia
  .have hb':s.testBit k=false:=by simpa using hb
   have e1:=M.eX hs;have e2:=M.eX (gi hs hk);have e3:=mh hk hb';have e4:=(M.step (aT (2^n-1) (s|||2^k)) k tM hk);rw[e3]at e4;rw[mH (M.dS hs) (by lia) hb']at e2;lia
 .by_cases hjs:s.testBit j=true
  .rw[jm hjs];exact h2
  by_cases hks:s.testBit k=true
  .rw[qS,jm hks];exact h1
  by_cases hjk:j=k
  .subst hjk;rw[vh];exact h1
  have hjs':s.testBit j=false:=by simpa using hjs
  have hks':s.testBit k=false:=by simpa using hks
  have hjk1:(s|||2^k).testBit j=false:=by rw[bL,hjs',E8 (λe=>hjk e.symm)];rfl
  have hkj1:(s|||2^j).testBit k=false:=by rw[bL,hks',E8 hjk];rfl
  have ls:=gi hs hj;have lk:=gi hs hk;have lsk:=gi ls hk;have d0:=M.eX hs;have dj:=M.eX ls;have dk:=M.eX lk;have djk:=M.eX lsk;have s1:=mH (M.dS hs) (show j<8 by lia) hjs';have s2:=mH (M.dS hs) (show k<8 by lia) hks';have s3:=mH (M.dS ls) (show k<8 by lia) hkj1;have u1:=mh (n:=n) hk hkj1;have u2:=mh (n:=n) hj hjk1;rw[<-qS s j k]at u2;have u3:=mh (n:=n) hj hjs';have ul:aT (2^n-1) (s|||2^j|||2^k)<2^n:=tM;generalize aT (2^n-1) (s|||2^j|||2^k)=u at*;rw[<-u3,<-u1]at d0;rw[<-u1]at dj;rw[<-u2]at dk;have sub:=M.sub u k j ul hk hj;have stj:=M.step u j ul hj;have stk:=M.step u k ul hk;have stkj:=M.step (u|||2^k) j (gi ul hk) hj;lia
theorem md{n s j:Nat}:(s % 2^n).testBit j=(decide (j<n)&&s.testBit j):=by rw[Nat.testBit_mod_two_pow]
theorem iM(hk:k<n):(s|||2^k) % 2^n=s % 2^n|||2^k/\(s|||2^k) /2^n=s/2^n:=by
 refine⟨Fv λj=> ?_,Fv λj=> ?_⟩
 .rw[md,bL,bL,md];by_cases e:k=j
  .subst e;simp[hk]
  .simp[e]
 .rw[Hn,Hn,bL,E8 (by lia),GP]
theorem gC(hk:n<=k):(s|||2^k) % 2^n=s % 2^n/\(s|||2^k) /2^n=s/2^n|||2^(k-n):=by
 refine⟨Fv λj=> ?_,Fv λj=> ?_⟩
 .rw[md,bL,md];by_cases hj:j<n
  .rw[E8 (show¬k=j by lia),GP]
  .rw[E8 hj];rfl
 .rw[Hn,bL,bL,Hn];congr 1;exact Ii.mpr ⟨λh=>by lia,λh=>by lia⟩
def wG(n1:Nat)(r1 r2:Nat->Nat)(s:Nat):Nat:=r1 (s % 2^n1)+r2 (s/2^n1)
theorem Mat.side(M1:Mat n1 r1)(M2:Mat n2 r2)(h8:n1+n2<=8):Mat (n1+n2) (wG n1 r1 r2):=by
 have p1:0<2^n1:=GC (by lia);have lo:∀s,s % 2^n1<2^n1:=λs=>JY _ p1;have hi:∀s,s<2^(n1+n2)->s/2^n1<2^n2:=λs hs=>by rw[Nat.div_lt_iff_lt_mul p1,<-Nat.pow_add,Nat.add_comm n2 n1];exact hs
 refine⟨h8,?_,λs k hs hk=> ?_,λs j k hs hj hk e1 e2=> ?_⟩
 .unfold wG;rw[Nat.zero_mod,Nat.zero_div,M1.zero,M2.zero]
 .unfold wG;by_cases h:k<n1
  .obtain⟨a,b⟩:=iM (s:=s) h;rw[a,b];have:=M1.step _ k (lo s) h;lia
  .obtain⟨a,b⟩:=gC (n:=n1) (s:=s) (k:=k) (by lia);rw[a,b];have:=M2.step _ (k-n1) (hi s hs) (by lia);lia
 .unfold wG at*;by_cases hjn:j<n1<;>by_cases hkn:k<n1
  .obtain⟨a,b⟩:=iM (s:=s) hjn;obtain⟨c,d⟩:=iM (s:=s) hkn;obtain⟨e,f⟩:=iM (s:=s|||2^j) hkn;rw[a,b]at e1;rw[c,d]at e2;rw[e,f,a,b];have:=M1.sub _ j k (lo s) hjn hkn (by lia) (by lia);lia
  .obtain⟨a,b⟩:=iM (s:=s) hjn;obtain⟨c,d⟩:=gC (n:=n1) (s:=s) (k:=k) (by lia);obtain⟨e,f⟩:=gC (n:=n1) (s:=s|||2^j) (k:=k) (by lia);rw[a,b]at e1;rw[c,d]at e2;rw[e,f,a,b];lia
  .obtain⟨a,b⟩:=gC (n:=n1) (s:=s) (k:=j) (by lia);obtain⟨c,d⟩:=iM (s:=s) hkn;obtain⟨e,f⟩:=iM (s:=s|||2^j) hkn;rw[a,b]at e1;rw[c,d]at e2;rw[e,f,a,b];lia
  .obtain⟨a,b⟩:=gC (n:=n1) (s:=s) (k:=j) (by lia);obtain⟨c,d⟩:=gC (n:=n1) (s:=s) (k:=k) (by lia);obtain⟨e,f⟩:=gC (n:=n1) (s:=s|||2^j) (k:=k) (by lia);rw[a,b]at e1;rw[c,d]at e2;rw[e,f,a,b];have:=M2.sub _ (j-n1) (k-n1) (hi s hs) (by lia) (by lia) (by lia) (by lia);lia
end Bh
namespace Bh
theorem gr{s k:Nat}(h:s.testBit k=true):Sub (s^^^2^k) s:=λj hj=>by rw[bK h,Fp]at hj;exact hj.1
theorem eC{s k:Nat}(h:s.testBit k=true):(s^^^2^k)|||2^k=s:=Fv λj=>by
 rw[bL,bK h];by_cases e:k=j
 .subst e;rw[h];simp
 .rw[E8 e];simp
theorem eQ(s t:Nat):Sub s (s|||t):=λj h=>by rw[GG,h];rfl
theorem mJ(s t:Nat):Sub t (s|||t):=λj h=>by rw[GG,h,Jz]
theorem uO(h:Sub s u)(g:Sub t u):Sub (s|||t) u:=λj hj=>by rw[GG,Jx]at hj;exact hj.elim (h j) (g j)
theorem uP(h:Sub s t)(g:Sub t s):s=t:=Fv λj=>by
 cases e:t.testBit j with
 |true=>exact g j e
 |false=>
  cases e2:s.testBit j with
  |true=>rw[h j e2]at e;cases e
  |false=>rfl
theorem B3{s t:Nat}(h:¬Sub s t):∃k,s.testBit k=true/\t.testBit k=false:=by
 refine FU λhn=>h λk hk=> ?_;cases e:t.testBit k with
 |true=>rfl
 |false=>exact absurd ⟨k,hk,e⟩ hn
theorem rW{s t k:Nat}(h:Sub s t)(hk:s.testBit k=false)(hkt:t.testBit k=true):Sub s (t^^^2^k):=λj hj=>by
 rw[bK hkt,h j hj];by_cases e:k=j
 .subst e;rw[hk]at hj;cases hj
 .rw[E8 e];rfl
def gM(r:Nat->Nat)(c:Nat):Prop:=r c<sz c/\∀k,c.testBit k=true->r (c^^^2^k)=sz (c^^^2^k)
def gN(n:Nat)(r:Nat->Nat)(f:Nat):Prop:=f<2^n/\∀k,k<n->f.testBit k=false->r (f|||2^k)=r f+1
def oe(n:Nat)(r:Nat->Nat)(b:Nat):Prop:=b<2^n/\r b=sz b/\r b=r (2^n-1)
def clR(n:Nat)(r:Nat->Nat)(s:Nat):Nat:=zM (((List.range n).filter λk=>decide (r (s|||2^k)=r s)).map λk:Nat=>(k:Int))
namespace Mat
variable{n:Nat}{r:Nat->Nat}(M:Mat n r)
include M
theorem cv{s k:Nat}(hs:s<2^n)(hk:s.testBit k=true):s^^^2^k<2^n:=(gr hk).lt hs
theorem gg{s k:Nat}(hs:s<2^n)(hk:s.testBit k=true):sz (s^^^2^k)+1=sz s:=
 iq s (M.dS hs) k (Fb (bB hs hk) M.n8) hk
theorem exch{b c k:Nat}(hb:oe n r b)(hc:oe n r c)(hk:b.testBit k=true)(hkc:c.testBit k=false):
  ∃y,c.testBit y=true/\b.testBit y=false/\oe n r ((b^^^2^k)|||2^y):=by
 have hd:=M.cv hb.1 hk;have hf:r (b^^^2^k)=sz (b^^^2^k):=M.gn (gr hk) hb.1 hb.2.1;have hz:=M.gg hb.1 hk;refine FU λhn=> ?_;have all:∀y,c.testBit y=true->r ((b^^^2^k)|||2^y)=r (b^^^2^k):=λy hy=>by
  refine FU λhne=>hn ⟨y,hy,?_,?_⟩
  .cases e:b.testBit y with
   |false=>rfl
   |true=>
    refine absurd ?_ hne;rw[dB];rw[bK hk,e];by_cases e2:k=y
    .subst e2;rw[hy]at hkc;cases hkc
    .rw[E8 e2];rfl
  .have yn:=bB hc.1 hy;have st:=M.step _ y hd yn;have hb':(b^^^2^k).testBit y=false:=by
    cases e:(b^^^2^k).testBit y with
    |false=>rfl
    |true=>rw[dB e]at hne;exact absurd rfl hne
   have s1:=da _ (M.dS hd) y (Fb yn M.n8) hb';have e1:=hb.2.1;have e2:=hb.2.2;exact⟨bA hd yn,by lia,by lia⟩
 have h1:=M.closed hd hc.1 all;have h2:=M.mono (mJ (b^^^2^k) c) (GF hd hc.1);have e1:=hb.2.1;have e2:=hb.2.2;have e3:=hc.2.2;lia
theorem qK{c:Nat}(hc:c<2^n)(h:gM r c)(hk:c.testBit k=true):r (c^^^2^k|||2^k)=r (c^^^2^k):=by rw[eC hk];have h1:=h.2 k hk;have h2:=M.gg hc hk;have h3:=M.mono (gr hk) hc;have h4:=h.1;lia
theorem wK:∀ (z s:Nat),sz s=z->s<2^n->r s<sz s->∃c,Sub c s/\gM r c:=by
 intro z
 induction z with
 |zero=>intro s e _ h;lia
 |succ z ih=>
  intro s e hs h;by_cases hr:∀k,s.testBit k=true->r (s^^^2^k)=sz (s^^^2^k)
  .exact⟨s,Sub.refl _,h,hr⟩
  .obtain⟨k,hk⟩:=JA.mp hr;obtain⟨hk,hne⟩:=JW.mp hk;have hl:=M.cv hs hk;have h1:=M.tN _ hl;have h2:=M.gg hs hk;obtain⟨c,hc,hR⟩:=ih _ (by lia) hl (JL h1 hne);exact⟨c,hc.trans (gr hk),hR⟩
theorem tT(hs:s<2^n):r s=sz s↔∀c,gM r c->¬Sub c s:=by
 constructor
 .intro h c hc hsub;have:=M.gn hsub hs h;have:=hc.1;lia
 .intro h;refine FU λhne=> ?_;obtain⟨c,hc,hR⟩:=M.wK _ s rfl hs (JL (M.tN s hs) hne);exact h c hR hc
theorem wJ(h:gM r c):c≠0:=λe=>by have:=h.1;rw[e,gw]at this;exact absurd this (Ir _)
theorem mT(hc:gM r c)(hd:d<2^n)(hD:gM r d)(h:Sub c d):c=d:=by
 refine uP h λk hk=> ?_;cases e:c.testBit k with
 |true=>rfl
 |false=>
  have:=M.gn (rW h e hk) (M.cv hd hk) (hD.2 k hk);have:=hc.1;lia
theorem third{c d k:Nat}(hc:c<2^n)(hd:d<2^n)(hC:gM r c)(hD:gM r d)(hne:c≠d)(kc:c.testBit k=true)(kd:d.testBit k=true):
  ∃e,gM r e/\Sub e ((c|||d)^^^2^k):=by
 have hu:c|||d<2^n:=GF hc hd;have ku:(c|||d).testBit k=true:=eQ c d k kc;obtain⟨j,hj,hjd⟩:=B3 (λh=>hne (M.mT hC hd hD h));have ju:(c|||d).testBit j=true:=eQ c d j hj;have kn:=bB hc kc;have jn:=bB hc hj;have a1:r ((c|||d)^^^2^k|||2^k)=r ((c|||d)^^^2^k):=M.keep (λi hi=>by rw[bK kc,Fp]at hi;rw[bK ku,eQ c d i hi.1,hi.2];rfl) (M.cv hu ku) kn (M.qK hc hC kc)
 have a2:r ((c|||d)^^^2^j|||2^j)=r ((c|||d)^^^2^j):=M.keep (λi hi=>by rw[bK hj,Fp]at hi;rw[bK ju,eQ c d i hi.1,hi.2];rfl) (M.cv hu ju) jn (M.qK hc hC hj)
 rw[eC ku]at a1;rw[eC ju]at a2;have dl:=M.cv hu ju;have b1:r ((c|||d)^^^2^j)≠sz ((c|||d)^^^2^j):=λe=>by have:=M.gn (rW (mJ c d) hjd ju) dl e;have:=hD.1;lia
 have b2:=M.tN _ dl;have z1:=M.gg hu ju;have z2:=M.gg hu ku;obtain⟨e,h1,h2⟩:=M.wK _ ((c|||d)^^^2^k) rfl (M.cv hu ku) (by lia);exact⟨e,h2,h1⟩
theorem fL(s k:Nat):(clR n r s).testBit k=true↔k<n/\r (s|||2^k)=r s:=by
 unfold clR;rw[zL λz hz=>by obtain⟨j,_,rfl⟩:=Fn.mp hz;exact F0 _];constructor
 .intro h;obtain⟨j,hj,e⟩:=Fn.mp h;obtain⟨h1,h2⟩:=FH.mp hj;have:j=k:=by lia
  subst this;exact⟨Fl.mp h1,Fi h2⟩
 .intro⟨h1,h2⟩;exact Fn.mpr ⟨k,FH.mpr ⟨Fl.mpr h1,E6 h2⟩,rfl⟩
theorem pM(s:Nat):clR n r s<2^n:=JX _ λi hi=>by
 cases e:(clR n r s).testBit i with
 |false=>rfl
 |true=>exact absurd ((M.fL s i).mp e).1 (J5 hi)
theorem ua(hs:s<2^n):Sub s (clR n r s):=λk hk=>(M.fL s k).mpr ⟨bB hs hk,by rw[dB hk]⟩
theorem Cs(hs:s<2^n):r (clR n r s)=r s:=by
 have:=M.closed hs (M.pM s) λk hk=>((M.fL s k).mp hk).2
 rwa [jZ (M.ua hs)]at this
theorem rD(hs:s<2^n):gN n r (clR n r s):=by
 refine⟨M.pM s,λk hk hb=> ?_⟩;have st:=M.step _ k (M.pM s) hk;refine FU λhne=> ?_;have h1:r (clR n r s|||2^k)=r (clR n r s):=by lia
 have h2:r (s|||2^k)=r s:=by have m1:=M.mono (s:=s|||2^k) (t:=clR n r s|||2^k) (uO ((M.ua hs).trans (eQ _ _)) (mJ _ _)) (bA (M.pM s) hk);have m2:=(M.step s k hs hk).1;have m3:=M.Cs hs;lia
 have:=(M.fL s k).mpr ⟨hk,h2⟩;rw[hb]at this;cases this
theorem nG(hF:gN n r f)(h:Sub s f):Sub (clR n r s) f:=λk hk=>by
 obtain⟨h1,h2⟩:=(M.fL s k).mp hk;cases e:f.testBit k with
 |true=>rfl
 |false=>
  have h3:=M.keep h hF.1 h1 h2;have h4:=hF.2 k h1 e;lia
theorem yB:gN n r (2^n-1):=⟨cx n,λk hk hb=>by rw[Gx,E6 hk]at hb;cases hb⟩
theorem AY(hf:gN n r f)(hg:gN n r g):gN n r (f&&&g):=by
 have hl:=(gh f g).lt hf.1;refine⟨hl,λk hk hb=> ?_⟩;have st:=M.step _ k hl hk;refine FU λhne=> ?_;have h1:r ((f&&&g)|||2^k)=r (f&&&g):=by lia
 rw[FG]at hb;cases e:f.testBit k with
 |false=>
  have h3:=M.keep (gh f g) hf.1 hk h1;have h4:=hf.2 k hk e;lia
 |true=>
  rw[e,GR]at hb;have h3:=M.keep (oN f g) hg.1 hk h1;have h4:=hg.2 k hk hb;lia
theorem yA{f x t:Nat}(hf:gN n r f)(hx:x<n)(fx:f.testBit x=false)(ht:(clR n r (f|||2^x)).testBit t=true)(ft:f.testBit t=false):
  clR n r (f|||2^t)=clR n r (f|||2^x):=by
 obtain⟨tn,h1⟩:=(M.fL _ t).mp ht;have hfx:=bA hf.1 hx;have hft:=bA hf.1 tn;have e1:=hf.2 x hx fx;have e2:=hf.2 t tn ft;have h2:r (f|||2^t|||2^x)=r (f|||2^t):=by rw[qS];lia
 refine uP (M.nG (M.rD hfx) (uO ((eQ _ _).trans (M.ua hfx)) λk hk=> ?_)) (M.nG (M.rD hft) (uO ((eQ _ _).trans (M.ua hft)) λk hk=> ?_))
 .rw[Gq]at hk;have:=Fi hk;subst this;exact ht
 .rw[Gq]at hk;have:=Fi hk;subst this;exact(M.fL _ _).mpr ⟨hx,h2⟩
theorem w8{s:Nat}(hs:s<2^n):r s=sz s↔∀k,s.testBit k=true->(clR n r (s^^^2^k)).testBit k=false:=by
 constructor
 .intro h k hk;cases e:(clR n r (s^^^2^k)).testBit k with
  |false=>rfl
  |true=>
   have h1:=((M.fL _ k).mp e).2;rw[eC hk]at h1;have h2:=M.gn (gr hk) hs h;have h3:=M.gg hs hk;lia
 .intro h;refine(M.tT hs).mpr λc hR hsub=> ?_;have hc:=hsub.lt hs;obtain⟨k,hk⟩:∃k,c.testBit k=true:=FU λhn=>M.wJ hR (Fv λj=>by
   rw[Hc];cases e:c.testBit j with
   |false=>rfl
   |true=>exact absurd ⟨j,e⟩ hn)
  have ks:=hsub k hk;have h1:=M.keep (s:=c^^^2^k) (t:=s^^^2^k) (λj hj=>by rw[bK hk,Fp]at hj;rw[bK ks,hsub j hj.1,hj.2];rfl) (M.cv hs ks) (bB hc hk) (M.qK hc hR hk)
  have:=h k ks;rw[(M.fL _ k).mpr ⟨bB hs ks,h1⟩]at this;cases this
end Mat
end Bh
namespace Bh
def iQ(n:Nat)(fs:List Nat)(s:Nat):Nat:=fs.foldl (λl f=>if s&&&f=s then l&&&f else l) (2^n-1)
theorem cW:s&&&f=s↔Sub s f:=by
 constructor
 .intro h k hk;rw[<-h,FG,Fp]at hk;exact hk.2
 .intro h;refine Fv λk=> ?_;rw[FG];cases e:s.testBit k with
  |false=>rfl
  |true=>rw[h k e];rfl
theorem iP(s k:Nat):∀ (fs:List Nat) (l:Nat),(fs.foldl (λl f=>if s&&&f=s then l&&&f else l) l).testBit k=true↔l.testBit k=true/\∀f∈fs,s&&&f=s->f.testBit k=true
 | [],l=>by simp
 |f::fs,l=>by
  rw[Gs,iP s k fs];by_cases h:s&&&f=s
  .rw[E9 h,FG,Fp];constructor
   .rintro⟨⟨h1,h2⟩,h3⟩;refine⟨h1,λg hg hs=> ?_⟩;rcases Fh.mp hg with rfl|hg
    .exact h2
    .exact h3 g hg hs
   .rintro⟨h1,h2⟩;exact⟨⟨h1,h2 f (Fq ..) h⟩,λg hg hs=>h2 g (Fe _ hg) hs⟩
  .rw[Fg h];constructor
   .rintro⟨h1,h2⟩;refine⟨h1,λg hg hs=> ?_⟩;rcases Fh.mp hg with rfl|hg
    .exact absurd hs h
    .exact h2 g hg hs
   .rintro⟨h1,h2⟩;exact⟨h1,λg hg hs=>h2 g (Fe _ hg) hs⟩
theorem Mat.leastF_cl(M:Mat n r)(hf:∀f,f∈fs↔gN n r f)(hs:s<2^n):iQ n fs s=clR n r s:=by
 refine uP (λk hk=> ?_) λk hk=> ?_
 .have h:=(iP s k fs _).mp hk;exact h.2 _ ((hf _).mpr (M.rD hs)) (cW.mpr (M.ua hs))
 .refine(iP s k fs _).mpr ⟨?_,λf hm hsf=>M.nG ((hf f).mp hm) (cW.mp hsf) k hk⟩;rw[Gx];exact E6 (bB (M.pM s) hk)
end Bh
namespace Bh
theorem h7{u t:Nat}(h:u.testBit t=true):aT u (2^t)=u^^^2^t:=by
 unfold aT;refine Fu (λx=>u^^^x) (Fv λj=> ?_);rw[FG,Gq];by_cases e:t=j
 .subst e;rw[h,E6 rfl];rfl
 .rw[E8 e,GS]
end Bh
namespace Bh
abbrev Row:=Nat->Int
def sgn(i:Nat):Int:=if i % 2=0 then 1 else-1
theorem jb(i:Nat):sgn (i+1)= -sgn i:=by
 unfold sgn;rcases Nat.mod_two_eq_zero_or_one i with h|h
 .rw[Fg (by lia),E9 h]
 .rw[E9 (by lia),Fg (by lia)];rfl
theorem Dd(i:Nat):sgn i*sgn i=1:=by unfold sgn;split<;>rfl
def bD:Nat->(Nat->Int)->Int
 |0,_=>0
 |n+1,f=>bD n f+f n
theorem bI:∀ {n:Nat},(∀i,i<n->f i=g i)->bD n f=bD n g
 |0,_=>rfl
 |n+1,h=>by rw[bD,bD,bI λi hi=>h i (by lia),h n (by lia)]
theorem gU(f g:Nat->Int):∀n,bD n (λi=>f i+g i)=bD n f+bD n g
 |0=>rfl
 |n+1=>by rw[bD,bD,bD,gU f g n];lia
theorem dw(a:Int)(f:Nat->Int):∀n,bD n (λi=>a*f i)=a*bD n f
 |0=>by show(0:Int)=a*0;lia
 |n+1=>by rw[bD,bD,dw a f n,JK]
theorem jR:∀ {n:Nat},(∀i,i<n->f i=0)->bD n f=0
 |0,_=>rfl
 |n+1,h=>by rw[bD,jR λi hi=>h i (by lia),h n (by lia)];rfl
theorem iG(f:Nat->Int)(m:Nat):∀n,bD (m+n) f=bD m f+bD n λk=>f (m+k)
 |0=>by show bD m f=bD m f+0;lia
 |n+1=>by rw[<-Nat.add_assoc,bD,bD,iG f m n];lia
theorem iH(f:Nat->Int)(n:Nat):bD (n+1) f=f 0+bD n λk=>f (k+1):=by
 rw[Nat.add_comm,iG];have h1:bD 1 f=f 0:=by show 0+f 0=f 0;lia
 rw[h1];refine Fu (f 0+ ·) (bI λi _=>by rw[Nat.add_comm])
theorem oM(f:Nat->Nat->Int)(n:Nat):∀m,bD m (λi=>bD n (f i))=bD n λj=>bD m λi=>f i j
 |0=>(jR λ_ _=>rfl).symm
 |m+1=>by rw[bD,oM f n m,<-gU];rfl
def rw0:Row:=λ_=>0
def aP:List Row->List Nat->Int
 |_,[]=>1
 |R,c::cs=>bD R.length λi=>sgn i*(R.getD i rw0 c*aP (R.eraseIdx i) cs)
theorem gc{α:Type}{A B:List α}{d:α}{i:Nat}(h:i<A.length):(A++B).getD i d=A.getD i d:=by rw[Ff,Ff,FQ h]
theorem dQ{α:Type}{A B:List α}{d:α}(k:Nat):(A++B).getD (A.length+k) d=B.getD k d:=by rw[Ff,Ff,FR (by lia),Kb]
theorem nB{α:Type}{A B:List α}{i:Nat}(h:i<A.length):(A++B).eraseIdx i=A.eraseIdx i++B:=List.eraseIdx_append_of_lt_length h B
theorem gL{α:Type}{A B:List α}(k:Nat):(A++B).eraseIdx (A.length+k)=A++B.eraseIdx k:=by rw[List.eraseIdx_append_of_length_le (by lia),Kb]
theorem eG(A:List Row)(x:Row)(B:List Row)(c:Nat)(cs:List Nat):aP (A++x::B) (c::cs)=bD A.length (λi=>sgn i*(A.getD i rw0 c*aP (A.eraseIdx i++x::B) cs))+sgn A.length*(x c*aP (A++B) cs)+
  bD B.length λk=>sgn (A.length+1+k)*(B.getD k rw0 c*aP (A++x::B.eraseIdx k) cs):=by
 show bD (A++x::B).length _=_;rw[Fw,FK,iG,iH,<-Int.add_assoc];refine congr (Fu _ (congr (Fu _ (bI λi hi=> ?_)) ?_)) (bI λk hk=> ?_)
 .rw[gc hi,nB hi]
 .show sgn (A.length+0)*((A++x::B).getD (A.length+0) rw0 c*aP ((A++x::B).eraseIdx (A.length+0)) cs)=_;rw[dQ,gL];rfl
 .rw[dQ,gL,show A.length+1+k=A.length+(k+1) by lia];rfl
theorem jG(a b:Int)(r p:Row):∀ (cols:List Nat) (A B:List Row),cols≠[]->A.length+1+B.length=cols.length->aP (A++(λj=>a*r j+b*p j)::B) cols=a*aP (A++r::B) cols+b*aP (A++p::B) cols
 | [],_,_,h,_=>absurd rfl h
 |c::cs,A,B,_,hl=>by
  rw[eG,eG,eG];have e1:bD A.length (λi=>sgn i*(A.getD i rw0 c*aP (A.eraseIdx i++(λj=>a*r j+b*p j)::B) cs))=a*bD A.length (λi=>sgn i*(A.getD i rw0 c*aP (A.eraseIdx i++r::B) cs))+b*bD A.length (λi=>sgn i*(A.getD i rw0 c*aP (A.eraseIdx i++p::B) cs)):=by
   rw[<-dw,<-dw,<-gU];refine bI λi hi=> ?_;have hl2:(A.eraseIdx i).length+1+B.length=cs.length:=by rw[Gd hi];simp at hl;lia
   rw[jG a b r p cs (A.eraseIdx i) B (λz=>by rw[z]at hl2;simp at hl2) hl2];generalize aP (A.eraseIdx i++r::B) cs=u;generalize aP (A.eraseIdx i++p::B) cs=v;generalize A.getD i rw0 c=w;generalize sgn i=s;simp only[JK,Iz]
  have e2:bD B.length (λk=>sgn (A.length+1+k)*(B.getD k rw0 c*aP (A++(λj=>a*r j+b*p j)::B.eraseIdx k) cs))=a*bD B.length (λk=>sgn (A.length+1+k)*(B.getD k rw0 c*aP (A++r::B.eraseIdx k) cs))+b*bD B.length (λk=>sgn (A.length+1+k)*(B.getD k rw0 c*aP (A++p::B.eraseIdx k) cs)):=by
   rw[<-dw,<-dw,<-gU];refine bI λk hk=> ?_;have hl2:A.length+1+(B.eraseIdx k).length=cs.length:=by rw[Gd hk];simp at hl;lia
   rw[jG a b r p cs A (B.eraseIdx k) (λz=>by rw[z]at hl2;simp at hl2) hl2];generalize aP (A++r::B.eraseIdx k) cs=u;generalize aP (A++p::B.eraseIdx k) cs=v;generalize B.getD k rw0 c=w;generalize sgn (A.length+1+k)=s;simp only[JK,Iz]
  have e3:sgn A.length*((λj=>a*r j+b*p j) c*aP (A++B) cs)=a*(sgn A.length*(r c*aP (A++B) cs))+b*(sgn A.length*(p c*aP (A++B) cs)):=by show sgn A.length*((a*r c+b*p c)*aP (A++B) cs)=_;generalize aP (A++B) cs=u;generalize sgn A.length=s;rw[Int.add_mul,JK];simp only[Ht,Iz]
  rw[e1,e2,e3];simp only[JK];lia
theorem pI(a:Int)(r:Row)(cols:List Nat)(A B:List Row)(hl:A.length+1+B.length=cols.length):aP (A++(λj=>a*r j)::B) cols=a*aP (A++r::B) cols:=by have h:=jG a 0 r r cols A B (λz=>by rw[z]at hl;simp at hl) hl;rw[JB,J6]at h;rw[<-h];refine Fu (λz=>aP (A++z::B) cols) (funext λj=> ?_);rw[JB,J6]
theorem jF(x y:Row):∀ (cols:List Nat) (A B:List Row),A.length+2+B.length=cols.length->aP (A++x::y::B) cols= -aP (A++y::x::B) cols
 | [],A,B,hl=>by simp at hl
 |c::cs,A,B,hl=>by
  rw[eG A x (y::B),eG A y (x::B)];have e1:bD A.length (λi=>sgn i*(A.getD i rw0 c*aP (A.eraseIdx i++x::y::B) cs))= -bD A.length (λi=>sgn i*(A.getD i rw0 c*aP (A.eraseIdx i++y::x::B) cs)):=by
   have:∀z:Int,-z=(-1)*z:=λz=>by lia
   rw[this,<-dw];refine bI λi hi=> ?_;have hl2:(A.eraseIdx i).length+2+B.length=cs.length:=by rw[Gd hi];simp at hl;lia
   rw[jF x y cs (A.eraseIdx i) B hl2,Jg,Jg,<-this]
  have e2:∀u v:Row,bD (v::B).length (λk=>sgn (A.length+1+k)*((v::B).getD k rw0 c*aP (A++u::(v::B).eraseIdx k) cs))=sgn (A.length+1)*(v c*aP (A++u::B) cs)+bD B.length (λk=>sgn (A.length+2+k)*(B.getD k rw0 c*aP (A++u::v::B.eraseIdx k) cs)):=λu v=>by rw[FK,iH];refine Fu (λz=>sgn (A.length+1)*(v c*aP (A++u::B) cs)+z) (bI λk _=> ?_);rw[show A.length+1+(k+1)=A.length+2+k by lia];rfl
  have e3:bD B.length (λk=>sgn (A.length+2+k)*(B.getD k rw0 c*aP (A++x::y::B.eraseIdx k) cs))= -bD B.length (λk=>sgn (A.length+2+k)*(B.getD k rw0 c*aP (A++y::x::B.eraseIdx k) cs)):=by
   have:∀z:Int,-z=(-1)*z:=λz=>by lia
   rw[this,<-dw];refine bI λi hi=> ?_;have hl2:A.length+2+(B.eraseIdx i).length=cs.length:=by rw[Gd hi];simp at hl;lia
   rw[jF x y cs A (B.eraseIdx i) hl2,Jg,Jg,<-this]
  rw[e1,e2,e2,e3,jb,II,II];lia
theorem ic(x:Row)(cols:List Nat):∀ (A pre B:List Row),pre.length+A.length+1+B.length=cols.length->aP (pre++(A++x::B)) cols=sgn A.length*aP (pre++x::(A++B)) cols
 | [],pre,B,_=>by show _=1*_;rw[Hl];rfl
 |a::A,pre,B,hl=>by have h:=ic x cols A (pre++[a]) B (by simp at hl⊢;lia);rw[GN,GN]at h;have h2:=jF a x cols pre (A++B) (by simp at hl⊢;lia);show aP (pre++([a]++(A++x::B))) cols=_;rw[h];show sgn A.length*aP (pre++a::x::(A++B)) cols=_;rw[h2,FK,jb,Jg,II];rfl
theorem tZ(p:Row)(cols:List Nat)(A B:List Row)(hl:A.length+2+B.length=cols.length):aP (p::(A++p::B)) cols=0:=by
 have h:=ic p cols A [p] B (by simp;lia);have h2:=jF p p cols [] (A++B) (by simp;lia);have h3:aP (p::p::(A++B)) cols=0:=by have:aP (p::p::(A++B)) cols= -aP (p::p::(A++B)) cols:=h2;lia
 have h4:aP (p::(A++p::B)) cols=sgn A.length*aP (p::p::(A++B)) cols:=h;rw[h4,h3,J7]
theorem pJ(p:Row)(a:Int)(b:Row->Int)(cols:List Nat):∀ (S pre:List Row),pre.length+1+S.length=cols.length->
  aP (p::(pre++S.map λr j=>a*r j+b r*p j)) cols=a^S.length*aP (p::(pre++S)) cols
 | [],pre,_=>by rw[Ig,Kh,J8,Hl]
 |r::S,pre,hl=>by have h:=pJ p a b cols S (pre++[λj=>a*r j+b r*p j]) (by simp at hl⊢;lia);rw[GN,GN]at h;rw[FT];show aP (p::(pre++([λj=>a*r j+b r*p j]++S.map λr j=>a*r j+b r*p j))) cols=_;rw[h];show a^S.length*aP ((p::pre)++(λj=>a*r j+b r*p j)::S) cols=_;rw[jG a (b r) r p cols (p::pre) S (λz=>by rw[z]at hl;simp at hl) (by simp at hl⊢;lia)];have h0:aP ((p::pre)++p::S) cols=0:=tZ p cols pre S (by simp at hl;lia);rw[h0,J7,J6,FK,JC,Ht];rfl
theorem nC(p:Row)(d:Int)(g:Row->Row)(cols:List Nat):∀ (S pre:List Row),pre.length+1+S.length=cols.length->
  aP (p::(pre++S.map λr j=>d*g r j)) cols=d^S.length*aP (p::(pre++S.map g)) cols
 | [],pre,_=>by rw[Ig,Ig,Kh,J8,Hl]
 |r::S,pre,hl=>by have h:=nC p d g cols S (pre++[λj=>d*g r j]) (by simp at hl⊢;lia);rw[GN,GN]at h;rw[FT,FT];show aP (p::(pre++([λj=>d*g r j]++S.map λr j=>d*g r j))) cols=_;rw[h];show d^S.length*aP ((p::pre)++(λj=>d*g r j)::S.map g) cols=_;rw[pI d (g r) cols (p::pre) (S.map g) (by simp at hl⊢;lia),FK,JC,Ht];rfl
theorem yE(p:Row)(B:List Row)(c:Nat)(cs:List Nat)(h:∀r∈B,r c=0):aP (p::B) (c::cs)=p c*aP B cs:=by
 have e:=eG [] p B c cs;have e2:bD B.length (λk=>sgn (([]:List Row).length+1+k)*(B.getD k rw0 c*aP ([]++p::B.eraseIdx k) cs))=0:=jR λk hk=>by
  have:B.getD k rw0 c=0:=by
   have e3:B.getD k rw0=B[k]:=by simp[hk]
   rw[e3];exact h _ (Gj hk)
  rw[this,JB,J7]
 rw[e2]at e;show aP ([]++p::B) (c::cs)=_;rw[e];show(0:Int)+1*(p c*aP B cs)+0=_;lia
theorem gs:∀ (cols:List Nat) (R R':List Row),R.length=R'.length->(∀i j,j∈cols->R.getD i rw0 j=R'.getD i rw0 j)->aP R cols=aP R' cols
 | [],_,_,_,_=>rfl
 |c::cs,R,R',hl,h=>by
  show bD R.length _=bD R'.length _;rw[<-hl];refine bI λi hi=> ?_;rw[h i c Fq,gs cs (R.eraseIdx i) (R'.eraseIdx i) (by rw[Gd hi,Gd (by lia),hl]) λk j hj=> ?_];rw[Ff,Ff,Iv,Iv];by_cases hk:k<i
  .rw[E9 hk,E9 hk,<-Ff,<-Ff];exact h k j (Fe _ hj)
  .rw[Fg hk,Fg hk,<-Ff,<-Ff];exact h (k+1) j (Fe _ hj)
theorem oF(p:Row)(g h:Row->Row)(cols:List Nat)(S:List Row)(e:∀r∈S,∀j∈cols,g r j=h r j):aP (p::S.map g) cols=aP (p::S.map h) cols:=by
 refine gs cols _ _ (by simp) λi j hj=> ?_;cases i with
 |zero=>rfl
 |succ i=>
  rw[Ff,Ff,Im,Im,Fm,Fm];cases hr:S[i]? with
  |none=>rfl
  |some r=>exact e r (E7 hr) j hj
theorem jE(p r:Row)(c j:Nat):aP [p,r] [c,j]=p c*r j-r c*p j:=by simp[aP,bD,sgn];lia
def kY(d:Int)(R:List Row)(cs:List Nat):Prop:=∀ (S:List Row) (T:List Nat) (k:Nat),(∀r∈S,r∈R)->(∀t∈T,t∈cs)->S.length=k+1->T.length=k+1->d^k∣aP S T
theorem gm(R:List Row)(cs:List Nat):kY 1 R cs:=λS T k _ _ _ _=>by rw[Int.one_pow];exact Int.one_dvd _
def cy(d:Int)(p:Row)(c:Nat)(r:Row):Row:=λj=>(r j*p c-p j*r c).fdiv d
section
variable{d:Int}{R:List Row}{c:Nat}{cs:List Nat}{p:Row}
theorem fz(h:kY d R (c::cs))(hd:d≠0)(hp:p∈R)(hr:r∈R)(hj:j∈c::cs):d*cy d p c r j=r j*p c-p j*r c:=by
 have h2:=h [p,r] [c,j] 1 (λx hx=>by
  rcases Fh.mp hx with rfl|hx
  .exact hp
  .rw[FI.mp hx];exact hr) (λx hx=>by
  rcases Fh.mp hx with rfl|hx
  .exact Fq
  .rw[FI.mp hx];exact hj) rfl rfl
 rw[jE,JC,J8,Hl]at h2;obtain⟨q,hq⟩:=h2;have e:r j*p c-p j*r c=d*q:=by rw[<-hq,GV (r j),GV (p j)]
 unfold cy;rw[e,Int.mul_fdiv_cancel_left _ hd]
theorem rY(h:kY d R (c::cs))(hd:d≠0)(hp:p∈R){S:List Row}{T:List Nat}(hS:∀r∈S,r∈R)(hT:∀t∈T,t∈cs)(hl:S.length=T.length):d^S.length*(p c*aP (S.map (cy d p c)) T)=p c^S.length*aP (p::S) (c::T):=by
 have cl:=pJ p (p c) (λr=> -r c) (c::T) S [] (by simp;lia);have sc:=nC p d (cy d p c) (c::T) S [] (by simp;lia);have cg:=oF p (λr j=>d*cy d p c r j) (λr j=>p c*r j+(-r c)*p j) (c::T) S λr hr j hj=>by
  have hj':j∈c::cs:=by
   rcases Fh.mp hj with rfl|hj
   .exact Fq
   .exact Fe _ (hT j hj)
  rw[fz h hd hp (hS r hr) hj',II,GV (r j),GV (p j)];lia
 have z:∀r∈S.map (cy d p c),r c=0:=λx hx=>by
  obtain⟨r,hr,rfl⟩:=Fn.mp hx;have e:=fz h hd hp (hS r hr) Fq;rw[GV (p c),I0]at e;rcases JD.mp e with e|e
  .exact absurd e hd
  .exact e
 have f:=yE p (S.map (cy d p c)) c T z;rw[GZ]at cl sc;rw[GZ]at cl sc;rw[<-f,<-sc,cg,cl]
theorem unmap{α β:Type}(f:α->β)(L:List α):∀S:List β,(∀x∈S,x∈L.map f)->∃S0:List α,(∀x∈S0,x∈L)/\S=S0.map f
 | [],_=>⟨[],(λ_ hx=>nomatch hx),rfl⟩
 |y::S,h=>by
  obtain⟨a,ha,e⟩:=Fn.mp (h y Fq);obtain⟨S0,h0,e0⟩:=unmap f L S λx hx=>h x (Fe _ hx);refine⟨a::S0,λx hx=> ?_,by rw[FT,e,e0]⟩;rcases Fh.mp hx with rfl|hx
  .exact ha
  .exact h0 x hx
theorem yx(h:kY d R (c::cs))(hd:d≠0)(hp:p∈R)(ha:p c≠0){L:List Row}(hL:∀r∈L,r∈R):kY (p c) (L.map (cy d p c)) cs:=by
 intro S T k hS hT hs ht;obtain⟨S0,h0,rfl⟩:=unmap _ L S hS;rw[E3]at hs;have rel:=rY h hd hp (λr hr=>hL r (h0 r hr)) hT (show S0.length=T.length by lia);obtain⟨q,hq⟩:=h (p::S0) (c::T) (k+1) (λx hx=>by
  rcases Fh.mp hx with rfl|hx
  .exact hp
  .exact hL x (h0 x hx)) (λx hx=>by
  rcases Fh.mp hx with rfl|hx
  .exact Fq
  .exact Fe _ (hT x hx)) (by simp;lia) (by simp;lia)
 rw[hq,hs]at rel;refine⟨q,?_⟩;have dp:d^(k+1)≠0:=Int.pow_ne_zero hd;have e1:d^(k+1)*(p c*aP (S0.map (cy d p c)) T)=d^(k+1)*(p c*(p c^k*q)):=by rw[rel,JC (p c)];generalize p c^k=u;generalize d^(k+1)=v;simp only[Ht,Iz,GV]
 exact JZ ha (JZ dp e1)
end
theorem mq(r:Row):∀ (cols:List Nat) (R:List Row),R.length+1=cols.length->aP (r::R) cols=bD cols.length λj=>sgn j*(r (cols.getD j 0)*aP R (cols.eraseIdx j))
 | [],R,hl=>by simp at hl
 |c::cs,R,hl=>by
  have hn:R.length=cs.length:=by simpa using hl
  have sp:=eG [] r R c cs;rw[GZ]at sp;rw[sp,FK,iH];have e0:bD ([]:List Row).length (λi=>sgn i*(([]:List Row).getD i rw0 c*aP (([]:List Row).eraseIdx i++r::R) cs))=0:=rfl;rw[e0,FX];refine congr (Fu _ rfl) ?_;have e1:∀j,j<cs.length->sgn (j+1)*(r ((c::cs).getD (j+1) 0)*aP R ((c::cs).eraseIdx (j+1)))=bD R.length λi=>sgn (i+1)*(R.getD i rw0 c*(sgn j*(r (cs.getD j 0)*aP (R.eraseIdx i) (cs.eraseIdx j)))):=λj hj=>by show sgn (j+1)*(r (cs.getD j 0)*bD R.length λi=>sgn i*(R.getD i rw0 c*aP (R.eraseIdx i) (cs.eraseIdx j)))=_;rw[<-Ht,<-dw];refine bI λi _=> ?_;rw[jb,jb,II,II,II];refine Fu (λz:Int=> -z) ?_;generalize aP (R.eraseIdx i) (cs.eraseIdx j)=z;generalize R.getD i rw0 c=y;generalize sgn i=b;generalize sgn j=a;simp only[Ht,Iz,GV]
  rw[bI e1,<-oM (λi j=>sgn (i+1)*(R.getD i rw0 c*(sgn j*(r (cs.getD j 0)*aP (R.eraseIdx i) (cs.eraseIdx j))))) cs.length R.length];refine bI λi hi=> ?_;show sgn (([]:List Row).length+1+i)*(R.getD i rw0 c*aP ([]++r::R.eraseIdx i) cs)=_;rw[GZ,mq r cs (R.eraseIdx i) (by rw[Gd hi];lia),<-Ht,<-dw,show([]:List Row).length+1+i=i+1 by simp;lia];refine bI λj _=> ?_;rw[Ht]
theorem vN{α β:Type}(f:α->β)(l:List α)(j:Nat):(l.map f).eraseIdx j=(l.eraseIdx j).map f:=by
 induction l generalizing j with
 |nil=>rfl
 |cons a l ih=>
  cases j with
  |zero=>rfl
  |succ j=>show f a::(l.map f).eraseIdx j=f a::(l.eraseIdx j).map f;rw[ih]
end Bh
namespace Bh
theorem gq:∀ {n:Nat},(∀i,i<n->m∣f i)->m∣bD n f
 |0,_=>Ij m
 |n+1,h=>Kk (gq λi hi=>h i (by lia)) (h n (by lia))
def Van(m:Int)(k:Nat)(R:List Row)(cs:List Nat):Prop:=∀ (S:List Row) (T:List Nat),(∀r∈S,r∈R)->(∀t∈T,t∈cs)->S.length=k->T.length=k->m∣aP S T
def Mnr(m:Int)(k:Nat)(R:List Row)(cs:List Nat):Prop:=∃ (S:List Row) (T:List Nat),S.Sublist R/\T.Sublist cs/\S.length=k/\T.length=k/\¬m∣aP S T
theorem gb{α:Type}{l:List α}{i:Nat}{x:α}(h:x∈l.eraseIdx i):x∈l:=(List.eraseIdx_sublist l i).subset h
theorem Van.up(h:Van m k R cs):Van m (k+1) R cs:=by
 intro S T hS hT ls lt
 match T,lt with
 |t::T,lt=>
  refine gq λi hi=> ?_;refine FO (FO (h (S.eraseIdx i) T (λr hr=>hS r (gb hr)) (λt ht=>hT t (Fe _ ht)) ?_ ?_))
  .rw[Gd hi];lia
  .simpa using lt
theorem Van.le(h:Van m k R cs):∀ {l:Nat},k<=l->Van m l R cs
 |0,hl=>by rw[show 0=k by lia];exact h
 |l+1,hl=>by
  by_cases e:k=l+1
  .rw[<-e];exact h
  .exact(Van.le h (by lia)).up
theorem Mnr.not_van(h:Mnr m k R cs):¬Van m k R cs:=by obtain⟨S,T,hS,hT,ls,lt,n⟩:=h;exact λv=>n (v S T (λr hr=>hS.subset hr) (λt ht=>hT.subset ht) ls lt)
theorem iU(h:¬Van m k R cs)(v:Van m (l+1) R cs):k<=l:=by
 by_cases e:k<=l
 .exact e
 .exact absurd (v.le (show l+1<=k by lia)) h
theorem xp(h:¬Van m k R cs)(v:Van m (k+1) R cs)(h':¬Van m l R cs)(v':Van m (l+1) R cs):k=l:=by have:=iU h v';have:=iU h' v;lia
theorem qA(hm:¬m∣1)(R:List Row)(cs:List Nat):Mnr m 0 R cs:=⟨[],[],J9 _,J9 _,rfl,rfl,hm⟩
theorem qz(m:Int)(R:List Row):Van m 1 R []:=λS T _ hT _ lt=>by
 match T,lt with
 |t::T,_=>exact absurd (hT t Fq) (λh=>nomatch h)
theorem w9:∀ (T:List Nat) (S:List Row),c∈T->(∀r∈S,m∣r c)->m∣aP S T
 |t::T,S,hc,h=>by
  refine gq λi hi=> ?_;by_cases e:t=c
  .subst e;have e3:S.getD i rw0=S[i]:=by simp[hi]
   rw[e3];exact FO (Jc (h _ (Gj hi)))
  .have:c∈T:=by
    rcases Fh.mp hc with rfl|h
    .exact absurd rfl e
    .exact h
   exact FO (FO (w9 T (S.eraseIdx i) this λr hr=>h r (gb hr)))
theorem Cn{S:List Row}{T:List Nat}(hr:r∈S)(hl:S.length=T.length)(h:∀t∈T,m∣r t):m∣aP S T:=by
 obtain⟨A,B,rfl⟩:=List.append_of_mem hr;have mv:=ic r T A [] B (by simp at hl⊢;lia);rw[GZ,GZ]at mv;rw[mv,mq r T (A++B) (by simp at hl⊢;lia)];refine FO (gq λj hj=>FO (Jc ?_));have e:T.getD j 0=T[j]:=by simp[hj]
 rw[e];exact h _ (Gj hj)
theorem iV(hc:∀r∈R,m∣r c)(h:Van m k R cs):Van m k R (c::cs):=by
 intro S T hS hT ls lt;by_cases e:c∈T
 .exact w9 T S e λr hr=>hc r (hS r hr)
 .refine h S T hS (λt ht=> ?_) ls lt;rcases Fh.mp (hT t ht)with rfl|h
  .exact absurd ht e
  .exact h
theorem rV(h:Mnr m k R cs):Mnr m k R (c::cs):=by obtain⟨S,T,hS,hT,ls,lt,n⟩:=h;exact⟨S,T,hS,hT.trans (List.sublist_cons_self c cs),ls,lt,n⟩
theorem wI{T:List Nat}{A B:List Row}(hl:A.length+1+B.length=T.length)(h:∀j∈T,a*r j=d*s j+b*p j):a*aP (A++r::B) T=d*aP (A++s::B) T+b*aP (A++p::B) T:=by
 rw[<-pI a r T A B hl,<-jG d b s p T A B (λz=>by rw[z]at hl;simp at hl) hl];refine gs T _ _ (by simp) λi j hj=> ?_;by_cases h1:i<A.length
 .rw[gc h1,gc h1]
 .obtain⟨k,rfl⟩:∃k,i=A.length+k:=⟨i-A.length,by lia⟩;rw[dQ,dQ];cases k with
  |zero=>exact h j hj
  |succ k=>rfl
theorem kO(hm:∀x y:Int,m∣x*y->m∣x\/m∣y)(h1:¬m∣1)(ha:¬m∣a):∀k:Nat,¬m∣a^k
 |0=>by rw[J8];exact h1
 |k+1=>λh=>by
  rw[JC]at h;rcases hm _ _ h with h|h
  .exact kO hm h1 ha k h
  .exact ha h
section
variable{m d:Int}{R:List Row}{c:Nat}{cs:List Nat}{p:Row}
theorem mz(hm:∀x y:Int,m∣x*y->m∣x\/m∣y)(h:kY d R (c::cs))(hd:d≠0)(hR:R=A++p::B)(ha:¬m∣p c)(v:Van m k ((A++B).map (cy d p c)) cs):Van m (k+1) R (c::cs):=by
 have hp:p∈R:=by rw[hR];simp
 have ex:∀r∈R,∀j∈c::cs,p c*r j=d*cy d p c r j+r c*p j:=λr hr j hj=>by rw[fz h hd hp hr hj,GV (r c),GV (r j)];lia
 have zc:∀r∈R,cy d p c r c=0:=λr hr=>by
  have e:=fz h hd hp hr Fq;rw[GV (p c),I0]at e;rcases JD.mp e with e|e
  .exact absurd e hd
  .exact e
 have zp:∀j∈c::cs,cy d p c p j=0:=λj hj=>by
  have e:=fz h hd hp hp hj;rw[I0]at e;rcases JD.mp e with e|e
  .exact absurd e hd
  .exact e
 have v2:Van m k (R.map (cy d p c)) (c::cs):=by
  refine iV (λr hr=> ?_) λS T hS hT ls lt=> ?_
  .obtain⟨x,hx,rfl⟩:=Fn.mp hr;rw[zc x hx];exact Ij m
  .by_cases z:∃s∈S,∀j∈T,m∣s j
   .obtain⟨s,hs,hz⟩:=z;exact Cn hs (by lia) hz
   .refine v S T (λs hs=> ?_) hT ls lt;obtain⟨x,hx,rfl⟩:=Fn.mp (hS s hs);refine Fn.mpr ⟨x,?_,rfl⟩;have hx2:=hx;rw[hR]at hx2;rcases FE.mp hx2 with h1|h1
    .exact FE.mpr (.inl h1)
    .rcases Fh.mp h1 with e|h1
     .refine absurd ⟨_,hs,λj hj=> ?_⟩ z;rw[e,zp j (Fe _ (hT j hj))];exact Ij m
     .exact FE.mpr (.inr h1)
 have pull:∀x:Int,m∣p c*x->m∣x:=λx hx=>(hm _ _ hx).resolve_left ha;have exT:∀ {r:Row} {T:List Nat},r∈R->(∀t∈T,t∈c::cs)->∀j∈T,p c*r j=d*cy d p c r j+r c*p j:=λhr hT j hj=>ex _ hr j (hT j hj);have cl2:∀ (S pre:List Row) (T:List Nat),(∀r∈pre,r∈R.map (cy d p c))->(∀r∈S,r∈R)->(∀t∈T,t∈c::cs)->pre.length+S.length=k->T.length=k+1->m∣aP (p::(pre++S)) T:=by
  intro S
  induction S with
  |nil=>
   intro pre T hp' _ hT hl lt;rw[GX,mq p T pre (by simp at hl;lia)];refine gq λj hj=>FO (FO (v2 pre (T.eraseIdx j) hp' (λt ht=>hT t (gb ht)) (by simpa using hl) ?_));rw[Gd hj];lia
  |cons r S ih=>
   intro pre T hp' hS hT hl lt;simp only[FK]at hl;have e:=wI (A:=p::pre) (B:=S) (by simp only[FK];lia) (exT (hS r Fq) hT);have e0:aP ((p::pre)++p::S) T=0:=tZ p T pre S (by lia);rw[e0,J7,J6]at e;refine pull _ ?_;show m∣p c*aP ((p::pre)++r::S) T;rw[e];refine FO ?_;have:=ih (pre++[cy d p c r]) T (λx hx=>by
    rcases FE.mp hx with hx|hx
    .exact hp' x hx
    .rw[FI.mp hx];exact Il (hS r Fq)) (λx hx=>hS x (Fe _ hx)) hT (by simp;lia) lt
   rw[GN]at this;exact this
 have cl1:∀ (S pre:List Row) (T:List Nat),(∀r∈pre,r∈R.map (cy d p c))->(∀r∈S,r∈R)->(∀t∈T,t∈c::cs)->pre.length+S.length=k+1->T.length=k+1->m∣aP (pre++S) T:=by
  intro S
  induction S with
  |nil=>
   intro pre T hp' _ hT hl lt;rw[GX];exact v2.up pre T hp' hT (by simpa using hl) lt
  |cons r S ih=>
   intro pre T hp' hS hT hl lt;simp only[FK]at hl;have e:=wI (A:=pre) (B:=S) (by lia) (exT (hS r Fq) hT);refine pull _ ?_;rw[e];refine Kk (FO ?_) (FO ?_)
   .have:=ih (pre++[cy d p c r]) T (λx hx=>by
     rcases FE.mp hx with hx|hx
     .exact hp' x hx
     .rw[FI.mp hx];exact Il (hS r Fq)) (λx hx=>hS x (Fe _ hx)) hT (by simp;lia) lt
    rw[GN]at this;exact this
   .have mv:=ic p T pre [] S (by simp;lia);rw[GZ,GZ]at mv;rw[mv];exact FO (cl2 S pre T hp' (λx hx=>hS x (Fe _ hx)) hT (by lia) lt)
 intro S T hS hT ls lt;have:=cl1 S [] T (λx hx=>nomatch hx) hS hT (by simpa using ls) lt
 rwa [GZ]at this
theorem mI(hm:∀x y:Int,m∣x*y->m∣x\/m∣y)(h1:¬m∣1)(h:kY d R (c::cs))(hd:d≠0)(hd':¬m∣d)(hR:R=A++p::B)(ha:¬m∣p c)(v:Mnr m k ((A++B).map (cy d p c)) cs):Mnr m (k+1) R (c::cs):=by
 have hp:p∈R:=by rw[hR];simp
 obtain⟨S,T,hS,hT,ls,lt,n⟩:=v;obtain⟨S0,hS0,rfl⟩:=JE.mp hS;obtain⟨A',B',rfl,hA,hB⟩:=List.sublist_append_iff.mp hS0;rw[E3]at ls;have hSR:∀r∈A'++B',r∈R:=λr hr=>by
  rw[hR];rcases FE.mp hr with hr|hr
  .exact FE.mpr (.inl (hA.subset hr))
  .exact FE.mpr (.inr (Fe _ (hB.subset hr)))
 have rel:=rY h hd hp hSR (λt ht=>hT.subset ht) (show(A'++B').length=T.length by lia);refine⟨A'++p::B',c::T,?_,hT.cons_cons c,by simp at ls⊢;lia,by simp;lia,λz=> ?_⟩
 .rw[hR];exact hA.append (hB.cons_cons p)
 .have mv:=ic p (c::T) A' [] B' (by simp at ls⊢;lia);rw[GZ,GZ]at mv;rw[mv]at z;have z2:m∣aP (p::(A'++B')) (c::T):=by
   have:m∣sgn A'.length*(sgn A'.length*aP (p::(A'++B')) (c::T)):=FO z
   rwa [<-Ht,Dd,Hl]at this
  have z3:m∣d^(A'++B').length*(p c*aP ((A'++B').map (cy d p c)) T):=by rw[rel];exact FO z2
  rcases hm _ _ z3 with q|q
  .exact kO hm h1 hd' _ q
  .rcases hm _ _ q with q|q
   .exact ha q
   .exact n q
end
theorem ro:∀ (cols:List Nat) (R R':List Row),R.length=R'.length->(∀i j,j∈cols->m∣R.getD i rw0 j-R'.getD i rw0 j)->m∣aP R cols-aP R' cols
 | [],_,_,_,_=>by show m∣(1:Int) -1;exact Ij m
 |c::cs,R,R',hl,h=>by
  show m∣bD R.length _-bD R'.length _;rw[<-hl];have e:∀f g:Nat->Int,bD R.length f-bD R.length g=bD R.length λi=>f i+(-1)*g i:=λf g=>by rw[gU,dw];lia
  rw[e];refine gq λi hi=> ?_;have h1:=h i c Fq;have h2:m∣aP (R.eraseIdx i) cs-aP (R'.eraseIdx i) cs:=ro cs (R.eraseIdx i) (R'.eraseIdx i) (by rw[Gd hi,Gd (by lia),hl]) λk j hj=>by
   rw[Ff,Ff,Iv,Iv];by_cases hk:k<i
   .rw[E9 hk,E9 hk,<-Ff,<-Ff];exact h k j (Fe _ hj)
   .rw[Fg hk,Fg hk,<-Ff,<-Ff];exact h (k+1) j (Fe _ hj)
  generalize R.getD i rw0 c=x at*;generalize R'.getD i rw0 c=x' at*;generalize aP (R.eraseIdx i) cs=y at*;generalize aP (R'.eraseIdx i) cs=y' at*;have:sgn i*(x*y)+ -1*(sgn i*(x'*y'))=sgn i*((x-x')*y+x'*(y-y')):=by rw[Int.sub_mul,Int.mul_sub,show x*y-x'*y+(x'*y-x'*y')=x*y-x'*y' by lia,Int.mul_sub];lia
  rw[this];exact FO (Kk (Jc h1) (FO h2))
theorem tH{S:List Row}(h:∀r∈S,m∣f r j-r j):m∣(S.map f).getD i rw0 j-S.getD i rw0 j:=by
 rw[Ff,Ff,Fm];cases e:S[i]? with
 |none=>show m∣rw0 j-rw0 j;rw[I0];exact Ij m
 |some r=>exact h r (E7 e)
theorem vQ{m a b:Int}(h:m∣a-b)(hb:m∣b):m∣a:=by
 have:=Kk h hb
 rwa [Int.sub_add_cancel]at this
theorem tW{m a b:Int}(h:m∣a-b)(ha:m∣a):m∣b:=by
 have:=Int.dvd_sub ha h
 rwa [show a- (a-b)=b by lia]at this
section
variable{m:Int}{k:Nat}{R:List Row}{cs:List Nat}{f:Row->Row}
theorem Br(h:∀r∈R,∀j∈cs,m∣f r j-r j)(v:Van m k (R.map f) cs):Van m k R cs:=by
 intro S T hS hT ls lt;have:=v (S.map f) T (λr hr=>by obtain⟨x,hx,rfl⟩:=Fn.mp hr;exact Il (hS x hx)) hT (by rw[E3];exact ls) lt
 exact tW (ro T (S.map f) S (E3 _) λi j hj=>tH λr hr=>h r (hS r hr) j (hT j hj)) this
theorem BB(h:∀r∈R,∀j∈cs,m∣f r j-r j)(v:Mnr m k (R.map f) cs):Mnr m k R cs:=by obtain⟨S,T,hS,hT,ls,lt,n⟩:=v;obtain⟨S0,hS0,rfl⟩:=JE.mp hS;rw[E3]at ls;refine⟨S0,T,hS0,hT,ls,lt,λz=>n ?_⟩;exact vQ (ro T (S0.map f) S0 (E3 _) λi j hj=>tH λr hr=>h r (hS0.subset hr) j (hT.subset hj)) z
end
theorem nD(f:Nat->Nat):∀ (T:List Nat) (S:List Row),aP (S.map λr j=>r (f j)) T=aP S (T.map f)
 | [],_=>rfl
 |t::T,S=>by
  show bD (S.map _).length _=bD S.length _;rw[E3];refine bI λi hi=> ?_;rw[vN,nD f T];have e:(S.map λr j=>r (f j)).getD i rw0 t=S.getD i rw0 (f t):=by rw[Ff,Ff,Fm,Fs hi];rfl
  rw[e]
theorem o5{R R':List Row}{f:Nat->Nat}{T:List Nat}:∀ (S:List Row),(∀r∈S,r∈R')->(∀r∈R',∃r0∈R,∀j∈T,r j=r0 (f j))->∃S0:List Row,(∀r∈S0,r∈R)/\S0.length=S.length/\∀i j,j∈T->S.getD i rw0 j=(S0.map λr j=>r (f j)).getD i rw0 j
 | [],_,_=>⟨[],(λ_ h=>nomatch h),rfl,λ_ _ _=>rfl⟩
 |r::S,hS,h=>by
  obtain⟨S0,h1,h2,h3⟩:=o5 S (λx hx=>hS x (Fe _ hx)) h;obtain⟨r0,g1,g2⟩:=h r (hS r Fq);refine⟨r0::S0,λx hx=> ?_,by simp[h2],λi j hj=> ?_⟩
  .rcases Fh.mp hx with rfl|hx
   .exact g1
   .exact h1 x hx
  .cases i with
   |zero=>exact g2 j hj
   |succ i=>exact h3 i j hj
theorem mw{m:Int}{k:Nat}{R R':List Row}{cs cs':List Nat}{f:Nat->Nat}(hc:∀j∈cs',f j∈cs)(hr:∀r∈R',∃r0∈R,∀j∈cs',r j=r0 (f j))(v:Van m k R cs):Van m k R' cs':=by
 intro S T hS hT ls lt;obtain⟨S0,h1,h2,h3⟩:=o5 (T:=T) S hS λr h=>by obtain⟨r0,g1,g2⟩:=hr r h;exact⟨r0,g1,λj hj=>g2 j (hT j hj)⟩
 rw[gs T S (S0.map λr j=>r (f j)) (by rw[E3,h2]) h3,nD];refine v S0 (T.map f) h1 (λt ht=> ?_) (by lia) (by rw[E3];exact lt);obtain⟨j,hj,rfl⟩:=Fn.mp ht;exact hc j (hT j hj)
section
variable{l u:Nat->Nat->Int}{r:Nat}
end
end Bh
namespace Bh
structure cD(m:Int):Prop where
 nn:0<=m
 lt:m<128
 one:¬m∣1
 mul:∀x y:Int,m∣x*y->m∣x\/m∣y
theorem vc:cD 0:=⟨by decide,by decide,by decide,λx y h=>by
 have h:=JF.mp h;rcases JD.mp h with h|h
 .exact .inl (JF.mpr h)
 .exact .inr (JF.mpr h)⟩
theorem xM{p:Nat}(h2:2<=p)(hl:p<128)(hp:∀d,d<p+1->d∣p->d=1\/d=p):cD (p:Int):=⟨by lia,by lia,λh=>by
 have:=Int.le_of_dvd (by decide) h;lia,λx y h=>by
 have h3:p∣x.natAbs*y.natAbs:=by rw[<-Int.natAbs_mul];exact JM.mp h
 by_cases e:p∣x.natAbs
 .exact .inl (JM.mpr e)
 .refine .inr (JM.mpr ?_);have g:Nat.gcd p x.natAbs=1:=by
   rcases hp _ (Nat.lt_succ_of_le (Nat.le_of_dvd (by lia) (Nat.gcd_dvd_left p x.natAbs))) (Nat.gcd_dvd_left p x.natAbs)with g|g
   .exact g
   .exact absurd (g▸Nat.gcd_dvd_right p x.natAbs) e
  exact Nat.Coprime.dvd_of_dvd_mul_left g h3⟩
def wQ:List Nat:=[2,3,5,7,11,13,17,19,23,29,31,37,41,43,47,53,59,61,67,71,73,79,83,89,97]
theorem iK:∀p∈wQ,cD (p:Int):=by
 have h:∀p∈wQ,2<=p/\p<128/\∀d,d<p+1->d∣p->d=1\/d=p:=by decide+kernel
 exact λp hp=>xM (h p hp).1 (h p hp).2.1 (h p hp).2.2
theorem uZ{α:Type}(l:List α)(d:α):(List.range l.length).map (λi=>l.getD i d)=l:=by
 refine List.ext_getElem? λi=> ?_;rw[Fm];by_cases h:i<l.length
 .rw[Gi h,Fs h];simp[h]
 .rw[List.getElem?_eq_none (by simp;lia),List.getElem?_eq_none (by lia)];rfl
end Bh
namespace Bh
theorem uJ{R:List Row}{J:List Nat}(hg:∀r∈R,∀j,j<J.length->g r j=r (J.getD j 0)):Van m k (R.map g) (List.range J.length)↔Van m k R J:=by
 constructor
 .refine mw (f:=λt=>J.idxOf t) (λt ht=>Fl.mpr (JN ht)) λr hr=>⟨g r,Il hr,λt ht=> ?_⟩;have h:=JN ht;rw[hg r hr _ h];have:J.getD (J.idxOf t) 0=t:=by rw[Ff,Fs h,List.getElem_idxOf];rfl
  rw[this]
 .refine mw (f:=λj=>J.getD j 0) (λj hj=> ?_) λx hx=> ?_
  .have hj:=Fl.mp hj;have:J.getD j 0=J[j]:=by simp[hj]
   rw[this];exact Gj hj
  .obtain⟨r,hr,rfl⟩:=Fn.mp hx;exact⟨r,hr,λj hj=>hg r hr j (Fl.mp hj)⟩
theorem vy{R:List Row}{J:List Nat}(hg:∀r∈R,∀j,j<J.length->g r j=r (J.getD j 0))(h:Mnr m k (R.map g) (List.range J.length)):Mnr m k R J:=by
 obtain⟨S,T,hS,hT,ls,lt,n⟩:=h;obtain⟨S0,hS0,rfl⟩:=JE.mp hS;rw[E3]at ls;refine⟨S0,T.map λj=>J.getD j 0,hS0,?_,ls,by rw[E3];exact lt,λz=>n ?_⟩
 .have:=hT.map (λj=>J.getD j 0)
  rwa [uZ]at this
 .rw[<-nD]at z;rw[gs T (S0.map g) (S0.map λr j=>r (J.getD j 0)) (by simp) λi j hj=> ?_]
  .exact z
  .rw[Ff,Ff,Fm,Fm];cases e:S0[i]? with
   |none=>rfl
   |some r=>exact hg r (hS0.subset (E7 e)) j (Fl.mp (hT.subset hj))
theorem yD(a b c:Row)(i j k:Nat):aP [a,b,c] [i,j,k]=a i*(b j*c k-b k*c j) -a j*(b i*c k-b k*c i)+a k*(b i*c j-b j*c i):=by have e1:=jE b c j k;have e2:=jE b c i k;have e3:=jE b c i j;have h:=mq a [i,j,k] [b,c] rfl;rw[h];show 0+sgn 0*(a i*aP [b,c] [j,k])+sgn 1*(a j*aP [b,c] [i,k])+sgn 2*(a k*aP [b,c] [i,j])=_;rw[e1,e2,e3,GV (c j) (b k),GV (c i) (b k),GV (c i) (b j)];show 0+1*_+(-1)*_+1*_=_;lia
end Bh
namespace Bh
def RkV(m:Int)(R:List Row)(cs:List Nat)(r:Nat):Prop:=Van m (r+1) R cs/\¬Van m r R cs
theorem lP(h:∀j∈cs',j∈cs)(v:Van m k R cs):Van m k R cs':=
 mw (f:=id) h (λr hr=>⟨r,hr,λ_ _=>rfl⟩) v
theorem RkV.mem(h:∀j,j∈cs↔j∈cs')(v:RkV m R cs r):RkV m R cs' r:=
 ⟨lP (λj hj=>(h j).mpr hj) v.1,λz=>v.2 (lP (λj hj=>(h j).mp hj) z)⟩
theorem RkV.one(h:RkV m R cs r)(h':RkV m R cs r'):r=r':=xp h.2 h.1 h'.2 h'.1
theorem RkV.zeroC(hc:∀x∈R,m∣x c)(h:RkV m R cs r):RkV m R (c::cs) r:=
 ⟨iV hc h.1,λz=>h.2 (lP (λj hj=>Fe _ hj) z)⟩
theorem pL(m:Int)(c:Nat)(R:List Row):(∀x∈R,m∣x c)\/∃p A B,R=A++p::B/\¬m∣p c:=by
 by_cases h:∀x∈R,m∣x c
 .exact .inl h
 .obtain⟨p,hp⟩:=JA.mp h;obtain⟨hp,hn⟩:=JW.mp hp;obtain⟨A,B,e⟩:=List.append_of_mem hp;exact .inr ⟨p,A,B,e,hn⟩
theorem gQ(hm:cD m):∀ (cs:List Nat) (R:List Row),∃r,Van m (r+1) R cs/\Mnr m r R cs
 | [],R=>⟨0,qz m R,qA hm.one R []⟩
 |c::cs,R=>by
  rcases pL m c R with h|⟨p,A,B,e,hn⟩
  .obtain⟨r,h1,h2⟩:=gQ hm cs R;exact⟨r,iV h h1,rV h2⟩
  .obtain⟨r,h1,h2⟩:=gQ hm cs ((A++B).map (cy 1 p c));exact⟨r+1,mz hm.mul (gm R (c::cs)) (by decide) e hn h1,mI hm.mul hm.one (gm R (c::cs)) (by decide) hm.one e hn h2⟩
theorem RkV.pivot(hm:cD m)(e:R=A++p::B)(hn:¬m∣p c)(h:RkV m ((A++B).map (cy 1 p c)) cs r):RkV m R (c::cs) (r+1):=by obtain⟨r',h1,h2⟩:=gQ hm cs ((A++B).map (cy 1 p c));have:r=r':=h.one ⟨h1,h2.not_van⟩;subst this;exact⟨mz hm.mul (gm R (c::cs)) (by decide) e hn h1,(mI hm.mul hm.one (gm R (c::cs)) (by decide) hm.one e hn h2).not_van⟩
open Classical in
noncomputable def rho(m:Int)(R:List Row)(cs:List Nat):Nat:=if h:∃r,RkV m R cs r then Classical.choose h else 0
theorem jT(hm:cD m)(R:List Row)(cs:List Nat):RkV m R cs (rho m R cs):=by
 have h:∃r,RkV m R cs r:=by obtain⟨r,h1,h2⟩:=gQ hm cs R;exact⟨r,h1,h2.not_van⟩
 unfold rho;rw[dif_pos h];exact Classical.choose_spec h
theorem jU(hm:cD m)(h:RkV m R cs r):rho m R cs=r:=(jT hm R cs).one h
theorem lT(hm:cD m)(h:∀j,j∈cs↔j∈cs'):rho m R cs=rho m R cs':=jU hm ((jT hm R cs').mem λj=>(h j).symm)
theorem De(hm:cD m)(h:∀j∈cs,j∈cs'):rho m R cs<=rho m R cs':=
 iU (λz=>(jT hm R cs).2 (lP h z)) (jT hm R cs').1
theorem lU(hm:cD m)(c:Nat)(R:List Row):(∀cs,rho m R (c::cs)=rho m R cs)\/∃R',∀cs,rho m R (c::cs)=rho m R' cs+1:=by
 rcases pL m c R with h|⟨p,A,B,e,hn⟩
 .exact .inl λcs=>jU hm ((jT hm R cs).zeroC h)
 .exact .inr ⟨(A++B).map (cy 1 p c),λcs=>jU hm ((jT hm _ cs).pivot hm e hn)⟩
theorem jd(hm:cD m)(R:List Row):rho m R []=0:=jU hm ⟨qz m R,λz=>hm.one (z [] [] (by simp) (by simp) rfl rfl)⟩
theorem sG(hm:cD m)(R:List Row)(j c:Nat)(cs:List Nat):rho m R (j::c::cs)=rho m R (c::j::cs):=lT hm λx=>by rw[Fh,Fh,Fh,Fh];exact⟨λh=>by rcases h with h|h|h;exact .inr (.inl h);exact .inl h;exact .inr (.inr h),λh=>by rcases h with h|h|h;exact .inr (.inl h);exact .inl h;exact .inr (.inr h)⟩
theorem mU(hm:cD m)(k:Nat):∀ (cs:List Nat) (R:List Row),rho m R (k::cs)<=rho m R cs+1
 | [],R=>by
  rcases lU hm k R with h|⟨R',h⟩
  .rw[h];lia
  .rw[h,jd hm,jd hm];lia
 |c::cs,R=>by
  rw[sG hm];rcases lU hm c R with h|⟨R',h⟩
  .rw[h,h];exact mU hm k cs R
  .rw[h,h];have:=mU hm k cs R';lia
theorem qL(hm:cD m)(j k:Nat):∀ (cs:List Nat) (R:List Row),rho m R (j::cs)=rho m R cs->rho m R (k::cs)=rho m R cs->rho m R (k::j::cs)=rho m R cs
 | [],R,h1,h2=>by
  rcases lU hm k R with h|⟨R',h⟩
  .rw[h];exact h1
  .rw[h,jd hm,jd hm]at h2;cases h2
 |c::cs,R,h1,h2=>by
  rw[sG hm]at h1 h2;have e:rho m R (k::j::c::cs)=rho m R (c::k::j::cs):=lT hm λx=>by rw[Fh,Fh,Fh,Fh,Fh,Fh];exact⟨λh=>by rcases h with h|h|h|h;exact .inr (.inl h);exact .inr (.inr (.inl h));exact .inl h;exact .inr (.inr (.inr h)),λh=>by rcases h with h|h|h|h;exact .inr (.inr (.inl h));exact .inl h;exact .inr (.inl h);exact .inr (.inr (.inr h))⟩
  rw[e];rcases lU hm c R with h|⟨R',h⟩
  .rw[h,h]at h1 h2;rw[h,h];exact qL hm j k cs R h1 h2
  .rw[h,h]at h1 h2;rw[h,h,qL hm j k cs R' (by lia) (by lia)]
def dW(s:Nat):List Nat:=(List.range 8).filter s.testBit
theorem dF{s k:Nat}:k∈dW s↔k<8/\s.testBit k=true:=by unfold dW;rw[FH,Fl]
theorem t7(hk:k<8)(j:Nat):j∈dW (s|||2^k)↔j∈k::dW s:=by
 rw[Fh,dF,dF,GG,Gq,Jx,F7];constructor
 .rintro⟨h1,h2|h2⟩
  .exact .inr ⟨h1,h2⟩
  .exact .inl h2.symm
 .rintro(rfl|⟨h1,h2⟩)
  .exact⟨hk, .inr rfl⟩
  .exact⟨h1, .inl h2⟩
noncomputable def fC(m:Int)(R:List Row)(s:Nat):Nat:=rho m R (dW s)
theorem qM(hm:cD m)(hk:k<8):fC m R (s|||2^k)=rho m R (k::dW s):=lT hm (t7 hk)
theorem sH(hm:cD m)(R:List Row)(n8:n<=8):Mat n (fC m R) where
 n8:=n8
 zero:=by
  have e:dW 0=[]:=List.filter_eq_nil_iff.mpr λk _=>by rw[Hc];exact Fo
  unfold fC;rw[e];exact jd hm R
 step:=λs k _ hk=>by rw[qM hm (by lia)];exact⟨De hm λj hj=>Fe _ hj,mU hm k _ R⟩
 sub:=λs j k _ hj hk h1 h2=>by
  rw[qM hm (by lia)]at h1 h2;have e:fC m R (s|||2^j|||2^k)=rho m R (k::j::dW s):=(qM hm (by lia)).trans (lT hm λx=>by rw[Fh,t7 (by lia),Fh,Fh,Fh])
  rw[e];exact qL hm j k _ R h1 h2
theorem BI(hm:cD m)(h1:Van m (r+1) R (dW s))(h2:Mnr m r R (dW s)):fC m R s=r:=jU hm ⟨h1,h2.not_van⟩
end Bh
namespace Bh
def tG(a b:Int):Int:=if b<a then b else a
def vx(hs:List Int)(x y:Nat):List Int:=hs.map λh=>if h=hs.getD x 0\/h=hs.getD y 0 then tG (hs.getD x 0) (hs.getD y 0)else h
theorem hV(hs:List Int)(x y:Nat):(vx hs x y).length=hs.length:=E3 ..
theorem hW{hs:List Int}(hz:z<hs.length):(vx hs x y).getD z 0=if hs.getD z 0=hs.getD x 0\/hs.getD z 0=hs.getD y 0 then tG (hs.getD x 0) (hs.getD y 0)else hs.getD z 0:=by
 have e:hs.getD z 0=hs[z]:=by simp[hz]
 have e2:(vx hs x y).getD z 0=(vx hs x y)[z]'(by rw[hV];exact hz):=by simp[hV,hz]
 rw[e2,e];unfold vx;rw[List.getElem_map]
structure Hds(p:Nat)(ms hs:List Int):Prop where
 len:hs.length=p
 lenM:ms.length=p
 ker:∀i j,i<p->j<p->(ms.getD i 0=ms.getD j 0↔hs.getD i 0=hs.getD j 0)
 low:∀i,i<p->∃k:Nat,hs.getD i 0=(k:Int)/\k<=i/\hs.getD k 0=(k:Int)
theorem Hds.start(p:Nat):Hds p (start p) (start p):=by
 have l:(Bh.start p).length=p:=by simp[Bh.start]
 have g:∀i,i<p->(Bh.start p).getD i 0=(i:Int):=λi hi=>by simp[Bh.start,hi]
 exact⟨l,l,λi j _ _=>Iff.rfl,λi hi=>⟨i,g i hi,Fj _,g i hi⟩⟩
theorem Hds.step(h:Hds p ms hs)(hx:x<p)(hy:y<p):Hds p (mrg ms x y) (vx hs x y):=by
 refine⟨by rw[hV];exact h.len,by rw[fE];exact h.lenM,λi j hi hj=> ?_,λi hi=> ?_⟩
 .rw[fR (by rw[h.lenM];exact hi),fR (by rw[h.lenM];exact hj),hW (by rw[h.len];exact hi),hW (by rw[h.len];exact hj)];have k1:=h.ker i x hi hx;have k2:=h.ker i y hi hy;have k3:=h.ker j x hj hx;have k4:=h.ker j y hj hy;have k5:=h.ker i j hi hj;have k6:=h.ker x y hx hy;generalize ms.getD i 0=mi at*;generalize ms.getD j 0=mj at*;generalize ms.getD x 0=mx at*;generalize ms.getD y 0=my at*;generalize hs.getD i 0=hi' at*;generalize hs.getD j 0=hj' at*;generalize hs.getD x 0=hx' at*;generalize hs.getD y 0=hy' at*;unfold tG;by_cases c1:mi=mx<;>by_cases c2:mj=mx<;>by_cases c3:hi'=hx'\/hi'=hy'<;>by_cases c4:hj'=hx'\/hj'=hy'<;>(first|rw[E9 c1]|rw[Fg c1])<;>(first|rw[E9 c2]|rw[Fg c2])<;>(first|rw[E9 c3]|rw[Fg c3])<;>(first|rw[E9 c4]|rw[Fg c4])<;>(try split)<;>lia
 .obtain⟨k,e1,e2,e3⟩:=h.low i hi;obtain⟨a,a1,a2,a3⟩:=h.low x hx;obtain⟨b,b1,b2,b3⟩:=h.low y hy;have em:tG (hs.getD x 0) (hs.getD y 0)=((min a b:Nat):Int):=by rw[a1,b1];unfold tG;split<;>lia
  rw[hW (by rw[h.len];exact hi),em,a1,b1,e1];by_cases c:(k:Int)=(a:Int)\/(k:Int)=(b:Int)
  .refine⟨min a b,by rw[E9 c],by lia,?_⟩;rw[hW (by rw[h.len];lia),em,a1,b1,E9];rcases Nat.le_total a b with l|l
   .rw[IL l];exact .inl a3
   .rw[Jj l];exact .inr b3
  .refine⟨k,by rw[Fg c],e2,?_⟩;rw[hW (by rw[h.len];lia),a1,b1,e3,Fg c]
theorem nF(h:∀i j,i<p->j<p->(v i=v j↔w i=w j)):∀i,i<=p->gF v i=gF w i
 |0,_=>rfl
 |i+1,hi=>by
  have ih:=nF h i (by lia);by_cases c:∃j,j<i/\v j=v i
  .obtain⟨j,hj,e⟩:=c;rw[jH ⟨j,hj,e⟩,jH ⟨j,hj,(h j i (by lia) (by lia)).mp e⟩,ih]
  .rw[ie c,ie λ⟨j,hj,e⟩=>c ⟨j,hj,(h j i (by lia) (by lia)).mpr e⟩,ih]
def Ad(hs:List Int)(i:Nat):Nat:=((List.range i).filter λk=>decide (hs.getD k 0=(k:Int))).length
theorem Hds.own{ms hs:List Int}(h:Hds p ms hs):∀i,i<=p->gF (λk=>hs.getD k 0) i=Ad hs i
 |0,_=>rfl
 |i+1,hi=>by
  have ih:=h.own i (by lia);have e:Ad hs (i+1)=Ad hs i+if hs.getD i 0=(i:Int)then 1 else 0:=by
   unfold Ad;rw[GA,Hj,Fw];by_cases c:hs.getD i 0=(i:Int)
   .rw[E9 c,Kc (p:=λk:Nat=>decide (hs.getD k 0=(k:Int))) (E6 c)];rfl
   .rw[Fg c,Ke (p:=λk:Nat=>decide (hs.getD k 0=(k:Int))) λz=>c (Fi z)];rfl
  rw[e];obtain⟨k,e1,e2,e3⟩:=h.low i (by lia);by_cases c:hs.getD i 0=(i:Int)
  .refine(ie λ⟨j,hj,ej⟩=> ?_).trans (by rw[E9 c,ih]);obtain⟨k',f1,f2,_⟩:=h.low j (by lia);have:(k':Int)=(i:Int):=by rw[<-f1,<-c];exact ej
   lia
  .refine(jH ⟨k,?_,?_⟩).trans (by rw[Fg c,ih];rfl)
   .have:k≠i:=λz=>c (by rw[e1,z]);lia
   .show hs.getD k 0=hs.getD i 0;rw[e3,e1]
theorem Hds.count{ms hs:List Int}(h:Hds p ms hs):gF (λk=>ms.getD k 0) p=Ad hs p:=by rw[<-h.own p (Fj _)];exact nF (λi j hi hj=>h.ker i j hi hj) p (Fj _)
def vz(p:Nat)(ts:List (Nat×Nat))(s i:Nat):List Int:=rg p ts (((List.range i).filter s.testBit).map λk:Nat=>(k:Int))
theorem yd(p:Nat)(ts:List (Nat×Nat))(s i:Nat):vz p ts s (i+1)=if s.testBit i=true then mrg (vz p ts s i) (ts.getD i (0,0)).1 (ts.getD i (0,0)).2 else vz p ts s i:=by
 unfold vz;rw[GA,Hj,FW];by_cases c:s.testBit i=true
 .rw[E9 c,Kc c,List.filter_nil];exact(o8 p ts _ _).trans (by rw[E4])
 .rw[Fg c,Ke c,List.filter_nil,Ig,GX]
theorem mV{s n:Nat}(h8:n<=8)(hs:s<2^n):(List.range n).filter s.testBit=(List.range 8).filter s.testBit:=by
 have e:List.range 8=List.range n++(List.range (8-n)).map (n+ ·):=by rw[<-List.range_add,Nat.add_sub_cancel' h8]
 rw[e,Hj];have z:((List.range (8-n)).map (n+ ·)).filter s.testBit=[]:=List.filter_eq_nil_iff.mpr λk hk=>by obtain⟨j,_,rfl⟩:=Fn.mp hk;rw[Gb (Fb hs (Fy (by lia) (IF n j)))];exact Fo
 rw[z,GX]
theorem AA{ts:List (Nat×Nat)}(h8:ts.length<=8)(hs:s<2^ts.length):vz p ts s ts.length=tu p ts s:=by unfold vz tu;rw[mV h8 hs];rfl
def jP(m:Int)(R:List Row)(cs:List Nat):Prop:=∃S,S.Sublist R/\S.length=cs.length/\¬m∣aP S cs
theorem zS(hm:cD m)(R:List Row)(cs:List Nat):rho m R cs=cs.length↔jP m R cs:=by
 obtain⟨r,h1,S,T,h2,h3,h4,h5,h6⟩:=gQ hm cs R;have e:rho m R cs=r:=jU hm ⟨h1,Mnr.not_van ⟨S,T,h2,h3,h4,h5,h6⟩⟩;have lt:=h3.length_le;rw[e];constructor
 .intro z;have:T=cs:=h3.eq_of_length (by lia);rw[this]at h6;exact⟨S,h2,by lia,h6⟩
 .rintro⟨S',g1,g2,g3⟩;have:=iU (m:=m) (k:=cs.length) (R:=R) (cs:=cs) (λv=>g3 (v S' cs (λx hx=>g1.subset hx) (λt ht=>ht) g2 rfl)) h1;lia
theorem pK(s:Nat):(dW s).length=sz s:=by show _=(bits s).length;rw[Ct,E3];rfl
theorem jV(hm:cD m)(R:List Row)(s:Nat):fC m R s=sz s↔jP m R (dW s):=by rw[<-pK];exact zS hm R _
theorem jP.few{R:List Row}{cs:List Nat}(h:jP m R cs):cs.length<=R.length:=by obtain⟨S,h1,h2,_⟩:=h;rw[<-h2];exact h1.length_le
theorem yz(hm:cD m)(R:List Row):jP m R []:=⟨[],J9 _,rfl,hm.one⟩
theorem AW:jP m R [j]↔∃x∈R,¬m∣x j:=by
 have e:∀x:Row,aP [x] [j]=x j:=λx=>by simp[aP,bD,sgn]
 constructor
 .rintro⟨S,h1,h2,h3⟩
  match S,h2 with
  | [x],_=>exact⟨x,h1.subset (by simp),by rw[<-e x];exact h3⟩
 .rintro⟨x,h1,h2⟩;exact⟨[x],Jh.mpr h1,rfl,by rw[e x];exact h2⟩
theorem lQ{α:Type}{x y:α}:∀ {l:List α},[x,y].Sublist l↔∃p q:Nat,p<q/\l[p]?=some x/\l[q]?=some y
 | []=>⟨λh=>(nomatch h),λ⟨p,q,_,h,_⟩=>by simp at h⟩
 |z::l=>by
  constructor
  .intro h;cases h with
   |cons _ h=>
    obtain⟨p,q,h1,h2,h3⟩:=lQ.mp h;exact⟨p+1,q+1,by lia,by simpa using h2,by simpa using h3⟩
   |cons_cons _ h=>
    obtain⟨q,hq⟩:=Gw (Jh.mp h);exact⟨0,q+1,by lia,rfl,by simpa using hq⟩
  .rintro⟨p,q,h1,h2,h3⟩;cases p with
   |zero=>
    cases q with
    |zero=>lia
    |succ q=>
     cases h2;exact .cons_cons _ (Jh.mpr (E7 (i:=q) (by simpa using h3)))
   |succ p=>
    cases q with
    |zero=>lia
    |succ q=>exact .cons _ (lQ.mpr ⟨p,q,by lia,by simpa using h2,by simpa using h3⟩)
theorem tS:jP m R [j,k]↔∃ (p q:Nat) (x y:Row),p<q/\R[p]?=some x/\R[q]?=some y/\¬m∣aP [x,y] [j,k]:=by
 constructor
 .rintro⟨S,h1,h2,h3⟩
  match S,h2 with
  | [x,y],_=>
   obtain⟨p,q,g1,g2,g3⟩:=lQ.mp h1;exact⟨p,q,x,y,g1,g2,g3,h3⟩
 .rintro⟨p,q,x,y,g1,g2,g3,g4⟩;exact⟨[x,y],lQ.mpr ⟨p,q,g1,g2,g3⟩,rfl,g4⟩
theorem vK:jP m [x,y,z] [i,j,k]↔¬m∣aP [x,y,z] [i,j,k]:=by
 constructor
 .rintro⟨S,h1,h2,h3⟩;have:S=[x,y,z]:=h1.eq_of_length h2;rw[<-this];exact h3
 .exact λh=>⟨_,List.Sublist.refl _,rfl,h⟩
theorem Mat.drop_ex(M:Mat n r){s:Nat}(hs:s<2^n)(h:¬r s=sz s):∃k,s.testBit k=true/\r (s^^^2^k)=r s:=by obtain⟨k,hk⟩:=JA.mp λz=>h ((M.w8 hs).mpr z);obtain⟨h1,h2⟩:=JW.mp hk;have:=(M.fL (s^^^2^k) k).mp (by cases e:(clR n r (s^^^2^k)).testBit k with|true=>rfl|false=>exact absurd e h2);rw[eC h1]at this;exact⟨k,h1,this.2.symm⟩
theorem Mat.drop_le(M:Mat n r){s k:Nat}(hs:s<2^n)(hk:s.testBit k=true):r (s^^^2^k)<=r s:=M.mono (gr hk) hs
end Bh
set_option maxHeartbeats 4000000
namespace BhK
def top(i:Nat):PySem.Stmt:=PySem.Challenge.pw_basehouse_k25_whole_there_and_back.main.body.getD i (.Pass ⟨0,0,0,0⟩)
abbrev s_holds:=top 1
abbrev s_things:=top 2
abbrev s_size:=top 3
abbrev s_within:=top 4
abbrev s_parts:=top 5
abbrev s_all_of:=top 6
abbrev s_less:=top 7
abbrev s_marked:=top 9
abbrev s_exchanged:=top 10
abbrev s_has_exchange:=top 11
abbrev s_broken_bases:=top 12
abbrev s_holds_ring:=top 13
abbrev s_ring_in_ring:=top 14
abbrev s_rings_without_third:=top 15
abbrev s_broken_rings:=top 16
abbrev s_wrong_step:=top 17
abbrev s_exchanges:=top 18
abbrev s_late_step:=top 19
abbrev s_broken_ranks:=top 20
abbrev s_common_not_listed:=top 21
abbrev s_least_flat:=top 22
abbrev s_flats_that_meet:=top 23
abbrev s_broken_flats:=top 24
abbrev s_whole_rank:=top 33
abbrev s_ranks:=top 34
abbrev s_frees:=top 35
abbrev s_bases:=top 36
abbrev s_is_ring:=top 37
abbrev s_rings:=top 38
abbrev s_is_flat:=top 39
abbrev s_flats:=top 40
abbrev s_closed:=top 41
abbrev s_refuse:=top 42
abbrev s_house_of_frees:=top 43
abbrev s_of_bases:=top 44
abbrev s_of_rings:=top 45
abbrev s_is_free:=top 46
abbrev s_of_flats:=top 47
abbrev s_of_ranks:=top 48
abbrev s_tied:=top 50
abbrev s_rests:=top 53
abbrev s_pivot_place:=top 54
abbrev s_cleared:=top 55
abbrev s_all_cleared:=top 56
abbrev s_rank_of:=top 57
abbrev s__law_whole:=top 63
abbrev s__law_size:=top 64
abbrev s__law_list:=top 65
abbrev s__law_far:=top 66
abbrev s__law_ranks:=top 67
abbrev s__law_rings:=top 68
abbrev s__law_flats:=top 69
abbrev s__law_pieces:=top 70
abbrev s__law_two:=top 71
abbrev s__law_three:=top 72
abbrev s__law_some:=top 73
abbrev s__law_free:=top 74
abbrev s__law_table_ranks:=top 75
abbrev s__law_number:=top 76
abbrev s__law_net:=top 77
abbrev s__law_table:=top 78
abbrev s__law_house:=top 79
abbrev s_law:=top 80
abbrev s_NoHouse___init__:PySem.Stmt:=L2.cG (top 27) 0
abbrev s_House___init__:PySem.Stmt:=L2.cG (top 29) 0
abbrev s_House_rank:PySem.Stmt:=L2.cG (top 29) 1
abbrev s_House_everything:PySem.Stmt:=L2.cG (top 29) 2
abbrev s_Even___init__:PySem.Stmt:=L2.cG (top 30) 0
abbrev s_Even_rank:PySem.Stmt:=L2.cG (top 30) 1
abbrev s_Listed___init__:PySem.Stmt:=L2.cG (top 31) 0
abbrev s_Listed_rank:PySem.Stmt:=L2.cG (top 31) 1
abbrev s_Net___init__:PySem.Stmt:=L2.cG (top 51) 0
abbrev s_Net_pieces:PySem.Stmt:=L2.cG (top 51) 1
abbrev s_Net_rank:PySem.Stmt:=L2.cG (top 51) 2
abbrev s_Tabled___init__:PySem.Stmt:=L2.cG (top 59) 0
abbrev s_Tabled_rank:PySem.Stmt:=L2.cG (top 59) 1
abbrev s_Other___init__:PySem.Stmt:=L2.cG (top 61) 0
abbrev s_Other_rank:PySem.Stmt:=L2.cG (top 61) 1
open PySem L2 Bh
structure Tb(K:PySem.W.Frag)(mg:Str->Option Value):Prop where
 len_:mg "len"=none
 range_:mg "range"=none
 isinstance_:mg "isinstance"=none
 int_:mg "int"=none
 bool_:mg "bool"=none
 list_:mg "list"=none
 max_:mg "max"=none
 min_:mg "min"=none
 tuple_:mg "tuple"=none
 sorted_:mg "sorted"=none
 any_:mg "any"=none
 all_:mg "all"=none
 dict_:mg "dict"=none
 sum_:mg "sum"=none
 enumerate_:mg "enumerate"=none
 zip_:mg "zip"=none
 set_:mg "set"=none
 kII:kitOne K (.type "int") (.type "int")=some true
 kIB:kitOne K (.type "int") (.type "bool")=some false
 kLL:kitOne K (.type "list") (.type "list")=some true
 kTT:kitOne K (.type "tuple") (.type "tuple")=some true
theorem aV{vs:St}(h:vs.length=1):∃v,vs=[v]:=List.length_eq_one_iff.mp h
theorem kj(ns:List Int):(ns.map V.int).all jA=true:=by
 induction ns with
 |nil=>rfl
 |cons n r ih=>rw[FT,Kl,ih];rfl
theorem ia(z:Int)(ns:List Int):inV (.int z) (ns.map V.int)=decide (z∈ns):=by
 unfold inV
 induction ns with
 |nil=>rfl
 |cons n r ih=>
  rw[FT,IH,ih];by_cases h:n=z
  .subst h;simp[eqV]
  .have h2:¬z=n:=λe=>h e.symm;simp[eqV,h,h2]
theorem aQ{ns:List Int}{i:Nat}{y:V}(h:(ns.map V.int)[i]?=some y):∃z,y= .int z/\ns[i]?=some z:=by
 rw[Fm]at h;cases e:ns[i]? with
 |none=>rw[e]at h;cases h
 |some z=>rw[e]at h;exact⟨z,(F9 h).symm,rfl⟩
theorem dg{x y:Int}(hx:0<=x)(hy:0<=y):Builtin.bitAnd x y=((x.toNat&&&y.toNat:Nat):Int):=by unfold Builtin.bitAnd;rw[E6 hx,E6 hy]
theorem jJ{x y:Int}(hx:0<=x)(hy:0<=y):Builtin.bitOr x y=((x.toNat|||y.toNat:Nat):Int):=by
 have hx':¬(0<=Builtin.bitNot x):=by unfold Builtin.bitNot;lia
 have hy':¬(0<=Builtin.bitNot y):=by unfold Builtin.bitNot;lia
 have ex:Builtin.bitNot (Builtin.bitNot x)=x:=by unfold Builtin.bitNot;lia
 have ey:Builtin.bitNot (Builtin.bitNot y)=y:=by unfold Builtin.bitNot;lia
 unfold Builtin.bitOr Builtin.bitAnd;rw[E8 hx',E8 hy'];show Builtin.bitNot (Builtin.bitNot (((Builtin.bitNot (Builtin.bitNot x)).toNat||| (Builtin.bitNot (Builtin.bitNot y)).toNat:Nat):Int))=_;rw[ex,ey];unfold Builtin.bitNot;lia
theorem AQ{s:Int}(h:0<=s):decide (V.int (s/2^k % 2)=V.int 1)=s.toNat.testBit k:=by
 obtain⟨n,rfl⟩:=Gn h;rw[gT];have e:((n:Int) /2^k % 2)=((n/2^k % 2:Nat):Int):=by simp
 rw[e];by_cases h1:n/2^k % 2=1
 .rw[h1];simp[h1]
 .have h2:¬((n/2^k % 2:Nat):Int)=1:=by lia
  have h3:¬V.int ((n/2^k % 2:Nat):Int)=V.int 1:=λe=>h2 (V.int.inj e);rw[E8 h3];simp[h1]
theorem xu{s:Int}(h0:0<=s)(h1:s<256):eS (λi=>s.toNat.testBit i) (λi=> .int (0+(i:Nat))) ((Builtin.Int.intBits s:Nat):Int).toNat=(bits s.toNat).map V.int:=by
 obtain⟨n,rfl⟩:=Gn h0;have e:Builtin.Int.intBits (n:Int)=if n=0 then 0 else n.log2+1:=by
  unfold Builtin.Int.intBits;by_cases hn:n=0
  .subst hn;rfl
  .have h2:((n:Int)==0)=false:=by simpa using hn
   rw[h2,Fg hn];simp
 have b:=Bi n (by lia);unfold eS bits;rw[e,E4,F5];show List.map (λi:Nat=>V.int (0+(i:Int))) (List.filter (λi=>n.testBit i) (List.range (if n=0 then 0 else n.log2+1)))=_;rw[show(λi=>n.testBit i)=n.testBit from rfl,b];refine GJ λk _=> ?_;show V.int (0+(k:Int))=V.int (k:Int);rw[FX]
inductive uE(vs:List V)(H:Hp)(Q:VK):Prop
 |mk (s t:Int) (y_0:vs=[.int s, .int t]) (y_1:0<=s) (y_2:0<=t) (y_3:Q (.bl (s.toNat.testBit t.toNat)) H):uE vs H Q
def qE:Sp:=λvs H Q _=>uE vs H Q
inductive pV(vs:List V)(H:Hp)(Q:VK):Prop
 |mk (s:Int) (y_0:vs=[.int s]) (y_1:0<=s) (y_2:s<256) (y_3:∀p H',Same H H'->H p=none->H' p=some (.lst ((bits s.toNat).map V.int))->Q (.ref p) H'):pV vs H Q
def cf:Sp:=λvs H Q _=>pV vs H Q
inductive xj(vs:List V)(H:Hp)(Q:VK):Prop
 |mk (s:Int) (y_0:vs=[.int s]) (y_1:0<=s) (y_2:s<256) (y_3:∀H',Same H H'->Q (.int ((bits s.toNat).length:Nat)) H'):xj vs H Q
def gx:Sp:=λvs H Q _=>xj vs H Q
inductive pT(vs:List V)(H:Hp)(Q:VK):Prop
 |mk (s t:Int) (y_0:vs=[.int s, .int t]) (y_1:0<=s) (y_2:0<=t) (y_3:Q (.bl (decide (s.toNat&&&t.toNat=s.toNat))) H):pT vs H Q
def i5:Sp:=λvs H Q _=>pT vs H Q
inductive uj(vs:List V)(H:Hp)(Q:VK):Prop
 |mk (i:Int) (y_0:vs=[.int i]) (y_1:Q (.bl true) H):uj vs H Q
def qC:Sp:=λvs H Q _=>uj vs H Q
inductive xl(K:PySem.W.Frag)(vs:List V)(H:Hp)(Q:VK):Prop
 |mk (a b:Addr) (ns ms:List Int) (y_0:vs=[.ref a, .ref b]) (y_1:H a=some (.lst (ns.map V.int))) (y_2:SqL K H b (ms.map V.int)) (y_3:ms.length<=1000) (y_4:Q (.bl (decide (ns=ms))) H):xl K vs H Q
def zF(K:PySem.W.Frag):Sp:=λvs H Q _=>xl K vs H Q
def aW:V->Int
 | .int z=>z
 |_=>0
theorem aU(p:Int->Bool)(f:Int->Int)(zs:List Int):dq (λx=>p (aW x)) (λx=> .int (f (aW x))) (zs.map V.int)=((zs.filter p).map f).map V.int:=by unfold dq;rw[Ki,F5,F5];rfl
theorem Be(ns:List Int)(lo hi:Option Int):∃cs:List Int,lK (ns.map V.int) lo hi=cs.map V.int/\cs.length<=ns.length:=by
 refine⟨(ns.drop (HT.sIx ns.length 0 lo)).take (HT.sIx ns.length ns.length hi-HT.sIx ns.length 0 lo),?_,?_⟩
 .unfold lK;rw[E3,<-List.map_drop,<-List.map_take]
 .rw[FP,Hi];exact Fc (Nat.min_le_right _ _) (Nat.sub_le _ _)
theorem lS{n j:Nat}:decide (V.int (Builtin.bitAnd ((n:Int) /2^(0+(j:Int)).toNat) 1)=V.int 1)=n.testBit j:=by
 have e1:(0+(j:Int)).toNat=j:=by lia
 have e2:((n:Int) /2^j)=((n/2^j:Nat):Int):=by simp
 rw[e1,e2,dg (F0 _) (by decide),E4];have h1:((1:Int).toNat)=1:=rfl;rw[h1,Nat.and_one_is_mod,gT];by_cases hb:n/2^j % 2=1
 .rw[hb];rfl
 .have:¬V.int ((n/2^j % 2:Nat):Int)=V.int 1:=λz=>hb (by have:=V.int.inj z;lia);rw[E8 this,E8 hb]
theorem eu(p:Nat->Bool)(N:Nat):eS p (λi=>V.int (0+(i:Nat))) N=(((List.range N).filter p).map λs:Nat=>(s:Int)).map V.int:=by unfold eS;rw[F5];refine GJ λk _=> ?_;show V.int (0+(k:Int))=V.int (k:Int);rw[FX]
theorem cj(n:Nat):(1*2^((n:Nat):Int).toNat:Int)=((2^n:Nat):Int):=by rw[E4,Hl];simp
theorem rf{l:List Int}{j:Nat}{z:Int}(h:l[j]?=some z):atI (l.map V.int) (j:Int)=some (.int z):=bw (by rw[Fm,h];rfl)
theorem bc{l:List Int}(h:j<l.length):atI (l.map V.int) (j:Int)=some (.int (l.getD j 0)):=rf (by simp[h])
inductive uH(vs:List V)(H:Hp)(Q:VK):Prop
 |mk (n:Int) (y_0:vs=[.int n]) (y_1:0<=n) (y_2:n<=1000) (y_3:Q (.int (1*2^n.toNat-1)) H):uH vs H Q
def dJ:Sp:=λvs H Q _=>uH vs H Q
inductive uB(K:PySem.W.Frag)(vs:List V)(H:Hp)(Q:VK):Prop
 |mk (p C dx:Addr) (n:V) (y_0:vs=[.ref p,n]) (y_1:H p=some (.ins C dx [])) (y_2:Cls K C) (y_3:bC K C "many") (y_4:Q .non (upd H p (.ins C dx (bq "many" n [])))):uB K vs H Q
def iw(K:PySem.W.Frag):Sp:=λvs H Q _=>uB K vs H Q
inductive uG(K:PySem.W.Frag)(vs:List V)(H:Hp)(Q:VK):Prop
 |mk (a C dx:Addr) (fs:List (Str×V)) (n:Int) (y_0:vs=[.ref a]) (y_1:H a=some (.ins C dx fs)) (y_2:Cls K C) (y_3:bC K C "many") (y_4:fs.lookup ("many":Str)=some (.int n)) (y_5:0<=n) (y_6:n<=1000) (y_7:Q (.int (1*2^n.toNat-1)) H):uG K vs H Q
def fc(K:PySem.W.Frag):Sp:=λvs H Q _=>uG K vs H Q
def evF(n k:Int):List (Str×V):=bq "most" (.int k) (bq "many" (.int n) [])
inductive uC(C:Addr)(vs:List V)(H:Hp)(Q:VK):Prop
 |mk (p dx:Addr) (n k:Int) (y_0:vs=[.ref p, .int n, .int k]) (y_1:H p=some (.ins C dx [])) (y_2:Q .non (upd H p (.ins C dx (evF n k)))):uC C vs H Q
def wC(C:Addr):Sp:=λvs H Q _=>uC C vs H Q
def Eo(a b:Int):Int:=if b<a then b else a
inductive uu(C:Addr)(vs:List V)(H:Hp)(Q:VK):Prop
 |mk (a dx:Addr) (n k s:Int) (y_0:vs=[.ref a, .int s]) (y_1:H a=some (.ins C dx (evF n k))) (y_2:0<=s) (y_3:s<256) (y_4:∀H',Same H H'->Q (.int (Eo ((bits s.toNat).length:Nat) k)) H'):uu C vs H Q
def wy(C:Addr):Sp:=λvs H Q _=>uu C vs H Q
theorem yi:¬(("many":Str)= "most"):=by decide+kernel
theorem A6(n k:Int):(evF n k).lookup ("many":Str)=some (.int n):=by unfold evF;rw[aJ _ _ yi,aR]
theorem A5(n k:Int):(evF n k).lookup ("most":Str)=some (.int k):=aR _ _ _
theorem A4(n k:Int){m:Str}(h1:¬m= "most")(h2:¬m= "many"):(evF n k).lookup m=none:=by unfold evF;rw[aJ _ _ h1,aJ _ _ h2];rfl
def liF(n:Int)(t:Addr):List (Str×V):=bq "listed" (.ref t) (bq "many" (.int n) [])
theorem tJ:¬(("many":Str)= "listed"):=by decide+kernel
theorem AJ(n:Int)(t:Addr):(liF n t).lookup ("many":Str)=some (.int n):=by unfold liF;rw[aJ _ _ tJ,aR]
theorem vE(n:Int)(t:Addr):(liF n t).lookup ("listed":Str)=some (.ref t):=aR _ _ _
theorem AI(n:Int)(t:Addr){m:Str}(h1:¬m= "listed")(h2:¬m= "many"):(liF n t).lookup m=none:=by unfold liF;rw[aJ _ _ h1,aJ _ _ h2];rfl
theorem AH(n:Int)(t:Addr):(liF n t).lookup ("rank":Str)=none:=AI _ _ (by decide+kernel) (by decide+kernel)
theorem yk(n:Int)(t:Addr):(liF n t).lookup ("everything":Str)=none:=AI _ _ (by decide+kernel) (by decide+kernel)
def we(C:Addr)(H:Hp)(a:Addr)(n:Int)(ms:List Int):Prop:=∃dx t,H a=some (.ins C dx (liF n t))/\H t=some (.tup (ms.map V.int))/\ms.length<=1000
theorem we.same(h:we C H a n ms)(e:Same H H'):we C H' a n ms:=by obtain⟨dx,t,h1,h2,h3⟩:=h;exact⟨dx,t,e.at h1,e.at h2,h3⟩
inductive uA(K:PySem.W.Frag)(C:Addr)(vs:List V)(H:Hp)(Q:VK):Prop
 |mk (p dx a:Addr) (n:Int) (ms:List Int) (y_0:vs=[.ref p, .int n, .ref a]) (y_1:H p=some (.ins C dx [])) (y_2:SqL K H a (ms.map V.int)) (y_3:ms.length<=1000) (y_4:∀t H',H t=none->(∀b o,H b=some o->b≠p->H' b=some o)->H' p=some (.ins C dx (liF n t))->H' t=some (.tup (ms.map V.int))->Q .non H'):uA K C vs H Q
def i9(K:PySem.W.Frag)(C:Addr):Sp:=λvs H Q _=>uA K C vs H Q
inductive ur(C:Addr)(vs:List V)(H:Hp)(Q:VK):Prop
 |mk (a:Addr) (n s:Int) (ms:List Int) (y_0:vs=[.ref a, .int s]) (y_1:we C H a n ms) (y_2:ms≠[]) (y_3:(∀m∈ms,0<=m/\m<256)) (y_4:0<=s) (y_5:s<256) (y_6:∀H',Same H H'->Q (.int (au ms s.toNat:Nat)) H'):ur C vs H Q
def wx(C:Addr):Sp:=λvs H Q _=>ur C vs H Q
def neF(n p:Int)(t:Addr):List (Str×V):=bq "ties" (.ref t) (bq "points" (.int p) (bq "many" (.int n) []))
theorem sN:¬(("points":Str)= "ties"):=by decide+kernel
theorem yg:¬(("many":Str)= "ties"):=by decide+kernel
theorem tI:¬(("many":Str)= "points"):=by decide+kernel
theorem Ax(n p:Int)(t:Addr):(neF n p t).lookup ("many":Str)=some (.int n):=by unfold neF;rw[aJ _ _ yg,aJ _ _ tI,aR]
theorem nj(n p:Int)(t:Addr):(neF n p t).lookup ("points":Str)=some (.int p):=by unfold neF;rw[aJ _ _ sN,aR]
theorem Av(n p:Int)(t:Addr):(neF n p t).lookup ("ties":Str)=some (.ref t):=aR _ _ _
theorem vv(n p:Int)(t:Addr){m:Str}(h1:¬m= "ties")(h2:¬m= "points")(h3:¬m= "many"):(neF n p t).lookup m=none:=by unfold neF;rw[aJ _ _ h1,aJ _ _ h2,aJ _ _ h3];rfl
theorem Aw(n p:Int)(t:Addr):(neF n p t).lookup ("rank":Str)=none:=vv _ _ _ (by decide+kernel) (by decide+kernel) (by decide+kernel)
theorem vt(n p:Int)(t:Addr):(neF n p t).lookup ("pieces":Str)=none:=vv _ _ _ (by decide+kernel) (by decide+kernel) (by decide+kernel)
def yW(C:Addr)(H:Hp)(a:Addr)(n:Int)(p:Nat)(ts:List (Nat×Nat)):Prop:=∃dx t xs,H a=some (.ins C dx (neF n p t))/\H t=some (.tup xs)/\cS H xs ts
theorem yW.same(h:yW C H a n p ts)(e:Same H H'):yW C H' a n p ts:=by obtain⟨dx,t,xs,h1,h2,h3⟩:=h;exact⟨dx,t,xs,e.at h1,e.at h2,h3.ts (e9.of e)⟩
def ky(p:Nat)(ts:List (Nat×Nat)):Prop:=∀t∈ts,t.1<p/\t.2<p
inductive xh(K:PySem.W.Frag)(vs:List V)(H:Hp)(Q:VK):Prop
 |mk (a b:Addr) (ms:List Int) (t:Nat×Nat) (y_0:vs=[.ref a, .ref b]) (y_1:SqL K H a (ms.map V.int)) (y_2:H b=some (.tup [.int t.1, .int t.2])) (y_3:t.1<ms.length) (y_4:t.2<ms.length) (y_5:ms.length<=1000) (y_6:∀q H',Same H H'->H q=none->H' q=some (.lst ((mrg ms t.1 t.2).map V.int))->Q (.ref q) H'):xh K vs H Q
def zD(K:PySem.W.Frag):Sp:=λvs H Q _=>xh K vs H Q
inductive uz(K:PySem.W.Frag)(C:Addr)(vs:List V)(H:Hp)(Q:VK):Prop
 |mk (p dx a:Addr) (n pt:Int) (xs:List V) (ts:List (Nat×Nat)) (y_0:vs=[.ref p, .int n, .int pt, .ref a]) (y_1:H p=some (.ins C dx [])) (y_2:SqL K H a xs) (y_3:cS H xs ts) (y_4:xs.length<=1000) (y_5:∀t ys H',H t=none->(∀b o,H b=some o->b≠p->H' b=some o)->H' p=some (.ins C dx (neF n pt t))->H' t=some (.tup ys)->cS H' ys ts->Q .non H'):uz K C vs H Q
def wB(K:PySem.W.Frag)(C:Addr):Sp:=λvs H Q _=>uz K C vs H Q
inductive Bo(C:Addr)(vs:List V)(H:Hp)(Q:VK):Prop
 |mk (a:Addr) (n:Int) (p:Nat) (s:Nat) (ts:List (Nat×Nat)) (y_0:vs=[.ref a, .int (s:Int)]) (y_1:yW C H a n p ts) (y_2:ky p ts) (y_3:p<=1000) (y_4:ts.length<=8) (y_5:s<2^ts.length) (y_6:∀H',Same H H'->Q (.int (pcs p ts s:Nat)) H'):Bo C vs H Q
def CH(C:Addr):Sp:=λvs H Q _=>Bo C vs H Q
inductive uq(C:Addr)(vs:List V)(H:Hp)(Q:VK):Prop
 |mk (a:Addr) (n:Int) (p:Nat) (s:Nat) (ts:List (Nat×Nat)) (y_0:vs=[.ref a, .int (s:Int)]) (y_1:yW C H a n p ts) (y_2:ky p ts) (y_3:p<=1000) (y_4:ts.length<=8) (y_5:s<2^ts.length) (y_6:∀H',Same H H'->Q (.int ((p:Int) - (pcs p ts s:Nat))) H'):uq C vs H Q
def wu(C:Addr):Sp:=λvs H Q _=>uq C vs H Q
theorem jB(val:Nat->Int):∀i,(PyProof.Rows.firstMet val i).length=gF val i
 |0=>rfl
 |i+1=>by rw[PyProof.Rows.firstMet_succ,PyProof.Rows.step_length,PyProof.Rows.firstMet_any,jB val i];show _=if _ then _ else _;rw[List.any_map];rfl
theorem Ba:decide (V.int a=V.int b)=decide (a=b):=by
 by_cases h:a=b
 .subst h;simp
 .rw[E8 h,E8 λe=>h (V.int.inj e)]
theorem zd{vs:St}(h:vs.length=2):∃v w,vs=[v,w]:=by
 match vs,h with
 | [v,w],_=>exact⟨v,w,rfl⟩
inductive uv(K:PySem.W.Frag)(vs:List V)(H:Hp)(Q:VK):Prop
 |mk (a:Addr) (xs:List V) (L:List (List Int)) (c n:Nat) (y_0:vs=[.ref a, .int (c:Int)]) (y_1:H a=some (.lst xs)) (y_2:bo H xs L) (y_3:(∀r∈L,r.length=n)) (y_4:c<n) (y_5:(∀ (i:Nat) (r:List Int) (H':Hp),Same H H'->L[i]?=some r->¬r.getD c 0=0->Q (.int (i:Int)) H')) (y_6:((∀r∈L,r.getD c 0=0)->∀H',Same H H'->Q .non H')):uv K vs H Q
def wz(K:PySem.W.Frag):Sp:=λvs H Q _=>uv K vs H Q
def iS(d:Int)(pr r:List Int)(c:Nat):List Int:=(List.range r.length).map λj=>(r.getD j 0*pr.getD c 0-pr.getD j 0*r.getD c 0).fdiv d
def eY(n B:Nat)(r:List Int):Prop:=r.length=n/\∀z∈r,z.natAbs<2^B
theorem eY.at{r:List Int}(h:eY n B r)(j:Nat):(r.getD j 0).natAbs<2^B:=by
 by_cases hj:j<r.length
 .have e:r.getD j 0=r[j]:=by simp[hj]
  rw[e];exact h.2 _ (Gj hj)
 .have e:r.getD j 0=0:=by simp[hj]
  rw[e];exact GC (by decide)
theorem wm{x y:Int}(hx:x.natAbs<2^k)(hy:y.natAbs<2^k):(x-y).natAbs<2^(k+1):=by rw[Jy];lia
theorem A0(a b:Int):(a.fdiv b).natAbs<=a.natAbs:=Int.natAbs_fdiv_le_natAbs a b
theorem Cr(hp:eY n B pr)(hr:eY n B r):eY n (B+B+1) (iS d pr r c):=by refine⟨by unfold iS;rw[E3,FD];exact hr.1,λz hz=> ?_⟩;obtain⟨j,_,rfl⟩:=Fn.mp hz;exact Ft (A0 _ _) (wm (iA (hr.at j) (hp.at c)) (iA (hp.at j) (hr.at c)))
inductive kX(K:PySem.W.Frag)(vs:List V)(H:Hp)(Q:VK):Prop
 |mk (a b:Addr) (r pr:List Int) (c n B:Nat) (d:Int) (y_0:vs=[.ref a, .ref b, .int (c:Int), .int d]) (y_1:SqL K H a (r.map V.int)) (y_2:SqL K H b (pr.map V.int)) (y_3:eY n B r) (y_4:eY n B pr) (y_5:c<n) (y_6:n<=1000) (y_7:B<=2^24) (y_8:CFd 0 d) (y_9:∀q H',Same H H'->H q=none->H' q=some (.lst ((iS d pr r c).map V.int))->Q (.ref q) H'):kX K vs H Q
def mR(K:PySem.W.Frag):Sp:=λvs H Q _=>kX K vs H Q
inductive qx(K:PySem.W.Frag)(vs:List V)(H:Hp)(Q:VK):Prop
 |mk (a:Addr) (xs:List V) (L:List (List Int)) (i c n B:Nat) (d:Int) (pr:List Int) (y_0:vs=[.ref a, .int (i:Int), .int (c:Int), .int d]) (y_1:H a=some (.lst xs)) (y_2:bo H xs L) (y_3:(∀r∈L,eY n B r)) (y_4:L.length<=1000) (y_5:L[i]?=some pr) (y_6:c<n) (y_7:n<=1000) (y_8:B<=2^24) (y_9:(2<=L.length->CFd 0 d)) (y_10:∀q H' ys,Same H H'->H q=none->H' q=some (.lst ys)->bo H' ys ((L.take i++L.drop (i+1)).map λr=>iS d pr r c)->Q (.ref q) H'):qx K vs H Q
def sC(K:PySem.W.Frag):Sp:=λvs H Q _=>qx K vs H Q
def aY(l:List Int):Row:=λj=>l.getD j 0
theorem zP{pr r:List Int}(hp:pr.length=n)(hr:r.length=n)(hc:c<n):aY (iS d pr r c)=cy d (aY pr) c (aY r):=by
 funext j;show(iS d pr r c).getD j 0=(r.getD j 0*pr.getD c 0-pr.getD j 0*r.getD c 0).fdiv d;unfold iS;by_cases hj:j<r.length
 .simp[hj]
 .have e1:r.getD j 0=0:=by simp[hj]
  have e2:pr.getD j 0=0:=by
   have:¬j<pr.length:=by lia
   simp[this]
  rw[e1,e2,JB,JB,I0,Int.zero_fdiv];simp[hj]
def e8:Nat->Nat
 |0=>200
 |i+1=>e8 i+e8 i+1
theorem yV:∀i,i<9->e8 i<=2^24:=by decide
theorem rK:∀i,i<6->e8 i<9000:=by decide
theorem DF{d:Int}(h:d.natAbs<2^B)(hB:B<9000)(h0:d≠0):d.natAbs.log2<9000:=by have:d.natAbs.log2<B:=(Nat.log2_lt (by lia)).mpr h;lia
theorem Bc{α:Type}{L:List α}{i:Nat}{p:α}(h:L[i]?=some p):L=L.take i++p::L.drop (i+1):=by obtain⟨hi,e⟩:=Fd.mp h;rw[<-e,List.getElem_cons_drop,List.take_append_drop]
theorem va(h:i<n):List.range' i (n-i)=i::List.range' (i+1) (n- (i+1)):=by rw[show n-i=(n- (i+1))+1 by lia,List.range'_succ]
def cC(m:Int)(r:List Int):List Int:=if m=0 then r else r.map λz=>z % m
def Az(m:Int)(r:Row):Row:=λj=>if m=0 then r j else r j % m
theorem xG(m:Int)(r:List Int):aY (cC m r)=Az m (aY r):=by
 funext j;unfold aY cC Az;by_cases h:m=0
 .rw[E9 h,E9 h]
 .rw[Fg h,Fg h];by_cases hj:j<r.length
  .simp[hj]
  .simp[hj]
theorem tq(m:Int)(r:Row)(j:Nat):m∣Az m r j-r j:=by
 unfold Az;by_cases h:m=0
 .rw[E9 h,I0];exact Ij m
 .rw[Fg h];have:r j % m-r j=m*(-(r j/m)):=by have:=Int.mul_ediv_add_emod (r j) m;rw[Jg];lia
  rw[this];exact Int.dvd_mul_right _ _
theorem xH(m:Int)(r:List Int):(cC m r).length=r.length:=by
 unfold cC;split
 .rfl
 .rw[E3]
theorem sI(h0:0<=m)(h1:m<128)(hB:7<=B)(h:eY n B r):eY n B (cC m r):=by
 refine⟨by rw[xH];exact h.1,λz hz=> ?_⟩;unfold cC at hz;split at hz
 .exact h.2 z hz
 .rename_i hm;obtain⟨y,_,rfl⟩:=Fn.mp hz;have g1:=Hq y hm;have g2:=Hk y (show 0<m by lia);exact Fb (show(y % m).natAbs<2^7 by lia) (Fy (by decide) hB)
theorem wL(h0:0<m):∀z∈cC m r,0<=z/\z<m:=λz hz=>by unfold cC at hz;rw[Fg (by lia)]at hz;obtain⟨y,_,rfl⟩:=Fn.mp hz;exact⟨Hq y (by lia),Hk y h0⟩
inductive uo(K:PySem.W.Frag)(vs:List V)(H:Hp)(Q:VK):Prop
 |mk (a:Addr) (r:List Int) (m:Int) (y_0:vs=[.ref a, .int m]) (y_1:SqL K H a (r.map V.int)) (y_2:0<=m) (y_3:r.length<=1000) (y_4:∀q H',Same H H'->H q=none->H' q=some (.lst ((cC m r).map V.int))->Q (.ref q) H'):uo K vs H Q
def wt(K:PySem.W.Frag):Sp:=λvs H Q _=>uo K vs H Q
inductive qc(K:PySem.W.Frag)(vs:List V)(H:Hp)(Q:VK):Prop
 |mk (a:Addr) (xs:List V) (M:List (List Int)) (n:Nat) (m:Int) (y_0:vs=[.ref a, .int m]) (y_1:H a=some (.lst xs)) (y_2:bo H xs M) (y_3:M.length<=8) (y_4:n<=8) (y_5:(∀r∈M,eY n 200 r)) (y_6:cD m) (y_7:∀ (r:Nat) H',Same H H'->Van m (r+1) (M.map aY) (List.range n)->Mnr m r (M.map aY) (List.range n)->Q (.int (r:Int)) H'):qc K vs H Q
def sf(K:PySem.W.Frag):Sp:=λvs H Q _=>qc K vs H Q
theorem gI:∀i,7<=e8 i
 |0=>by decide
 |i+1=>by have:=gI i;show 7<=e8 i+e8 i+1;lia
theorem BG{r:List Int}(h:¬r.getD c 0=0):r.getD c 0∈r:=by
 by_cases hc:c<r.length
 .have e:r.getD c 0=r[c]:=by simp[hc]
  rw[e];exact Gj hc
 .exact absurd (by simp[hc]) h
theorem DA{m x:Int}(h0:0<=m)(hx:0<m->0<=x/\x<m)(h:¬x=0):¬m∣x:=λd=>by
 by_cases e:m=0
 .rw[e]at d;exact h (JF.mp d)
 .obtain⟨g1,g2⟩:=hx (by lia);have:=Int.le_of_dvd (by lia) d;lia
def taF(n p:Int)(t:Addr):List (Str×V):=bq "rows" (.ref t) (bq "prime" (.int p) (bq "many" (.int n) []))
theorem vd:¬(("prime":Str)= "rows"):=by decide+kernel
theorem yh:¬(("many":Str)= "rows"):=by decide+kernel
theorem vA:¬(("many":Str)= "prime"):=by decide+kernel
theorem zw(n p:Int)(t:Addr):(taF n p t).lookup ("many":Str)=some (.int n):=by unfold taF;rw[aJ _ _ yh,aJ _ _ vA,aR]
theorem xv(n p:Int)(t:Addr):(taF n p t).lookup ("prime":Str)=some (.int p):=by unfold taF;rw[aJ _ _ vd,aR]
theorem zq(n p:Int)(t:Addr):(taF n p t).lookup ("rows":Str)=some (.ref t):=aR _ _ _
theorem zv(n p:Int)(t:Addr){m:Str}(h1:¬m= "rows")(h2:¬m= "prime")(h3:¬m= "many"):(taF n p t).lookup m=none:=by unfold taF;rw[aJ _ _ h1,aJ _ _ h2,aJ _ _ h3];rfl
theorem zu(n p:Int)(t:Addr):(taF n p t).lookup ("rank":Str)=none:=zv _ _ _ (by decide+kernel) (by decide+kernel) (by decide+kernel)
theorem xw(n p:Int)(t:Addr):(taF n p t).lookup ("everything":Str)=none:=zv _ _ _ (by decide+kernel) (by decide+kernel) (by decide+kernel)
theorem sJ{r:List Int}(h:bo H xs M)(hM:M≠[]):xs≠r.map V.int:=λe=>by
 cases M with
 |nil=>exact hM rfl
 |cons t ts=>
  obtain⟨a,h1,_⟩:=h.2 0 t rfl;rw[e,Fm]at h1;cases hr:r[0]? with
  |none=>rw[hr]at h1;cases h1
  |some z=>rw[hr]at h1;cases h1
theorem sF{H:Hp}{xs:List V}{M:List (List Int)}{q:Addr}(h:bo H xs M)(hq:H q=some (.lst xs)){i:Nat}{a:Addr}{r:List Int}(hr:M[i]?=some r)(ha:H a=some (.lst (r.map V.int))):a≠q:=λe=>by subst e;rw[hq]at ha;exact sJ h (λz=>by rw[z]at hr;simp at hr) (HO.lst.inj (F9 ha))
theorem bo.push{r:List Int}(h:bo H xs M)(hq:H q=some (.lst xs))(hp:H p=some (.lst (r.map V.int)))(hpq:p≠q):bo (upd H q (.lst (xs++[.ref p]))) (xs++[.ref p]) (M++[r]):=by
 refine⟨by rw[Fw,Fw,h.1];rfl,λi t ht=> ?_⟩;by_cases hi:i<M.length
 .rw[FQ hi]at ht;obtain⟨a,h1,h2⟩:=h.2 i t ht;exact⟨a,by rw[FQ (by rw[h.1];exact hi)];exact h1,by rw[aC (sF h hq ht h2)];exact h2⟩
 .rw[FR (by lia)]at ht;have h0:i-M.length=0:=by
   cases e:i-M.length with
   |zero=>rfl
   |succ k=>rw[e]at ht;simp at ht
  rw[h0]at ht;cases ht;exact⟨p,by rw[FR (by rw[h.1];lia),h.1,h0];rfl,by rw[aC hpq];exact hp⟩
theorem eY.mono(h:eY n B r)(hBC:B<=C):eY n C r:=⟨h.1,λz hz=>Fb (h.2 z hz) (Fy (by decide) hBC)⟩
inductive xn(K:PySem.W.Frag)(vs:List V)(H:Hp)(Q:VK):Prop
 |mk (a:Addr) (ns:List Int) (y_0:vs=[.ref a]) (y_1:SqL K H a (ns.map V.int)) (y_2:ns.length<=63) (y_3:(∀z∈ns,Builtin.Int.intBits z<=2^20)) (y_4:∀H',Q (.bl true) H'):xn K vs H Q
def qD(K:PySem.W.Frag):Sp:=λvs H Q _=>xn K vs H Q
theorem ij{z:Int}(h:Builtin.Int.intBits z<=B):z.natAbs<2^B:=by
 unfold Builtin.Int.intBits at h;by_cases h0:z=0
 .subst h0;exact GC (by decide)
 .have e:(z==0)=false:=by simpa using h0
  rw[e]at h;have h':z.natAbs.log2+1<=B:=h;exact Fb Nat.lt_log2_self (Fy (by decide) h')
theorem Bl{z t:Int}(h:z.natAbs<2^B)(ht:t.natAbs<=100):(z+t).natAbs<2^(B+7):=by rw[Nat.pow_add,show(2:Nat)^7=128 from rfl];have:0<2^B:=GC (by decide);lia
def TaP(C:Addr)(H:Hp)(a:Addr)(n m:Int)(M:List (List Int)):Prop:=∃dx t xs,H a=some (.ins C dx (taF n m t))/\H t=some (.tup xs)/\ik H xs M
theorem TaP.same(h:TaP C H a n m M)(e:Same H H'):TaP C H' a n m M:=by obtain⟨dx,t,xs,h1,h2,h3⟩:=h;exact⟨dx,t,xs,e.at h1,e.at h2,h3.ts (e9.of e)⟩
inductive qo(K:PySem.W.Frag)(C:Addr)(vs:List V)(H:Hp)(Q:VK):Prop
 |mk (p dx a:Addr) (n m:Int) (xs:List V) (M:List (List Int)) (y_0:vs=[.ref p, .int n, .int m, .ref a]) (y_1:H p=some (.ins C dx [])) (y_2:H a=some (.lst xs)) (y_3:bo H xs M) (y_4:xs.length<=100) (y_5:∀t ys H',H t=none->(∀b o,H b=some o->b≠p->H' b=some o)->H' p=some (.ins C dx (taF n m t))->H' t=some (.tup ys)->ik H' ys M->Q .non H'):qo K C vs H Q
def su(K:PySem.W.Frag)(C:Addr):Sp:=λvs H Q _=>qo K C vs H Q
def iF(s:Nat):List Nat:=(List.range 8).filter s.testBit
theorem yI(s:Nat):(iF s).length=(bits s).length:=by unfold iF bits;rw[E3]
theorem v9(s:Nat):bits s=(iF s).map λk:Nat=>(k:Int):=rfl
inductive qb(C:Addr)(vs:List V)(H:Hp)(Q:VK):Prop
 |mk (a:Addr) (n s:Nat) (m:Int) (M:List (List Int)) (y_0:vs=[.ref a, .int (s:Int)]) (y_1:TaP C H a n m M) (y_2:n<=8) (y_3:M.length<=8) (y_4:(∀r∈M,eY n 200 r)) (y_5:cD m) (y_6:s<2^n) (y_7:∀ (r:Nat) H',Same H H'->Van m (r+1) (M.map aY) (iF s)->Mnr m r (M.map aY) (iF s)->Q (.int (r:Int)) H'):qb C vs H Q
def se(C:Addr):Sp:=λvs H Q _=>qb C vs H Q
def pick(s:Nat)(r:List Int):List Int:=(bits s).map λz=>r.getD z.toNat 0
def sO(s:Nat)(r:Row):Row:=λj=>if j<(iF s).length then r ((iF s).getD j 0)else 0
theorem z7(s:Nat)(r:List Int):aY (pick s r)=sO s (aY r):=by
 funext j;unfold aY pick sO;rw[v9,F5];by_cases h:j<(iF s).length
 .simp[h]
 .simp[h]
theorem qO(s:Nat)(M:List (List Int)):(M.map (pick s)).map aY=(M.map aY).map (sO s):=by rw[F5,F5];exact GJ λr _=>z7 s r
theorem wR{s:Nat}{R:List Row}{r:Row}(_:r∈R){j:Nat}(hj:j<(iF s).length):sO s r j=r ((iF s).getD j 0):=by unfold sO;rw[E9 hj]
inductive Bn(K:PySem.W.Frag)(vs:List V)(H:Hp)(Q:VK):Prop
 |mk (a b:Addr) (x y:List Int) (n j k:Nat) (y_0:vs=[.ref a, .ref b, .int (j:Int), .int (k:Int)]) (y_1:H a=some (.lst (x.map V.int))) (y_2:H b=some (.lst (y.map V.int))) (y_3:eY n 200 x) (y_4:eY n 200 y) (y_5:j<n) (y_6:k<n) (y_7:Q (.int (x.getD j 0*y.getD k 0-x.getD k 0*y.getD j 0)) H):Bn K vs H Q
def zC(K:PySem.W.Frag):Sp:=λvs H Q _=>Bn K vs H Q
inductive um(vs:List V)(H:Hp)(Q:VK):Prop
 |mk (z m:Int) (y_0:vs=[.int z, .int m]) (y_1:0<=m) (y_2:∀b:Bool,(b=true↔¬m∣z)->Q (.bl b) H):um vs H Q
def wq:Sp:=λvs H Q _=>um vs H Q
inductive qi(vs:List V)(H:Hp)(Q:VK):Prop
 |mk (c:Int) (k:Nat) (w:Int) (y_0:vs=[.int c, .int (k:Int), .int w]) (y_1:Builtin.Int.intBits c<=2^20) (y_2:k<=99) (y_3:∀z:Int,z.natAbs<2^200->Q (.int z) H):qi vs H Q
def sj:Sp:=λvs H Q _=>qi vs H Q
theorem bo.ins{xs:List V}{M:List (List Int)}{r:List Int}(h:bo H xs M)(hq:H q=some (.lst xs))(hp:H p=some (.lst (r.map V.int)))(hpq:p≠q)(hj:j<=M.length):bo (upd H q (.lst (xs.take j++ .ref p::xs.drop j))) (xs.take j++ .ref p::xs.drop j) (M.take j++r::M.drop j):=by
 have hl:=h.1;refine⟨by simp[hl],λi t ht=> ?_⟩;have off:∀ (i:Nat) (t:List Int),M[i]?=some t->∃a,xs[i]?=some (.ref a)/\upd H q (.lst (xs.take j++ .ref p::xs.drop j)) a=some (.lst (t.map V.int)):=λi t ht=>by obtain⟨a,h1,h2⟩:=h.2 i t ht;exact⟨a,h1,by rw[aC (sF h hq ht h2)];exact h2⟩
 rw[List.getElem?_append,FP,show min j M.length=j by lia]at ht;rw[List.getElem?_append,FP,show min j xs.length=j by lia];by_cases h1:i<j
 .rw[E9 h1,List.getElem?_take,E9 h1]at ht⊢;exact off i t ht
 .rw[Fg h1]at ht⊢;cases e:i-j with
  |zero=>
   rw[e]at ht;cases ht;exact⟨p,rfl,by rw[aC hpq];exact hp⟩
  |succ d=>
   rw[e,Im,IT]at ht;rw[Im,IT];exact off _ t ht
structure CU(H:Hp)(a C:Addr)(n:Nat):Prop where
 ex:∃dx fs,H a=some (.ins C dx fs)/\fs.lookup ("rank":Str)=none/\fs.lookup ("everything":Str)=none/\fs.lookup ("many":Str)=some (.int (n:Int))
theorem s_lt(h8:n<=8)(hs:s<2^n):s<256:=Fb hs (Fy (n:=2) (by lia) h8)
theorem dU.imp(F:dU P w K mg base k f ps sp)(h:∀vs H Q E,sp' vs H Q E->sp vs H Q E):dU P w K mg base k f ps sp':=by obtain⟨⟨fd,F1,b⟩,kp⟩:=F;exact⟨⟨fd,F1.imp h,b⟩,kp⟩
structure HC(K:PySem.W.Frag)(C_House C:Addr):Prop where
 cl:Cls K C
 nM:bC K C "many"
 ty:TyC K C
 isH:kitOne K (.ref C) (.ref C_House)=some true
theorem dH.mono(M:dH P w K mg base j C m ps sp)(h:j<=k):dH P w K mg base k C m ps sp:=by obtain⟨c,f,hm,F⟩:=M;exact⟨c,f,hm,dU.mono F h⟩
theorem dH.imp(M:dH P w K mg base k C m ps sp)(h:∀vs H Q E,sp' vs H Q E->sp vs H Q E):dH P w K mg base k C m ps sp':=by obtain⟨c,f,hm,F⟩:=M;exact⟨c,f,hm,dU.imp F h⟩
theorem A3(n k:Int):(evF n k).lookup ("rank":Str)=none:=A4 _ _ (by decide+kernel) (by decide+kernel)
theorem yC(n k:Int):(evF n k).lookup ("everything":Str)=none:=A4 _ _ (by decide+kernel) (by decide+kernel)
def otF(n:Int)(h:Addr)(fu fr:Int):List (Str×V):=bq "full_rank" (.int fr) (bq "full" (.int fu) (bq "house" (.ref h) (bq "many" (.int n) [])))
theorem Dx(n:Int)(h:Addr)(fu fr:Int):(otF n h fu fr).lookup ("full_rank":Str)=some (.int fr):=aR _ _ _
theorem Ag(n:Int)(h:Addr)(fu fr:Int):(otF n h fu fr).lookup ("full":Str)=some (.int fu):=by unfold otF;rw[aJ _ _ (by decide+kernel),aR]
theorem xR(n:Int)(h:Addr)(fu fr:Int):(otF n h fu fr).lookup ("house":Str)=some (.ref h):=by unfold otF;rw[aJ _ _ (by decide+kernel),aJ _ _ (by decide+kernel),aR]
theorem Af(n:Int)(h:Addr)(fu fr:Int):(otF n h fu fr).lookup ("many":Str)=some (.int n):=by unfold otF;rw[aJ _ _ (by decide+kernel),aJ _ _ (by decide+kernel),aJ _ _ (by decide+kernel),aR]
theorem Ae(n:Int)(h:Addr)(fu fr:Int){m:Str}(h1:¬m= "full_rank")(h2:¬m= "full")(h3:¬m= "house")(h4:¬m= "many"):(otF n h fu fr).lookup m=none:=by unfold otF;rw[aJ _ _ h1,aJ _ _ h2,aJ _ _ h3,aJ _ _ h4];rfl
abbrev HsP:=Addr->Nat->(Nat->Nat)->Prop
def EB(cO:Addr)(H:Hp)(X:HsP)(a:Addr)(n:Nat)(r:Nat->Nat):Prop:=∃ (dx h:Addr) (r':Nat->Nat),H a=some (.ins cO dx (otF n h ((2^n-1:Nat):Int) (r' (2^n-1):Nat)))/\X h n r'/\∀s,s<2^n->(r s:Int)=(sz s:Int)+(r' (aT (2^n-1) s):Nat) - (r' (2^n-1):Nat)
theorem zI(h:CU (hide H p) a C n):a≠p:=by obtain⟨dx,fs,ha,_⟩:=h.ex;intro e;subst e;unfold hide at ha;rw[E9 rfl]at ha;cases ha
theorem wY:aT (2^n-1) s<2^n:=Ft (cR _ _) (by have:0<2^n:=GC (by lia);lia)
theorem xF(hp:H p=none)(hd:H dx=none):Same H (hide (upd (upd H dx x) p y) p):=λb o e=>by have h1:b≠p:=aA e hp;have h2:b≠dx:=aA e hd;rw[fX h1,aC h1,aC h2];exact e
structure Hs where
 ho:Hp->Addr->Nat->(Nat->Nat)->Prop
 dom:Addr->Prop
structure gP(Z:Hs):Prop where
 same:∀ {H H':Hp} {a:Addr} {n:Nat} {r:Nat->Nat},Same H H'->Z.ho H a n r->Z.ho H' a n r
 shown:∀ {H:Hp} {a:Addr} {n:Nat} {r:Nat->Nat},Z.ho H a n r->∃C,Z.dom C/\CU H a C n
inductive CV(Z:Hs)(C:Addr)(vs:List V)(H:Hp)(Q:VK):Prop
 |mk (a:Addr) (n s:Nat) (r:Nat->Nat) (y_0:vs=[.ref a, .int (s:Int)]) (y_1:Z.ho H a n r) (y_2:(∃dx fs,H a=some (.ins C dx fs))) (y_3:n<=8) (y_4:s<2^n) (y_5:∀H',Same H H'->Q (.int (r s:Nat)) H'):CV Z C vs H Q
def gW(Z:Hs)(C:Addr):Sp:=λvs H Q _=>CV Z C vs H Q
def E1(cE:Addr)(H:Hp)(a:Addr)(n:Nat)(r:Nat->Nat):Prop:=∃ (dx:Addr) (m:Nat),H a=some (.ins cE dx (evF n m))/\∀s,s<2^n->r s=min (sz s) m
def EZ(cL:Addr)(H:Hp)(a:Addr)(n:Nat)(r:Nat->Nat):Prop:=∃ms:List Int,we cL H a n ms/\ms≠[]/\(∀m∈ms,0<=m/\m<256)/\∀s,s<2^n->r s=au ms s
def hsO(Z:Hs)(cO:Addr):Hs:=⟨λH a n r=>Z.ho H a n r\/EB cO H (Z.ho H) a n r,λC=>Z.dom C\/C=cO⟩
theorem AN(z:gP Z)(cO:Addr):gP (hsO Z cO) where
 same:=λe h=>by
  rcases h with h|⟨dx,h',r',h1,h2,h3⟩
  .exact .inl (z.same e h)
  .exact .inr ⟨dx,h',r',e.at h1,z.same e h2,h3⟩
 shown:=λh=>by
  rcases h with h|⟨dx,h',r',h1,h2,h3⟩
  .obtain⟨C,h1,h2⟩:=z.shown h;exact⟨C, .inl h1,h2⟩
  .exact⟨cO, .inr rfl,dx,_,h1,Ae _ _ _ _ (by decide+kernel) (by decide+kernel) (by decide+kernel) (by decide+kernel),Ae _ _ _ _ (by decide+kernel) (by decide+kernel) (by decide+kernel) (by decide+kernel),Af _ _ _ _⟩
theorem jz{H:Hp}{a C C' dx dx':Addr}{fs fs':List (Str×V)}(h:H a=some (.ins C dx fs))(h':H a=some (.ins C' dx' fs')):C=C':=by
 rw[h]at h';injection h' with h'
 injection h' with e1
theorem xC(hne:cO≠C)(vs:List V)(H:Hp)(Q:VK)(E:XK)(h:gW (hsO Z cO) C vs H Q E):gW Z C vs H Q E:=by
 obtain⟨a,n,s,r,rfl,hB,⟨dx0,fs0,ha0⟩,n8,hs,k⟩:=h;rcases hB with hB|⟨dx,h',r',h1,_⟩
 .exact⟨a,n,s,r,rfl,hB,⟨dx0,fs0,ha0⟩,n8,hs,k⟩
 .exact absurd (jz ha0 h1).symm hne
inductive qp(Z:Hs)(cO:Addr)(vs:List V)(H:Hp)(Q:VK):Prop
 |mk (p dx h:Addr) (n:Nat) (r:Nat->Nat) (y_0:vs=[.ref p, .ref h]) (y_1:H p=some (.ins cO dx [])) (y_2:Z.ho (hide H p) h n r) (y_3:n<=8) (y_4:∀H',(∀b o,H b=some o->b≠p->H' b=some o)->H' p=some (.ins cO dx (otF n h ((2^n-1:Nat):Int) (r (2^n-1):Nat)))->Q .non H'):qp Z cO vs H Q
def sv(Z:Hs)(cO:Addr):Sp:=λvs H Q _=>qp Z cO vs H Q
theorem iy{H:Hp}{a C C' dx dx':Addr}{fs fs':List (Str×V)}(h:H a=some (.ins C dx fs))(h':H a=some (.ins C' dx' fs')):C=C':=jz h h'
theorem yb(n p:Int)(t:Addr):(neF n p t).lookup ("everything":Str)=none:=vv _ _ _ (by decide+kernel) (by decide+kernel) (by decide+kernel)
theorem sS:∀ (ys:List V),(∀y∈ys,∃ (c:Addr) (t:Nat×Nat),y= .ref c/\H c=some (.tup [.int t.1, .int t.2])/\t.1<p/\t.2<p)->∃ts,cS H ys ts/\ky p ts
 | [],_=>⟨[],cS.nil,λt ht=>by cases ht⟩
 |y::ys,h=>by
  obtain⟨ts,h1,h2⟩:=sS ys λz hz=>h z (Fe _ hz);obtain⟨c,t,rfl,hc,t1,t2⟩:=h y Fq;refine⟨t::ts,⟨by rw[FK,FK,h1.1],λi u hu=> ?_⟩,λu hu=> ?_⟩
  .cases i with
   |zero=>cases hu;exact⟨c,rfl,hc⟩
   |succ i=>exact h1.2 i u (by simpa using hu)
  .rcases Fh.mp hu with rfl|hu
   .exact⟨t1,t2⟩
   .exact h2 u hu
theorem Ar{ts:List (Nat×Nat)}(hok:ky p ts)(hs:s<2^ts.length):((rkC (ts.map fi) s:Nat):Int)=(p:Int) - (pcs p ts s:Nat):=by
 have hb:∀t∈(bits s).map (λz:Int=>ts.getD z.toNat (0,0)),t.1<p/\t.2<p:=λt ht=>by
  obtain⟨z,hz,rfl⟩:=Fn.mp ht;obtain⟨z0,z1⟩:=gH hs hz;have e:ts.getD z.toNat (0,0)=ts[z.toNat]:=by simp[z1]
  rw[e];exact hok _ (Gj z1)
 have h:=As _ hb;have e1:mkA p ((bits s).map (λz:Int=>ts.getD z.toNat (0,0)))=tu p ts s:=by unfold mkA tu rg;rw[List.foldl_map]
 have e2:((bits s).map (λz:Int=>ts.getD z.toNat (0,0))).map fi=cQ (ts.map fi) s:=by unfold cQ;rw[F5];refine GJ λz hz=> ?_;obtain⟨z0,z1⟩:=gH hs hz;show fi (ts.getD z.toNat (0,0))=(ts.map fi).getD z.toNat 0;simp[z1]
 rw[e1,e2]at h;have h2:pcs p ts s+rkC (ts.map fi) s=p:=h;lia
theorem AD(n8:n<=8)(m:Nat):Mat n (λs=>min (sz s) m) where
 n8:=n8
 zero:=by show min (sz 0) m=0;rw[gw];exact Nat.zero_min m
 step:=λs k hs hk=>by
  have h1:=rS s (s_lt n8 hs) k (by lia);have h2:sz s<=sz (s|||2^k):=fN λj _ hj=>by rw[bL,hj];rfl
  show min (sz s) m<=min (sz (s|||2^k)) m/\min (sz (s|||2^k)) m<=min (sz s) m+1;lia
 sub:=λs j k hs hj hk h1 h2=>by
  by_cases hb:s.testBit j=true
  .rw[jm hb];exact h2
  .have e:=mH (s_lt n8 hs) (show j<8 by lia) (F4.mpr hb);have h3:sz (s|||2^j)<=sz (s|||2^j|||2^k):=fN λi _ hi=>by rw[bL (s|||2^j),hi];rfl
   show min (sz (s|||2^j|||2^k)) m=min (sz s) m;have h1':min (sz (s|||2^j)) m=min (sz s) m:=h1;lia
def CA(cN:Addr)(H:Hp)(a:Addr)(n:Nat)(r:Nat->Nat):Prop:=∃ (p:Nat) (ts:List (Nat×Nat)),yW cN H a n p ts/\ky p ts/\p<=1000/\ts.length=n/\∀s,s<2^n->(r s:Int)=(p:Int) - (pcs p ts s:Nat)
def DU(cT:Addr)(H:Hp)(a:Addr)(n:Nat)(r:Nat->Nat):Prop:=∃ (m:Int) (M:List (List Int)),TaP cT H a n m M/\M.length<=8/\(∀x∈M,eY n 200 x)/\cD m/\∀s,s<2^n->r s=fC m (M.map aY) s
def hs3(cE cN cT:Addr):Hs:=⟨λH a n r=>E1 cE H a n r\/CA cN H a n r\/DU cT H a n r,λC=>C=cE\/C=cN\/C=cT⟩
theorem vG(cE cN cT:Addr):gP (hs3 cE cN cT) where
 same:=λe h=>by
  rcases h with ⟨dx,m,h1,h2⟩|⟨p,ts,h1,h2⟩|⟨m,M,h1,h2⟩
  .exact .inl ⟨dx,m,e.at h1,h2⟩
  .exact .inr (.inl ⟨p,ts,h1.same e,h2⟩)
  .exact .inr (.inr ⟨m,M,h1.same e,h2⟩)
 shown:=λh=>by
  rcases h with ⟨dx,m,h1,h2⟩|⟨p,ts,⟨dx,t,xs,h1,_⟩,h2⟩|⟨m,M,⟨dx,t,xs,h1,_⟩,h2⟩
  .exact⟨cE, .inl rfl,dx,_,h1,A3 _ _,yC _ _,A6 _ _⟩
  .exact⟨cN, .inr (.inl rfl),dx,_,h1,Aw _ _ _,yb _ _ _,Ax _ _ _⟩
  .exact⟨cT, .inr (.inr rfl),dx,_,h1,zu _ _ _,xw _ _ _,zw _ _ _⟩
theorem Dc(d1:cE≠cN)(d2:cE≠cT)(vs:List V)(H:Hp)(Q:VK)(E:XK)(h:gW (hs3 cE cN cT) cE vs H Q E):wy cE vs H Q E:=by
 obtain⟨a,n,s,r,rfl,hB,⟨dx0,fs0,ha0⟩,n8,hs,k⟩:=h;have s2:=s_lt n8 hs;rcases hB with ⟨dx,m,h1,h2⟩|⟨p,ts,⟨dx,t,xs,h1,_⟩,h2⟩|⟨m,M,⟨dx,t,xs,h1,_⟩,h2⟩
 .refine⟨a,dx,_,_,_,rfl,h1,by lia,by lia,λH' sm=> ?_⟩;have:=k H' sm;rw[h2 s hs]at this;have e:Eo ((bits (s:Int).toNat).length:Nat) (m:Int)=((min (sz s) m:Nat):Int):=by rw[E4];show(if(m:Int)<((sz s:Nat):Int)then(m:Int)else((sz s:Nat):Int))=_;split<;>lia
  rw[e];exact this
 .exact absurd (iy ha0 h1) d1
 .exact absurd (iy ha0 h1) d2
theorem C8(d1:cE≠cN)(d3:cN≠cT)(vs:List V)(H:Hp)(Q:VK)(E:XK)(h:gW (hs3 cE cN cT) cN vs H Q E):wu cN vs H Q E:=by
 obtain⟨a,n,s,r,rfl,hB,⟨dx0,fs0,ha0⟩,n8,hs,k⟩:=h;rcases hB with ⟨dx,m,h1,h2⟩|⟨p,ts,h1,h2,h3,h4,h5⟩|⟨m,M,⟨dx,t,xs,h1,_⟩,h2⟩
 .exact absurd (iy h1 ha0) d1
 .refine⟨a,_,p,s,ts,rfl,h1,h2,h3,by lia,by rw[h4];exact hs,λH' sm=> ?_⟩;rw[<-h5 s hs];exact k H' sm
 .exact absurd (iy ha0 h1) d3
theorem C7(d2:cE≠cT)(d3:cN≠cT)(vs:List V)(H:Hp)(Q:VK)(E:XK)(h:gW (hs3 cE cN cT) cT vs H Q E):se cT vs H Q E:=by
 obtain⟨a,n,s,r,rfl,hB,⟨dx0,fs0,ha0⟩,n8,hs,k⟩:=h;rcases hB with ⟨dx,m,h1,h2⟩|⟨p,ts,⟨dx,t,xs,h1,_⟩,h2⟩|⟨m,M,h1,h2,h3,hm,h5⟩
 .exact absurd (iy h1 ha0) d2
 .exact absurd (iy h1 ha0) d3
 .refine⟨a,n,s,m,M,rfl,h1,n8,h2,h3,hm,hs,λr' H' sm v1 v2=> ?_⟩;have e:fC m (M.map aY) s=r':=BI hm v1 v2;rw[<-e,<-h5 s hs];exact k H' sm
def aG(l:List Nat):List Int:=l.map λs:Nat=>(s:Int)
theorem cp(h:z∈aG l):∃s:Nat,s∈l/\z=s:=by obtain⟨s,hs,rfl⟩:=Fn.mp h;exact⟨s,hs,rfl⟩
def qy(K:PySem.W.Frag)(H:Hp)(a:Addr)(cs:List Int):Prop:=SqL K H a (cs.map V.int)/\0<cs.length/\cs.length<=64/\∀z∈cs,Builtin.Int.intBits z<=2^20
theorem Cw{cs:List Int}(h:qy K H b cs)(k:Nat):∃ (cell:Int) (B:Nat),B<=1048576/\atI (cs.map V.int) ((k:Int) % ((cs.map V.int).length:Nat))=some (.int cell)/\cell.natAbs<2^B:=by have hl:(cs.map V.int).length=cs.length:=E3 ..;have hp:=h.2.1;rw[hl,<-Jm];have hk:k % cs.length<cs.length:=JY _ hp;refine⟨cs[k % cs.length],Builtin.Int.intBits cs[k % cs.length],h.2.2.2 _ (Gj hk),bw (by rw[Fm,Fs hk];rfl),ij (Fj _)⟩
theorem Bk{z t:Int}(h:z.natAbs<2^B)(ht:t.natAbs<2^j):(z+t).natAbs<2^(B+j+1):=by
 have h1:2^B<=2^(B+j):=Fy (by lia) (by lia);have h2:2^j<=2^(B+j):=Fy (by lia) (by lia);have h3:2^(B+j+1)=2^(B+j)+2^(B+j):=by rw[Jy];lia
 lia
def EY(p:Nat)(H:Hp)(xs:List V):Prop:=∀y∈xs,∃ (c:Addr) (t:Nat×Nat),y= .ref c/\H c=some (.tup [.int t.1, .int t.2])/\t.1<p/\t.2<p
theorem bP(n:Nat):0<2^n:=GC (by lia)
def hs4(cE cN cT cL:Addr):Hs:=⟨λH a n r=>(hs3 cE cN cT).ho H a n r\/EZ cL H a n r,λC=>(hs3 cE cN cT).dom C\/C=cL⟩
theorem AO(cE cN cT cL:Addr):gP (hs4 cE cN cT cL) where
 same:=λe h=>by
  rcases h with h|⟨ms,h1,h2⟩
  .exact .inl ((vG cE cN cT).same e h)
  .exact .inr ⟨ms,h1.same e,h2⟩
 shown:=λh=>by
  rcases h with h|⟨ms,⟨dx,t,h1,_⟩,h2⟩
  .obtain⟨C,d,sh⟩:=(vG cE cN cT).shown h;exact⟨C, .inl d,sh⟩
  .exact⟨cL, .inr rfl,dx,_,h1,AH _ _,yk _ _,AJ _ _⟩
structure DT(Z:Hs):Prop where
 congr:∀ {H:Hp} {a:Addr} {n:Nat} {r r':Nat->Nat},Z.ho H a n r->(∀s,s<2^n->r s=r' s)->Z.ho H a n r'
theorem DN(cE cN cT cL:Addr):DT (hs4 cE cN cT cL) where
 congr:=λh e=>by
  rcases h with (⟨dx,m,h1,h2⟩|⟨p,ts,h1,h3,h4,h5,h2⟩|⟨m,M,h1,h3,h4,h5,h2⟩)|⟨ms,h1,h3,h4,h2⟩
  .exact .inl (.inl ⟨dx,m,h1,λs hs=>by rw[<-e s hs];exact h2 s hs⟩)
  .exact .inl (.inr (.inl ⟨p,ts,h1,h3,h4,h5,λs hs=>by rw[<-e s hs];exact h2 s hs⟩))
  .exact .inl (.inr (.inr ⟨m,M,h1,h3,h4,h5,λs hs=>by rw[<-e s hs];exact h2 s hs⟩))
  .exact .inr ⟨ms,h1,h3,h4,λs hs=>by rw[<-e s hs];exact h2 s hs⟩
theorem DM(z:DT Z)(cO:Addr):DT (hsO Z cO) where
 congr:=λh e=>by
  rcases h with h|⟨dx,h',r',h1,h2,h3⟩
  .exact .inl (z.congr h e)
  .exact .inr ⟨dx,h',r',h1,h2,λs hs=>by rw[<-e s hs];exact h3 s hs⟩
theorem uS(hne:C≠cL)(vs:List V)(H:Hp)(Q:VK)(E:XK)(h:gW (hs4 cE cN cT cL) C vs H Q E):gW (hs3 cE cN cT) C vs H Q E:=by
 obtain⟨a,n,s,r,rfl,hB,⟨dx0,fs0,ha0⟩,n8,hs,k⟩:=h;rcases hB with hB|⟨ms,⟨dx,t,h1,_⟩,h2⟩
 .exact⟨a,n,s,r,rfl,hB,⟨dx0,fs0,ha0⟩,n8,hs,k⟩
 .exact absurd (jz ha0 h1) hne
theorem C9(hne:¬(hs3 cE cN cT).dom cL)(vs:List V)(H:Hp)(Q:VK)(E:XK)(h:gW (hs4 cE cN cT cL) cL vs H Q E):wx cL vs H Q E:=by
 obtain⟨a,n,s,r,rfl,hB,⟨dx0,fs0,ha0⟩,n8,hs,k⟩:=h;have s2:=s_lt n8 hs;rcases hB with hB|⟨ms,h1,h2,h3,h4⟩
 .obtain⟨C,d,sh⟩:=(vG cE cN cT).shown hB;obtain⟨dx,fs,ha,_⟩:=sh.ex;exact absurd (jz ha ha0▸d) hne
 .refine⟨a,_,_,ms,rfl,h1,h2,h3,by lia,by lia,λH' sm=> ?_⟩;have:=k H' sm;rw[h4 s hs]at this;rw[E4];exact this
inductive uD(K:PySem.W.Frag)(Z:Hs)(vs:List V)(H:Hp)(Q:VK):Prop
 |mk (b:Addr) (cs:List Int) (n:Nat) (t:Int) (y_0:vs=[.ref b, .int (n:Int), .int t]) (y_1:qy K H b cs) (y_2:n<=6) (y_3:∀p q d H' r,Same H H'->H' p=some (.tup [.ref q, .ref d])->Z.ho H' q n r->Mat n r->H' d=some (.lst ((aG ((List.range (2^n)).map r)).map V.int))->Q (.ref p) H'):uD K Z vs H Q
def wD(K:PySem.W.Frag)(Z:Hs):Sp:=λvs H Q _=>uD K Z vs H Q
def qF(K:PySem.W.Frag)(Z:Hp->Addr->Nat->(Nat->Nat)->Prop):Sp:=λvs H Q _=>∃ (b:Addr) (cs:List Int) (n:Nat),vs=[.ref b, .int (n:Int)]/\qy K H b cs/\n<=6/\∀p q d H' r,Same H H'->H' p=some (.tup [.ref q, .ref d])->Z H' q n r->Mat n r->H' d=some (.lst ((aG ((List.range (2^n)).map r)).map V.int))->Q (.ref p) H'
inductive uw(K:PySem.W.Frag)(vs:List V)(H:Hp)(Q:VK):Prop
 |mk (a:Addr) (xs:List V) (ts:List (Nat×Nat)) (p s:Nat) (y_0:vs=[.int (p:Int), .ref a, .int (s:Int)]) (y_1:SqL K H a xs) (y_2:cS H xs ts) (y_3:ky p ts) (y_4:p<=8) (y_5:ts.length<=8) (y_6:s<2^ts.length) (y_7:∀H',Same H H'->Q (.int (pcs p ts s:Nat)) H'):uw K vs H Q
def wA(K:PySem.W.Frag):Sp:=λvs H Q _=>uw K vs H Q
theorem uR(p:Nat):eS (λ_=>true) (λi=>V.int (0+(i:Nat))) p=(start p).map V.int:=by rw[eu,Gf.mpr λ_ _=>rfl];rfl
theorem iI(f:Nat->Nat)(N:Nat):eS (λ_=>true) (λs=>V.int ((f s:Nat):Int)) N=(aG ((List.range N).map f)).map V.int:=by unfold eS aG;rw[Gf.mpr λ_ _=>rfl,F5,F5];rfl
theorem mr{cs:List Int}(h:qy K H b cs):∃c:Int,atI (cs.map V.int) 0=some (.int c)/\∀k:Int,k.natAbs<2^20->bO c k:=by have hp:=h.2.1;refine⟨cs[0],bw (j:=0) (by rw[Fm,Fs hp];rfl),λk hk=> ?_⟩;have h2:=h.2.2.2 _ (Gj hp);exact bO.of (k:=Builtin.Int.intBits cs[0]) (m:=20) (ij (Fj _)) hk (by lia)
inductive nQ(K:PySem.W.Frag)(vs:List V)(H:Hp)(Q:VK):Prop
 |mk (a:Addr) (xs:List V) (L:List (List Int)) (n i j k:Nat) (y_0:vs=[.ref a, .int (i:Int), .int (j:Int), .int (k:Int)]) (y_1:SqL K H a xs) (y_2:bo H xs L) (y_3:(∀r∈L,eY n 200 r)) (y_4:i<n) (y_5:j<n) (y_6:k<n) (y_7:L.length<=3) (y_8:(L.length<3->Q (.int 0) H)) (y_9:∀x y z,L=[x,y,z]->Q (.int (aP [aY x,aY y,aY z] [i,j,k])) H):nQ K vs H Q
def oQ(K:PySem.W.Frag):Sp:=λvs H Q _=>nQ K vs H Q
inductive qu(K:PySem.W.Frag)(vs:List V)(H:Hp)(Q:VK):Prop
 |mk (a b:Addr) (xs:List V) (L:List (List Int)) (n:Nat) (J:List Nat) (m:Int) (y_0:vs=[.ref a, .int m, .ref b]) (y_1:SqL K H a xs) (y_2:bo H xs L) (y_3:(∀r∈L,eY n 200 r)) (y_4:L.length<=3) (y_5:SqL K H b ((aG J).map V.int)) (y_6:(∀j∈J,j<n)) (y_7:J.length<=3) (y_8:cD m) (y_9:∀ (bb:Bool) H',(bb=true↔jP m (L.map aY) J)->Same H H'->Q (.bl bb) H'):qu K vs H Q
def sx(K:PySem.W.Frag):Sp:=λvs H Q _=>qu K vs H Q
inductive pW(K:PySem.W.Frag)(vs:List V)(H:Hp)(Q:VK):Prop
 |mk (a:Addr) (xs:List V) (L:List (List Int)) (n:Nat) (m:Int) (y_0:vs=[.int (n:Int), .int m, .ref a]) (y_1:SqL K H a xs) (y_2:bo H xs L) (y_3:(∀r∈L,eY n 200 r)) (y_4:L.length<=3) (y_5:n<=6) (y_6:cD m) (y_7:∀p H',Same H H'->H p=none->H' p=some (.lst ((aG ((List.range (2^n)).map (fC m (L.map aY)))).map V.int))->Q (.ref p) H'):pW K vs H Q
def r6(K:PySem.W.Frag):Sp:=λvs H Q _=>pW K vs H Q
theorem ka(l:List Nat):((aG l).map V.int).length=l.length:=by rw[E3,aG,E3]
theorem fG:∀ {x y:List Int},x.map V.int=y.map V.int->x=y
 | [],[],_=>rfl
 | [],_::_,h=>(nomatch h)
 |_::_,[],h=>(nomatch h)
 |a::x,b::y,h=>by
  rw[FT,FT]at h;injection h with h1 h2
  injection h1 with h1
  rw[h1,fG h2]
theorem dE{l:List Nat}{i j:Nat}(h:l[i]?=some j):atI ((aG l).map V.int) (i:Int)=some (.int (j:Int)):=bw (by rw[Fm,aG,Fm,h];rfl)
theorem CY(x y:List Int)(j k:Nat):x.getD j 0*y.getD k 0-x.getD k 0*y.getD j 0=aP [aY x,aY y] [j,k]:=by rw[jE];show _=x.getD j 0*y.getD k 0-y.getD j 0*x.getD k 0;rw[GV (y.getD j 0)]
theorem Cg{b:Bool}{X F:Prop}{B:Hp->Prop}{H:Hp}(hB:∀H',Same H H'->¬F->B H')(hn:¬b=true->¬F)(hX:b=true->(∀H',Same H H'->¬F->B H')->X):if b=true then X else B H:=by
 by_cases h:b=true
 .rw[E9 h];exact hX h hB
 .rw[Fg h];exact hB H (Same.refl _) (hn h)
theorem zJ(k:Nat):(1*2^((k:Nat):Int).toNat:Int)=((2^k:Nat):Int):=cj k
theorem Bq{s k:Nat}(h8:s<256)(hk:s.testBit k=true):Builtin.bitXor (0+(s:Int)) (1*2^((k:Nat):Int).toNat)=((s^^^2^k:Nat):Int):=by have k8:k<8:=bB (n:=8) (by lia) hk;obtain⟨x1,x2⟩:=hE s h8 k k8;unfold Builtin.bitXor;rw[zJ,FX,jJ (F0 _) (F0 _),dg (F0 _) (F0 _),E4,E4];lia
theorem Bj{cs:List Int}(h:qy K H b cs)(k:Nat):∃cell:Int,atI (cs.map V.int) ((k:Int) % ((cs.map V.int).length:Nat))=some (.int cell)/\Builtin.Int.intBits cell<=2^20:=by have hl:(cs.map V.int).length=cs.length:=E3 ..;have hp:=h.2.1;rw[hl,<-Jm];have hk:k % cs.length<cs.length:=JY _ hp;exact⟨cs[k % cs.length],bw (by rw[Fm,Fs hk];rfl),h.2.2.2 _ (Gj hk)⟩
theorem Bw(j:Nat)(hj:j<4):∃m:Int,cD m/\atI [V.int 2,V.int 3,V.int 0,V.int 97] (j:Int)=some (.int m):=by
 match j,hj with
 |0,_=>exact⟨2,iK 2 (by decide),bw rfl⟩
 |1,_=>exact⟨3,iK 3 (by decide),bw rfl⟩
 |2,_=>exact⟨0,vc,bw rfl⟩
 |3,_=>exact⟨97,iK 97 (by decide),bw rfl⟩
inductive uy(vs:List V)(H:Hp)(Q:VK):Prop
 |mk (s:Int) (y_0:vs=[.int s]) (y_1:0<=s) (y_2:s<256) (y_3:Q (.int ((bits s.toNat).length:Nat)) H):uy vs H Q
def iu:Sp:=λvs H Q _=>uy vs H Q
inductive ux(vs:List V)(H:Hp)(Q:VK):Prop
 |mk (s:Int) (y_0:vs=[.int s]) (y_1:0<=s) (y_2:s<256) (y_3:∀p H',Same H H'->H p=none->H' p=some (.lst ((Ab s.toNat).map V.int))->Q (.ref p) H'):ux vs H Q
def eI:Sp:=λvs H Q _=>ux vs H Q
inductive jN(vs:List V)(H:Hp)(Q:VK):Prop
 |mk (n s:Nat) (y_0:vs=[.int (n:Int), .int (s:Int)]) (y_1:n<=8) (y_2:s<2^n) (y_3:∀p H' (ms:List Int),Same H H'->H p=none->H' p=some (.lst (ms.map V.int))->ms.Perm (ib n s)->ms.Pairwise (· <= ·)->Q (.ref p) H'):jN vs H Q
def kC:Sp:=λvs H Q _=>jN vs H Q
def zi(n:Nat)(r:Nat->Nat):List Int:=(List.range (2^n)).map λs=>(r s:Int)
theorem Ej(h:n<=8):2^n<=256:=Fy (n:=2) (by lia) h
theorem cc(x y:Nat):Builtin.bitOr (x:Int) (y:Int)=((x|||y:Nat):Int):=by rw[jJ (F0 _) (F0 _),E4,E4]
theorem cZ(x y:Nat):Builtin.bitAnd (x:Int) (y:Int)=((x&&&y:Nat):Int):=by rw[dg (F0 _) (F0 _),E4,E4]
theorem bW:(1*2^((n:Nat):Int).toNat-1:Int)=((2^n-1:Nat):Int):=by
 have h:0<2^n:=GC (by lia);have e:((2:Int)^n)=((2^n:Nat):Int):=by simp
 rw[E4,Hl,e];lia
structure ZOk(Z:Hs)(H:Hp)(a:Addr)(n:Nat)(ms:List Int):Prop where
 ho:Z.ho H a n (au ms)
 n8:n<=8
theorem ZOk.same(h:ZOk Z H a n ms)(z:gP Z)(e:Same H H'):ZOk Z H' a n ms:=⟨z.same e h.ho,h.n8⟩
theorem ZOk.sees{Z:Hs}(h:ZOk Z H a n ms)(z:gP Z)(hc:∀C,Z.dom C->HC K C_House C):∃C,Z.dom C/\∃dx fs,H a=some (.ins C dx fs)/\fs.lookup ("rank":Str)=none/\fs.lookup ("everything":Str)=none/\fs.lookup ("many":Str)=some (.int (n:Int))/\Cls K C/\bC K C "many":=by obtain⟨C,dm,hsh⟩:=z.shown h.ho;obtain⟨dx,fs,ha,fr,fe,fm⟩:=hsh.ex;obtain⟨cl,nM,_,_⟩:=hc C dm;exact⟨C,dm,dx,fs,ha,fr,fe,fm,cl,nM⟩
inductive pU(Z:Hs)(vs:List V)(H:Hp)(Q:VK):Prop
 |mk (a:Addr) (n:Nat) (ms:List Int) (y_0:vs=[.ref a]) (y_1:ZOk Z H a n ms) (y_2:∀H',Same H H'->Q (.int (au ms (2^n-1):Nat)) H'):pU Z vs H Q
def rZ(Z:Hs):Sp:=λvs H Q _=>pU Z vs H Q
inductive qa(Z:Hs)(vs:List V)(H:Hp)(Q:VK):Prop
 |mk (a:Addr) (n:Nat) (ms:List Int) (y_0:vs=[.ref a]) (y_1:ZOk Z H a n ms) (y_2:∀p H',Same H H'->H p=none->H' p=some (.lst (((List.range (2^n)).map λs=>((au ms s:Nat):Int)).map V.int))->Q (.ref p) H'):qa Z vs H Q
def i8(Z:Hs):Sp:=λvs H Q _=>qa Z vs H Q
def eV(ms:List Int)(s:Nat):Bool:=decide (au ms s=sz s)
inductive qt(Z:Hs)(vs:List V)(H:Hp)(Q:VK):Prop
 |mk (a:Addr) (n:Nat) (ms:List Int) (y_0:vs=[.ref a]) (y_1:ZOk Z H a n ms) (y_2:∀p H',Same H H'->H p=none->H' p=some (.lst ((aG ((List.range (2^n)).filter (eV ms))).map V.int))->Q (.ref p) H'):qt Z vs H Q
def mQ(Z:Hs):Sp:=λvs H Q _=>qt Z vs H Q
def kW(ms:List Int)(r s:Nat):Bool:=decide (au ms s=sz s)&&decide (sz s=r)
inductive qw(Z:Hs)(vs:List V)(H:Hp)(Q:VK):Prop
 |mk (a:Addr) (n:Nat) (ms:List Int) (y_0:vs=[.ref a]) (y_1:ZOk Z H a n ms) (y_2:∀p H',Same H H'->H p=none->H' p=some (.lst ((aG ((List.range (2^n)).filter (kW ms (au ms (2^n-1))))).map V.int))->Q (.ref p) H'):qw Z vs H Q
def sA(Z:Hs):Sp:=λvs H Q _=>qw Z vs H Q
theorem bY(l:List Nat)(p:Int->Bool):(aG l).filter p=aG (l.filter λs:Nat=>p (s:Int)):=by unfold aG;rw[Ki];rfl
theorem cI(x y:Nat):decide (V.int (x:Int)=V.int (y:Int))=decide (x=y):=by
 by_cases h:x=y
 .rw[E6 h,h,E6 rfl]
 .rw[E8 h,E8 λz=>h (by have:=V.int.inj z;lia)]
inductive xm(vs:List V)(H:Hp)(Q:VK):Prop
 |mk (s t:Nat) (y_0:vs=[.int (s:Int), .int (t:Int)]) (y_1:Q (.int (aT s t:Nat)) H):xm vs H Q
def d6:Sp:=λvs H Q _=>xm vs H Q
inductive qk(K:PySem.W.Frag)(vs:List V)(H:Hp)(Q:VK):Prop
 |mk (a:Addr) (ms:List Int) (n s:Nat) (y_0:vs=[.ref a, .int (s:Int)]) (y_1:SqL K H a (((List.range (2^n)).map (eW ms)).map V.bl)) (y_2:n<=8) (y_3:s<2^n) (y_4:∀H',Same H H'->Q (.bl (cJ ms s)) H'):qk K vs H Q
def so(K:PySem.W.Frag):Sp:=λvs H Q _=>qk K vs H Q
inductive pX(Z:Hs)(vs:List V)(H:Hp)(Q:VK):Prop
 |mk (a:Addr) (n:Nat) (ms:List Int) (y_0:vs=[.ref a]) (y_1:ZOk Z H a n ms) (y_2:∀p H',Same H H'->H p=none->H' p=some (.lst ((aG ((List.range (2^n)).filter (cJ ms))).map V.int))->Q (.ref p) H'):pX Z vs H Q
def r8(Z:Hs):Sp:=λvs H Q _=>pX Z vs H Q
def cz(ms:List Int)(n:Nat):List Int:=(List.range (2^n)).map λs=>((au ms s:Nat):Int)
inductive qm(K:PySem.W.Frag)(vs:List V)(H:Hp)(Q:VK):Prop
 |mk (a:Addr) (ms:List Int) (n s:Nat) (y_0:vs=[.ref a, .int ((aT (2^n-1) s:Nat):Int), .int (s:Int)]) (y_1:SqL K H a ((cz ms n).map V.int)) (y_2:n<=8) (y_3:s<2^n) (y_4:∀H',Same H H'->Q (.bl (fY ms n s)) H'):qm K vs H Q
def sr(K:PySem.W.Frag):Sp:=λvs H Q _=>qm K vs H Q
inductive qv(Z:Hs)(vs:List V)(H:Hp)(Q:VK):Prop
 |mk (a:Addr) (n:Nat) (ms:List Int) (y_0:vs=[.ref a]) (y_1:ZOk Z H a n ms) (y_2:∀p H',Same H H'->H p=none->H' p=some (.lst ((aG ((List.range (2^n)).filter (fY ms n))).map V.int))->Q (.ref p) H'):qv Z vs H Q
def sy(Z:Hs):Sp:=λvs H Q _=>qv Z vs H Q
inductive nX(Z:Hs)(vs:List V)(H:Hp)(Q:VK):Prop
 |mk (a:Addr) (n s:Nat) (ms:List Int) (y_0:vs=[.ref a, .int (s:Int)]) (y_1:ZOk Z H a n ms) (y_2:s<2^n) (y_3:∀H',Same H H'->Q (.int (jI ms n s:Nat)) H'):nX Z vs H Q
def oW(Z:Hs):Sp:=λvs H Q _=>nX Z vs H Q
theorem kK(g:Int->Bool)(zs:List Int):dq (λx=>(λ_=>true) (aW x)) (λx=>V.bl (g (aW x))) (zs.map V.int)=(zs.map g).map V.bl:=by unfold dq;rw[Gf.mpr (λ_ _=>rfl),F5,F5];rfl
theorem kL(f:Nat->V->V)(g:Nat->V):∀ (m i:Nat),dA (λ_ _=>true) f i ((List.range' i m).map g)=(List.range' i m).map λj=>f j (g j)
 |0,_=>rfl
 |m+1,i=>by rw[List.range'_succ,FT,dA,E9 rfl,kL f g m (i+1),FT]
theorem d7{ms:List Int}{n s:Nat}(h:s<2^n):atI ((cz ms n).map V.int) (s:Int)=some (.int ((au ms s:Nat):Int)):=rf (by unfold cz;rw[Fm,Gi h];rfl)
theorem uh(h:s<N):atI (((List.range N).map g).map V.bl) (s:Int)=some (.bl (g s)):=bw (by rw[Fm,Fm,Gi h];rfl)
theorem dM(k:Nat):(1*2^((k:Nat):Int).toNat:Int)=((2^k:Nat):Int):=cj k
inductive qf(K:PySem.W.Frag)(vs:List V)(H:Hp)(Q:VK):Prop
 |mk (a:Addr) (ms:List Int) (n:Nat) (y_0:vs=[.int (n:Int), .ref a]) (y_1:SqL K H a ((cz ms n).map V.int)) (y_2:n<=8) (y_3:∀p H',Same H H'->H p=none->H' p=some (.lst ((aG ((List.range (2^n)).filter (cJ ms))).map V.int))->Q (.ref p) H'):qf K vs H Q
def sg(K:PySem.W.Frag):Sp:=λvs H Q _=>qf K vs H Q
theorem t4(x y:Int):decide (V.int x=V.int y)=decide (x=y):=by
 by_cases h:x=y
 .rw[E6 h,h,E6 rfl]
 .rw[E8 h,E8 λz=>h (V.int.inj z)]
def CB(H:Hp):Ans->V->Prop
 |none,v=>v= .non
 |some (x,y,z),v=>∃p,v= .ref p/\H p=some (.tup ([x,y,z].map V.int))
theorem CB.same(h:CB H o v)(s:Same H H'):CB H' o v:=by
 cases o with
 |none=>exact h
 |some t=>
  obtain⟨x,y,z⟩:=t;obtain⟨p,e,hp⟩:=h;exact⟨p,e,s.at hp⟩
inductive xi(K:PySem.W.Frag)(F:Nat->List Int->Ans)(vs:List V)(H:Hp)(Q:VK):Prop
 |mk (a:Addr) (n:Nat) (told:List Int) (y_0:vs=[.int (n:Int), .ref a]) (y_1:SqL K H a (told.map V.int)) (y_2:told.length=2^n) (y_3:n<=8) (y_4:∀v H',Same H H'->CB H' (F n told) v->Q v H'):xi K F vs H Q
def jS(K:PySem.W.Frag)(F:Nat->List Int->Ans):Sp:=λvs H Q _=>xi K F vs H Q
theorem cY{rs:List Nat}{i:Nat}{z:Int}(h:(aG rs)[i]?=some z):∃c:Nat,rs[i]?=some c/\z=(c:Int):=by
 unfold aG at h;rw[Fm]at h;cases e:rs[i]? with
 |none=>rw[e]at h;cases h
 |some c=>rw[e]at h;cases h;exact⟨c,rfl,rfl⟩
theorem bG(rs:List Nat):(aG rs).length=rs.length:=by unfold aG;exact E3 ..
theorem oK{rs:List Nat}(h:rs[i]?=some c):rs.take (i+1)=rs.take i++[c]:=by rw[GK,h];rfl
inductive qr(K:PySem.W.Frag)(vs:List V)(H:Hp)(Q:VK):Prop
 |mk (a:Addr) (rs:List Nat) (s:Nat) (y_0:vs=[.ref a, .int (s:Int)]) (y_1:SqL K H a ((aG rs).map V.int)) (y_2:Q (.bl (rs.any λc=>decide (c&&&s=c))) H):qr K vs H Q
def mP(K:PySem.W.Frag):Sp:=λvs H Q _=>qr K vs H Q
inductive pY(K:PySem.W.Frag)(vs:List V)(H:Hp)(Q:VK):Prop
 |mk (a:Addr) (rs:List Nat) (y_0:vs=[.ref a]) (y_1:SqL K H a ((aG rs).map V.int)) (y_2:(∀c∈rs,∀d∈rs,c≠d->¬c&&&d=c)) (y_3:Q .non H):pY K vs H Q
def r9(K:PySem.W.Frag):Sp:=λvs H Q _=>pY K vs H Q
inductive uk(K:PySem.W.Frag)(vs:List V)(H:Hp)(Q:VK):Prop
 |mk (a:Addr) (rs:List Nat) (y_0:vs=[.ref a]) (y_1:SqL K H a ((aG rs).map V.int)) (y_2:(∀c∈rs,c<256)) (y_3:(∀c∈rs,∀d∈rs,c≠d->∀t,c.testBit t=true->d.testBit t=true->∃e∈rs,e&&&aT (c|||d) (2^t)=e)) (y_4:∀H',Same H H'->Q .non H'):uk K vs H Q
def wo(K:PySem.W.Frag):Sp:=λvs H Q _=>uk K vs H Q
inductive nY(K:PySem.W.Frag)(vs:List V)(H:Hp)(Q:VK):Prop
 |mk (a:Addr) (n:V) (rs:List Nat) (y_0:vs=[n, .ref a]) (y_1:SqL K H a ((aG rs).map V.int)) (y_2:(∀c∈rs,c<256)) (y_3:¬0∈rs) (y_4:(∀c∈rs,∀d∈rs,c≠d->¬c&&&d=c)) (y_5:(∀c∈rs,∀d∈rs,c≠d->∀t,c.testBit t=true->d.testBit t=true->∃e∈rs,e&&&aT (c|||d) (2^t)=e)) (y_6:∀H',Same H H'->Q .non H'):nY K vs H Q
def oX(K:PySem.W.Frag):Sp:=λvs H Q _=>nY K vs H Q
inductive qe(K:PySem.W.Frag)(vs:List V)(H:Hp)(Q:VK):Prop
 |mk (a:Addr) (n s:Nat) (fs:List Nat) (y_0:vs=[.int (n:Int), .ref a, .int (s:Int)]) (y_1:n<=8) (y_2:SqL K H a ((aG fs).map V.int)) (y_3:Q (.int (iQ n fs s:Nat)) H):qe K vs H Q
def mN(K:PySem.W.Frag):Sp:=λvs H Q _=>qe K vs H Q
def gX:Sp:=λvs H Q _=>vs=[.non]/\Q .non H
def LiR(C:Addr)(H:Hp)(p:Addr)(n:Nat)(r:Nat->Nat):Prop:=∃ms:List Int,we C H p n ms/\∀z,z∈ms↔∃b:Nat,b<2^n/\z=(b:Int)/\r b=sz b/\r b=r (2^n-1)
inductive nT(K:PySem.W.Frag)(C:Addr)(vs:List V)(H:Hp)(Q:VK):Prop
 |mk (a:Addr) (n:Nat) (fs:List Nat) (r:Nat->Nat) (y_0:vs=[.int (n:Int), .ref a]) (y_1:SqL K H a ((aG fs).map V.int)) (y_2:fs.length<=256) (y_3:Mat n r) (y_4:(∀s,s∈fs↔s<2^n/\r s=sz s)) (y_5:∀p H',Same H H'->H p=none->LiR C H' p n r->Q (.ref p) H'):nT K C vs H Q
def ir(K:PySem.W.Frag)(C:Addr):Sp:=λvs H Q _=>nT K C vs H Q
inductive nR(K:PySem.W.Frag)(C:Addr)(vs:List V)(H:Hp)(Q:VK):Prop
 |mk (a:Addr) (n:Nat) (rs:List Nat) (r:Nat->Nat) (y_0:vs=[.int (n:Int), .ref a]) (y_1:SqL K H a ((aG rs).map V.int)) (y_2:Mat n r) (y_3:(∀c,c∈rs↔c<2^n/\gM r c)) (y_4:∀p H',Same H H'->H p=none->LiR C H' p n r->Q (.ref p) H'):nR K C vs H Q
def oR(K:PySem.W.Frag)(C:Addr):Sp:=λvs H Q _=>nR K C vs H Q
theorem yc{n:Nat}{r:Nat->Nat}(M:Mat n r){fs:List Nat}(hf:∀s,s∈fs↔s<2^n/\r s=sz s):(∃b,b∈fs/\sz b=r (2^n-1))/\∀s∈fs,sz s<=r (2^n-1):=by
 constructor
 .obtain⟨b,_,h2,h3,h4⟩:=M.extend (s:=0) (t:=2^n-1) (λk h=>by rw[Hc]at h;cases h) (cx n) (by rw[M.zero,gw]);exact⟨b,(hf b).mpr ⟨h2.lt (cx n),h3⟩,by lia⟩
 .intro s hs;obtain⟨h1,h2⟩:=(hf s).mp hs;have:=M.mono (iZ h1) (cx n);lia
theorem nK{n:Nat}{r:Nat->Nat}{fs:List Nat}(hf:∀s,s∈fs↔s<2^n/\r s=sz s)(z:Int):
  z∈aG (fs.filter λs=>decide (sz s=r (2^n-1)))↔∃b:Nat,b<2^n/\z=(b:Int)/\r b=sz b/\r b=r (2^n-1):=by
 constructor
 .intro h;obtain⟨b,hb,rfl⟩:=cp h;obtain⟨h1,h2⟩:=FH.mp hb;obtain⟨h3,h4⟩:=(hf b).mp h1;exact⟨b,h3,rfl,h4,h4.trans (Fi h2)⟩
 .rintro⟨b,h1,rfl,h2,h3⟩;exact Fn.mpr ⟨b,FH.mpr ⟨(hf b).mpr ⟨h1,h2⟩,E6 (h2.symm.trans h3)⟩,rfl⟩
inductive nS(K:PySem.W.Frag)(C:Addr)(vs:List V)(H:Hp)(Q:VK):Prop
 |mk (a:Addr) (n:Nat) (r:Nat->Nat) (y_0:vs=[.int (n:Int), .ref a]) (y_1:SqL K H a ((aG ((List.range (2^n)).map r)).map V.int)) (y_2:Mat n r) (y_3:∀p H',Same H H'->H p=none->LiR C H' p n r->Q (.ref p) H'):nS K C vs H Q
def oS(K:PySem.W.Frag)(C:Addr):Sp:=λvs H Q _=>nS K C vs H Q
inductive nV(K:PySem.W.Frag)(C:Addr)(vs:List V)(H:Hp)(Q:VK):Prop
 |mk (a:Addr) (n:Nat) (bs:List Nat) (r:Nat->Nat) (y_0:vs=[.int (n:Int), .ref a]) (y_1:SqL K H a ((aG bs).map V.int)) (y_2:bs.length<=256) (y_3:Mat n r) (y_4:(∀b,b∈bs↔oe n r b)) (y_5:∀p H',Same H H'->H p=none->LiR C H' p n r->Q (.ref p) H'):nV K C vs H Q
def oU(K:PySem.W.Frag)(C:Addr):Sp:=λvs H Q _=>nV K C vs H Q
inductive nU(K:PySem.W.Frag)(C:Addr)(vs:List V)(H:Hp)(Q:VK):Prop
 |mk (a:Addr) (n:Nat) (fs:List Nat) (r:Nat->Nat) (y_0:vs=[.int (n:Int), .ref a]) (y_1:SqL K H a ((aG fs).map V.int)) (y_2:Mat n r) (y_3:(∀f,f∈fs↔gN n r f)) (y_4:fs.length<=256) (y_5:∀p H',Same H H'->H p=none->LiR C H' p n r->Q (.ref p) H'):nU K C vs H Q
def oT(K:PySem.W.Frag)(C:Addr):Sp:=λvs H Q _=>nU K C vs H Q
inductive ql(K:PySem.W.Frag)(vs:List V)(H:Hp)(Q:VK):Prop
 |mk (a:Addr) (n s:Nat) (r:Nat->Nat) (y_0:vs=[.ref a, .int (s:Int)]) (y_1:SqL K H a ((aG ((List.range (2^n)).map (clR n r))).map V.int)) (y_2:s<2^n) (y_3:Mat n r) (y_4:∀H',Same H H'->Q (.bl (decide (r s=sz s))) H'):ql K vs H Q
def sq(K:PySem.W.Frag):Sp:=λvs H Q _=>ql K vs H Q
inductive n9(K:PySem.W.Frag)(vs:List V)(H:Hp)(Q:VK):Prop
 |mk (a:Addr) (n:V) (bs:List Nat) (y_0:vs=[n, .ref a]) (y_1:SqL K H a ((aG bs).map V.int)) (y_2:bs≠[]) (y_3:bs.length<=256) (y_4:(∀b∈bs,b<256)) (y_5:(∀b∈bs,∀c∈bs,∀t,b.testBit t=true->c.testBit t=false->∃y,c.testBit y=true/\b.testBit y=false/\(aT b (2^t)|||2^y)∈bs)) (y_6:∀H',Same H H'->Q .non H'):n9 K vs H Q
def o3(K:PySem.W.Frag):Sp:=λvs H Q _=>n9 K vs H Q
inductive nZ(K:PySem.W.Frag)(vs:List V)(H:Hp)(Q:VK):Prop
 |mk (a:Addr) (n:Nat) (r:Nat->Nat) (y_0:vs=[.int (n:Int), .ref a]) (y_1:SqL K H a ((aG ((List.range (2^n)).map r)).map V.int)) (y_2:Mat n r) (y_3:∀H',Same H H'->Q .non H'):nZ K vs H Q
def oY(K:PySem.W.Frag):Sp:=λvs H Q _=>nZ K vs H Q
inductive n5(K:PySem.W.Frag)(vs:List V)(H:Hp)(Q:VK):Prop
 |mk (a:Addr) (n:Nat) (fs:List Nat) (r:Nat->Nat) (y_0:vs=[.int (n:Int), .ref a]) (y_1:SqL K H a ((aG fs).map V.int)) (y_2:Mat n r) (y_3:(∀f,f∈fs↔gN n r f)) (y_4:fs.length<=256) (y_5:∀H',Same H H'->Q .non H'):n5 K vs H Q
def oZ(K:PySem.W.Frag):Sp:=λvs H Q _=>n5 K vs H Q
theorem sM{n s:Nat}(g:Nat->Nat)(hs:s<2^n):atI ((aG ((List.range (2^n)).map g)).map V.int) (s:Int)=some (.int (g s:Nat)):=by refine bw ?_;unfold aG;rw[Fm,Fm,Fm,Gi hs];rfl
theorem pj(n1:H x=none)(n2:H dx=none):Same H (upd (upd H dx (HO.own x)) x (HO.ins C dx [])):=λb o e=>by rw[aC (aA e n1),aC (aA e n2)];exact e
theorem dZ(r:Nat->Nat)(hs:s<2^n):(aG ((List.range (2^n)).map r)).getD s 0=((r s:Nat):Int):=by unfold aG;rw[Ff,Fm,Fm,Gi hs];rfl
theorem Au(hn:n<=8)(ha:a<2^n)(hb:b<2^n)(h:near a b=true):∃j k,j<n/\k<n/\(a&&&b)|||2^j=a/\(a&&&b)|||2^k=b:=by unfold near at h;rw[Fp]at h;have p8:=dy hn;obtain⟨k,_,hk,_,ek⟩:=qB (a:=a) (b:=b) (by lia) (by lia) (Fi h.2);obtain⟨j,_,hj,_,ej⟩:=qB (a:=b) (b:=a) (by lia) (by lia) (by rw[IW];exact Fi h.1);rw[IW]at ej;exact⟨j,k,bB ha hj,bB hb hk,by rw[<-ej];exact eC hj,by rw[<-ek];exact eC hk⟩
theorem A8(M:Mat n r):vR n (aG ((List.range (2^n)).map r))=none:=by
 unfold vR;have p0:0<2^n:=GC (by lia);rw[dZ r p0,M.zero,E9 (show((0:Nat):Int)=0 from rfl)];have e1:fP n (aG ((List.range (2^n)).map r))=none:=eU λone h1=>eU λk hk=>by
  have st:=M.step one k h1 hk;unfold uQ jK;rw[dZ r (bA h1 hk),dZ r h1];refine Fg λh=> ?_;rw[Fp]at h;have h2:=h.2;by_cases e:((r (one|||2^k):Nat):Int) - (r one:Nat)=0
  .rw[E6 e]at h2;cases h2
  .have e':((r (one|||2^k):Nat):Int) - (r one:Nat)=1:=by lia
   rw[E6 e',Jz]at h2;cases h2
 have e2:gB n (aG ((List.range (2^n)).map r))=none:=eU λa ha=>eU λb hb=>by
  unfold CO;refine Fg λh=> ?_;rw[Fp,Fp]at h;obtain⟨j,k,hj,hk,ej,ek⟩:=Au M.n8 ha hb h.1;have hl:=(gh a b).lt ha;have h3:=h.2.2;unfold jx at h3;rw[dZ r ha,dZ r hb,dZ r hl,dZ r (GF ha hb),Fp,Fp]at h3;have c1:=Fi h3.1;have c2:=Fi h3.2.1;have c3:=Fi h3.2.2;have s:=M.sub (a&&&b) j k hl hj hk (by rw[ej];lia) (by rw[ek];lia);have eo:(a&&&b)|||2^j|||2^k=a|||b:=by rw[ej];refine Eq.trans ?_ (Fu (λx=>a|||x) ek);show a|||2^k=a||| (a&&&b|||2^k);rw[<-IZ,Nat.or_comm a (a&&&b),jZ (gh a b)]
  rw[eo]at s;lia
 rw[e1,e2];rfl
theorem Cal.imp(C:Cal P w K mg base k x ps sp)(h:∀vs H Q E,sp' vs H Q E->sp vs H Q E):Cal P w K mg base k x ps sp':=by obtain⟨f,fd,F,m,kp,b⟩:=C.ex;exact⟨f,fd,F.imp h,m,kp,b⟩
theorem ug(vs:List V)(H:Hp)(Q:VK)(E:XK)(h:oY K vs H Q E):jS K vR vs H Q E:=by obtain⟨a,n,r,rfl,ha,M,k⟩:=h;refine⟨a,n,_,rfl,ha,by rw[bG,E3,FD],M.n8,λv H' sm hA=> ?_⟩;rw[A8 M]at hA;have:v= .non:=hA;subst this;exact k H' sm
def nP(H:Hp)(p:Addr)(bs:List Nat):Prop:=∃kvs:List (Key×V),H p=some (.dK kvs)/\∀k:Nat,(dX kvs (Sum.inl (k:Int))).isSome=decide (k∈bs)
theorem nP.same(h:nP H p bs)(e:Same H H'):nP H' p bs:=by obtain⟨kvs,h1,h2⟩:=h;exact⟨kvs,e.at h1,h2⟩
inductive qd(K:PySem.W.Frag)(vs:List V)(H:Hp)(Q:VK):Prop
 |mk (a:Addr) (bs:List Nat) (y_0:vs=[.ref a]) (y_1:SqL K H a ((aG bs).map V.int)) (y_2:bs.length<=256) (y_3:∀p H',Same H H'->H p=none->nP H' p bs->Q (.ref p) H'):qd K vs H Q
def mM(K:PySem.W.Frag):Sp:=λvs H Q _=>qd K vs H Q
inductive jO(vs:List V)(H:Hp)(Q:VK):Prop
 |mk (s t y:Nat) (y_0:vs=[.int (s:Int), .int (t:Int), .int (y:Int)]) (y_1:t<8) (y_2:y<8) (y_3:Q (.int (fb s t y:Nat)) H):jO vs H Q
def gY:Sp:=λvs H Q _=>jO vs H Q
inductive uF(vs:List V)(H:Hp)(Q:VK):Prop
 |mk (p:Addr) (bs:List Nat) (b c t:Nat) (y_0:vs=[.ref p, .int (b:Int), .int (c:Int), .int (t:Int)]) (y_1:nP H p bs) (y_2:b<256) (y_3:c<256) (y_4:t<8) (y_5:(∃y,c.testBit y=true/\b.testBit y=false/\fb b t y∈bs)) (y_6:∀H',Same H H'->Q (.bl true) H'):uF vs H Q
def wF:Sp:=λvs H Q _=>uF vs H Q
theorem eT(s t k:Nat):(aT s t).testBit k=(s.testBit k&& !t.testBit k):=by unfold aT;rw[GY,FG];cases s.testBit k<;>cases t.testBit k<;>rfl
inductive nW(K:PySem.W.Frag)(vs:List V)(H:Hp)(Q:VK):Prop
 |mk (a:Addr) (fs:List Nat) (y_0:vs=[.ref a]) (y_1:SqL K H a ((aG fs).map V.int)) (y_2:fs.length<=256) (y_3:(∀f∈fs,∀g∈fs,f&&&g∈fs)) (y_4:∀H',Same H H'->Q .non H'):nW K vs H Q
def oV(K:PySem.W.Frag):Sp:=λvs H Q _=>nW K vs H Q
inductive xk(K:PySem.W.Frag)(vs:List V)(H:Hp)(Q:VK):Prop
 |mk (a:Addr) (n:Nat) (fs:List Nat) (r:Nat->Nat) (y_0:vs=[.int (n:Int), .ref a]) (y_1:SqL K H a ((aG fs).map V.int)) (y_2:Mat n r) (y_3:(∀f,f∈fs↔gN n r f)) (y_4:fs.length<=256) (y_5:∀H',Same H H'->Q .non H'):xk K vs H Q
def zE(K:PySem.W.Frag):Sp:=λvs H Q _=>xk K vs H Q
theorem kH(v:V)(k:Nat):∀ (bs:List Nat) (m:List (Key×V)),(dX (iJ m (bs.map λb:Nat=>((Sum.inl (b:Int):Key),v))) (Sum.inl (k:Int))).isSome=((dX m (Sum.inl (k:Int))).isSome||decide (k∈bs))
 | [],m=>by simp[iJ]
 |b::bs,m=>by
  show(dX (iJ (f7 m (Sum.inl (b:Int)) v) (bs.map λb:Nat=>((Sum.inl (b:Int):Key),v))) (Sum.inl (k:Int))).isSome=_;rw[kH v k bs,rO];by_cases e:k=b
  .subst e;rw[E9 rfl,E6 (Fq ..)];simp
  .rw[Fg (λh=>e (by have:=Sum.inl.inj h;lia))];refine Fu (λx=>_||x) ?_;rw[Ii,Fh];exact⟨.inr,λh=>h.elim (λh=>absurd h e) id⟩
theorem zX{Pv:V->Prop}{kvs:List (Key×V)}{k:Key}{v:V}(h:∀p∈kvs,Pv p.2)(hv:Pv v):∀p∈f7 kvs k v,Pv p.2:=by
 unfold f7;split
 .intro p hp;obtain⟨q,hq,e⟩:=Fn.mp hp;subst e;split
  .exact hv
  .exact h q hq
 .intro p hp;rcases FE.mp hp with hp|hp
  .exact h p hp
  .have:=FI.mp hp;subst this;exact hv
def Bm(H:Hp)(p:Addr)(m:Nat)(Pz:Int->Prop)(kvs:List (Key×V)):Prop:=H p=some (.dK kvs)/\kvs.length<=m/\∀q∈kvs,∃z:Int,q.2= .int z/\Pz z
theorem Bm.list{kvs:List (Key×V)}(h:Bm H p m Pz kvs):∃ns:List Int,kvs.map (·.2)=ns.map V.int/\ns.length<=m/\∀z∈ns,Pz z:=by
 obtain⟨_,h2,h3⟩:=h;refine⟨kvs.map λq=>aW q.2,?_,by rw[E3];exact h2,λz hz=> ?_⟩
 .rw[F5];refine GJ λq hq=> ?_;obtain⟨z,e,_⟩:=h3 q hq;rw[e];show V.int z=V.int (aW q.2);rw[e];rfl
 .obtain⟨q,hq,rfl⟩:=Fn.mp hz;obtain⟨z,e,hz'⟩:=h3 q hq;rw[e];exact hz'
inductive Bp(K:PySem.W.Frag)(vs:List V)(H:Hp)(Q:VK):Prop
 |mk (a:Addr) (cs:List Int) (n r:Nat) (y_0:vs=[.ref a, .int (n:Int), .int (r:Int)]) (y_1:SqL K H a (cs.map V.int)) (y_2:0<cs.length) (y_3:cs.length<=64) (y_4:n<=8) (y_5:r<=n) (y_6:∀p H' ps,Same H H'->H p=none->H' p=some (.lst ((dn n r ps).map V.int))->(ps=[]\/(0<r/\r<n/\Far r ps))->Q (.ref p) H'):Bp K vs H Q
def CI(K:PySem.W.Frag):Sp:=λvs H Q _=>Bp K vs H Q
inductive qg(K:PySem.W.Frag)(vs:List V)(H:Hp)(Q:VK):Prop
 |mk (a:Addr) (ms:List Int) (n:Nat) (y_0:vs=[.int (n:Int), .ref a]) (y_1:SqL K H a (ms.map V.int)) (y_2:ms≠[]) (y_3:(∀m∈ms,0<=m/\m<256)) (y_4:ms.length<=256) (y_5:n<=8) (y_6:∀p H',Same H H'->H p=none->H' p=some (.lst (((List.range (2^n)).map λs=>((au ms s:Nat):Int)).map V.int))->Q (.ref p) H'):qg K vs H Q
def si(K:PySem.W.Frag):Sp:=λvs H Q _=>qg K vs H Q
theorem xt(n r:Nat)(ps:List Int)(hn:n<=8):(dn n r ps).length<=256:=by unfold dn;rw[E3];exact Fc (Ga _ _) (by rw[FD];exact dy hn)
theorem pe(M:Mat n r)(h:∀s,s<2^n->r' s=r s):Mat n r':=by
 refine⟨M.n8,by rw[h 0 (GC (by lia)),M.zero],λs k hs hk=> ?_,λs j k hs hj hk h1 h2=> ?_⟩
 .rw[h s hs,h _ (bA hs hk)];exact M.step s k hs hk
 .rw[h _ (bA (bA hs hj) hk),h s hs];rw[h _ (bA hs hj),h s hs]at h1;rw[h _ (bA hs hk),h s hs]at h2;exact M.sub s j k hs hj hk h1 h2
theorem rT(hn:n<=8):sz (2^n-1)=n:=by show(bits (2^n-1)).length=n;rw[yU n (by lia),E3,FD]
theorem pD(hn:n<=8)(hm:m<=n)(h:oa n m ps)(z:Int):
  z∈dn n m ps↔∃b:Nat,b<2^n/\z=(b:Int)/\rkG m ps b=sz b/\rkG m ps b=rkG m ps (2^n-1):=by
 have ef:rkG m ps (2^n-1)=m:=by
  unfold rkG;rw[rT hn];rcases h.mid with e|⟨h1,h2⟩
  .rw[e,Fg (by simp)];lia
  .rw[Fg (h.not (by rw[rT hn];lia))];lia
 rw[kf,ef];constructor
 .rintro⟨s,h1,h2,h3,rfl⟩;refine⟨s,h1,rfl,?_,?_⟩<;>(unfold rkG;rw[Fg h3];lia)
 .rintro⟨b,h1,rfl,h2,h3⟩;refine⟨b,h1,by lia,λhmem=> ?_,rfl⟩;obtain⟨s,_,e,hs⟩:=h.size _ hmem;have:b=s:=by lia
  subst this;unfold rkG at h2 h3;rw[E9 hmem]at h2 h3;rcases h.mid with e|⟨h4,h5⟩
  .rw[e]at hmem;cases hmem
  .lia
theorem rR:∃qs:List Int,dn n m ps=dn n m qs/\(∀z∈qs,z∈ps)/\∀z∈qs,∃s:Nat,s<2^n/\z=(s:Int)/\sz s=m:=by
 refine⟨ps.filter λz=>decide (0<=z/\z.toNat<2^n/\sz z.toNat=m),?_,λz hz=>(FH.mp hz).1,λz hz=> ?_⟩
 .unfold dn;refine Fu (List.map λs:Nat=>(s:Int)) (Hy λs hs=> ?_);have hs':=Fl.mp hs;unfold mG;by_cases e:sz s=m
  .have:((s:Int)∈ps.filter λz=>decide (0<=z/\z.toNat<2^n/\sz z.toNat=m))↔(s:Int)∈ps:=by rw[FH,F7,E4];exact⟨λh=>h.1,λh=>⟨h,by lia,hs',e⟩⟩
   exact Fu (λx=>decide (sz s=m)&&x) (Ii.mpr (not_congr this.symm))
  .simp[e]
 .have:=Fi (FH.mp hz).2;exact⟨z.toNat,this.2.1,by lia,this.2.2⟩
theorem Cm{n m:Nat}{ps:List Int}(hn:n<=8)(hm:m<=n)(h:ps=[]\/(0<m/\m<n/\Far m ps)):
  Mat n (au (dn n m ps))/\∀b,b∈(List.range (2^n)).filter (mG m ps)↔oe n (au (dn n m ps)) b:=by
 obtain⟨qs,e,hsub,hsz⟩:=rR (n:=n) (m:=m) (ps:=ps);have G:oa n m qs:=by
  refine⟨hsz,?_,?_⟩
  .rcases h with rfl|⟨_,_,h3⟩
   .intro a ha;exact absurd (hsub a ha) (by simp)
   .exact λa ha b hb=>h3 a (hsub a ha) b (hsub b hb)
  .rcases h with rfl|⟨h1,h2,_⟩
   .exact .inl (List.eq_nil_iff_forall_not_mem.mpr λa ha=>absurd (hsub a ha) (by simp))
   .exact .inr ⟨h1,h2⟩
 have M:=AB hn G;have er:∀s,s<2^n->au (dn n m ps) s=rkG m qs s:=λs hs=>by rw[e];exact M.nJ (pD hn hm G) hs
 refine⟨pe M er,λb=> ?_⟩;have hb:=pD hn hm G (b:Int);rw[<-e]at hb;have h1:b∈(List.range (2^n)).filter (mG m ps)↔(b:Int)∈dn n m ps:=by
  unfold dn;constructor
  .intro h;exact Fn.mpr ⟨b,h,rfl⟩
  .intro h;obtain⟨c,hc,ec⟩:=Fn.mp h;have:c=b:=by lia
   exact this▸hc
 rw[h1,hb];constructor
 .rintro⟨c,h2,ec,h3,h4⟩;have:b=c:=by lia
  subst this;exact⟨h2,by rw[er b h2];exact h3,by rw[er b h2,er _ (cx n)];exact h4⟩
 .rintro⟨h2,h3,h4⟩;rw[er b h2]at h3;rw[er b h2,er _ (cx n)]at h4;exact⟨b,h2,rfl,h3,h4⟩
def fZ(ms:List Int)(s i:Nat):Bool:=(List.range i).all λk=> !(!s.testBit k&&decide (au ms (s|||2^k)=au ms s))
theorem vL(ms:List Int)(s i:Nat):fZ ms s (i+1)=(fZ ms s i&& !(!s.testBit i&&decide (au ms (s|||2^i)=au ms s))):=by unfold fZ;rw[GA,List.all_append];simp
inductive qj(K:PySem.W.Frag)(vs:List V)(H:Hp)(Q:VK):Prop
 |mk (a:Addr) (ms:List Int) (n:Nat) (y_0:vs=[.int (n:Int), .ref a]) (y_1:SqL K H a ((cz ms n).map V.int)) (y_2:n<=8) (y_3:∀p H',Same H H'->H p=none->H' p=some (.lst ((aG ((List.range (2^n)).filter λs=>fZ ms s n)).map V.int))->Q (.ref p) H'):qj K vs H Q
def sk(K:PySem.W.Frag):Sp:=λvs H Q _=>qj K vs H Q
theorem kF(ms:List Int)(n:Nat):cz ms n=aG ((List.range (2^n)).map (au ms)):=by unfold cz aG;rw[F5];rfl
theorem o9(M:Mat n (au ms))(s:Nat):s∈(List.range (2^n)).filter (λs=>fZ ms s n)↔gN n (au ms) s:=by
 rw[FH,Fl];refine IM λhs=> ?_;unfold fZ;rw[GQ];constructor
 .intro h k hk hb;have:=h k (Fl.mpr hk);rw[hb]at this;have st:=M.step s k hs hk;have ne:¬au ms (s|||2^k)=au ms s:=λe=>by rw[E6 e]at this;cases this
  lia
 .intro h k hk;have hk':=Fl.mp hk;cases hb:s.testBit k with
  |true=>rfl
  |false=>
   have:=h k hk' hb;rw[E8 (by lia)];rfl
theorem ye(M:Mat n (au ms))(s:Nat):s∈(List.range (2^n)).filter (cJ ms)↔s<2^n/\gM (au ms) s:=by
 rw[FH,Fl];refine IM λhs=> ?_;have n8:=M.n8;unfold cJ eW gM;rw[Fp,HX,GQ];have le:=M.tN s hs;constructor
 .rintro⟨h1,h2⟩;have ne:¬au ms s=sz s:=Gy h1;refine⟨by lia,λk hk=> ?_⟩;have:=h2 (k:Int) (bg.mpr ⟨k,by have:=bB hs hk;lia,hk,rfl⟩);rw[E4,h7 hk]at this;exact Fi this
 .rintro⟨h1,h2⟩;refine⟨E8 (by lia),λz hz=> ?_⟩;obtain⟨k,_,hk,rfl⟩:=bg.mp hz;rw[E4,h7 hk];exact E6 (h2 k hk)
theorem zH{n j:Nat}:decide (V.int (Builtin.bitAnd ((n:Int) /2^(0+(j:Int)).toNat) 1)=V.int 0)= !n.testBit j:=by
 have e1:(0+(j:Int)).toNat=j:=by lia
 have e2:((n:Int) /2^j)=((n/2^j:Nat):Int):=by simp
 rw[e1,e2,dg (F0 _) (by decide),E4];have h1:((1:Int).toNat)=1:=rfl;rw[h1,Nat.and_one_is_mod,gT];by_cases hb:n/2^j % 2=1
 .rw[hb];rfl
 .have h0:n/2^j % 2=0:=by lia
  rw[h0];rfl
theorem DS{l:List Int}{i:Int}(h:0<=i+l.length)(h2:i<0):atI (l.map V.int) i=some (.int (l.getD (i+l.length).toNat 0)):=by
 unfold atI ixN;rw[E3,Fg (by lia),E9 (by lia)];show(l.map V.int)[(i+(l.length:Int)).toNat]?=_;have hl:(i+(l.length:Int)).toNat<l.length:=by lia
 rw[Fm];simp[hl]
theorem xS(x y:Nat):(x&&&y)+(x^^^y)=x|||y:=by
 have h:=ig (x|||y) (x|||y) (x&&&y) (Fj _);have e1:(x|||y)&&& (x&&&y)=x&&&y:=Fv λi=>by rw[FG,FG,GG];cases x.testBit i<;>cases y.testBit i<;>rfl
 have e2:(x|||y)^^^ (x&&&y)=x^^^y:=Fv λi=>by rw[GY,GY,FG,GG];cases x.testBit i<;>cases y.testBit i<;>rfl
 rw[e1,e2]at h;exact h
theorem xo(x y:Nat):Builtin.bitXor (x:Int) (y:Int)=((x^^^y:Nat):Int):=by unfold Builtin.bitXor;rw[cc,cZ];have:=xS x y;lia
theorem AV(hs:s<2^n):(2^n-1)^^^s=aT (2^n-1) s:=by unfold aT;rw[IW,cW.mpr (iZ hs)]
theorem DE(M:Mat n r):∃ms:List Int,(∀s,s<2^n->r s=au ms s)/\Mat n (au ms):=by
 have hm:∀z:Int,z∈(aG ((List.range (2^n)).filter λb=>decide (r b=sz b/\r b=r (2^n-1))))↔∃b:Nat,b<2^n/\z=(b:Int)/\r b=sz b/\r b=r (2^n-1):=λz=>by
  constructor
  .intro h;obtain⟨b,hb,rfl⟩:=cp h;obtain⟨h1,h2⟩:=FH.mp hb;exact⟨b,Fl.mp h1,rfl,Fi h2⟩
  .rintro⟨b,h1,rfl,h2⟩;exact Fn.mpr ⟨b,FH.mpr ⟨Fl.mpr h1,E6 h2⟩,rfl⟩
 have e:∀s,s<2^n->au _ s=r s:=λs hs=>M.nJ hm hs;exact⟨_,λs hs=>(e s hs).symm,pe M e⟩
theorem ri(M:Mat n (au ms))(h:LiR cL H p n (au ms)):ZOk (hsO (hs4 cE cN cT cL) cO) H p n ms:=by obtain⟨ms',li,mem⟩:=h;have p8:=dy M.n8;exact⟨.inl (.inr ⟨ms',li,M.Cu mem,λz hz=>by obtain⟨b,hb,rfl,_⟩:=(mem z).mp hz;lia,λs hs=>(M.nJ mem hs).symm⟩),M.n8⟩
theorem tV(M:Mat n (au ms)):(List.range (2^n)).filter (fY ms n)=(List.range (2^n)).filter λs=>fZ ms s n:=by
 refine Hy λs hs=> ?_;have hs':=Fl.mp hs;have h:=o9 M s;rw[FH,Fl]at h;rw[Gz];have e:=Cj (ms:=ms) M.n8 hs';rw[e,F7];constructor
 .intro ec;refine(h.mpr ⟨hs',λk hk hb=> ?_⟩).2;have c:=dG ms s k n;rw[ec,hb,E6 hk]at c;have st:=M.step s k hs' hk;have:¬au ms (s|||2^k)=au ms s:=λz=>by rw[E6 z]at c;cases c
  lia
 .intro hc;have F:=(h.mp ⟨hs',hc⟩).2;refine Fv λk=> ?_;rw[dG];cases hb:s.testBit k with
  |true=>rfl
  |false=>
   by_cases hk:k<n
   .have:=F k hk hb;rw[E8 (show¬au ms (s|||2^k)=au ms s by lia),GS,GS];rfl
   .rw[E8 hk];rfl
def sD(ms:List Int)(n s:Nat):List Nat:=(List.range n).filter λk=>decide (au ms (s|||2^k)=au ms s)
theorem zG(M:Mat n (au ms))(hs:s<2^n):((aG (sD ms n s)).map λz:Int=>(1*2^z.toNat:Int)).sum=((jI ms n s:Nat):Int):=by
 have n8:=M.n8;have e1:jI ms n s=clR n (au ms) s:=by
  rw[yL n8];refine Fv λk=> ?_;rw[dG,Gz,M.fL];cases hb:s.testBit k with
  |true=>exact⟨λ_=>⟨bB hs hb,by rw[jm hb]⟩,λ_=>rfl⟩
  |false=>
   rw[Km,Fp,F7,Fp,F7];exact⟨λh=>⟨h.1,h.2.2⟩,λh=>⟨h.1,rfl,h.2⟩⟩
 rw[e1];have e2:clR n (au ms) s=xA (aG (sD ms n s)):=zK (λz hz=>by
  obtain⟨k,hk,rfl⟩:=cp hz;have:=Fl.mp (FH.mp hk).1;lia) (by
  rw[JS,List.pairwise_map];exact(List.Pairwise.sublist List.filter_sublist (JS.mp List.nodup_range)).imp λh e=>h (by lia))
 rw[e2];unfold xA;generalize aG (sD ms n s)=l
 induction l with
 |nil=>rfl
 |cons z l ih=>
  rw[FT,Kn,FT,Kn,ih,Hl,Int.natCast_add];simp
theorem uM:((List.range (2^n)).filter (eV ms)).filter (λs=>decide (au ms s=au ms (2^n-1)))=(List.range (2^n)).filter (kW ms (au ms (2^n-1))):=by
 rw[JO];refine Hy λs _=> ?_;unfold eV kW;by_cases h:au ms s=sz s
 .rw[E6 h,HU,GR,h]
 .rw[E8 h,GS,HY]
theorem yf(b:Nat):b∈(List.range (2^n)).filter (kW ms (au ms (2^n-1)))↔oe n (au ms) b:=by rw[FH,Fl];unfold kW oe;rw[Fp,F7,F7];exact⟨λh=>⟨h.1,h.2.1,h.2.1.trans h.2.2⟩,λh=>⟨h.1,h.2.1,h.2.1.symm.trans h.2.2⟩⟩
def Bv:List Nat:=[4,5,3,6,2,1,0]
theorem Bu:∀j:Nat,j<7->([4,5,3,6,2,1,0]:List Int)[j]?=some ((Bv.getD j 0:Nat):Int):=by decide
theorem Bt:∀j:Nat,j<7->Bv.getD j 0<=6:=by decide
structure rM(Z:Hs)(n:Nat)(ms cs:List Int)(hh du p3 pf pb pr pl:Addr)(H:Hp):Prop where
 zo:ZOk Z H hh n ms
 du:H du=some (.lst ((cz ms n).map V.int))
 l5:H p3=some (.lst (cs.map V.int))
 lF:H pf=some (.lst ((aG ((List.range (2^n)).filter (eV ms))).map V.int))
 lG:H pb=some (.lst ((aG ((List.range (2^n)).filter (kW ms (au ms (2^n-1))))).map V.int))
 lI:H pr=some (.lst ((aG ((List.range (2^n)).filter (cJ ms))).map V.int))
 lJ:H pl=some (.lst ((aG ((List.range (2^n)).filter (fY ms n))).map V.int))
theorem rM.same{Z:Hs}{n:Nat}{ms cs:List Int}{hh du p3 pf pb pr pl:Addr}{H H':Hp}(h:rM Z n ms cs hh du p3 pf pb pr pl H)(z:gP Z)(e:Same H H'):rM Z n ms cs hh du p3 pf pb pr pl H':=⟨h.zo.same z e,e.at h.du,e.at h.l5,e.at h.lF,e.at h.lG,e.at h.lI,e.at h.lJ⟩
inductive pZ(Z:Hs)(vs:List V)(H:Hp)(Q:VK):Prop
 |mk (h:Addr) (n:Nat) (r:Nat->Nat) (y_0:vs=[.ref h]) (y_1:Z.ho H h n r) (y_2:n<=8) (y_3:∀p H',Same H H'->H p=none->H' p=some (.lst ((zi n r).map V.int))->Q (.ref p) H'):pZ Z vs H Q
def sd(Z:Hs):Sp:=λvs H Q _=>pZ Z vs H Q
theorem uY(vs:List V)(H:Hp)(Q:VK)(E:XK)(h:i8 Z vs H Q E):sd Z vs H Q E:=by obtain⟨a,n,ms,rfl,zo,k⟩:=h;exact⟨a,n,au ms,rfl,zo.ho,zo.n8,λp H' sm hp hl=>k p H' sm hp hl⟩
section
variable{P:Program}{w:World}{K:PySem.W.Frag}{mg:Str->Option Value}{base:Heap}
theorem sc_holds:aE ["s","thing"] ["s","thing"] (aq s_holds):=⟨rfl,rfl,rfl,by decide+kernel,rfl,by decide+kernel,by decide+kernel⟩
theorem An(D:aS K mg "holds" s_holds ["s","thing"]):Cal P w K mg base 1 "holds" ["s","thing"] qE:=by refine D.cal sc_holds (λvs H Q E h=>by obtain⟨s,t,rfl,_⟩:=h;rfl) λf cdv A outer σs H vs Q E hr h=> ?_;obtain⟨s,t,rfl,h0,h1,k⟩:=h;refine⟨_,(af (aD (fg bS (aw bE (aw j6 (pv 0) (pv 1)) ag) ag (nomark _)))),?_⟩;refine⟨_,rfl,_,rfl,_,_,rfl,rfl,h1,_,_,rfl,rfl,(by show(0:Int)<2;decide),rfl,?_⟩;show Q (.bl (decide (V.int (s/2^t.toNat % 2)=V.int 1))) H;rw[AQ h0];exact k
theorem sc_things:aE ["s"] ["s"] (aq s_things):=⟨rfl,rfl,rfl,by decide+kernel,rfl,by decide+kernel,by decide+kernel⟩
theorem xV(T:Tb K mg)(D:aS K mg "things" s_things ["s"])(c_holds:Cal P w K mg base 1 "holds" ["s","thing"] qE):Cal P w K mg base 2 "things" ["s"] cf:=by
 refine D.cal sc_things (λvs H Q E h=>by obtain⟨s,rfl,_⟩:=h;rfl) λf cdv A outer σs H vs Q E hr h=> ?_;obtain⟨s,rfl,h0,h1,k⟩:=h;refine⟨_,(af (aD (bR (vars:=["thing"]) (frn:=["s"]) (fr:=[0]) rfl (by rfl) (by rfl) (by rfl) (by rfl) ⟨⟨by rfl,E5 (by rfl),E5 (by rfl)⟩,FA⟩ (aX (by rfl) T.range_ (aa (BX (K:=K) (by rfl) PySem.F.plainAttrs_int PySem.F.slot_int_bit_length PySem.F.type_int_bit_length B5 (pv 0)) ab)) (λ_ _ _ _=>(aB (i:=0) (show List.Nodup (["thing","s"]:List PySem.Str) by decide+kernel) (by rfl) (E5 rfl))) (λ_ _ _ _=>(bX (bT (ao c_holds hr (by decide) (by rfl) (aa (pv 1) (aa (pv 0) ab)))))) (λ_ _ _ _=>(pv 0))))),?_⟩;have hb:Builtin.Int.intBits s<=8:=by
  obtain⟨n,rfl⟩:=Gn h0;unfold Builtin.Int.intBits;split
  .lia
  .rename_i hn;have hn':n≠0:=by intro e;subst e;exact hn rfl
   have:n.log2<8:=(Nat.log2_lt hn').mpr (by lia);show(n:Int).natAbs.log2+1<=8;rw[Int.natAbs_natCast];lia
 refine⟨_,rfl,rfl,_,rfl,rfl,_,rfl,(by lia),(by lia),?_⟩;refine cP (λi=>s.toNat.testBit i) (λi=> .int (0+(i:Nat))) (by rw[E4];exact Fc hb (by decide)) (λi vs H' R S hi hv sm hk=> ?_) λD H' hD sm hl=> ?_
 .obtain⟨v,rfl⟩:=aV hv;refine⟨_,rfl,_,rfl,s,_,rfl,h0,(by lia),_,rfl,?_⟩;have e:(0+(i:Int)).toNat=i:=by lia
  have q:=hk [some (.int (0+(i:Nat)))] H' rfl (Same.refl _);rw[e];cases hb:s.toNat.testBit i with
  |true=>
   rw[hb,E9 rfl]at q;exact tO ⟨_,rfl,q⟩
  |false=>
   rw[hb,Fg Fo]at q;exact dt q
 .rw[xu h0 h1]at hl;exact k D H' sm hD hl
theorem sc_size:aE ["s"] ["s"] (aq s_size):=⟨rfl,rfl,rfl,by decide+kernel,rfl,by decide+kernel,by decide+kernel⟩
theorem BZ(T:Tb K mg)(D:aS K mg "size" s_size ["s"])(c_things:Cal P w K mg base 2 "things" ["s"] cf):Cal P w K mg base 3 "size" ["s"] gx:=by refine D.cal sc_size (λvs H Q E h=>by obtain⟨s,rfl,_⟩:=h;rfl) λf cdv A outer σs H vs Q E hr h=> ?_;obtain⟨s,rfl,h0,h1,k⟩:=h;refine⟨_,(af (aD (aO (aM (K:=K) (by rfl)) (by rfl) T.len_ FY (aa (ao c_things hr (by decide) (by rfl) (aa (pv 0) ab)) ab)))),?_⟩;refine⟨_,rfl,s,rfl,h0,h1,λp H' sm hp hl=>⟨p,_,rfl, .inl (SqL.of hl),?_⟩⟩;have q:=k H' sm;rw[<-E3 (f:=V.int)]at q;exact q
theorem sc_within:aE ["s","t"] ["s","t"] (aq s_within):=⟨rfl,rfl,rfl,by decide+kernel,rfl,by decide+kernel,by decide+kernel⟩
theorem xU(D:aS K mg "within" s_within ["s","t"]):Cal P w K mg base 1 "within" ["s","t"] i5:=by
 refine D.cal sc_within (λvs H Q E h=>by obtain⟨s,t,rfl,_⟩:=h;rfl) λf cdv A outer σs H vs Q E hr h=> ?_;obtain⟨s,t,rfl,h0,h1,k⟩:=h;refine⟨_,(af (aD (fg bS (aw dO (pv 0) (pv 1)) (pv 0) (nomark _)))),?_⟩;refine⟨_,rfl,_,rfl,_,_,rfl,rfl,_,rfl,rfl,?_⟩;show Q (.bl (decide (V.int (Builtin.bitAnd s t)=V.int s))) H;have e:decide (V.int (Builtin.bitAnd s t)=V.int s)=decide (s.toNat&&&t.toNat=s.toNat):=by
  rw[dg h0 h1];by_cases h:s.toNat&&&t.toNat=s.toNat
  .rw[E6 h,E6];rw[h];congr 1;lia
  .rw[E8 h,E8];intro q;have:=V.int.inj q;lia
 rw[e];exact k
theorem sc_parts:aE ["s","found","thing"] ["s"] (aq s_parts):=⟨rfl,rfl,rfl,by decide+kernel,rfl,by decide+kernel,by decide+kernel⟩
theorem Am(T:Tb K mg)(D:aS K mg "parts" s_parts ["s"])(c_things:Cal P w K mg base 2 "things" ["s"] cf):Cal P w K mg base 3 "parts" ["s"] eI:=by
 refine D.cal sc_parts (λvs H Q E h=>by obtain⟨s,rfl,_⟩:=h;rfl) λf cdv A outer σs H vs Q E hr h=> ?_;obtain⟨s,rfl,h0,h1,k⟩:=h;refine⟨_,(ae (aH (i:=1) sc_parts.nd (by rfl) (E5 rfl) (e6 (aa ag ab)))
   (ae (aZ Fx rfl (aF (K:=K) (by rfl) (ao c_things hr (by decide) (by rfl) (aa (pv 0) ab))) (aB (i:=2) sc_parts.nd (by rfl) (GD rfl))
     (af (aH (i:=1) sc_parts.nd (by rfl) (E5 rfl) (aw vm (pv 1) (bR (vars:=["part"]) (frn:=["thing"]) (fr:=[2]) rfl (by rfl) (by rfl) (by rfl) (by rfl) ⟨⟨by rfl,E5 (by rfl),E5 (by rfl)⟩,FA⟩ (aF (K:=K) (by rfl) (pv 1)) (λ_ _ _ _=>(aB (i:=0) (show List.Nodup (["part","thing"]:List PySem.Str) by decide+kernel) (by rfl) (E5 rfl))) (λ_ _ _ _=>bz) (λ_ _ _ _=>(aw hG (pv 0) (aw bJ ag (pv 1)))))))))
   (af (aD (pv 1))))),?_⟩
 refine⟨by show 1<=sizeLine;decide,λq0 hq0=> ?_⟩;refine⟨_,rfl,s,rfl,h0,h1,λp H1 sm1 hp1 hl1=>⟨p,rfl,⟨_,SqL.of hl1⟩,?_⟩⟩;generalize hn:s.toNat=n at*;refine ba (K:=K) (a:=p) (xs:=(bits n).map V.int) (λi σ H2=>∃ (q:Addr) (v:Option V),Same H H2/\H2 p=some (.lst ((bits n).map V.int))/\H q=none/\H2 q=some (.lst ((((bits n).take i).foldl fO [0]).map V.int))/\σ=[some (.int s),some (.ref q),v])
  ⟨q0,none,(Same.new hq0).trans sm1,hl1,hq0,sm1.at ah,rfl⟩ (λi σ H2 _ ⟨_,_,_,hp,_⟩=>SqL.of hp) ?_ ?_
 .rintro i y σ H2 hi ⟨q,v,sm2,hp2,hq,hq2,rfl⟩;obtain⟨z,rfl,hz⟩:=aQ hi;have zr:=v8 (E7 hz);have hil:i<(bits n).length:=(Fd.mp hz).1;have hb8:=bZ n;have hlen:(((bits n).take i).foldl fO [0]).length<=128:=by rw[pC,FP];have h2:2^min i (bits n).length<=2^7:=Fy (by lia) (by lia);simp;lia
  have hnn:∀x∈((bits n).take i).foldl fO [0],0<=x:=tU _ _ (by simp);have est:((bits n).take (i+1)).foldl fO [0]=fO (((bits n).take i).foldl fO [0]) z:=by rw[GK,hz,GL];rfl
  rw[est];generalize ((bits n).take i).foldl fO [0]=fl at*;refine⟨_,rfl,_,rfl,q,rfl,⟨_,SqL.of hq2⟩,?_⟩;refine bh (λx=>(λ_=>true) (aW x)) (λx=> .int ((λt:Int=>((t.toNat|||2^z.toNat:Nat):Int)) (aW x))) (SqL.of hq2) (by rw[E3];exact Fc hlen (by decide)) (λi x vs H' R S hx hv sm hk=> ?_) λD H' hD sm hl=> ?_
  .obtain⟨v,rfl⟩:=aV hv;obtain⟨t,rfl,ht⟩:=aQ hx;have t0:=hnn t (E7 ht);have q:=hk [some (.int t)] H' rfl (Same.refl _);rw[E9 rfl]at q;simp only[bU,dI,E9];refine⟨_,rfl,_,rfl,_,_,rfl,rfl,⟨zr.1,by lia,by decide⟩,_,_,rfl,rfl,?_⟩;have e:Builtin.bitOr t (1*2^z.toNat)=((t.toNat|||2^z.toNat:Nat):Int):=by
    have e2:((2:Int)^z.toNat)=((2^z.toNat:Nat):Int):=by simp
    rw[jJ t0 (by rw[Hl];exact mF _),Hl,e2,E4]
   show R (.int (Builtin.bitOr t (1*2^z.toNat))) _ H';rw[e];exact q
  replace hl:=hl.trans (Fu (λl=>some (HO.lst l)) (aU (λ_=>true) (λt:Int=>((t.toNat|||2^z.toNat:Nat):Int)) fl));rw[Gf.mpr (λ_ _=>rfl)]at hl;refine⟨q,D,_,_,rfl,rfl,sm.at hq2,hl,?_,λq3 hq3=> ?_⟩
  .rw[E3,E3,E3];exact Fc (show fl.length+fl.length<=256 by lia) (by decide)
  have sm3:Same H H':=sm2.trans sm;refine⟨q3,some (.int z),sm3.upd (sm3.free hq3),?_,sm3.free hq3,?_,rfl⟩
  .have:=sm.at hp2;rw[aC (aA this hq3)];exact this
  .rw[ah];unfold Bh.fO;rw[FW]
 .rintro σ H2 ⟨q,v,sm2,hp2,hq,hq2,rfl⟩;rw[E3,Gm]at hq2;exact⟨_,rfl,k q H2 sm2 hq hq2⟩
theorem sc_less:aE ["s","t"] ["s","t"] (aq s_less):=⟨rfl,rfl,rfl,by decide+kernel,rfl,by decide+kernel,by decide+kernel⟩
theorem B1(D:aS K mg "less" s_less ["s","t"]):Cal P w K mg base 1 "less" ["s","t"] d6:=by
 refine D.cal sc_less (λvs H Q E h=>by obtain⟨s,t,rfl,_⟩:=h;rfl) λf cdv A outer σs H vs Q E hr h=> ?_;obtain⟨s,t,rfl,k⟩:=h;refine⟨_,(af (aD (aw mY (pv 0) (aw dO (pv 0) (pv 1))))),?_⟩;refine⟨_,rfl,_,rfl,_,rfl,_,_,rfl,rfl,_,_,rfl,rfl,?_⟩;show Q (.int (Builtin.bitXor (s:Int) (Builtin.bitAnd (s:Int) (t:Int)))) H;have e:Builtin.bitXor (s:Int) (Builtin.bitAnd (s:Int) (t:Int))=((aT s t:Nat):Int):=by
  unfold Builtin.bitXor;rw[cZ,cc,cZ];have h:=B8 s t;have l:=cR s t;have e1:s||| (s&&&t)=s:=Fv λj=>by rw[GG,FG];cases s.testBit j<;>simp
  have e2:s&&& (s&&&t)=s&&&t:=Fv λj=>by rw[FG,FG];cases s.testBit j<;>simp
  have l2:s&&&t<=s:=Jw;rw[e1,e2]at h⊢;lia
 rw[e];exact k
theorem sc__law_whole:aE ["_law_found"] ["_law_found"] (aq s__law_whole):=⟨rfl,rfl,rfl,by decide+kernel,rfl,by decide+kernel,by decide+kernel⟩
theorem ow(T:Tb K mg)(D:aS K mg "_law_whole" s__law_whole ["_law_found"]):Cal P w K mg base 1 "_law_whole" ["_law_found"] qC:=by refine D.cal sc__law_whole (λvs H Q E h=>by obtain⟨i,rfl,_⟩:=h;rfl) λf cdv A outer σs H vs Q E hr h=> ?_;obtain⟨i,rfl,k⟩:=h;refine⟨_,(af (aD (vf (aO (gG (K:=K) (by rfl)) (by rfl) T.isinstance_ ID (aa (pv 0) (aa (qP (v:= .ty "int") (by rfl) T.int_ PyProof.Rows.boot_int rfl) ab))) (ve (z8 (aO (gG (K:=K) (by rfl)) (by rfl) T.isinstance_ ID (aa (pv 0) (aa (qP (v:= .ty "bool") (by rfl) T.bool_ PyProof.Rows.boot_bool rfl) ab)))))))),?_⟩;refine⟨_,rfl,_,_,_,true,rfl, .int _,T.kII,true,rfl,tO ?_⟩;exact⟨_,rfl,_,_,_,false,rfl, .int _,T.kIB,false,rfl,k⟩
theorem sc__law_size:aE ["_law_s","_law_many"] ["_law_s"] (aq s__law_size):=⟨rfl,rfl,rfl,by decide+kernel,rfl,by decide+kernel,by decide+kernel⟩
theorem qY(D:aS K mg "_law_size" s__law_size ["_law_s"]):Cal P w K mg base 1 "_law_size" ["_law_s"] iu:=by
 refine D.cal sc__law_size (λvs H Q E h=>by obtain⟨s,rfl,_⟩:=h;rfl) λf cdv A outer σs H vs Q E hr h=> ?_;obtain⟨s,rfl,h0,h1,k⟩:=h;refine⟨_,(ae (aH (i:=1) sc__law_size.nd (by rfl) (E5 rfl) ag)
   (ae (zZ Fx (aI kN (pv 0) ag (nomark _))
     (ae (aH (i:=1) sc__law_size.nd (by rfl) (E5 rfl) (aw cX (pv 1) (aw bE (pv 0) ag)))
     (af (aH (i:=0) sc__law_size.nd (by rfl) (E5 rfl) (aw ix (pv 0) ag)))))
   (af (aD (pv 1))))),?_⟩
 refine⟨λm σ H2=>H2=H/\∃ (n c:Nat),n<256/\n=m/\c+(bits n).length=(bits s.toNat).length/\σ=[some (.int (n:Int)),some (.int (c:Int))],⟨s.toNat,rfl,s.toNat,0,by lia,rfl,by lia,?_⟩,?_⟩
 .show [some (V.int s),some (.int 0)]=_;rw[Int.toNat_of_nonneg h0];rfl
 .intro m σ H2 hw;obtain⟨e,n,c,hn,em,hc,es⟩:=hw;subst e em es;refine⟨_,rfl,_,_,rfl,rfl,_,rfl,cn (λhp=> ?_) λhp=> ?_⟩
  .have np:0<n:=by have:=Fi hp;lia
   have hs:=xD n hn;refine⟨λσ' H'=>H'=H2/\σ'=[some (.int ((n/2:Nat):Int)),some (.int ((c+n % 2:Nat):Int))],λσ' H' q=>⟨n/2,by lia,q.1,n/2,c+n % 2,by lia,rfl,by lia,q.2⟩,?_⟩;refine⟨_,rfl,_,rfl,_,_,rfl,rfl,(by show(0:Int)<2;decide),_,_,rfl,rfl,?_⟩;refine⟨_,rfl,_,_,rfl,rfl,⟨by decide,by decide⟩,rfl,?_⟩;show [some (V.int ((n:Int) /2)),some (V.int ((c:Int)+(n:Int) % 2))]=_;have e1:(n:Int) /2=((n/2:Nat):Int):=by lia
   have e2:(c:Int)+(n:Int) % 2=((c+n % 2:Nat):Int):=by lia
   rw[e1,e2]
  .have n0:n=0:=by have:=Gy (F4.mpr hp);lia
   subst n0;have e0:(bits 0).length=0:=by decide+kernel
   rw[e0,Nat.add_zero]at hc;refine⟨_,rfl,?_⟩;rw[hc];exact k
theorem sc__law_list:aE ["_law_found","_law_due","_law_k"] ["_law_found","_law_due"] (aq s__law_list):=⟨rfl,rfl,rfl,by decide+kernel,rfl,by decide+kernel,by decide+kernel⟩
theorem qZ(T:Tb K mg)(D:aS K mg "_law_list" s__law_list ["_law_found","_law_due"])(c__law_whole:Cal P w K mg base 1 "_law_whole" ["_law_found"] qC):Cal P w K mg base 2 "_law_list" ["_law_found","_law_due"] (zF K):=by
 refine D.cal sc__law_list (λvs H Q E h=>by obtain⟨a,b,ns,ms,rfl,_⟩:=h;rfl) λf cdv A outer σs H vs Q E hr h=> ?_;obtain⟨a,b,ns,ms,rfl,ha,hb,hm,k⟩:=h;refine⟨_,(ae (a8 (PW.pt (o4 (eg (bT (aO (gG (K:=K) (by rfl)) (by rfl) T.isinstance_ ID (aa (pv 0) (aa (qP (v:= .ty "list") (by rfl) T.list_ Ji rfl) ab))))) (jX (aI jo (aO (aM (K:=K) (by rfl)) (by rfl) T.len_ FY (aa (pv 0) ab)) (aO (aM (K:=K) (by rfl)) (by rfl) T.len_ FY (aa (pv 1) ab)) (nomark _)))))
     (af (aD dz))
     aN)
   (ae (aZ Fx rfl (aX (by rfl) T.range_ (aa (aO (aM (K:=K) (by rfl)) (by rfl) T.len_ FY (aa (pv 1) ab)) ab)) (aB (i:=2) sc__law_list.nd (by rfl) (E5 rfl))
     (af (a8 (PW.pt (o4 (eg (bT (ao c__law_whole hr (by decide) (by rfl) (aa (aK (av (K:=K) (by rfl)) (pv 0) (pv 2) (λ_ _=>rfl)) ab)))) (jX (aI jo (aK (av (K:=K) (by rfl)) (pv 0) (pv 2) (λ_ _=>rfl)) (aK (av (K:=K) (by rfl)) (pv 1) (pv 2) (λ_ _=>rfl)) (nomark _)))))
       (af (aD dz))
       aN)))
   (af (aD dz)))),?_⟩
 refine⟨_,rfl,_,_,_,true,rfl, .lst ha,T.kLL,true,rfl,dt ?_⟩;refine⟨_,rfl,a,_,rfl, .inl (SqL.of ha),_,rfl,b,_,rfl, .inl hb,rfl,_,rfl,?_⟩;rw[E3,E3];refine cn (λhc=> ?_) (λhc=> ?_)
 .have hne:¬ns=ms:=by intro e;subst e;simp at hc
  rw[E8 hne]at k;exact k
 .have hlen:ns.length=ms.length:=by
   have:decide (V.int (ns.length:Int)=V.int (ms.length:Int))=true:=by simpa using hc
   have:=V.int.inj (Fi this);lia
  refine⟨_,rfl,b,_,rfl, .inl hb,_,rfl,(by lia),?_,?_⟩
  .rw[E3];lia
  rw[E3,E4];refine bV (n:=ms.length) (λi σ H2=>H2=H/\ns.take i=ms.take i/\∃v,σ=[some (.ref a),some (.ref b),v]) ⟨rfl,rfl,none,rfl⟩ ?_ ?_
  .rintro i σ H2 hi ⟨rfl,he,v,rfl⟩;have h1:ns[i]?=some (ns[i]'(by lia)):=by simp
   have h2:ms[i]?=some (ms[i]'hi):=by simp
   have at1:atI (ns.map V.int) (0+(i:Int))=some (.int (ns[i]'(by lia))):=by rw[FX];exact bw (by rw[Fm,h1];rfl)
   have at2:atI (ms.map V.int) (0+(i:Int))=some (.int (ms[i]'hi)):=by rw[FX];exact bw (by rw[Fm,h2];rfl)
   refine⟨_,rfl,_,rfl,a,_,_,_,rfl,rfl,SqL.of ha,at1,_,rfl,true,rfl,dt ?_⟩;refine⟨_,rfl,_,rfl,a,_,_,_,rfl,rfl,SqL.of ha,at1,_,rfl,_,rfl,b,_,_,_,rfl,rfl,hb,at2,rfl,_,rfl,cn (λhc=> ?_) (λhc=> ?_)⟩
   .have hne:¬ns=ms:=by intro e;subst e;simp at hc
    rw[E8 hne]at k;exact k
   .refine⟨rfl,?_,_,rfl⟩;have:decide (V.int (ns[i]'(by lia))=V.int (ms[i]'hi))=true:=by simpa using hc
    have e:=V.int.inj (Fi this);rw[GK,GK,h1,h2,he,e]
  .rintro σ H2 ⟨rfl,he,v,rfl⟩;have e:ns=ms:=by rw[Gm]at he;rw[<-he,<-hlen,Gm]
   rw[E6 e]at k;exact k
theorem sc_all_of:aE ["n"] ["n"] (aq s_all_of):=⟨rfl,rfl,rfl,by decide+kernel,rfl,by decide+kernel,by decide+kernel⟩
theorem xZ(D:aS K mg "all_of" s_all_of ["n"]):Cal P w K mg base 1 "all_of" ["n"] dJ:=by refine D.cal sc_all_of (λvs H Q E h=>by obtain⟨n,rfl,_⟩:=h;rfl) λf cdv A outer σs H vs Q E hr h=> ?_;obtain⟨n,rfl,h0,h1,k⟩:=h;refine⟨_,(af (aD (aw dr (aw bJ ag (pv 0)) ag))),?_⟩;exact⟨_,rfl,_,_,rfl,rfl,⟨h0,by lia,by decide⟩,_,_,rfl,rfl,k⟩
theorem sc_House___init__:aE ["self","n"] ["self","n"] (aq s_House___init__):=⟨rfl,rfl,rfl,by decide+kernel,rfl,by decide+kernel,by decide+kernel⟩
theorem jt(D:eZ K "__init__" "House.__init__" s_House___init__ ["self","n"] f):dU P w K mg base 1 f ["self","n"] (iw K):=by refine D.fn sc_House___init__ (λvs H Q E h=>by obtain⟨p,C,dx,n,rfl,_⟩:=h;rfl) λcdv A outer σs H vs Q E hr h=> ?_;obtain⟨p,C,dx,n,rfl,hp,cl,na,k⟩:=h;refine⟨_,(af (eJ (K:=K) (by rfl) (pv 0) (pv 1) (by rfl))),?_⟩;exact⟨_,rfl,_,rfl,p,C,dx,_,rfl,hp,cl,na,(by show 0<1000;decide),k⟩
theorem sc_House_everything:aE ["self"] ["self"] (aq s_House_everything):=⟨rfl,rfl,rfl,by decide+kernel,rfl,by decide+kernel,by decide+kernel⟩
theorem iD(D:eZ K "everything" "House.everything" s_House_everything ["self"] f)(c_all_of:Cal P w K mg base 1 "all_of" ["n"] dJ):dU P w K mg base 2 f ["self"] (fc K):=by refine D.fn sc_House_everything (λvs H Q E h=>by obtain⟨a,C,dx,fs,n,rfl,_⟩:=h;rfl) λcdv A outer σs H vs Q E hr h=> ?_;obtain⟨a,C,dx,fs,n,rfl,ha,cl,na,lk,n0,n1,k⟩:=h;refine⟨_,(af (aD (ao c_all_of hr (by decide) (by rfl) (aa (de (K:=K) (by rfl) (pv 0) (by rfl)) ab)))),?_⟩;exact⟨_,rfl,a,C,dx,fs,_,rfl,ha,cl,na,lk,n,rfl,n0,n1,k⟩
theorem sc_Even___init__:aE ["self","n","k"] ["self","n","k"] (aq s_Even___init__):=⟨rfl,rfl,rfl,by decide+kernel,rfl,by decide+kernel,by decide+kernel⟩
theorem j9(D:eZ K "__init__" "Even.__init__" s_Even___init__ ["self","n","k"] f)(g_House:mg "House"=some (.ref C_House))(cl:Cls K C)(n1:bC K C "many")(n2:bC K C "most")
  (k_House___init__:yY P w K mg base 1 C_House "__init__" ["self","n"] (iw K)):dU P w K mg base 2 f ["self","n","k"] (wC C):=by
 refine D.fn sc_Even___init__ (λvs H Q E h=>by obtain⟨p,dx,n,k,rfl,_⟩:=h;rfl) λcdv A outer σs H vs Q E hr h=> ?_;obtain⟨p,dx,n,kk,rfl,hp,k⟩:=h;refine⟨_,(ae (cq (jk k_House___init__ hr (by decide) (jj (v:= .ref C_House) (by rfl) g_House rfl) (aa (pv 0) (aa (pv 1) ab))))
   (af (eJ (K:=K) (by rfl) (pv 0) (pv 2) (by rfl)))),?_⟩
 refine⟨rfl,_,rfl,_,rfl,p,C,dx,_,rfl,hp,cl,n1,?_⟩;refine⟨_,rfl,_,rfl,p,C,dx,_,rfl,ah,cl,n2,?_,?_⟩
 .exact Ft (br _ _ _) (by show 0+1<1000;decide)
 rw[fM];exact k
theorem sc_Even_rank:aE ["self","s"] ["self","s"] (aq s_Even_rank):=⟨rfl,rfl,rfl,by decide+kernel,rfl,by decide+kernel,by decide+kernel⟩
theorem rb(T:Tb K mg)(D:eZ K "rank" "Even.rank" s_Even_rank ["self","s"] f)(cl:Cls K C)(n2:bC K C "most")(c_size:Cal P w K mg base 3 "size" ["s"] gx):dU P w K mg base 4 f ["self","s"] (wy C):=by refine D.fn sc_Even_rank (λvs H Q E h=>by obtain⟨a,dx,n,k,s,rfl,_⟩:=h;rfl) λcdv A outer σs H vs Q E hr h=> ?_;obtain⟨a,dx,n,kk,s,rfl,ha,s0,s1,k⟩:=h;refine⟨_,(af (aD (aO (kr (by rfl)) (by rfl) T.min_ Jq (aa (ao c_size hr (by decide) (by rfl) (aa (pv 1) ab)) (aa (de (K:=K) (by rfl) (pv 0) (by rfl)) ab))))),?_⟩;refine⟨_,rfl,s,rfl,s0,s1,λH1 sm1=> ?_⟩;exact⟨_,rfl,a,C,dx,_,_,rfl,sm1.at ha,cl,n2,A5 _ _,_,_,rfl,k H1 sm1⟩
theorem sc_Listed___init__:aE ["self","n","some"] ["self","n","some"] (aq s_Listed___init__):=⟨rfl,rfl,rfl,by decide+kernel,rfl,by decide+kernel,by decide+kernel⟩
theorem iO(T:Tb K mg)(D:eZ K "__init__" "Listed.__init__" s_Listed___init__ ["self","n","some"] f)(g_House:mg "House"=some (.ref C_House))(cl:Cls K C)(n1:bC K C "many")(n2:bC K C "listed")
  (k_House___init__:yY P w K mg base 1 C_House "__init__" ["self","n"] (iw K)):dU P w K mg base 2 f ["self","n","some"] (i9 K C):=by
 refine D.fn sc_Listed___init__ (λvs H Q E h=>by obtain⟨p,dx,a,n,ms,rfl,_⟩:=h;rfl) λcdv A outer σs H vs Q E hr h=> ?_;obtain⟨p,dx,a,n,ms,rfl,hp,ha,hl,k⟩:=h;refine⟨_,(ae (cq (jk k_House___init__ hr (by decide) (jj (v:= .ref C_House) (by rfl) g_House rfl) (aa (pv 0) (aa (pv 1) ab))))
   (af (eJ (K:=K) (by rfl) (pv 0) (dD (dR (K:=K) (by rfl)) (by rfl) T.tuple_ Io (aa (pv 2) ab)) (by rfl)))),?_⟩
 refine⟨rfl,_,rfl,_,rfl,p,C,dx,_,rfl,hp,cl,n1,?_⟩;have hp1:upd H p (.ins C dx (bq "many" (.int n) [])) p=some (.ins C dx (bq "many" (.int n) [])):=ah;have oth:∀b o,H b=some o->b≠p->upd H p (.ins C dx (bq "many" (.int n) [])) b=some o:=λb o e hb=>by rw[aC hb];exact e
 have ha1:SqL K (upd H p (.ins C dx (bq "many" (.int n) []))) a (ms.map V.int):=by
  rcases ha with (h|⟨o,h⟩)|h
  .exact .inl (.inl (oth _ _ h (gK h hp (by intro z;cases z))))
  .exact .inl (.inr ⟨o,oth _ _ h (gK h hp (by intro z;cases z))⟩)
  .exact .inr h
 refine⟨_,rfl,a,_,rfl, .inl ⟨ha1,λt ht=> ?_⟩⟩;have tp:t≠p:=λe=>by rw[e,ah]at ht;cases ht
 have ht0:H t=none:=by rw[aC tp]at ht;exact ht
 refine⟨_,rfl,p,C,dx,_,rfl,(by rw[aC tp.symm];exact hp1),cl,n2,?_,?_⟩
 .exact Ft (br _ _ _) (by show 0+1<1000;decide)
 refine k t _ ht0 (λb o e hb=> ?_) ah ?_
 .rw[aC hb,aC (aA e ht0)];exact oth b o e hb
 .rw[aC tp,ah]
theorem sc_Listed_rank:aE ["self","s"] ["self","s"] (aq s_Listed_rank):=⟨rfl,rfl,rfl,by decide+kernel,rfl,by decide+kernel,by decide+kernel⟩
theorem ni(T:Tb K mg)(D:eZ K "rank" "Listed.rank" s_Listed_rank ["self","s"] f)(cl:Cls K C)(n2:bC K C "listed")(c_size:Cal P w K mg base 3 "size" ["s"] gx):dU P w K mg base 4 f ["self","s"] (wx C):=by
 refine D.fn sc_Listed_rank (λvs H Q E h=>by obtain⟨a,n,s,ms,rfl,_⟩:=h;rfl) λcdv A outer σs H vs Q E hr h=> ?_;obtain⟨a,n,s,ms,rfl,⟨dx,t,ha,ht,hl⟩,hne,hms,s0,s1,k⟩:=h;refine⟨_,(af (aD (aO (iT (K:=K) (by rfl) (by rfl)) (by rfl) T.max_ IE (aa (bR (vars:=["one"]) (frn:=["s"]) (fr:=[1]) rfl (by rfl) (by rfl) (by rfl) (by rfl) ⟨⟨by rfl,E5 (by rfl),E5 (by rfl)⟩,FA⟩ (wU (K:=K) (by rfl) (de (K:=K) (by rfl) (pv 0) (by rfl))) (λ_ _ _ _=>(aB (i:=0) (show List.Nodup (["one","s"]:List PySem.Str) by decide+kernel) (by rfl) (E5 rfl))) (λ_ _ _ _=>bz) (λ_ _ _ _=>(ao c_size hr (by decide) (by rfl) (aa (aw dO (pv 1) (pv 0)) ab)))) ab)))),?_⟩;refine⟨_,rfl,a,C,dx,_,_,rfl,ha,cl,n2,vE _ _,t,rfl,⟨_,SqT.of ht⟩,?_⟩;have s2:s.toNat<256:=by lia
 refine Cc (λx=>(λ_=>true) (aW x)) (λx=> .int ((λm:Int=>((sz (s.toNat&&&m.toNat):Nat):Int)) (aW x))) ht (by rw[E3];exact Fc hl (by decide)) (λi x vs H' R S hx hv sm hk=> ?_) λD H' hD sm hl=> ?_
 .obtain⟨v,rfl⟩:=aV hv;obtain⟨m,rfl,hm⟩:=aQ hx;obtain⟨m0,m1⟩:=hms m (E7 hm);simp only[bU,dI,E9];have ea:Builtin.bitAnd s m=((s.toNat&&&m.toNat:Nat):Int):=dg s0 m0;have la:s.toNat&&&m.toNat<256:=nN s2;refine⟨_,rfl,_,rfl,_,_,rfl,rfl,Builtin.bitAnd s m,rfl,(by rw[ea];lia),(by rw[ea];lia),λH2 sm2=> ?_⟩;rw[ea,E4];have q:=hk [some (.int m)] H2 rfl sm2;rw[E9 rfl]at q;exact q
 replace hl:=hl.trans (Fu (λl=>some (HO.lst l)) (aU (λ_=>true) (λm:Int=>((sz (s.toNat&&&m.toNat):Nat):Int)) ms));rw[Gf.mpr (λ_ _=>rfl)]at hl;refine⟨D,_,rfl,SqL.of hl,?_,λz hz hmax=> ?_⟩
 .intro e;rw[List.map_eq_nil_iff]at e;exact hne e
 have ez:z=((au ms s.toNat:Nat):Int):=by obtain⟨m,hm,rfl⟩:=Fn.mp hz;rw[kG (ms:=ms) (s:=s.toNat) (r:=sz (s.toNat&&&m.toNat)) ⟨m,hm,rfl⟩ λm' hm'=> ?_];have:=hmax _ (Fn.mpr ⟨m',hm',rfl⟩);lia
 rw[ez];exact k H' sm
theorem sc_tied:aE ["marks","tie","old","new"] ["marks","tie"] (aq s_tied):=⟨rfl,rfl,rfl,by decide+kernel,rfl,by decide+kernel,by decide+kernel⟩
theorem BY(D:aS K mg "tied" s_tied ["marks","tie"]):Cal P w K mg base 1 "tied" ["marks","tie"] (zD K):=by
 refine D.cal sc_tied (λvs H Q E h=>by obtain⟨a,b,ms,t,rfl,_⟩:=h;rfl) λf cdv A outer σs H vs Q E hr h=> ?_;obtain⟨a,b,ms,t,rfl,ha,hb,hx,hy,hl,k⟩:=h;refine⟨_,(ae (aH (i:=2) sc_tied.nd (by rfl) (GD rfl) (aK (av (K:=K) (by rfl)) (pv 0) (aK (fW (K:=K) (by rfl)) (pv 1) ag (λ_ _=>rfl)) (λ_ _=>rfl)))
   (ae (aH (i:=3) sc_tied.nd (by rfl) (GD rfl) (aK (av (K:=K) (by rfl)) (pv 0) (aK (fW (K:=K) (by rfl)) (pv 1) ag (λ_ _=>rfl)) (λ_ _=>rfl)))
   (af (aD (bR (vars:=["mark"]) (frn:=["new","old"]) (fr:=[3,2]) rfl (by rfl) (by rfl) (by rfl) (by rfl) ⟨⟨by rfl,E5 (by rfl),E5 (by rfl)⟩,⟨⟨by rfl,E5 (by rfl),E5 (by rfl)⟩,FA⟩⟩ (aF (K:=K) (by rfl) (pv 0)) (λ_ _ _ _=>(aB (i:=0) (show List.Nodup (["mark","new","old"]:List PySem.Str) by decide+kernel) (by rfl) (E5 rfl))) (λ_ _ _ _=>bz) (λ_ _ _ _=>(sQ (aI bS (pv 0) (pv 2) (nomark _)) (pv 1) (pv 0)))))))),?_⟩
 have t0:atI [V.int (t.1:Int),V.int (t.2:Int)] 0=some (.int t.1):=bw (j:=0) rfl;have t1:atI [V.int (t.1:Int),V.int (t.2:Int)] 1=some (.int t.2):=bw (j:=1) rfl;have ax:atI (ms.map V.int) (t.1:Int)=some (.int (ms.getD t.1 0)):=bc hx;have ay:atI (ms.map V.int) (t.2:Int)=some (.int (ms.getD t.2 0)):=bc hy;refine⟨_,rfl,_,rfl,b,_,_,_,rfl,rfl,SqT.of hb,t0,a,_,_,_,rfl,rfl,ha,ax,?_⟩;refine⟨_,rfl,_,rfl,b,_,_,_,rfl,rfl,SqT.of hb,t1,a,_,_,_,rfl,rfl,ha,ay,?_⟩;refine⟨_,rfl,a,rfl,⟨_,ha⟩,?_⟩;refine bh (λx=>(λ_=>true) (aW x)) (λv=> .int ((λm:Int=>if m=ms.getD t.1 0 then ms.getD t.2 0 else m) (aW v))) ha (by rw[E3];exact Fc hl (by decide)) (λi v vs H' R S hv' hv sm hk=> ?_) λD H' hD sm hl'=> ?_
 .obtain⟨v,rfl⟩:=aV hv;obtain⟨m,rfl,hm⟩:=aQ hv';have q:=hk [some (.int m)] H' rfl (Same.refl _);rw[E9 rfl]at q;simp only[bU,dI,E9];refine⟨_,rfl,_,rfl,rfl,_,rfl,?_⟩;rw[Ba];refine cn (λhc=> ?_) λhc=> ?_
  .have e:=Fi hc;replace q:R (V.int (if m=ms.getD t.1 0 then ms.getD t.2 0 else m)) _ _:=q;rw[E9 e]at q;exact⟨_,rfl,q⟩
  .have e:=Gy (F4.mpr hc);replace q:R (V.int (if m=ms.getD t.1 0 then ms.getD t.2 0 else m)) _ _:=q;rw[Fg e]at q;exact⟨_,rfl,q⟩
 replace hl':=hl'.trans (Fu (λl=>some (HO.lst l)) (aU (λ_=>true) (λm:Int=>if m=ms.getD t.1 0 then ms.getD t.2 0 else m) ms));rw[Gf.mpr (λ_ _=>rfl)]at hl';exact k D H' sm hD hl'
theorem sc_Net___init__:aE ["self","n","points","ties"] ["self","n","points","ties"] (aq s_Net___init__):=⟨rfl,rfl,rfl,by decide+kernel,rfl,by decide+kernel,by decide+kernel⟩
theorem lC(T:Tb K mg)(D:eZ K "__init__" "Net.__init__" s_Net___init__ ["self","n","points","ties"] f)(g_House:mg "House"=some (.ref C_House))(cl:Cls K C)(n1:bC K C "many")(n2:bC K C "points")(n3:bC K C "ties")
  (k_House___init__:yY P w K mg base 1 C_House "__init__" ["self","n"] (iw K)):dU P w K mg base 2 f ["self","n","points","ties"] (wB K C):=by
 refine D.fn sc_Net___init__ (λvs H Q E h=>by obtain⟨p,dx,a,n,pt,xs,ts,rfl,_⟩:=h;rfl) λcdv A outer σs H vs Q E hr h=> ?_;obtain⟨p,dx,a,n,pt,xs,ts,rfl,hp,ha,hx,hl,k⟩:=h;refine⟨_,(ae (cq (jk k_House___init__ hr (by decide) (jj (v:= .ref C_House) (by rfl) g_House rfl) (aa (pv 0) (aa (pv 1) ab))))
   (ae (eJ (K:=K) (by rfl) (pv 0) (pv 2) (by rfl))
   (af (eJ (K:=K) (by rfl) (pv 0) (dD (dR (K:=K) (by rfl)) (by rfl) T.tuple_ Io (aa (bR (vars:=["tie"]) (frn:=[]) (fr:=[]) rfl (by rfl) (by rfl) (by rfl) (by rfl) FA (aF (K:=K) (by rfl) (pv 3)) (λ_ _ _ _=>(aB (i:=0) (show List.Nodup (["tie"]:List PySem.Str) by decide+kernel) (by rfl) (E5 rfl))) (λ_ _ _ _=>bz) (λ_ _ _ _=>(cA (aa (aK (fW (K:=K) (by rfl)) (pv 0) ag (λ_ _=>rfl)) (aa (aK (fW (K:=K) (by rfl)) (pv 0) ag (λ_ _=>rfl)) ab))))) ab)) (by rfl))))),?_⟩
 refine⟨rfl,_,rfl,_,rfl,p,C,dx,_,rfl,hp,cl,n1,?_⟩;have hp1:upd H p (.ins C dx (bq "many" (.int n) [])) p=some (.ins C dx (bq "many" (.int n) [])):=ah;refine⟨_,rfl,_,rfl,p,C,dx,_,rfl,hp1,cl,n2,Ft (br _ _ _) (by show 0+1<1000;decide),?_⟩;rw[fM];have hp2:upd H p (.ins C dx (bq "points" (.int pt) (bq "many" (.int n) []))) p=some (.ins C dx (bq "points" (.int pt) (bq "many" (.int n) []))):=ah;have oth:∀b o,H b=some o->b≠p->upd H p (.ins C dx (bq "points" (.int pt) (bq "many" (.int n) []))) b=some o:=λb o e hb=>by rw[aC hb];exact e
 have nn:∀b,upd H p (.ins C dx (bq "points" (.int pt) (bq "many" (.int n) []))) b=none->b≠p/\H b=none:=λb hb=>by
  have bp:b≠p:=λe=>by rw[e,ah]at hb;cases hb
  rw[aC bp]at hb;exact⟨bp,hb⟩
 have tsU:e9 H (upd H p (.ins C dx (bq "points" (.int pt) (bq "many" (.int n) [])))):=λb ys e=>oth b _ e (gK e hp (by intro z;cases z));have ha1:SqL K (upd H p (.ins C dx (bq "points" (.int pt) (bq "many" (.int n) [])))) a xs:=by
  rcases ha with (h|⟨o,h⟩)|h
  .exact .inl (.inl (oth _ _ h (gK h hp (by intro z;cases z))))
  .exact .inl (.inr ⟨o,oth _ _ h (gK h hp (by intro z;cases z))⟩)
  .exact .inr h
 have hx1:=hx.ts tsU;generalize upd H p (.ins C dx (bq "points" (.int pt) (bq "many" (.int n) [])))=H1 at*;refine⟨_,rfl,a,rfl,⟨_,ha1⟩,?_⟩;refine AK (λx y G=>∃ (b c:Addr) (t:Nat×Nat),x= .ref b/\y= .ref c/\G b=some (.tup [.int t.1, .int t.2])/\G c=some (.tup [.int t.1, .int t.2])) (λx y G G' e h=>by obtain⟨b,c,t,e1,e2,h1,h2⟩:=h;exact⟨b,c,t,e1,e2,e _ _ h1,e _ _ h2⟩) ha1 (Fc hl (by decide)) (λi v vs H' R S hv' hv sm hk=> ?_) λD H2 ys hD sm hD2 hlen hR=> ?_
 .obtain⟨v,rfl⟩:=aV hv;obtain⟨b,t,ht,rfl,hb⟩:=hx1.at hv';have hb':=sm.at hb;have t0:atI [V.int (t.1:Int),V.int (t.2:Int)] 0=some (.int t.1):=bw (j:=0) rfl;have t1:atI [V.int (t.1:Int),V.int (t.2:Int)] 1=some (.int t.2):=bw (j:=1) rfl;simp only[bU,dI,E9];refine⟨_,rfl,b,_,_,_,rfl,rfl,SqT.of hb',t0,_,rfl,b,_,_,_,rfl,rfl,SqT.of hb',t1,by show 2<=sizeLine;decide,λq hq=> ?_⟩;exact hk _ [some (.ref b)] _ ⟨b,q,t,rfl,rfl,(Same.new hq).at hb',ah⟩ rfl (Same.new hq)
 have hy2:cS H2 ys ts:=by
  refine⟨by rw[hlen];exact hx1.1,λi t ht=> ?_⟩;obtain⟨b,h1,h2⟩:=hx1.2 i t ht;have hi:i<ys.length:=by rw[hlen];exact(Fd.mp h1).1
  obtain⟨b',c,t',e1,e2,g1,g2⟩:=hR i _ _ h1 (Fs hi);cases e1;have g3:=sm.at h2;rw[g1]at g3;refine⟨c,by rw[Fs hi,e2],?_⟩;rw[g2];exact g3
 refine⟨D,ys,rfl, .inl ⟨SqL.of hD2,λt ht=> ?_⟩⟩;have hp3:=sm.at hp2;have tp:t≠p:=λe=>by rw[e,hp3]at ht;cases ht
 have t1n:H1 t=none:=by
  cases e:H1 t with
  |none=>rfl
  |some o=>rw[sm.at e]at ht;cases ht
 refine⟨_,rfl,p,C,dx,_,rfl,(by rw[aC tp.symm];exact hp3),cl,n3,?_,?_⟩
 .exact Ft (br _ _ _) (Ft (HH (br _ _ _)) (by show 0+1+1<1000;decide))
 have hpu:upd H2 t (.tup ys) p=some (.ins C dx (bq "points" (.int pt) (bq "many" (.int n) []))):=by rw[aC tp.symm];exact hp3
 refine k t ys _ (nn t t1n).2 (λb o e hb=> ?_) ah ?_ ?_
 .have e1:=sm.at (oth b o e hb);rw[aC hb,aC (aA e1 ht)];exact e1
 .rw[aC tp,ah]
 .refine(hy2.ts (H':=upd H2 t (.tup ys)) (e9.new ht)).ts λb zs e=> ?_;rw[aC (gK e hpu (by intro z;cases z))];exact e
theorem sc_Net_pieces:aE ["self","s","marks","thing"] ["self","s"] (aq s_Net_pieces):=⟨rfl,rfl,rfl,by decide+kernel,rfl,by decide+kernel,by decide+kernel⟩
theorem oE(T:Tb K mg)(D:eZ K "pieces" "Net.pieces" s_Net_pieces ["self","s"] f)(cl:Cls K C)(n2:bC K C "points")(n3:bC K C "ties")(c_things:Cal P w K mg base 2 "things" ["s"] cf)(c_tied:Cal P w K mg base 1 "tied" ["marks","tie"] (zD K)):
  dU P w K mg base 3 f ["self","s"] (CH C):=by
 refine D.fn sc_Net_pieces (λvs H Q E h=>by obtain⟨a,n,p,s,ts,rfl,_⟩:=h;rfl) λcdv A outer σs H vs Q E hr h=> ?_;obtain⟨a,n,p,s,ts,rfl,hN,hok,hp,h8,hs,k⟩:=h;refine⟨_,(ae (aH (i:=2) sc_Net_pieces.nd (by rfl) (E5 rfl) (dD (vX (by rfl)) (by rfl) T.list_ Ji (aa (Dr (by rfl) T.range_ (aa (de (K:=K) (by rfl) (pv 0) (by rfl)) ab)) ab)))
   (ae (aZ Fx rfl (aF (K:=K) (by rfl) (ao c_things hr (by decide) (by rfl) (aa (pv 1) ab))) (aB (i:=3) sc_Net_pieces.nd (by rfl) (E5 rfl))
     (af (aH (i:=2) sc_Net_pieces.nd (by rfl) (E5 rfl) (ao c_tied hr (by decide) (by rfl) (aa (pv 2) (aa (aK (fW (K:=K) (by rfl)) (de (K:=K) (by rfl) (pv 0) (by rfl)) (pv 3) (λ_ _=>rfl)) ab))))))
   (af (aD (aO vY (by rfl) T.len_ FY (aa (dD (vW (K:=K) (by rfl) (by rfl)) (by rfl) T.set_ PyProof.Rows.boot_set (aa (pv 2) ab)) ab)))))),?_⟩
 obtain⟨dx,t,xs,ha,ht,hx⟩:=id hN;refine⟨_,rfl,a,C,dx,_,_,rfl,ha,cl,n2,nj _ _ _,_,rfl,λr hr1=>⟨r,p,rfl,ah,hp,λm hm=> ?_⟩⟩;have sm1:Same H (upd (upd H r (.rng 0 p)) m (.lst ((Bh.start p).map V.int))):=(Same.new hr1).trans (Same.new hm);have hm1:upd (upd H r (.rng 0 p)) m (.lst ((Bh.start p).map V.int)) m=some (.lst ((Bh.start p).map V.int)):=ah;have s256:s<256:=Fb hs (Fy (n:=2) (by lia) h8);show bU _ _ _ (upd (upd H r (.rng 0 p)) m (.lst ((Bh.start p).map V.int))) _;generalize upd (upd H r (.rng 0 p)) m (.lst ((Bh.start p).map V.int))=H1 at*;refine⟨_,rfl,(s:Int),rfl,by lia,by lia,λq H2 sm2 hq hl=> ?_⟩;rw[E4]at hl;refine⟨q,rfl,⟨_,SqL.of hl⟩,?_⟩;refine ba (K:=K) (a:=q) (xs:=(bits s).map V.int) (λi σ H'=>Same H2 H'/\∃m v,H' m=some (.lst ((rg p ts ((bits s).take i)).map V.int))/\σ=[some (.ref a),some (.int (s:Int)),some (.ref m),v]) ⟨Same.refl _,m,none,sm2.at hm1,rfl⟩ (λi σ H' _ z=>SqL.of (z.1.at hl)) ?_ ?_
 .rintro i y σ H' hi ⟨sm',m',v,hm',rfl⟩;obtain⟨z,rfl,hz⟩:=aQ hi;obtain⟨z0,z1⟩:=gH hs (E7 hz);obtain⟨j,rfl⟩:=Gn z0;rw[E4]at z1;have smA:Same H H':=(sm1.trans sm2).trans sm';have hg:ts[j]?=some (ts.getD j (0,0)):=by simp[z1]
  obtain⟨b,hb1,hb2⟩:=(hx.ts (e9.of smA)).2 j _ hg;have hb:=hok _ (E7 hg);have hlen:=kQ p ts ((bits s).take i);refine⟨_,rfl,_,rfl,a,C,dx,_,_,rfl,smA.at ha,cl,n3,Av _ _ _,_,rfl,t,_,_,_,rfl,rfl,SqT.of (smA.at ht),bw hb1,?_⟩;refine⟨m',b,_,ts.getD j (0,0),rfl,SqL.of hm',hb2,by rw[hlen];exact hb.1,by rw[hlen];exact hb.2,by rw[hlen];exact hp,λu H3 sm3 hu hl3=> ?_⟩;refine⟨sm'.trans sm3,u,_,?_,rfl⟩;rw[hl3,GK,hz,JP,o8,E4]
 .rintro σ H' ⟨sm',m',v,hm',rfl⟩;rw[E3,Gm]at hm';have hlen:=kQ p ts (bits s);refine⟨_,rfl,m',_,rfl,SqL.of hm',by rw[hlen];lia,λl hl2=>⟨l,_,_,rfl,ah,?_⟩⟩;rw[jB,hlen];exact k _ (((sm1.trans sm2).trans sm').trans (Same.new hl2))
theorem sc_Net_rank:aE ["self","s"] ["self","s"] (aq s_Net_rank):=⟨rfl,rfl,rfl,by decide+kernel,rfl,by decide+kernel,by decide+kernel⟩
theorem tj(D:eZ K "rank" "Net.rank" s_Net_rank ["self","s"] f)(cl:Cls K C)(n2:bC K C "points")(m_pieces:∀C',C'=C->dH P w K mg base 3 C' "pieces" ["self","s"] (CH C')):dU P w K mg base 4 f ["self","s"] (wu C):=by refine D.fn sc_Net_rank (λvs H Q E h=>by obtain⟨a,n,p,s,ts,rfl,_⟩:=h;rfl) λcdv A outer σs H vs Q E hr h=> ?_;obtain⟨a,n,p,s,ts,rfl,hN,hok,hp,h8,hs,k⟩:=h;refine⟨_,(af (aD (aw dr (de (K:=K) (by rfl) (pv 0) (by rfl)) (fQ m_pieces hr (by decide) (pv 0) (aa (pv 1) ab))))),?_⟩;obtain⟨dx,t,xs,ha,ht,hx⟩:=id hN;exact⟨_,rfl,a,C,dx,_,_,rfl,ha,cl,n2,nj _ _ _,_,rfl,a,C,dx,_,rfl,ha,rfl,vt _ _ _,_,rfl,a,n,p,s,ts,rfl,hN,hok,hp,h8,hs,λH' sm=>⟨_,_,rfl,rfl,k H' sm⟩⟩
theorem sc_pivot_place:aE ["rows","column","place","row"] ["rows","column"] (aq s_pivot_place):=⟨rfl,rfl,rfl,by decide+kernel,rfl,by decide+kernel,by decide+kernel⟩
theorem nc(T:Tb K mg)(D:aS K mg "pivot_place" s_pivot_place ["rows","column"]):Cal P w K mg base 1 "pivot_place" ["rows","column"] (wz K):=by
 refine D.cal sc_pivot_place (λvs H Q E h=>by obtain⟨a,xs,L,c,n,rfl,_⟩:=h;rfl) λf cdv A outer σs H vs Q E hr h=> ?_;obtain⟨a,xs,L,c,n,rfl,ha,hx,hn,hc,k1,k2⟩:=h;refine⟨_,(ae (aZ Fx rfl (sP (K:=K) (by rfl) (by rfl) T.enumerate_ (aa (pv 0) ab)) (lZ (K:=K) (n:=2) (by rfl) (by rfl) (eR (aB (i:=2) sc_pivot_place.nd (by rfl) (E5 rfl)) (eR (aB (i:=3) sc_pivot_place.nd (by rfl) (E5 rfl)) lY)))
     (af (a8 (aI jo (aK (av (K:=K) (by rfl)) (pv 3) (pv 1) (λ_ _=>rfl)) ag (nomark _))
       (af (aD (pv 2)))
       aN)))
   (af (aD ei))),?_⟩
 refine⟨_,rfl,a,rfl,⟨_,ha⟩,?_⟩;refine AX (K:=K) (a:=a) (xs:=xs) (λi σ H'=>Same H H'/\(∀ (j:Nat) (r:List Int),j<i->L[j]?=some r->r.getD c 0=0)/\∃v2 v3,σ=[some (.ref a),some (.int (c:Int)),v2,v3]) ⟨Same.refl _,λj _ hj=>absurd hj (Ir _),none,none,rfl⟩ (λi σ H' _ z=>SqL.of (z.1.at ha)) ?_ ?_
 .rintro i y t σ H' hi ht ⟨sm',hz,v2,v3,rfl⟩;obtain⟨b,r,hr',rfl,hb⟩:=(hx.same sm').at hi;have smt:Same H' (upd H' t (.tup [.int (i:Int), .ref b])):=Same.new ht;have hb':=smt.at hb;have ar:atI (r.map V.int) (c:Int)=some (.int (r.getD c 0)):=bc (by rw[hn r (E7 hr')];exact hc);refine⟨t,_,rfl,SqT.of ah,rfl,_,_,rfl,_,_,rfl,rfl,?_⟩;refine⟨_,rfl,_,rfl,b,_,_,_,rfl,rfl,SqL.of hb',ar,rfl,_,rfl,?_⟩;by_cases h0:r.getD c 0=0
  .rw[h0];refine dt ⟨sm'.trans smt,λj r' hj hr2=> ?_,_,_,rfl⟩;by_cases e:j=i
   .subst e;rw[hr']at hr2;cases hr2;exact h0
   .exact hz j r' (by lia) hr2
  .rw[E8 λe=>h0 (V.int.inj e)];exact tO ⟨_,rfl,k1 i r _ (sm'.trans smt) hr' h0⟩
 .rintro σ H' ⟨sm',hz,v2,v3,rfl⟩;refine k2 (λr hr'=> ?_) H' sm';obtain⟨j,hj⟩:=Gw hr';exact hz j r (by rw[hx.1];exact(Fd.mp hj).1) hj
theorem sc_cleared:aE ["row","pivot","column","divisor","ahead","behind"] ["row","pivot","column","divisor"] (aq s_cleared):=⟨rfl,rfl,rfl,by decide+kernel,rfl,by decide+kernel,by decide+kernel⟩
theorem sX(T:Tb K mg)(D:aS K mg "cleared" s_cleared ["row","pivot","column","divisor"]):Cal P w K mg base 1 "cleared" ["row","pivot","column","divisor"] (mR K):=by
 refine D.cal sc_cleared (λvs H Q E h=>by obtain⟨a,b,r,pr,c,n,B,d,rfl,_⟩:=h;rfl) λf cdv A outer σs H vs Q E hr h=> ?_;obtain⟨a,b,r,pr,c,n,B,d,rfl,ha,hb,hr1,hp1,hc,hn,hB,hd,k⟩:=h;refine⟨_,(ae (aH (i:=4) sc_cleared.nd (by rfl) (GD rfl) (aK (av (K:=K) (by rfl)) (pv 1) (pv 2) (λ_ _=>rfl)))
   (ae (aH (i:=5) sc_cleared.nd (by rfl) (GD rfl) (aK (av (K:=K) (by rfl)) (pv 0) (pv 2) (λ_ _=>rfl)))
   (af (aD (bR (vars:=["number","above"]) (frn:=["divisor","ahead","behind"]) (fr:=[3,4,5]) rfl (by rfl) (by rfl) (by rfl) (by rfl) ⟨⟨by rfl,E5 (by rfl),E5 (by rfl)⟩,⟨⟨by rfl,E5 (by rfl),E5 (by rfl)⟩,⟨⟨by rfl,E5 (by rfl),E5 (by rfl)⟩,FA⟩⟩⟩ (BQ (K:=K) (by rfl) (by rfl) T.zip_ (aa (pv 0) (aa (pv 1) ab))) (λ_ _ _ _=>(lZ (K:=K) (n:=2) (by rfl) (by rfl) (eR (aB (i:=0) (show List.Nodup (["number","above","divisor","ahead","behind"]:List PySem.Str) by decide+kernel) (by rfl) (E5 rfl)) (eR (aB (i:=1) (show List.Nodup (["number","above","divisor","ahead","behind"]:List PySem.Str) by decide+kernel) (by rfl) (E5 rfl)) lY)))) (λ_ _ _ _=>bz) (λ_ _ _ _=>(aw Ah (aw dr (aw bQ (pv 0) (pv 3)) (aw bQ (pv 1) (pv 4))) (pv 2)))))))),?_⟩
 have ar:atI (r.map V.int) (c:Int)=some (.int (r.getD c 0)):=bc (by rw[hr1.1];exact hc);have ap:atI (pr.map V.int) (c:Int)=some (.int (pr.getD c 0)):=bc (by rw[hp1.1];exact hc);refine⟨_,rfl,_,rfl,b,_,_,_,rfl,rfl,hb,ap,?_⟩;refine⟨_,rfl,_,rfl,a,_,_,_,rfl,rfl,ha,ar,?_⟩;refine⟨_,rfl,_,rfl,a,b,rfl,⟨_,ha⟩,⟨_,hb⟩,?_⟩;have b26:B+B<=2^26:=by lia
 refine Ca (n:=n) (λj=> .int ((r.getD j 0*pr.getD c 0-pr.getD j 0*r.getD c 0).fdiv d)) ha hb (by rw[E3];exact hr1.1) (by rw[E3];exact hp1.1) (Fc hn (by decide)) (λi x y vs H' t R S hx hy hv sm ht hk=> ?_) λD H' hD sm hl'=> ?_
 .obtain⟨v1,v2,rfl⟩:=zd hv;obtain⟨z1,rfl,h1⟩:=aQ hx;obtain⟨z2,rfl,h2⟩:=aQ hy;have e1:r.getD i 0=z1:=by rw[Ff,h1];rfl
  have e2:pr.getD i 0=z2:=by rw[Ff,h2];rfl
  have q:=hk [some (.int z1),some (.int z2)] (upd H' t (.tup [.int z1, .int z2])) rfl (Same.refl _);rw[e1,e2]at q;have m1:bO z1 (pr.getD c 0):=by rw[<-e1];exact bO.of (hr1.at i) (hp1.at c) b26
  have m2:bO z2 (r.getD c 0):=by rw[<-e2];exact bO.of (hp1.at i) (hr1.at c) b26
  refine⟨t,_,rfl,SqT.of ah,rfl,_,_,rfl,_,_,rfl,rfl,?_⟩;simp only[dI,E9];exact⟨_,rfl,_,rfl,_,_,rfl,rfl,m1,_,rfl,_,rfl,_,_,rfl,rfl,m2,_,_,rfl,rfl,_,rfl,_,_,rfl,rfl,hd,q⟩
 .refine k D H' sm hD (hl'.trans ?_);unfold iS;rw[hr1.1,F5];rfl
theorem sc_all_cleared:aE ["rows","place","column","divisor","pivot","others"] ["rows","place","column","divisor"] (aq s_all_cleared):=⟨rfl,rfl,rfl,by decide+kernel,rfl,by decide+kernel,by decide+kernel⟩
theorem lz(T:Tb K mg)(D:aS K mg "all_cleared" s_all_cleared ["rows","place","column","divisor"])(c_cleared:Cal P w K mg base 1 "cleared" ["row","pivot","column","divisor"] (mR K)):Cal P w K mg base 2 "all_cleared" ["rows","place","column","divisor"] (sC K):=by
 refine D.cal sc_all_cleared (λvs H Q E h=>by obtain⟨a,xs,L,i,c,n,B,d,pr,rfl,_⟩:=h;rfl) λf cdv A outer σs H vs Q E hr h=> ?_;obtain⟨a,xs,L,i,c,n,B,d,pr,rfl,ha,hx,hbin,hL,hi,hc,hn,hB,hd,k⟩:=h;refine⟨_,(ae (aH (i:=4) sc_all_cleared.nd (by rfl) (GD rfl) (aK (av (K:=K) (by rfl)) (pv 0) (pv 1) (λ_ _=>rfl)))
   (ae (aH (i:=5) sc_all_cleared.nd (by rfl) (E5 rfl) (aw vm (ji (ja (K:=K) (by rfl)) (pv 0) lX (lW (pv 1))) (ji (ja (K:=K) (by rfl)) (pv 0) (lW (aw cX (pv 1) ag)) lX)))
   (af (aD (bR (vars:=["row"]) (frn:=["pivot","column","divisor"]) (fr:=[4,2,3]) rfl (by rfl) (by rfl) (by rfl) (by rfl) ⟨⟨by rfl,E5 (by rfl),E5 (by rfl)⟩,⟨⟨by rfl,E5 (by rfl),E5 (by rfl)⟩,⟨⟨by rfl,E5 (by rfl),E5 (by rfl)⟩,FA⟩⟩⟩ (aF (K:=K) (by rfl) (pv 5)) (λ_ _ _ _=>(aB (i:=0) (show List.Nodup (["row","pivot","column","divisor"]:List PySem.Str) by decide+kernel) (by rfl) (E5 rfl))) (λ_ _ _ _=>bz) (λ_ _ _ _=>(ao c_cleared hr (by decide) (by rfl) (aa (pv 0) (aa (pv 1) (aa (pv 2) (aa (pv 3) ab))))))))))),?_⟩
 obtain⟨b,hb1,hb2⟩:=hx.2 i pr hi;refine⟨_,rfl,_,rfl,a,_,_,_,rfl,rfl,SqL.of ha,bw hb1,?_⟩;refine⟨_,rfl,_,rfl,_,rfl,a,_,rfl,SqL.of ha,λp1 hp1=> ?_⟩;rw[Cq];have sm1:Same H (upd H p1 (.lst (xs.take i))):=Same.new hp1;have h1:upd H p1 (.lst (xs.take i)) p1=some (.lst (xs.take i)):=ah;generalize upd H p1 (.lst (xs.take i))=H1 at*;refine⟨_,rfl,_,rfl,_,_,rfl,rfl,_,rfl,a,_,rfl,SqL.of (sm1.at ha),λp2 hp2=> ?_⟩;rw[show(i:Int)+1=((i+1:Nat):Int)from rfl,yH];have sm2:Same H1 (upd H1 p2 (.lst (xs.drop (i+1)))):=Same.new hp2;have h2:upd H1 p2 (.lst (xs.drop (i+1))) p2=some (.lst (xs.drop (i+1))):=ah;generalize upd H1 p2 (.lst (xs.drop (i+1)))=H2 at*;have hxl:=hx.1;refine⟨p1,p2,_,_,rfl,rfl,sm2.at h1,h2,?_,λq hq=> ?_⟩
 .rw[FP,Hi];exact Fc (Bd i xs.length) (Fc (show xs.length<=1000 by lia) (by decide))
 have sm3:Same H2 (upd H2 q (.lst (xs.take i++xs.drop (i+1)))):=Same.new hq;have h3:upd H2 q (.lst (xs.take i++xs.drop (i+1))) q=some (.lst (xs.take i++xs.drop (i+1))):=ah;generalize upd H2 q (.lst (xs.take i++xs.drop (i+1)))=H3 at*;have smA:Same H H3:=(sm1.trans sm2).trans sm3;have hb3:=smA.at hb2;have hx3:bo H3 (xs.take i++xs.drop (i+1)) (L.take i++L.drop (i+1)):=(hx.same smA).cut i;have lenO:(xs.take i++xs.drop (i+1)).length<=1000:=by rw[Fw,FP,Hi];exact Fc (Bd i xs.length) (by lia)
 have binO:∀r∈L.take i++L.drop (i+1),eY n B r:=λr hr'=>by
  rcases FE.mp hr' with h|h
  .exact hbin r (IG h)
  .exact hbin r (JG h)
 have two:∀ (j:Nat) (r:List Int),(L.take i++L.drop (i+1))[j]?=some r->2<=L.length:=λj r hj=>by have h1:=(Fd.mp hj).1;have h2:=(Fd.mp hi).1;rw[Fw,FP,Hi]at h1;lia
 generalize xs.take i++xs.drop (i+1)=zs at*;generalize L.take i++L.drop (i+1)=N at*;refine⟨_,rfl,q,rfl,⟨_,SqL.of h3⟩,?_⟩;refine h9 (λx y G=>∃ (b' c':Addr) (r:List Int),x= .ref b'/\y= .ref c'/\H3 b'=some (.lst (r.map V.int))/\G c'=some (.lst ((iS d pr r c).map V.int))) (λx y G G' e h=>by obtain⟨b',c',r,e1,e2,g1,g2⟩:=h;exact⟨b',c',r,e1,e2,g1,e.at g2⟩) (SqL.of h3) (Fc lenO (by decide)) (λj x vs D H' R S hxj hv sm hD hk=> ?_) λD H' ys hD sm hD' hlen hR=> ?_
 .obtain⟨v,rfl⟩:=aV hv;obtain⟨b',r,hr',rfl,hb'⟩:=hx3.at hxj;obtain⟨l,hl⟩:=hD;simp only[bU,dI,E9];refine⟨_,rfl,_,rfl,_,rfl,_,rfl,b',b,r,pr,c,n,B,d,rfl,SqL.of (sm.at hb'),SqL.of (sm.at hb3),binO r (E7 hr'),hbin pr (E7 hi),hc,hn,hB,hd (two j r hr'),λu H4 sm4 hu hl4=> ?_⟩;refine hk _ [some (.ref b')] H4 ⟨b',u,r,rfl,rfl,hb',?_⟩ rfl sm4;rw[fX (aA hl hu).symm];exact hl4
 .refine k D H' ys (smA.trans sm) ?_ hD' ?_
  .cases e:H D with
   |none=>rfl
   |some o=>rw[smA.at e]at hD;cases hD
  .refine bo.of (by rw[hlen,E3];exact hx3.1) λj r' y hr' hy=> ?_;rw[Fm]at hr';cases hN:N[j]? with
   |none=>rw[hN]at hr';cases hr'
   |some r=>
    rw[hN]at hr';cases hr';obtain⟨b',h1,h2⟩:=hx3.2 j r hN;obtain⟨b2,c2,r2,e1,e2,g1,g2⟩:=hR j _ y h1 hy;cases e1;rw[mf h2 g1];exact⟨c2,e2,fv.at g2⟩
theorem sc_rests:aE ["row","prime"] ["row","prime"] (aq s_rests):=⟨rfl,rfl,rfl,by decide+kernel,rfl,by decide+kernel,by decide+kernel⟩
theorem Ak(T:Tb K mg)(D:aS K mg "rests" s_rests ["row","prime"]):Cal P w K mg base 1 "rests" ["row","prime"] (wt K):=by
 refine D.cal sc_rests (λvs H Q E h=>by obtain⟨a,r,m,rfl,_⟩:=h;rfl) λf cdv A outer σs H vs Q E hr h=> ?_;obtain⟨a,r,m,rfl,ha,h0,hl,k⟩:=h;refine⟨_,(ae (a8 (aI bS (pv 1) ag (nomark _))
     (af (aD (dD (oH (K:=K) (by rfl)) (by rfl) T.list_ Ji (aa (pv 0) ab))))
     aN)
   (af (aD (bR (vars:=["number"]) (frn:=["prime"]) (fr:=[1]) rfl (by rfl) (by rfl) (by rfl) (by rfl) ⟨⟨by rfl,E5 (by rfl),E5 (by rfl)⟩,FA⟩ (aF (K:=K) (by rfl) (pv 0)) (λ_ _ _ _=>(aB (i:=0) (show List.Nodup (["number","prime"]:List PySem.Str) by decide+kernel) (by rfl) (E5 rfl))) (λ_ _ _ _=>bz) (λ_ _ _ _=>(aw bE (pv 0) (pv 1))))))),?_⟩
 refine⟨_,rfl,rfl,_,rfl,cn (λz=> ?_) λz=> ?_⟩
 .have e:m=0:=V.int.inj (Fi z);refine⟨_,rfl,a,_,rfl, .inl ha,λq hq=> ?_⟩;refine k q _ (Same.new hq) hq ?_;rw[ah];unfold cC;rw[E9 e]
 .have e:¬m=0:=λe=>z (E6 (by rw[e]));refine⟨_,rfl,a,rfl,⟨_,ha⟩,?_⟩;refine bh (λ_=>true) (λx=> .int (aW x % m)) ha (by rw[E3];exact Fc hl (by decide)) (λi x vs H' R S hx hv sm hk=> ?_) λq H' hq sm hl'=> ?_
  .obtain⟨v,rfl⟩:=aV hv;obtain⟨y,rfl,hy⟩:=aQ hx;have q:=hk [some (.int y)] H' rfl (Same.refl _);rw[E9 rfl]at q;simp only[bU,dI,E9];exact⟨_,rfl,_,rfl,_,_,rfl,rfl,(by show(0:Int)<m;lia),q⟩
  .refine k q H' sm hq (hl'.trans ?_);have:=aU (λ_=>true) (λz=>z % m) r;rw[this,Gf.mpr (λ_ _=>rfl)];unfold cC;rw[Fg e]
theorem sc_rank_of:aE ["rows","prime","left","rank","divisor","column","place","ahead"] ["rows","prime"] (aq s_rank_of):=⟨rfl,rfl,rfl,by decide+kernel,rfl,by decide+kernel,by decide+kernel⟩
theorem vn(T:Tb K mg)(D:aS K mg "rank_of" s_rank_of ["rows","prime"])(c_rests:Cal P w K mg base 1 "rests" ["row","prime"] (wt K))(c_pivot_place:Cal P w K mg base 1 "pivot_place" ["rows","column"] (wz K))(c_all_cleared:Cal P w K mg base 2 "all_cleared" ["rows","place","column","divisor"] (sC K)):Cal P w K mg base 3 "rank_of" ["rows","prime"] (sf K):=by
 refine D.cal sc_rank_of (λvs H Q E h=>by obtain⟨a,xs,M,n,m,rfl,_⟩:=h;rfl) λf cdv A outer σs H vs Q E hr h=> ?_;obtain⟨a,xs,M,n,m,rfl,ha,hx,hM,n8,hrow,pm,k⟩:=h;refine⟨_,(ae (a8 (aI bS (aO (aM (K:=K) (by rfl)) (by rfl) T.len_ FY (aa (pv 0) ab)) ag (nomark _))
     (af (aD ag))
     aN)
   (ae (dN (i:=2) sc_rank_of.nd (by rfl) (by rfl) (vars:=["row"]) (frn:=["prime"]) (fr:=[1]) rfl (by rfl) (by rfl) (by rfl) (by rfl) ⟨⟨by rfl,E5 (by rfl),E5 (by rfl)⟩,FA⟩ (aF (K:=K) (by rfl) (pv 0)) (λ_ _ _ _=>(aB (i:=0) (show List.Nodup (["row","prime"]:List PySem.Str) by decide+kernel) (by rfl) (E5 rfl))) (λ_ _ _ _=>bz) (λ_ _ _ _=>(ao c_rests hr (by decide) (by rfl) (aa (pv 0) (aa (pv 1) ab)))))
   (ae (aH (i:=3) sc_rank_of.nd (by rfl) (E5 rfl) ag)
   (ae (aH (i:=4) sc_rank_of.nd (by rfl) (E5 rfl) ag)
   (ae (aZ Fx rfl (aX (by rfl) T.range_ (aa (aO (aM (K:=K) (by rfl)) (by rfl) T.len_ FY (aa (aK (av (K:=K) (by rfl)) (pv 0) ag (λ_ _=>rfl)) ab)) ab)) (aB (i:=5) sc_rank_of.nd (by rfl) (E5 rfl))
     (ae (aH (i:=6) sc_rank_of.nd (by rfl) (E5 rfl) (ao c_pivot_place hr (by decide) (by rfl) (aa (pv 2) (aa (pv 5) ab))))
     (af (a8 (aI wV (pv 6) ei (nomark _))
       (ae (aH (i:=7) sc_rank_of.nd (by rfl) (E5 rfl) (aK (av (K:=K) (by rfl)) (aK (av (K:=K) (by rfl)) (pv 2) (pv 6) (λ_ _=>rfl)) (pv 5) (λ_ _=>rfl)))
       (ae (dN (i:=2) sc_rank_of.nd (by rfl) (by rfl) (vars:=["row"]) (frn:=["prime"]) (fr:=[1]) rfl (by rfl) (by rfl) (by rfl) (by rfl) ⟨⟨by rfl,E5 (by rfl),E5 (by rfl)⟩,FA⟩ (aF (K:=K) (by rfl) (ao c_all_cleared hr (by decide) (by rfl) (aa (pv 2) (aa (pv 6) (aa (pv 5) (aa (pv 4) ab)))))) (λ_ _ _ _=>(aB (i:=0) (show List.Nodup (["row","prime"]:List PySem.Str) by decide+kernel) (by rfl) (E5 rfl))) (λ_ _ _ _=>bz) (λ_ _ _ _=>(ao c_rests hr (by decide) (by rfl) (aa (pv 0) (aa (pv 1) ab)))))
       (ae (aH (i:=3) sc_rank_of.nd (by rfl) (E5 rfl) (aw cX (pv 3) ag))
       (af (a8 (aI bS (pv 1) ag (nomark _))
         (af (aH (i:=4) sc_rank_of.nd (by rfl) (E5 rfl) (pv 7)))
         aN)))))
       aN))))
   (af (aD (pv 3)))))))),?_⟩
 have hxl:=hx.1;refine⟨_,rfl,a,_,rfl, .inl (SqL.of ha),rfl,_,rfl,cn (λz=> ?_) λz=> ?_⟩
 .have e:M=[]:=by have e1:((xs.length:Nat):Int)=0:=V.int.inj (Fi z);exact List.length_eq_zero_iff.mp (by lia)
  subst e;refine k 0 H (Same.refl _) ?_ (qA pm.one _ _);intro S T hS hT ls lt
  match S,ls with
  |s::_,_=>exact absurd (hS s Fq) (λh=>nomatch h)
 have m0:0<M.length:=by refine Nat.pos_of_ne_zero λe=>z (E6 ?_);rw[hxl,e];rfl
 refine⟨_,rfl,a,rfl,⟨_,SqL.of ha⟩,?_⟩;refine h9 (λx y G=>∃ (b' c':Addr) (r:List Int),x= .ref b'/\y= .ref c'/\H b'=some (.lst (r.map V.int))/\G c'=some (.lst ((cC m r).map V.int))) (λx y G G' e h=>by obtain⟨b',c',r,e1,e2,g1,g2⟩:=h;exact⟨b',c',r,e1,e2,g1,e.at g2⟩) (SqL.of ha) (Fc (show xs.length<=100 by lia) (by decide)) (λj x vs D H' R S hxj hv sm hD hk=> ?_) λq H1 ys hq sm1 hq1 hlen hR=> ?_
 .obtain⟨v,rfl⟩:=aV hv;obtain⟨b',r,hr',rfl,hb'⟩:=hx.at hxj;obtain⟨l,hl⟩:=hD;simp only[bU,dI,E9];refine⟨_,rfl,_,rfl,b',r,m,rfl,SqL.of (sm.at hb'),pm.nn,by rw[(hrow r (E7 hr')).1];lia,λu H4 sm4 hu hu4=> ?_⟩;refine hk _ [some (.ref b')] _ ⟨b',u,r,rfl,rfl,hb',?_⟩ rfl sm4;rw[fX (aA hl hu).symm];exact hu4
 have hy1:bo H1 ys (M.map (cC m)):=by
  refine bo.of (by rw[hlen,E3];exact hxl) λj r' y hr' hy=> ?_;rw[Fm]at hr';cases hN:M[j]? with
  |none=>rw[hN]at hr';cases hr'
  |some r=>
   rw[hN]at hr';cases hr';obtain⟨b',h1,h2⟩:=hx.2 j r hN;obtain⟨b2,c2,r2,e1,e2,g1,g2⟩:=hR j _ y h1 hy;cases e1;rw[mf h2 g1];exact⟨c2,e2,fv.at g2⟩
 clear hR;obtain⟨b0,hb1,hb2⟩:=hx.2 0 _ (Fs m0);have l0:=(hrow _ (Gj m0)).1;refine⟨_,rfl,a,_,_,_,rfl,rfl,SqL.of (sm1.at ha),bw (j:=0) hb1,b0,_,rfl, .inl (SqL.of (sm1.at hb2)),_,rfl,by rw[E3];lia,by rw[E3];lia,?_⟩;rw[E3,l0,E4];have mapped:∀ (L:List (List Int)) (c:Nat) (kk:Nat),(Van m kk ((L.map (cC m)).map aY) (List.range' c (n-c))->Van m kk (L.map aY) (List.range' c (n-c)))/\(Mnr m kk ((L.map (cC m)).map aY) (List.range' c (n-c))->Mnr m kk (L.map aY) (List.range' c (n-c))):=λL c kk=>by
  have e:(L.map (cC m)).map aY=(L.map aY).map (Az m):=by rw[F5,F5];exact GJ λr _=>xG m r
  rw[e];exact⟨Br λr _ j _=>tq m r j,BB λr _ j _=>tq m r j⟩
 refine bV (n:=n) (λc σ H'=>Same H H'/\∃ (q:Addr) (ys:List V) (L:List (List Int)) (rk:Nat) (d:Int) (v5 v6 v7:Option V),H' q=some (.lst ys)/\bo H' ys L/\L.length+rk=M.length/\(∀r∈L,eY n (e8 rk) r)/\(0<m->∀r∈L,∀z∈r,0<=z/\z<m)/\d≠0/\d.natAbs<2^e8 (rk-1)/\¬m∣d/\(m≠0->d=1)/\kY d (L.map aY) (List.range' c (n-c))/\
  (∀kk,Van m kk (L.map aY) (List.range' c (n-c))->Van m (rk+kk) (M.map aY) (List.range n))/\(∀kk,Mnr m kk (L.map aY) (List.range' c (n-c))->Mnr m (rk+kk) (M.map aY) (List.range n))/\
  σ=[some (.ref a),some (.int m),some (.ref q),some (.int (rk:Int)),some (.int d),v5,v6,v7]) ⟨sm1,q,ys,M.map (cC m),0,1,none,none,none,hq1,hy1,by rw[E3];rfl,λr hr'=> ?_,λhp r hr'=> ?_,by decide,by decide,pm.one,λ_=>rfl,gm _ _,λkk v=> ?_,λkk v=> ?_,rfl⟩ ?_ ?_
 .obtain⟨r0,hr0,rfl⟩:=Fn.mp hr';exact sI pm.nn pm.lt (by decide) (hrow r0 hr0)
 .obtain⟨r0,hr0,rfl⟩:=Fn.mp hr';exact wL hp
 .have:=(mapped M 0 kk).1 v;rw[show List.range' 0 (n-0)=List.range n by rw[Hw];rfl]at this;rw[IS];exact this
 .have:=(mapped M 0 kk).2 v;rw[show List.range' 0 (n-0)=List.range n by rw[Hw];rfl]at this;rw[IS];exact this
 .rintro c σ H' hc ⟨sm',q',ys',L,rk,d,v5,v6,v7,hq',hy',hL,hB,hin,hd,hdb,hmd,hd1,good,hVan,hSub,rfl⟩;rw[FX];rw[va hc]at good hVan hSub;refine⟨_,rfl,_,rfl,q',ys',L,c,n,rfl,hq',hy',λr hr'=>(hB r hr').1,hc,λi pr H2 sm2 hi hne=> ?_,λhall H2 sm2=> ?_⟩
  .have prm:=E7 hi;have hq2:=sm2.at hq';have hy2:=hy'.same sm2;have il:=(Fd.mp hi).1;have hcut:=Bc hi;have hcut2:L.map aY=(L.take i).map aY++aY pr::(L.drop (i+1)).map aY:=by
    conv=>lhs;rw[hcut]
    rw[FW,FT]
   have hmp:¬m∣pr.getD c 0:=DA pm.nn (λhp=>hin hp pr prm _ (BG hne)) hne;have G2:=yx good hd (show aY pr∈L.map aY from Fn.mpr ⟨pr,prm,rfl⟩) hne (L:=(L.take i).map aY++(L.drop (i+1)).map aY) λr hr'=>by
    rw[hcut2];rcases FE.mp hr' with h|h
    .exact FE.mpr (.inl h)
    .exact FE.mpr (.inr (Fe _ h))
   have eN:((L.take i).map aY++(L.drop (i+1)).map aY).map (cy d (aY pr) c)=((L.take i++L.drop (i+1)).map λr=>iS d pr r c).map aY:=by
    rw[<-FW,F5,F5];refine GJ λr hr'=> ?_;have rm:r∈L:=by
     rcases FE.mp hr' with h|h
     .exact IG h
     .exact JG h
    exact(zP (hB pr prm).1 (hB r rm).1 hc).symm
   have VS:∀kk,Van m kk (((L.take i++L.drop (i+1)).map λr=>iS d pr r c).map aY) (List.range' (c+1) (n- (c+1)))->Van m (rk+1+kk) (M.map aY) (List.range n):=λkk v=>by
    rw[<-eN]at v;have:=hVan _ (mz pm.mul good hd hcut2 hmp v)
    rwa [show rk+(kk+1)=rk+1+kk by lia]at this
   have US:∀kk,Mnr m kk (((L.take i++L.drop (i+1)).map λr=>iS d pr r c).map aY) (List.range' (c+1) (n- (c+1)))->Mnr m (rk+1+kk) (M.map aY) (List.range n):=λkk v=>by
    rw[<-eN]at v;have:=hSub _ (mI pm.mul pm.one good hd hmd hcut2 hmp v)
    rwa [show rk+(kk+1)=rk+1+kk by lia]at this
   rw[eN]at G2;have bN:∀r∈(L.take i++L.drop (i+1)).map λr=>iS d pr r c,eY n (e8 (rk+1)) r:=λx hx'=>by
    obtain⟨r,hr',rfl⟩:=Fn.mp hx';have rm:r∈L:=by
     rcases FE.mp hr' with h|h
     .exact IG h
     .exact JG h
    exact Cr (hB pr prm) (hB r rm)
   have lN:((L.take i++L.drop (i+1)).map λr=>iS d pr r c).length+(rk+1)=M.length:=by rw[E3,Fw,FP,Hi];lia
   obtain⟨b,hb1',hb2'⟩:=hy2.2 i pr hi;have ar:atI (pr.map V.int) (c:Int)=some (.int (pr.getD c 0)):=bc (by rw[(hB pr prm).1];exact hc);have cfd:2<=L.length->CFd 0 d:=λh2=>⟨hd,DF hdb (rK _ (by lia)) hd⟩;have rk8:rk<9:=by lia
   refine⟨_,rfl,rfl,_,rfl,tO ?_⟩;refine⟨_,rfl,_,rfl,q',_,_,_,rfl,rfl,SqL.of hq2,bw hb1',_,rfl,b,_,_,_,rfl,rfl,SqL.of hb2',ar,?_⟩;generalize hN:(L.take i++L.drop (i+1)).map (λr=>iS d pr r c)=N at*;refine⟨_,rfl,_,rfl,_,rfl,_,rfl,q',ys',L,i,c,n,e8 rk,d,pr,rfl,hq2,hy2,hB,by lia,hi,hc,by lia,yV rk rk8,cfd,λu H4 zs sm4 hu hu4 hz4=> ?_⟩;rw[hN]at hz4;have zl:=hz4.1;refine⟨u,rfl,⟨_,SqL.of hu4⟩,?_⟩;refine h9 (λx y G=>∃ (b' c':Addr) (r:List Int),x= .ref b'/\y= .ref c'/\H4 b'=some (.lst (r.map V.int))/\G c'=some (.lst ((cC m r).map V.int))) (λx y G G' e h=>by obtain⟨b',c',r,e1,e2,g1,g2⟩:=h;exact⟨b',c',r,e1,e2,g1,e.at g2⟩) (SqL.of hu4) (Fc (show zs.length<=100 by lia) (by decide)) (λj x vs D H' R S hxj hv sm hD hk=> ?_) λq5 H5 ws hq5 sm5 hq5' hlen5 hR=> ?_
   .obtain⟨v,rfl⟩:=aV hv;obtain⟨b',r,hr',rfl,hb'⟩:=hz4.at hxj;obtain⟨l,hl⟩:=hD;simp only[bU,dI,E9];refine⟨_,rfl,_,rfl,b',r,m,rfl,SqL.of (sm.at hb'),pm.nn,by rw[(bN r (E7 hr')).1];lia,λu H4 sm4 hu hu4=> ?_⟩;refine hk _ [some (.ref b')] _ ⟨b',u,r,rfl,rfl,hb',?_⟩ rfl sm4;rw[fX (aA hl hu).symm];exact hu4
   have hw5:bo H5 ws (N.map (cC m)):=by
    refine bo.of (by rw[hlen5,E3];exact zl) λj r' y hr' hy=> ?_;rw[Fm]at hr';cases hN':N[j]? with
    |none=>rw[hN']at hr';cases hr'
    |some r=>
     rw[hN']at hr';cases hr';obtain⟨b',h1,h2⟩:=hz4.2 j r hN';obtain⟨b2,c2,r2,e1,e2,g1,g2⟩:=hR j _ y h1 hy;cases e1;rw[mf h2 g1];exact⟨c2,e2,fv.at g2⟩
   clear hR;have smA:Same H H5:=((sm'.trans sm2).trans sm4).trans sm5;have fB:∀r∈N.map (cC m),eY n (e8 (rk+1)) r:=λr hr'=>by obtain⟨r0,hr0,rfl⟩:=Fn.mp hr';exact sI pm.nn pm.lt (gI _) (bN r0 hr0)
   have fI:0<m->∀r∈N.map (cC m),∀z∈r,0<=z/\z<m:=λhp r hr'=>by obtain⟨r0,hr0,rfl⟩:=Fn.mp hr';exact wL hp
   have fV:=λkk v=>VS kk ((mapped N (c+1) kk).1 v);have fU:=λkk v=>US kk ((mapped N (c+1) kk).2 v);refine⟨_,rfl,_,_,rfl,rfl,?_⟩;rw[show(rk:Int)+1=((rk+1:Nat):Int) by lia];refine⟨_,rfl,rfl,_,rfl,cn (λz=> ?_) λz=> ?_⟩
   .have e:m=0:=V.int.inj (Fi z);have eM:N.map (cC m)=N:=by
     have:cC m=id:=by funext r;unfold cC;rw[E9 e];rfl
     rw[this,Hh]
    refine⟨_,rfl,smA,q5,ws,N.map (cC m),rk+1,pr.getD c 0,_,_,_,hq5',hw5,by rw[E3];exact lN,fB,fI,hne,(hB pr prm).at c,hmp,λh=>absurd e h,?_,fV,fU,rfl⟩;rw[eM];exact G2
   .have e:m≠0:=λe=>z (E6 (by rw[e]));have ed:=hd1 e;subst ed;exact⟨smA,q5,ws,N.map (cC m),rk+1,1,_,_,_,hq5',hw5,by rw[E3];exact lN,fB,fI,by decide,Fb (show(1:Int).natAbs<2^7 by decide) (Fy (by decide) (gI _)),pm.one,λ_=>rfl,gm _ _,fV,fU,rfl⟩
  .refine⟨_,rfl,rfl,_,rfl,dt ?_⟩;have zr:∀r∈L.map aY,m∣r c:=λr hr'=>by obtain⟨l,hl,rfl⟩:=Fn.mp hr';have:aY l c=0:=hall l hl;rw[this];exact Ij m
   refine⟨sm'.trans sm2,q',ys',L,rk,d,_,_,_,sm2.at hq',hy'.same sm2,hL,hB,hin,hd,hdb,hmd,hd1,?_,λkk v=>hVan kk (iV zr v),λkk v=>hSub kk (rV v),rfl⟩;exact λS T kk hS hT=>good S T kk hS λt ht=>Fe _ (hT t ht)
 .rintro σ H' ⟨sm',q',ys',L,rk,d,v5,v6,v7,hq',hy',hL,hB,hin,hd,hdb,hmd,hd1,good,hVan,hSub,rfl⟩;rw[Nat.sub_self]at hVan hSub;exact⟨_,rfl,k rk H' sm' (hVan 1 (qz m _)) (hSub 0 (qA pm.one _ _))⟩
theorem sc_Tabled___init__:aE ["self","n","prime","rows"] ["self","n","prime","rows"] (aq s_Tabled___init__):=⟨rfl,rfl,rfl,by decide+kernel,rfl,by decide+kernel,by decide+kernel⟩
theorem iC(T:Tb K mg)(D:eZ K "__init__" "Tabled.__init__" s_Tabled___init__ ["self","n","prime","rows"] f)(g_House:mg "House"=some (.ref C_House))(cl:Cls K C)(n1:bC K C "many")(n2:bC K C "prime")(n3:bC K C "rows")
  (k_House___init__:yY P w K mg base 1 C_House "__init__" ["self","n"] (iw K)):dU P w K mg base 2 f ["self","n","prime","rows"] (su K C):=by
 refine D.fn sc_Tabled___init__ (λvs H Q E h=>by obtain⟨p,dx,a,n,m,xs,M,rfl,_⟩:=h;rfl) λcdv A outer σs H vs Q E hr h=> ?_;obtain⟨p,dx,a,n,m,xs,M,rfl,hp,ha,hx,hl,k⟩:=h;refine⟨_,(ae (cq (jk k_House___init__ hr (by decide) (jj (v:= .ref C_House) (by rfl) g_House rfl) (aa (pv 0) (aa (pv 1) ab))))
   (ae (eJ (K:=K) (by rfl) (pv 0) (pv 2) (by rfl))
   (af (eJ (K:=K) (by rfl) (pv 0) (dD (dR (K:=K) (by rfl)) (by rfl) T.tuple_ Io (aa (bR (vars:=["row"]) (frn:=[]) (fr:=[]) rfl (by rfl) (by rfl) (by rfl) (by rfl) FA (aF (K:=K) (by rfl) (pv 3)) (λ_ _ _ _=>(aB (i:=0) (show List.Nodup (["row"]:List PySem.Str) by decide+kernel) (by rfl) (E5 rfl))) (λ_ _ _ _=>bz) (λ_ _ _ _=>(dD (dR (K:=K) (by rfl)) (by rfl) T.tuple_ Io (aa (pv 0) ab)))) ab)) (by rfl))))),?_⟩
 refine⟨rfl,_,rfl,_,rfl,p,C,dx,_,rfl,hp,cl,n1,?_⟩;have hp1:upd H p (.ins C dx (bq "many" (.int n) [])) p=some (.ins C dx (bq "many" (.int n) [])):=ah;refine⟨_,rfl,_,rfl,p,C,dx,_,rfl,hp1,cl,n2,Ft (br _ _ _) (by show 0+1<1000;decide),?_⟩;rw[fM];have hp2:upd H p (.ins C dx (bq "prime" (.int m) (bq "many" (.int n) []))) p=some (.ins C dx (bq "prime" (.int m) (bq "many" (.int n) []))):=ah;have oth:∀b o,H b=some o->b≠p->upd H p (.ins C dx (bq "prime" (.int m) (bq "many" (.int n) []))) b=some o:=λb o e hb=>by rw[aC hb];exact e
 have nn:∀b,upd H p (.ins C dx (bq "prime" (.int m) (bq "many" (.int n) []))) b=none->b≠p/\H b=none:=λb hb=>by
  have bp:b≠p:=λe=>by rw[e,ah]at hb;cases hb
  rw[aC bp]at hb;exact⟨bp,hb⟩
 have ha1:=oth _ _ ha (gK ha hp (by intro z;cases z));have hx1:bo (upd H p (.ins C dx (bq "prime" (.int m) (bq "many" (.int n) [])))) xs M:=⟨hx.1,λi r hr'=>by obtain⟨b,h1,h2⟩:=hx.2 i r hr';exact⟨b,h1,oth _ _ h2 (gK h2 hp (by intro z;cases z))⟩⟩
 generalize upd H p (.ins C dx (bq "prime" (.int m) (bq "many" (.int n) [])))=H1 at*;refine⟨_,rfl,a,rfl,⟨_,SqL.of ha1⟩,?_⟩;refine h9 (λx y G=>∃ (b c:Addr) (r:List Int),x= .ref b/\y= .ref c/\H1 b=some (.lst (r.map V.int))/\G c=some (.tup (r.map V.int))) (λx y G G' e h=>by obtain⟨b,c,r,e1,e2,h1,h2⟩:=h;exact⟨b,c,r,e1,e2,h1,e.at h2⟩) (SqL.of ha1) (Fc hl (by decide)) (λi v vs D H' R S hv' hv sm hD hk=> ?_) λD H2 ys hD sm hD2 hlen hR=> ?_
 .obtain⟨v,rfl⟩:=aV hv;obtain⟨b,r,hr',rfl,hb⟩:=hx1.at hv';obtain⟨l,hl'⟩:=hD;simp only[bU,dI,E9];refine⟨_,rfl,b,_,rfl, .inl ⟨SqL.of (sm.at hb),λq hq=> ?_⟩⟩;refine hk _ [some (.ref b)] _ ⟨b,q,r,rfl,rfl,hb,?_⟩ rfl (Same.new hq);rw[fX (aA hl' hq).symm,ah]
 have hy2:ik H2 ys M:=by
  refine⟨by rw[hlen];exact hx1.1,λi r hr'=> ?_⟩;obtain⟨b,h1,h2⟩:=hx1.2 i r hr';have hi:i<ys.length:=by rw[hlen];exact(Fd.mp h1).1
  obtain⟨b',c,r',e1,e2,g1,g2⟩:=hR i _ _ h1 (Fs hi);cases e1;rw[mf h2 g1];exact⟨c,by rw[Fs hi,e2],fv.at g2⟩
 refine⟨D,ys,rfl, .inl ⟨SqL.of hD2,λt ht=> ?_⟩⟩;have hp3:=sm.at hp2;have tp:t≠p:=λe=>by rw[e,hp3]at ht;cases ht
 have t1n:H1 t=none:=by
  cases e:H1 t with
  |none=>rfl
  |some o=>rw[sm.at e]at ht;cases ht
 refine⟨_,rfl,p,C,dx,_,rfl,(by rw[aC tp.symm];exact hp3),cl,n3,?_,?_⟩
 .exact Ft (br _ _ _) (Ft (HH (br _ _ _)) (by show 0+1+1<1000;decide))
 have hpu:upd H2 t (.tup ys) p=some (.ins C dx (bq "prime" (.int m) (bq "many" (.int n) []))):=by rw[aC tp.symm];exact hp3
 refine k t ys _ (nn t t1n).2 (λb o e hb=> ?_) ah ?_ ?_
 .have e1:=sm.at (oth b o e hb);rw[aC hb,aC (aA e1 ht)];exact e1
 .rw[aC tp,ah]
 .refine(hy2.ts (H':=upd H2 t (.tup ys)) (e9.new ht)).ts λb zs e=> ?_;rw[aC (gK e hpu (by intro z;cases z))];exact e
theorem sc_Tabled_rank:aE ["self","s","some"] ["self","s"] (aq s_Tabled_rank):=⟨rfl,rfl,rfl,by decide+kernel,rfl,by decide+kernel,by decide+kernel⟩
theorem lB(T:Tb K mg)(D:eZ K "rank" "Tabled.rank" s_Tabled_rank ["self","s"] f)(cl:Cls K C)(n2:bC K C "prime")(n3:bC K C "rows")(c_things:Cal P w K mg base 2 "things" ["s"] cf)(c_rank_of:Cal P w K mg base 3 "rank_of" ["rows","prime"] (sf K)):dU P w K mg base 4 f ["self","s"] (se C):=by
 refine D.fn sc_Tabled_rank (λvs H Q E h=>by obtain⟨a,n,s,m,M,rfl,_⟩:=h;rfl) λcdv A outer σs H vs Q E hr h=> ?_;obtain⟨a,n,s,m,M,rfl,hT,n8,hM,hrow,pm,hs,k⟩:=h;refine⟨_,(ae (aH (i:=2) sc_Tabled_rank.nd (by rfl) (GD rfl) (ao c_things hr (by decide) (by rfl) (aa (pv 1) ab)))
   (af (aD (ao c_rank_of hr (by decide) (by rfl) (aa (Ds (vars:=["row"]) (frn:=["some"]) (fr:=[2]) rfl (by rfl) (by rfl) (by rfl) (by rfl) ⟨⟨by rfl,E5 (by rfl),E5 (by rfl)⟩,FA⟩ (wU (K:=K) (by rfl) (de (K:=K) (by rfl) (pv 0) (by rfl))) (λ_ _ _ _=>(aB (i:=0) (show List.Nodup (["row","some"]:List PySem.Str) by decide+kernel) (by rfl) (GD rfl))) (λ_ _ _ _=>bz) (λ_ _ _ _=>(bR (vars:=["thing"]) (frn:=["row"]) (fr:=[0]) rfl (by rfl) (by rfl) (by rfl) (by rfl) ⟨⟨by rfl,E5 (by rfl),E5 (by rfl)⟩,FA⟩ (aF (K:=K) (by rfl) (pv 1)) (λ_ _ _ _=>(aB (i:=0) (show List.Nodup (["thing","row"]:List PySem.Str) by decide+kernel) (by rfl) (E5 rfl))) (λ_ _ _ _=>bz) (λ_ _ _ _=>(aK (fW (K:=K) (by rfl)) (pv 1) (pv 0) (λ_ _=>rfl)))))) (aa (de (K:=K) (by rfl) (pv 0) (by rfl)) ab)))))),?_⟩
 obtain⟨dx,t,xs,ha,ht,hx⟩:=id hT;have s256:s<256:=Fb hs (Fy (n:=2) (by lia) n8);refine⟨_,rfl,(s:Int),rfl,by lia,by lia,λq H1 sm1 hq hl1=> ?_⟩;rw[E4]at hl1;have ht1:=sm1.at ht;have ha1:=sm1.at ha;have hx1:=hx.ts (e9.of sm1);have hxl:=hx.1;refine⟨_,rfl,a,C,dx,_,_,rfl,ha1,cl,n3,zq _ _ _,t,rfl,⟨_,SqT.of ht1⟩,?_⟩;refine Cb (λx y G=>∃ (b c:Addr) (r:List Int),x= .ref b/\y= .ref c/\H1 b=some (.tup (r.map V.int))/\r∈M/\G c=some (.lst ((pick s r).map V.int))) (λx y G G' e h=>by obtain⟨b,c,r,e1,e2,h1,h3,h2⟩:=h;exact⟨b,c,r,e1,e2,h1,h3,e.at h2⟩) ht1 (Fc (show xs.length<=100 by lia) (by decide)) (λi v vs D H' R S hv' hv sm hD hk=> ?_) λu H2 ys hu sm2 hu2 hlen hR=> ?_
 .obtain⟨v,rfl⟩:=aV hv;obtain⟨b,r,hr',rfl,hb⟩:=hx1.at hv';obtain⟨l,hl'⟩:=hD;simp only[bU,dI,E9];have hq':=sm.at hl1;have hb':=sm.at hb;refine⟨_,rfl,q,rfl,⟨_,SqL.of hq'⟩,?_⟩;refine bh (λx=>(λ_=>true) (aW x)) (λx=> .int ((λz:Int=>r.getD z.toNat 0) (aW x))) (SqL.of hq') (by rw[E3];exact Fc (bZ s) (by decide)) (λj x ws H3 R' S' hxj hw sm3 hk'=> ?_) λD2 H3 hD2 sm3 hl3=> ?_
  .obtain⟨w',rfl⟩:=aV hw;obtain⟨z,rfl,hz⟩:=aQ hxj;obtain⟨z0,z1⟩:=gH hs (E7 hz);have q':=hk' [some (.int z)] H3 rfl (Same.refl _);rw[E9 rfl]at q';have az:atI (r.map V.int) z=some (.int (r.getD z.toNat 0)):=by
    have:=bc (l:=r) (j:=z.toNat) (by rw[(hrow r (E7 hr')).1];exact z1)
    rwa [Int.toNat_of_nonneg z0]at this
   simp only[bU,dI,E9];exact⟨_,rfl,_,rfl,b,_,_,_,rfl,rfl,SqT.of (sm3.at hb'),az,q'⟩
  .replace hl3:=hl3.trans (Fu (λl=>some (HO.lst l)) (aU (λ_=>true) (λz:Int=>r.getD z.toNat 0) (bits s)));rw[Gf.mpr (λ_ _=>rfl)]at hl3;refine hk _ [some (.ref b)] H3 ⟨b,D2,r,rfl,rfl,hb,E7 hr',?_⟩ rfl sm3;rw[fX (aA hl' hD2).symm];exact hl3
 have hy2:bo H2 ys (M.map (pick s)):=by
  refine bo.of (by rw[hlen,E3];exact hxl) λj r' y hr' hy=> ?_;rw[Fm]at hr';cases hN:M[j]? with
  |none=>rw[hN]at hr';cases hr'
  |some r=>
   rw[hN]at hr';cases hr';obtain⟨b,h1,h2⟩:=hx1.2 j r hN;obtain⟨b2,c2,r2,e1,e2,g1,_,g2⟩:=hR j _ y h1 hy;cases e1;rw[Bs h2 g1];exact⟨c2,e2,fv.at g2⟩
 have bl:=bZ s;refine⟨_,rfl,a,C,dx,_,_,rfl,sm2.at ha1,cl,n2,xv _ _ _,u,ys,M.map (pick s),(bits s).length,m,rfl,hu2,hy2,by rw[E3];exact hM,bl,λr hr'=> ?_,pm,λrk H3 sm3 hv hs'=> ?_⟩
 .obtain⟨r0,hr0,rfl⟩:=Fn.mp hr';refine⟨by unfold pick;rw[E3],λz hz=> ?_⟩;unfold pick at hz;obtain⟨b,_,rfl⟩:=Fn.mp hz;exact(hrow r0 hr0).at b.toNat
 .rw[qO,<-yI]at hv hs';exact k rk H3 ((sm1.trans sm2).trans sm3) ((uJ λr hr' j hj=>wR hr' hj).mp hv) (vy (λr hr' j hj=>wR hr' hj) hs')
theorem sc_Other___init__:aE ["self","house"] ["self","house"] (aq s_Other___init__):=⟨rfl,rfl,rfl,by decide+kernel,rfl,by decide+kernel,by decide+kernel⟩
theorem jr{Z:Hs}(D:eZ K "__init__" "Other.__init__" s_Other___init__ ["self","house"] f)(g_House:mg "House"=some (.ref C_House))(cl:Cls K cO)(n1:bC K cO "many")(n2:bC K cO "house")(n3:bC K cO "full")(n4:bC K cO "full_rank")
  (hc:∀C,Z.dom C->HC K C_House C) (zok:gP Z) (hj:2<=j) (k_House___init__:yY P w K mg base 1 C_House "__init__" ["self","n"] (iw K)) (m_everything:∀C,Z.dom C->dH P w K mg base 2 C "everything" ["self"] (fc K)) (m_rank:∀C,Z.dom C->dH P w K mg base j C "rank" ["self","s"] (gW Z C)):
  dU P w K mg base (j+1) f ["self","house"] (sv Z cO):=by
 refine D.fn sc_Other___init__ (λvs H Q E h=>by obtain⟨p,dx,h,n,r,rfl,_⟩:=h;rfl) λcdv A outer σs H vs Q E hr h=> ?_;obtain⟨p,dx,h,n,r,rfl,hp,hX,n8,k⟩:=h;refine⟨_,(ae (cq (jk k_House___init__ hr (by lia) (jj (v:= .ref C_House) (by rfl) g_House rfl) (aa (pv 0) (aa (de (K:=K) (by rfl) (pv 1) (by rfl)) ab))))
   (ae (eJ (K:=K) (by rfl) (pv 0) (pv 1) (by rfl))
   (ae (eJ (K:=K) (by rfl) (pv 0) (fD m_everything hr (by lia) (pv 1)) (by rfl))
   (af (eJ (K:=K) (by rfl) (pv 0) (fQ m_rank hr (by lia) (pv 1) (aa (de (K:=K) (by rfl) (pv 0) (by rfl)) ab)) (by rfl)))))),?_⟩
 obtain⟨C,dm,hsh⟩:=zok.shown hX;have hhp:h≠p:=zI hsh;obtain⟨dxh,fs,hh0,fr0,fe0,fm0⟩:=hsh.ex;have hh:H h=some (.ins C dxh fs):=(fX (H:=H) hhp).symm.trans hh0;obtain⟨clC,nMC,tyC,isC⟩:=hc C dm;have ppos:0<2^n:=GC (by lia);refine⟨rfl,_,rfl,_,rfl,h,C,dxh,fs,_,rfl,hh,clC,nMC,fm0,p,cO,dx,_,rfl,hp,cl,n1,?_⟩;have up:∀ {o:HO},upd H p o h=some (.ins C dxh fs):=λ{o}=>by rw[aC hhp];exact hh
 have hp1:upd H p (.ins cO dx (bq "many" (.int (n:Int)) [])) p=some (.ins cO dx (bq "many" (.int (n:Int)) [])):=ah;refine⟨_,rfl,_,rfl,p,cO,dx,_,rfl,hp1,cl,n2,Ft (br _ _ _) (by show 0+1<1000;decide),?_⟩;rw[fM];refine⟨_,rfl,h,C,dxh,fs,rfl,up,dm,fe0,h,C,dxh,fs,(n:Int),rfl,up,clC,nMC,fm0,by lia,by lia,_,rfl,p,cO,dx,_,rfl,ah,cl,n3,?_,?_⟩
 .exact Ft (br _ _ _) (Ft (HH (br _ _ _)) (by show 0+1+1<1000;decide))
 rw[fM];have ef:(1*2^((n:Nat):Int).toNat-1:Int)=((2^n-1:Nat):Int):=by rw[cj];lia
 rw[ef];have lk:(bq "full" (V.int ((2^n-1:Nat):Int)) (bq "house" (V.ref h) (bq "many" (V.int (n:Int)) []))).lookup ("full":Str)=some (.int ((2^n-1:Nat):Int)):=aR _ _ _;have smh:∀ {o:HO},Same (hide H p) (upd H p o):=λ{o} b o' e=>by
  unfold hide at e;split at e
  .cases e
  .rename_i hb;rw[aC hb];exact e
 refine⟨_,rfl,h,C,dxh,fs,rfl,up,dm,fr0,_,rfl,p,cO,dx,_,_,rfl,ah,cl,n3,lk,h,n,2^n-1,r,rfl,zok.same smh hX,⟨dxh,fs,up⟩,n8,by lia,λH5 sm5=> ?_⟩;refine⟨_,rfl,p,cO,dx,_,rfl,sm5.at ah,cl,n4,?_,?_⟩
 .exact Ft (br _ _ _) (Ft (HH (br _ _ _)) (Ft (HH (HH (br _ _ _))) (by show 0+1+1+1<1000;decide)))
 refine k _ (λb o e hb=> ?_) ah;rw[aC hb];exact sm5.at (by rw[aC hb];exact e)
theorem sc_Other_rank:aE ["self","s","outside"] ["self","s"] (aq s_Other_rank):=⟨rfl,rfl,rfl,by decide+kernel,rfl,by decide+kernel,by decide+kernel⟩
theorem oC{f C_House cO:Addr}{Z:Hs}{j:Nat}(D:eZ K "rank" "Other.rank" s_Other_rank ["self","s"] f)(cl:Cls K cO)(n2:bC K cO "house")(n3:bC K cO "full")(n4:bC K cO "full_rank")(zok:gP Z)(hne:∀C,Z.dom C->cO≠C)(hj:3<=j)
  (c_less:Cal P w K mg base 1 "less" ["s","t"] d6) (c_size:Cal P w K mg base 3 "size" ["s"] gx) (m_rank:∀C,Z.dom C->dH P w K mg base j C "rank" ["self","s"] (gW Z C)):
  dU P w K mg base (j+1) f ["self","s"] (gW (hsO Z cO) cO):=by
 refine D.fn sc_Other_rank (λvs H Q E h=>by obtain⟨a,n,s,r,rfl,_⟩:=h;rfl) λcdv A outer σs H vs Q E hr h=> ?_;obtain⟨a,n,s,r,rfl,hX,⟨dx0,fs0,ha0⟩,n8,hs,k⟩:=h;refine⟨_,(ae (aH (i:=2) sc_Other_rank.nd (by rfl) (E5 rfl) (ao c_less hr (by lia) (by rfl) (aa (de (K:=K) (by rfl) (pv 0) (by rfl)) (aa (pv 1) ab))))
   (af (aD (aw dr (aw cX (ao c_size hr (by lia) (by rfl) (aa (pv 1) ab)) (fQ m_rank hr (by lia) (de (K:=K) (by rfl) (pv 0) (by rfl)) (aa (pv 2) ab))) (de (K:=K) (by rfl) (pv 0) (by rfl)))))),?_⟩
 rcases hX with hX|⟨dx,h,r',ha,hX',hrr⟩
 .obtain⟨C,dm,hsh⟩:=zok.shown hX;obtain⟨dx',fs',ha',_⟩:=hsh.ex;exact absurd (jz ha0 ha') (hne C dm)
 .have s2:=s_lt n8 hs;refine⟨_,rfl,a,cO,dx,_,_,rfl,ha,cl,n3,Ag _ _ _ _,_,rfl,2^n-1,s,rfl,?_⟩;refine⟨_,rfl,(s:Int),rfl,by lia,by lia,λH1 sm1=> ?_⟩;rw[E4];have hX1:=zok.same sm1 hX';obtain⟨C,dm,hsh⟩:=zok.shown hX1;obtain⟨dxh,fs,hh,fr,fe,fm⟩:=hsh.ex;refine⟨_,rfl,a,cO,dx,_,_,rfl,sm1.at ha,cl,n2,xR _ _ _ _,h,C,dxh,fs,rfl,hh,dm,fr,_,rfl,h,n,aT (2^n-1) s,r',rfl,hX1,⟨dxh,fs,hh⟩,n8,wY,λH2 sm2=> ?_⟩;refine⟨_,_,rfl,rfl,_,rfl,a,cO,dx,_,_,rfl,sm2.at (sm1.at ha),cl,n4,Dx _ _ _ _,_,_,rfl,rfl,?_⟩;have:=k H2 (sm1.trans sm2);rw[hrr s hs]at this;exact this
theorem sc_ranks:aE ["house"] ["house"] (aq s_ranks):=⟨rfl,rfl,rfl,by decide+kernel,rfl,by decide+kernel,by decide+kernel⟩
theorem Al{Z:Hs}(z:gP Z)(D:aS K mg "ranks" s_ranks ["house"])(hc:∀C,Z.dom C->HC K C_House C)(m_rank:∀C,Z.dom C->dH P w K mg base 5 C "rank" ["self","s"] (gW Z C))(m_everything:∀C,Z.dom C->dH P w K mg base 2 C "everything" ["self"] (fc K))
  (c_parts:Cal P w K mg base 3 "parts" ["s"] eI):Cal P w K mg base 6 "ranks" ["house"] (sd Z):=by
 refine D.cal sc_ranks (λvs H Q E h=>by obtain⟨a,n,r,rfl,_⟩:=h;rfl) λf cdv A outer σs H vs Q E hr h=> ?_;obtain⟨a,n,r,rfl,hB,n8,k⟩:=h;refine⟨_,(af (aD (bR (vars:=["s"]) (frn:=["house"]) (fr:=[0]) rfl (by rfl) (by rfl) (by rfl) (by rfl) ⟨⟨by rfl,E5 (by rfl),E5 (by rfl)⟩,FA⟩ (aF (K:=K) (by rfl) (ao c_parts hr (by decide) (by rfl) (aa (fD m_everything hr (by decide) (pv 0)) ab))) (λ_ _ _ _=>(aB (i:=0) (show List.Nodup (["s","house"]:List PySem.Str) by decide+kernel) (by rfl) (E5 rfl))) (λ_ _ _ _=>bz) (λ_ _ _ _=>(fQ m_rank hr (by decide) (pv 1) (aa (pv 0) ab)))))),?_⟩;have p8:=Ej n8;have ppos:0<2^n:=GC (by lia);obtain⟨C,dm,hsh⟩:=z.shown hB;obtain⟨dx,fs,hh,fr,fe,fm⟩:=hsh.ex;obtain⟨cl,nM,ty,isH⟩:=hc C dm;refine⟨_,rfl,a,_,dx,fs,rfl,hh,dm,fe,a,_,dx,fs,(n:Int),rfl,hh,cl,nM,fm,by lia,by lia,?_⟩;rw[bW];refine⟨_,rfl,by lia,by lia,λp H1 sm1 hp1 hl1=>⟨p,rfl,⟨_,SqL.of hl1⟩,?_⟩⟩;rw[E4,df n (by lia)]at hl1;refine bh (λx=>(λ_=>true) (aW x)) (λx=> .int ((λz:Int=>((r z.toNat:Nat):Int)) (aW x))) (SqL.of hl1) (by rw[E3,E3,FD];exact Fc p8 (by decide)) (λi x vs H' R S hx hv sm hk=> ?_) λD H' hD sm hl=> ?_
 .obtain⟨v,rfl⟩:=aV hv;obtain⟨z,rfl,hz⟩:=aQ hx;obtain⟨s,hs,rfl⟩:=Fn.mp (E7 hz);have hs':=Fl.mp hs;simp only[bU,dI,E9];have hB':=z.same sm (z.same sm1 hB);refine⟨_,rfl,a,_,dx,fs,rfl,sm.at (sm1.at hh),dm,fr,_,rfl,a,n,s,r,rfl,hB',⟨dx,fs,sm.at (sm1.at hh)⟩,n8,hs',λH2 sm2=> ?_⟩;have q:=hk [some (.int (s:Int))] H2 rfl sm2;rw[E9 rfl]at q;exact q
 replace hl:=hl.trans (Fu (λl=>some (HO.lst l)) (aU (λ_=>true) (λz:Int=>((r z.toNat:Nat):Int)) ((List.range (2^n)).map λk:Nat=>(k:Int))));have e:List.map (λz:Int=>((r z.toNat:Nat):Int)) (List.map (λk:Nat=>(k:Int)) (List.range (2^n)))=zi n r:=by unfold zi;rw[F5];rfl
 rw[Gf.mpr (λ_ _=>rfl),e]at hl;exact k D H' (sm1.trans sm) (sm1.free hD) hl
theorem sc_whole_rank:aE ["house"] ["house"] (aq s_whole_rank):=⟨rfl,rfl,rfl,by decide+kernel,rfl,by decide+kernel,by decide+kernel⟩
theorem oq{Z:Hs}(zk:gP Z)(hck:∀C,Z.dom C->HC K C_House C)(D:aS K mg "whole_rank" s_whole_rank ["house"])(m_rank:∀C,Z.dom C->dH P w K mg base 5 C "rank" ["self","s"] (gW Z C))(m_everything:∀C,Z.dom C->dH P w K mg base 2 C "everything" ["self"] (fc K)):
  Cal P w K mg base 6 "whole_rank" ["house"] (rZ Z):=by
 refine D.cal sc_whole_rank (λvs H Q E h=>by obtain⟨a,n,ms,rfl,_⟩:=h;rfl) λf cdv A outer σs H vs Q E hr h=> ?_;obtain⟨a,n,ms,rfl,L,k⟩:=h;refine⟨_,(af (aD (fQ m_rank hr (by decide) (pv 0) (aa (fD m_everything hr (by decide) (pv 0)) ab)))),?_⟩;obtain⟨C,dm,dx,fs,ha,fr,fe,fm,cl,nM⟩:=L.sees zk hck;refine⟨_,rfl,a,C,dx,fs,rfl,ha,dm,fr,_,rfl,a,C,dx,fs,rfl,ha,dm,fe,a,C,dx,fs,n,rfl,ha,cl,nM,fm,by lia,by have:=L.n8;lia,?_⟩;rw[bW];have hp:=dy L.n8;have ppos:0<2^n:=GC (by lia);refine⟨a,n,2^n-1,au ms,rfl,L.ho,⟨dx,fs,ha⟩,L.n8,by lia,λH' sm=> ?_⟩;exact k H' sm
theorem sc_frees:aE ["house"] ["house"] (aq s_frees):=⟨rfl,rfl,rfl,by decide+kernel,rfl,by decide+kernel,by decide+kernel⟩
theorem Ao{Z:Hs}(zk:gP Z)(hck:∀C,Z.dom C->HC K C_House C)(D:aS K mg "frees" s_frees ["house"])(m_rank:∀C,Z.dom C->dH P w K mg base 5 C "rank" ["self","s"] (gW Z C))(m_everything:∀C,Z.dom C->dH P w K mg base 2 C "everything" ["self"] (fc K))
  (c_parts:Cal P w K mg base 3 "parts" ["s"] eI) (c_size:Cal P w K mg base 3 "size" ["s"] gx):Cal P w K mg base 6 "frees" ["house"] (mQ Z):=by
 refine D.cal sc_frees (λvs H Q E h=>by obtain⟨a,n,ms,rfl,_⟩:=h;rfl) λf cdv A outer σs H vs Q E hr h=> ?_;obtain⟨a,n,ms,rfl,L,k⟩:=h;refine⟨_,(af (aD (bR (vars:=["s"]) (frn:=["house"]) (fr:=[0]) rfl (by rfl) (by rfl) (by rfl) (by rfl) ⟨⟨by rfl,E5 (by rfl),E5 (by rfl)⟩,FA⟩ (aF (K:=K) (by rfl) (ao c_parts hr (by decide) (by rfl) (aa (fD m_everything hr (by decide) (pv 0)) ab))) (λ_ _ _ _=>(aB (i:=0) (show List.Nodup (["s","house"]:List PySem.Str) by decide+kernel) (by rfl) (E5 rfl))) (λ_ _ _ _=>(bX (aI bS (fQ m_rank hr (by decide) (pv 1) (aa (pv 0) ab)) (ao c_size hr (by decide) (by rfl) (aa (pv 0) ab)) (nomark _)))) (λ_ _ _ _=>(pv 0))))),?_⟩;obtain⟨C,dm,dx,fs,ha,fr,fe,fm,cl,nM⟩:=L.sees zk hck;have hp:=dy L.n8;refine⟨_,rfl,a,C,dx,fs,rfl,ha,dm,fe,a,C,dx,fs,n,rfl,ha,cl,nM,fm,by lia,by have:=L.n8;lia,?_⟩;rw[bW];refine⟨_,rfl,by lia,by lia,λp H1 sm1 hp1 hl1=>⟨p,rfl,⟨_,SqL.of hl1⟩,?_⟩⟩;rw[E4,df n (by have:=L.n8;lia)]at hl1;refine bh (λx=>(λz:Int=>eV ms z.toNat) (aW x)) (λx=> .int ((λz:Int=>z) (aW x))) (SqL.of hl1) (by rw[E3,E3,FD];exact Fc hp (by decide)) (λi x vs H' R S hx hv sm hk=> ?_) λD H' hD sm hl=> ?_
 .obtain⟨v,rfl⟩:=aV hv;obtain⟨z,rfl,hz⟩:=aQ hx;obtain⟨s,hs,rfl⟩:=Fn.mp (E7 hz);have hs':=Fl.mp hs;have L2:=(L.same zk sm1).same zk sm;obtain⟨C2,dm2,dx2,fs2,ha2,fr2,fe2,fm2,cl2,nM2⟩:=L2.sees zk hck;refine⟨_,rfl,a,C2,dx2,fs2,rfl,ha2,dm2,fr2,_,rfl,a,n,s,au ms,rfl,L2.ho,⟨dx2,fs2,ha2⟩,L.n8,hs',λH2 sm2=> ?_⟩;refine⟨_,rfl,_,rfl,by lia,by lia,λH3 sm3=>⟨rfl,_,rfl,?_⟩⟩;have q:=hk [some (.int (s:Int))] H3 rfl (sm2.trans sm3);rw[E4,cI];have q':if eV ms s=true then R (.int (s:Int)) _ H3 else S _ H3:=q;unfold eV at q';show if decide (au ms s=sz s)=true then _ else _;by_cases hc:decide (au ms s=sz s)=true
  .rw[E9 hc]at q'⊢;exact⟨_,rfl,q'⟩
  .rw[Fg hc]at q'⊢;exact q'
 replace hl:=hl.trans (Fu (λl=>some (HO.lst l)) (aU (λz:Int=>eV ms z.toNat) (λz:Int=>z) ((List.range (2^n)).map λk:Nat=>(k:Int))));rw[show(λz:Int=>z)=id from rfl,Hh]at hl;refine k D H' (sm1.trans sm) (sm1.free hD) (hl.trans ?_);have e:=bY (List.range (2^n)) (λz:Int=>eV ms z.toNat);exact Fu (λl:List Int=>some (HO.lst (l.map V.int))) e
theorem sc_bases:aE ["house","whole"] ["house"] (aq s_bases):=⟨rfl,rfl,rfl,by decide+kernel,rfl,by decide+kernel,by decide+kernel⟩
theorem Aq(zk:gP Z)(D:aS K mg "bases" s_bases ["house"])(c_whole_rank:Cal P w K mg base 6 "whole_rank" ["house"] (rZ Z))(c_frees:Cal P w K mg base 6 "frees" ["house"] (mQ Z))(c_size:Cal P w K mg base 3 "size" ["s"] gx):Cal P w K mg base 7 "bases" ["house"] (sA Z):=by
 refine D.cal sc_bases (λvs H Q E h=>by obtain⟨a,n,ms,rfl,_⟩:=h;rfl) λf cdv A outer σs H vs Q E hr h=> ?_;obtain⟨a,n,ms,rfl,L,k⟩:=h;refine⟨_,(ae (aH (i:=1) sc_bases.nd (by rfl) (GD rfl) (ao c_whole_rank hr (by decide) (by rfl) (aa (pv 0) ab)))
   (af (aD (bR (vars:=["s"]) (frn:=["whole"]) (fr:=[1]) rfl (by rfl) (by rfl) (by rfl) (by rfl) ⟨⟨by rfl,E5 (by rfl),E5 (by rfl)⟩,FA⟩ (aF (K:=K) (by rfl) (ao c_frees hr (by decide) (by rfl) (aa (pv 0) ab))) (λ_ _ _ _=>(aB (i:=0) (show List.Nodup (["s","whole"]:List PySem.Str) by decide+kernel) (by rfl) (E5 rfl))) (λ_ _ _ _=>(bX (aI bS (ao c_size hr (by decide) (by rfl) (aa (pv 0) ab)) (pv 1) (nomark _)))) (λ_ _ _ _=>(pv 0)))))),?_⟩
 have hp:=dy L.n8;refine⟨_,rfl,a,n,ms,rfl,L,λH0 sm0=> ?_⟩;refine⟨_,rfl,a,n,ms,rfl,L.same zk sm0,λp H1 sm1 hp1 hl1=>⟨p,rfl,⟨_,SqL.of hl1⟩,?_⟩⟩;refine bh (λx=>(λz:Int=>decide (sz z.toNat=au ms (2^n-1))) (aW x)) (λx=> .int ((λz:Int=>z) (aW x))) (SqL.of hl1) ?_ (λi x vs H' R S hx hv sm hk=> ?_) λD H' hD sm hl=> ?_
 .rw[E3];unfold aG;rw[E3];exact Fc (Ga _ _) (by rw[FD];exact Fc hp (by decide))
 .obtain⟨v,rfl⟩:=aV hv;obtain⟨z,rfl,hz⟩:=aQ hx;obtain⟨s,hs,rfl⟩:=cp (E7 hz);have hs':=Fl.mp (FH.mp hs).1;refine⟨_,rfl,_,rfl,by lia,by lia,λH3 sm3=>⟨_,rfl,rfl,_,rfl,?_⟩⟩;have q:=hk [some (.int (s:Int))] H3 rfl sm3;rw[E4,cI];have q':if decide (sz s=au ms (2^n-1))=true then R (.int (s:Int)) _ H3 else S _ H3:=q;show if decide (sz s=au ms (2^n-1))=true then _ else _;by_cases hc:decide (sz s=au ms (2^n-1))=true
  .rw[E9 hc]at q'⊢;exact⟨_,rfl,q'⟩
  .rw[Fg hc]at q'⊢;exact q'
 replace hl:=hl.trans (Fu (λl=>some (HO.lst l)) (aU (λz:Int=>decide (sz z.toNat=au ms (2^n-1))) (λz:Int=>z) (aG ((List.range (2^n)).filter (eV ms)))));rw[show(λz:Int=>z)=id from rfl,Hh,bY,JO]at hl;refine k D H' (sm0.trans (sm1.trans sm)) (sm0.free (sm1.free hD)) (hl.trans ?_);refine Fu (λl:List Nat=>some (HO.lst ((aG l).map V.int))) (Hy λs _=> ?_);unfold kW eV;rw[E4,Bool.and_comm]
theorem sc_is_ring:aE ["free","s"] ["free","s"] (aq s_is_ring):=⟨rfl,rfl,rfl,by decide+kernel,rfl,by decide+kernel,by decide+kernel⟩
theorem vo(T:Tb K mg)(D:aS K mg "is_ring" s_is_ring ["free","s"])(c_things:Cal P w K mg base 2 "things" ["s"] cf)(c_less:Cal P w K mg base 1 "less" ["s","t"] d6):Cal P w K mg base 3 "is_ring" ["free","s"] (so K):=by
 refine D.cal sc_is_ring (λvs H Q E h=>by obtain⟨a,ms,n,s,rfl,_⟩:=h;rfl) λf cdv A outer σs H vs Q E hr h=> ?_;obtain⟨a,ms,n,s,rfl,ha,hn,hs,k⟩:=h;refine⟨_,(ae (a8 (bT (aK (av (K:=K) (by rfl)) (pv 0) (pv 1) (λ_ _=>rfl)))
     (af (aD dz))
     aN)
   (af (aD (aO (nI (K:=K) (by rfl) (by rfl)) (by rfl) T.all_ PyProof.Rows.boot_all (aa (bR (vars:=["thing"]) (frn:=["free","s"]) (fr:=[0,1]) rfl (by rfl) (by rfl) (by rfl) (by rfl) ⟨⟨by rfl,E5 (by rfl),E5 (by rfl)⟩,⟨⟨by rfl,E5 (by rfl),E5 (by rfl)⟩,FA⟩⟩ (aF (K:=K) (by rfl) (ao c_things hr (by decide) (by rfl) (aa (pv 1) ab))) (λ_ _ _ _=>(aB (i:=0) (show List.Nodup (["thing","free","s"]:List PySem.Str) by decide+kernel) (by rfl) (E5 rfl))) (λ_ _ _ _=>bz) (λ_ _ _ _=>(aK (av (K:=K) (by rfl)) (pv 1) (ao c_less hr (by decide) (by rfl) (aa (pv 2) (aa (aw bJ ag (pv 0)) ab))) (λ_ _=>rfl)))) ab))))),?_⟩
 have p8:=dy hn;have at0:=uh (g:=eW ms) hs;refine⟨_,rfl,_,rfl,a,_,_,_,rfl,rfl,ha,at0,_,rfl,cn (λhc=> ?_) λhc=> ?_⟩
 .have:=k H (Same.refl _);unfold cJ at this;rw[hc]at this;exact this
 refine⟨_,rfl,_,rfl,by lia,by lia,λp H1 sm1 hp1 hl1=>⟨p,rfl,⟨_,SqL.of hl1⟩,?_⟩⟩;rw[E4]at hl1;refine bh (λx=>(λ_=>true) (aW x)) (λx=>V.bl ((λz:Int=>eW ms (aT s (2^z.toNat))) (aW x))) (SqL.of hl1) (by rw[E3];exact Fc (bZ _) (by decide)) (λi x vs H' R S hx hv sm hk=> ?_) λD H' hD sm hl=> ?_
 .obtain⟨v,rfl⟩:=aV hv;obtain⟨z,rfl,hz⟩:=aQ hx;obtain⟨j,hj8,hjb,rfl⟩:=bg.mp (E7 hz);have q:=hk [some (.int (j:Int))] H' rfl (Same.refl _);rw[E9 rfl]at q;simp only[bU,dI,E9];have l1:=cR s (2^j);have at1:=uh (g:=eW ms) (N:=2^n) (s:=aT s (2^j)) (by lia);refine⟨_,rfl,_,rfl,_,rfl,_,_,rfl,rfl,⟨by lia,by lia,by decide⟩,s,2^j,?_,a,_,_,_,rfl,rfl,(sm1.trans sm).seq ha,at1,?_⟩
  ·(try dsimp only);rw[dM];rfl
  .exact q
 replace hl:=hl.trans (Fu (λl=>some (HO.lst l)) (kK (λz:Int=>eW ms (aT s (2^z.toNat))) (bits s)));refine⟨D,_,rfl,SqL.of hl,?_⟩;have e:(((bits s).map λz:Int=>eW ms (aT s (2^z.toNat))).all id)=cJ ms s:=by unfold cJ;rw[F4.mpr hc,List.all_map];rfl
 rw[e];exact k H' (sm1.trans sm)
theorem sc_rings:aE ["house","free"] ["house"] (aq s_rings):=⟨rfl,rfl,rfl,by decide+kernel,rfl,by decide+kernel,by decide+kernel⟩
theorem Aj{Z:Hs}(zk:gP Z)(hck:∀C,Z.dom C->HC K C_House C)(T:Tb K mg)(D:aS K mg "rings" s_rings ["house"])(m_everything:∀C,Z.dom C->dH P w K mg base 2 C "everything" ["self"] (fc K))(c_ranks:Cal P w K mg base 6 "ranks" ["house"] (i8 Z))(c_parts:Cal P w K mg base 3 "parts" ["s"] eI)
  (c_size:Cal P w K mg base 3 "size" ["s"] gx) (c_is_ring:Cal P w K mg base 3 "is_ring" ["free","s"] (so K)):Cal P w K mg base 7 "rings" ["house"] (r8 Z):=by
 refine D.cal sc_rings (λvs H Q E h=>by obtain⟨a,n,ms,rfl,_⟩:=h;rfl) λf cdv A outer σs H vs Q E hr h=> ?_;obtain⟨a,n,ms,rfl,L,k⟩:=h;refine⟨_,(ae (aH (i:=1) sc_rings.nd (by rfl) (GD rfl) (bR (vars:=["s","rank"]) (frn:=[]) (fr:=[]) rfl (by rfl) (by rfl) (by rfl) (by rfl) FA (sP (K:=K) (by rfl) (by rfl) T.enumerate_ (aa (ao c_ranks hr (by decide) (by rfl) (aa (pv 0) ab)) ab)) (λ_ _ _ _=>(lZ (K:=K) (n:=2) (by rfl) (by rfl) (eR (aB (i:=0) (show List.Nodup (["s","rank"]:List PySem.Str) by decide+kernel) (by rfl) (E5 rfl)) (eR (aB (i:=1) (show List.Nodup (["s","rank"]:List PySem.Str) by decide+kernel) (by rfl) (E5 rfl)) lY)))) (λ_ _ _ _=>bz) (λ_ _ _ _=>(fg bS (pv 1) (ao c_size hr (by decide) (by rfl) (aa (pv 0) ab)) (nomark _)))))
   (af (aD (bR (vars:=["s"]) (frn:=["free"]) (fr:=[1]) rfl (by rfl) (by rfl) (by rfl) (by rfl) ⟨⟨by rfl,E5 (by rfl),E5 (by rfl)⟩,FA⟩ (aF (K:=K) (by rfl) (ao c_parts hr (by decide) (by rfl) (aa (fD m_everything hr (by decide) (pv 0)) ab))) (λ_ _ _ _=>(aB (i:=0) (show List.Nodup (["s","free"]:List PySem.Str) by decide+kernel) (by rfl) (E5 rfl))) (λ_ _ _ _=>(bX (bT (ao c_is_ring hr (by decide) (by rfl) (aa (pv 1) (aa (pv 0) ab)))))) (λ_ _ _ _=>(pv 0)))))),?_⟩
 have p8:=dy L.n8;refine⟨_,rfl,a,n,ms,rfl,L,λp H1 sm1 hp1 hl1=>⟨p,rfl,⟨_,hl1⟩,?_⟩⟩;refine AL (λ_ _=>true) (λi x=>V.bl (decide (aW x=((sz i:Nat):Int)))) (SqL.of hl1) (by rw[E3,E3,FD];exact Fc p8 (by decide)) (λi x t vs H' R S hx hv sm ht hk=> ?_) λpf H2 hpf sm2 hl2=> ?_
 .obtain⟨u,v,rfl⟩:=zd hv;obtain⟨z,rfl,hz⟩:=aQ hx;have hil:i<2^n:=by have:=(Fd.mp hz).1;rw[E3,FD]at this;exact this
  simp only[dI,E9];refine⟨t,_,rfl,SqT.of ht,rfl,_,_,rfl,_,_,rfl,rfl,?_⟩;refine⟨_,rfl,_,rfl,_,rfl,by lia,by lia,λH3 sm3=>⟨rfl,?_⟩⟩;have q:=hk [some (.int (i:Nat)),some (.int z)] H3 rfl sm3;rw[E9 rfl]at q;rw[E4];have e:decide (V.int z=V.int (((bits i).length:Nat):Int))=decide (aW (V.int z)=((sz i:Nat):Int)):=by
   by_cases hc:z=((sz i:Nat):Int)
   .have h1:V.int z=V.int (((bits i).length:Nat):Int):=by rw[hc]
    have h2:aW (V.int z)=((sz i:Nat):Int):=hc;rw[E6 h1,E6 h2]
   .have h2:¬aW (V.int z)=((sz i:Nat):Int):=hc;rw[E8 h2,E8 λw=>hc (V.int.inj w)]
  rw[e];exact q
 have eF:dA (λ_ _=>true) (λi x=>V.bl (decide (aW x=((sz i:Nat):Int)))) 0 (((List.range (2^n)).map λs=>((au ms s:Nat):Int)).map V.int)=((List.range (2^n)).map (eW ms)).map V.bl:=by
  rw[F5,Hw,kL,F5];refine GJ λs _=> ?_;show V.bl (decide (((au ms s:Nat):Int)=((sz s:Nat):Int)))=V.bl (eW ms s);unfold eW;by_cases h:au ms s=sz s
  .rw[E6 h,E6 (by rw[h])]
  .rw[E8 h,E8 (by lia)]
 rw[eF]at hl2;have L2':=(L.same zk sm1).same zk sm2;obtain⟨C,dm,dx,fs,ha,fr,fe,fm,cl,nM⟩:=L2'.sees zk hck;refine⟨_,rfl,a,C,dx,fs,rfl,ha,dm,fe,a,C,dx,fs,n,rfl,ha,cl,nM,fm,by lia,by have:=L.n8;lia,?_⟩;rw[bW];refine⟨_,rfl,by lia,by lia,λp3 H3 sm3 hp3 hl3=>⟨p3,rfl,⟨_,SqL.of hl3⟩,?_⟩⟩;rw[E4,df n (by have:=L.n8;lia)]at hl3;refine bh (λx=>(λz:Int=>cJ ms z.toNat) (aW x)) (λx=> .int ((λz:Int=>z) (aW x))) (SqL.of hl3) (by rw[E3,E3,FD];exact Fc p8 (by decide)) (λi x vs H' R S hx hv sm hk=> ?_) λD H' hD sm hl=> ?_
 .obtain⟨v,rfl⟩:=aV hv;obtain⟨z,rfl,hz⟩:=aQ hx;obtain⟨s,hs,rfl⟩:=Fn.mp (E7 hz);have hs':=Fl.mp hs;refine⟨_,rfl,_,rfl,pf,ms,n,s,rfl,SqL.of (sm.at (sm3.at hl2)),L.n8,hs',λH5 sm5=>⟨_,rfl,?_⟩⟩;have q:=hk [some (.int (s:Int))] H5 rfl sm5;have q':if cJ ms s=true then R (.int (s:Int)) _ H5 else S _ H5:=q;show if cJ ms s=true then _ else _;by_cases hc:cJ ms s=true
  .rw[E9 hc]at q'⊢;exact⟨_,rfl,q'⟩
  .rw[Fg hc]at q'⊢;exact q'
 replace hl:=hl.trans (Fu (λl=>some (HO.lst l)) (aU (λz:Int=>cJ ms z.toNat) (λz:Int=>z) ((List.range (2^n)).map λk:Nat=>(k:Int))));rw[show(λz:Int=>z)=id from rfl,Hh]at hl;refine k D H' (sm1.trans (sm2.trans (sm3.trans sm))) (sm1.free (sm2.free (sm3.free hD))) (hl.trans ?_);have e:=bY (List.range (2^n)) (λz:Int=>cJ ms z.toNat);exact Fu (λl:List Int=>some (HO.lst (l.map V.int))) e
theorem sc_is_flat:aE ["told","outside","s"] ["told","outside","s"] (aq s_is_flat):=⟨rfl,rfl,rfl,by decide+kernel,rfl,by decide+kernel,by decide+kernel⟩
theorem vq(T:Tb K mg)(D:aS K mg "is_flat" s_is_flat ["told","outside","s"])(c_things:Cal P w K mg base 2 "things" ["s"] cf):Cal P w K mg base 3 "is_flat" ["told","outside","s"] (sr K):=by
 refine D.cal sc_is_flat (λvs H Q E h=>by obtain⟨a,ms,n,s,rfl,_⟩:=h;rfl) λf cdv A outer σs H vs Q E hr h=> ?_;obtain⟨a,ms,n,s,rfl,ha,hn,hs,k⟩:=h;refine⟨_,(af (aD (aO (nI (K:=K) (by rfl) (by rfl)) (by rfl) T.all_ PyProof.Rows.boot_all (aa (bR (vars:=["thing"]) (frn:=["told","s"]) (fr:=[0,2]) rfl (by rfl) (by rfl) (by rfl) (by rfl) ⟨⟨by rfl,E5 (by rfl),E5 (by rfl)⟩,⟨⟨by rfl,E5 (by rfl),E5 (by rfl)⟩,FA⟩⟩ (aF (K:=K) (by rfl) (ao c_things hr (by decide) (by rfl) (aa (pv 1) ab))) (λ_ _ _ _=>(aB (i:=0) (show List.Nodup (["thing","told","s"]:List PySem.Str) by decide+kernel) (by rfl) (E5 rfl))) (λ_ _ _ _=>bz) (λ_ _ _ _=>(fg bS (aK (av (K:=K) (by rfl)) (pv 1) (aw hG (pv 2) (aw bJ ag (pv 0))) (λ_ _=>rfl)) (aw cX (aK (av (K:=K) (by rfl)) (pv 1) (pv 2) (λ_ _=>rfl)) ag) (nomark _)))) ab)))),?_⟩;have p8:=dy hn;have ppos:0<2^n:=GC (by lia);have l1:=cR (2^n-1) s;refine⟨_,rfl,_,rfl,by lia,by lia,λp H1 sm1 hp1 hl1=>⟨p,rfl,⟨_,SqL.of hl1⟩,?_⟩⟩;rw[E4]at hl1;refine bh (λx=>(λ_=>true) (aW x)) (λx=>V.bl ((λz:Int=>decide (au ms (s|||2^z.toNat)=au ms s+1)) (aW x))) (SqL.of hl1) (by rw[E3];exact Fc (bZ _) (by decide)) (λi x vs H' R S hx hv sm hk=> ?_) λD H' hD sm hl=> ?_
 .obtain⟨v,rfl⟩:=aV hv;obtain⟨z,rfl,hz⟩:=aQ hx;obtain⟨j,hj8,hjb,rfl⟩:=bg.mp (E7 hz);rw[fh,Fp,F7]at hjb;have q:=hk [some (.int (j:Int))] H' rfl (Same.refl _);rw[E9 rfl]at q;simp only[bU,dI,E9];have lo:s|||2^j<2^n:=GF hs (Hm (by lia) hjb.1);have ha':=(sm1.trans sm).seq ha;have eo:Builtin.bitOr (s:Int) (1*2^((j:Nat):Int).toNat)=((s|||2^j:Nat):Int):=by rw[dM,cc]
  have at1:atI ((cz ms n).map V.int) (Builtin.bitOr (s:Int) (1*2^((j:Nat):Int).toNat))=some (.int ((au ms (s|||2^j):Nat):Int)):=by rw[eo];exact d7 lo
  refine⟨_,rfl,_,rfl,_,rfl,_,_,rfl,rfl,⟨by lia,by lia,by decide⟩,_,_,rfl,rfl,a,_,_,_,rfl,rfl,ha',at1,_,rfl,_,rfl,a,_,_,_,rfl,rfl,ha',d7 hs,_,_,rfl,rfl,rfl,?_⟩;have e:decide (V.int ((au ms (s|||2^j):Nat):Int)=V.int (((au ms s:Nat):Int)+1))=decide (au ms (s|||2^((j:Nat):Int).toNat)=au ms s+1):=by rw[E4];exact cI _ (au ms s+1)
  show R (.bl (decide (V.int ((au ms (s|||2^j):Nat):Int)=V.int (((au ms s:Nat):Int)+1)))) _ H';rw[e];exact q
 replace hl:=hl.trans (Fu (λl=>some (HO.lst l)) (kK (λz:Int=>decide (au ms (s|||2^z.toNat)=au ms s+1)) (bits (aT (2^n-1) s))));refine⟨D,_,rfl,SqL.of hl,?_⟩;have e:(((bits (aT (2^n-1) s)).map λz:Int=>decide (au ms (s|||2^z.toNat)=au ms s+1)).all id)=fY ms n s:=by unfold fY outs;rw[List.all_map];rfl
 rw[e];exact k H' (sm1.trans sm)
theorem sc_flats:aE ["house","everything","told"] ["house"] (aq s_flats):=⟨rfl,rfl,rfl,by decide+kernel,rfl,by decide+kernel,by decide+kernel⟩
theorem Ap{Z:Hs}(zk:gP Z)(hck:∀C,Z.dom C->HC K C_House C)(T:Tb K mg)(D:aS K mg "flats" s_flats ["house"])(m_everything:∀C,Z.dom C->dH P w K mg base 2 C "everything" ["self"] (fc K))(c_ranks:Cal P w K mg base 6 "ranks" ["house"] (i8 Z))(c_parts:Cal P w K mg base 3 "parts" ["s"] eI)
  (c_less:Cal P w K mg base 1 "less" ["s","t"] d6) (c_is_flat:Cal P w K mg base 3 "is_flat" ["told","outside","s"] (sr K)):Cal P w K mg base 7 "flats" ["house"] (sy Z):=by
 refine D.cal sc_flats (λvs H Q E h=>by obtain⟨a,n,ms,rfl,_⟩:=h;rfl) λf cdv A outer σs H vs Q E hr h=> ?_;obtain⟨a,n,ms,rfl,L,k⟩:=h;refine⟨_,(ae (aH (i:=1) sc_flats.nd (by rfl) (GD rfl) (fD m_everything hr (by decide) (pv 0)))
   (ae (aH (i:=2) sc_flats.nd (by rfl) (GD rfl) (ao c_ranks hr (by decide) (by rfl) (aa (pv 0) ab)))
   (af (aD (bR (vars:=["s"]) (frn:=["told","everything"]) (fr:=[2,1]) rfl (by rfl) (by rfl) (by rfl) (by rfl) ⟨⟨by rfl,E5 (by rfl),E5 (by rfl)⟩,⟨⟨by rfl,E5 (by rfl),E5 (by rfl)⟩,FA⟩⟩ (aF (K:=K) (by rfl) (ao c_parts hr (by decide) (by rfl) (aa (pv 1) ab))) (λ_ _ _ _=>(aB (i:=0) (show List.Nodup (["s","told","everything"]:List PySem.Str) by decide+kernel) (by rfl) (E5 rfl))) (λ_ _ _ _=>(bX (bT (ao c_is_flat hr (by decide) (by rfl) (aa (pv 1) (aa (ao c_less hr (by decide) (by rfl) (aa (pv 2) (aa (pv 0) ab))) (aa (pv 0) ab))))))) (λ_ _ _ _=>(pv 0))))))),?_⟩
 have p8:=dy L.n8;have ppos:0<2^n:=GC (by lia);obtain⟨C,dm,dx,fs,ha,fr,fe,fm,cl,nM⟩:=L.sees zk hck;refine⟨_,rfl,a,C,dx,fs,rfl,ha,dm,fe,a,C,dx,fs,n,rfl,ha,cl,nM,fm,by lia,by have:=L.n8;lia,?_⟩;rw[bW];refine⟨_,rfl,a,n,ms,rfl,L,λp H1 sm1 hp1 hl1=> ?_⟩;refine⟨_,rfl,_,rfl,by lia,by lia,λp3 H3 sm3 hp3 hl3=>⟨p3,rfl,⟨_,SqL.of hl3⟩,?_⟩⟩;rw[E4,df n (by have:=L.n8;lia)]at hl3;refine bh (λx=>(λz:Int=>fY ms n z.toNat) (aW x)) (λx=> .int ((λz:Int=>z) (aW x))) (SqL.of hl3) (by rw[E3,E3,FD];exact Fc p8 (by decide)) (λi x vs H' R S hx hv sm hk=> ?_) λD H' hD sm hl=> ?_
 .obtain⟨v,rfl⟩:=aV hv;obtain⟨z,rfl,hz⟩:=aQ hx;obtain⟨s,hs,rfl⟩:=Fn.mp (E7 hz);have hs':=Fl.mp hs;refine⟨_,rfl,_,rfl,_,rfl,2^n-1,s,rfl,_,rfl,p,ms,n,s,rfl,SqL.of (sm.at (sm3.at hl1)),L.n8,hs',λH5 sm5=>⟨_,rfl,?_⟩⟩;have q:=hk [some (.int (s:Int))] H5 rfl sm5;have q':if fY ms n s=true then R (.int (s:Int)) _ H5 else S _ H5:=q;show if fY ms n s=true then _ else _;by_cases hc:fY ms n s=true
  .rw[E9 hc]at q'⊢;exact⟨_,rfl,q'⟩
  .rw[Fg hc]at q'⊢;exact q'
 replace hl:=hl.trans (Fu (λl=>some (HO.lst l)) (aU (λz:Int=>fY ms n z.toNat) (λz:Int=>z) ((List.range (2^n)).map λk:Nat=>(k:Int))));rw[show(λz:Int=>z)=id from rfl,Hh]at hl;refine k D H' (sm1.trans (sm3.trans sm)) (sm1.free (sm3.free hD)) (hl.trans ?_);have e:=bY (List.range (2^n)) (λz:Int=>fY ms n z.toNat);exact Fu (λl:List Int=>some (HO.lst (l.map V.int))) e
theorem sc_closed:aE ["house","s","rank","found","thing"] ["house","s"] (aq s_closed):=⟨rfl,rfl,rfl,by decide+kernel,rfl,by decide+kernel,by decide+kernel⟩
theorem xY{Z:Hs}(zk:gP Z)(hck:∀C,Z.dom C->HC K C_House C)(T:Tb K mg)(D:aS K mg "closed" s_closed ["house","s"])(m_rank:∀C,Z.dom C->dH P w K mg base 5 C "rank" ["self","s"] (gW Z C))(m_everything:∀C,Z.dom C->dH P w K mg base 2 C "everything" ["self"] (fc K))
  (c_things:Cal P w K mg base 2 "things" ["s"] cf) (c_less:Cal P w K mg base 1 "less" ["s","t"] d6):Cal P w K mg base 6 "closed" ["house","s"] (oW Z):=by
 refine D.cal sc_closed (λvs H Q E h=>by obtain⟨a,n,s,ms,rfl,_⟩:=h;rfl) λf cdv A outer σs H vs Q E hr h=> ?_;obtain⟨a,n,s,ms,rfl,L,hs,k⟩:=h;refine⟨_,(ae (aH (i:=2) sc_closed.nd (by rfl) (E5 rfl) (fQ m_rank hr (by decide) (pv 0) (aa (pv 1) ab)))
   (ae (aH (i:=3) sc_closed.nd (by rfl) (E5 rfl) (pv 1))
   (ae (aZ Fx rfl (aF (K:=K) (by rfl) (ao c_things hr (by decide) (by rfl) (aa (ao c_less hr (by decide) (by rfl) (aa (fD m_everything hr (by decide) (pv 0)) (aa (pv 1) ab))) ab))) (aB (i:=4) sc_closed.nd (by rfl) (E5 rfl))
     (af (a8 (aI bS (fQ m_rank hr (by decide) (pv 0) (aa (aw hG (pv 1) (aw bJ ag (pv 4))) ab)) (pv 2) (nomark _))
       (af (aH (i:=3) sc_closed.nd (by rfl) (E5 rfl) (aw hG (pv 3) (aw bJ ag (pv 4)))))
       aN)))
   (af (aD (pv 3)))))),?_⟩
 have p8:=dy L.n8;have ppos:0<2^n:=GC (by lia);obtain⟨C,dm,dx,fs,ha,fr,fe,fm,cl,nM⟩:=L.sees zk hck;refine⟨_,rfl,a,C,dx,fs,rfl,ha,dm,fr,_,rfl,a,n,s,au ms,rfl,L.ho,⟨dx,fs,ha⟩,L.n8,hs,λH1 sm1=> ?_⟩;have L1:=L.same zk sm1;obtain⟨C1,dm1,dx1,fs1,ha1,fr1,fe1,fm1,cl1,nM1⟩:=L1.sees zk hck;refine⟨_,rfl,?_⟩;refine⟨_,rfl,a,C1,dx1,fs1,rfl,ha1,dm1,fe1,a,C1,dx1,fs1,n,rfl,ha1,cl1,nM1,fm1,by lia,by have:=L.n8;lia,?_⟩;rw[bW];have l1:=cR (2^n-1) s;refine⟨_,rfl,2^n-1,s,rfl,_,rfl,by lia,by lia,λp H2 sm2 hp2 hl2=>⟨p,rfl,⟨_,SqL.of hl2⟩,?_⟩⟩;rw[E4]at hl2;refine ba (K:=K) (a:=p) (xs:=(outs n s).map V.int) (λi σ H3=>Same H2 H3/\∃v,σ=[some (.ref a),some (.int (s:Int)),some (.int ((au ms s:Nat):Int)),some (.int ((((outs n s).take i).foldl (λf z=>if au ms (s|||2^z.toNat)=au ms s then f|||2^z.toNat else f) s:Nat):Int)),v])
  ⟨Same.refl _,none,rfl⟩ (λi σ H3 _ q=>SqL.of (q.1.at hl2)) ?_ ?_
 .rintro i y σ H3 hi ⟨sm3,v,rfl⟩;obtain⟨z,rfl,hz⟩:=aQ hi;have hzm:z∈bits (aT (2^n-1) s):=E7 hz;obtain⟨j,hj8,hjb,rfl⟩:=bg.mp hzm;rw[fh,Fp,F7]at hjb;have lo:s|||2^j<2^n:=GF hs (Hm (by lia) hjb.1);have L3:=(L1.same zk sm2).same zk sm3;obtain⟨C3,dm3,dx3,fs3,ha3,fr3,fe3,fm3,cl3,nM3⟩:=L3.sees zk hck;have es:((outs n s).take (i+1)).foldl (λf z=>if au ms (s|||2^z.toNat)=au ms s then f|||2^z.toNat else f) s=if au ms (s|||2^j)=au ms s then((outs n s).take i).foldl (λf z=>if au ms (s|||2^z.toNat)=au ms s then f|||2^z.toNat else f) s|||2^j else((outs n s).take i).foldl (λf z=>if au ms (s|||2^z.toNat)=au ms s then f|||2^z.toNat else f) s:=by rw[GK,hz,GL];rfl
  generalize ((outs n s).take i).foldl (λf z=>if au ms (s|||2^z.toNat)=au ms s then f|||2^z.toNat else f) s=fd at*;have eo:Builtin.bitOr (s:Int) (1*2^((j:Nat):Int).toNat)=((s|||2^j:Nat):Int):=by rw[dM,cc]
  refine⟨_,rfl,a,C3,dx3,fs3,rfl,ha3,dm3,fr3,_,rfl,_,rfl,_,_,rfl,rfl,⟨by lia,by lia,by decide⟩,_,_,rfl,rfl,a,n,s|||2^j,au ms,?_,L3.ho,⟨dx3,fs3,ha3⟩,L.n8,lo,λH5 sm5=> ?_⟩
  ·(try dsimp only);rw[eo]
  refine⟨_,rfl,rfl,_,rfl,?_⟩;rw[cI];show if decide (au ms (s|||2^j)=au ms s)=true then _ else _;by_cases hc:au ms (s|||2^j)=au ms s
  .rw[E9 hc]at es;rw[E9 (E6 hc)];refine⟨_,rfl,_,rfl,_,_,rfl,rfl,⟨by lia,by lia,by decide⟩,_,_,rfl,rfl,sm3.trans sm5,some (.int (j:Int)),?_⟩;have ef:Builtin.bitOr (fd:Int) (1*2^((j:Nat):Int).toNat)=((fd|||2^j:Nat):Int):=by rw[dM,cc]
   rw[es,<-ef];rfl
  .rw[Fg hc]at es;rw[Fg (by simpa using hc)];refine⟨sm3.trans sm5,some (.int (j:Int)),?_⟩;rw[es];rfl
 .rintro σ H3 ⟨sm3,v,rfl⟩;rw[E3,Gm];exact⟨_,rfl,k H3 (sm1.trans (sm2.trans sm3))⟩
theorem sc_exchanged:aE ["s","thing","y"] ["s","thing","y"] (aq s_exchanged):=⟨rfl,rfl,rfl,by decide+kernel,rfl,by decide+kernel,by decide+kernel⟩
theorem qW(D:aS K mg "exchanged" s_exchanged ["s","thing","y"])(c_less:Cal P w K mg base 1 "less" ["s","t"] d6):Cal P w K mg base 2 "exchanged" ["s","thing","y"] gY:=by
 refine D.cal sc_exchanged (λvs H Q E h=>by obtain⟨s,t,y,rfl,_⟩:=h;rfl) λf cdv A outer σs H vs Q E hr h=> ?_;obtain⟨s,t,y,rfl,ht,hy,k⟩:=h;refine⟨_,(af (aD (aw hG (ao c_less hr (by decide) (by rfl) (aa (pv 0) (aa (aw bJ ag (pv 1)) ab))) (aw bJ ag (pv 2))))),?_⟩;refine⟨_,rfl,_,rfl,_,_,rfl,rfl,⟨by lia,by lia,by decide⟩,s,2^t,?_,?_⟩
 ·(try dsimp only);rw[dM];rfl
 refine⟨_,rfl,_,_,rfl,rfl,⟨by lia,by lia,by decide⟩,_,_,rfl,rfl,?_⟩;show Q (.int (Builtin.bitOr ((aT s (2^t):Nat):Int) (1*2^((y:Nat):Int).toNat))) H;rw[dM,cc];exact k
theorem sc_wrong_step:aE ["n","ranks","one","thing","other"] ["n","ranks"] (aq s_wrong_step):=⟨rfl,rfl,rfl,by decide+kernel,rfl,by decide+kernel,by decide+kernel⟩
theorem oo(T:Tb K mg)(D:aS K mg "wrong_step" s_wrong_step ["n","ranks"])(c_all_of:Cal P w K mg base 1 "all_of" ["n"] dJ)(c_parts:Cal P w K mg base 3 "parts" ["s"] eI)(c_things:Cal P w K mg base 2 "things" ["s"] cf)(c_less:Cal P w K mg base 1 "less" ["s","t"] d6):Cal P w K mg base 4 "wrong_step" ["n","ranks"] (jS K fP):=by
 refine D.cal sc_wrong_step (λvs H Q E h=>by obtain⟨a,n,told,rfl,_⟩:=h;rfl) λf cdv A outer σs H vs Q E hr h=> ?_;obtain⟨a,n,told,rfl,ha,hlen,hn,k⟩:=h;refine⟨_,(ae (aZ Fx rfl (aF (K:=K) (by rfl) (ao c_parts hr (by decide) (by rfl) (aa (ao c_all_of hr (by decide) (by rfl) (aa (pv 0) ab)) ab))) (aB (i:=2) sc_wrong_step.nd (by rfl) (E5 rfl))
     (af (aZ Fx rfl (aF (K:=K) (by rfl) (ao c_things hr (by decide) (by rfl) (aa (ao c_less hr (by decide) (by rfl) (aa (ao c_all_of hr (by decide) (by rfl) (aa (pv 0) ab)) (aa (pv 2) ab))) ab))) (aB (i:=3) sc_wrong_step.nd (by rfl) (E5 rfl))
       (ae (aH (i:=4) sc_wrong_step.nd (by rfl) (E5 rfl) (aw hG (pv 2) (aw bJ ag (pv 3))))
       (af (a8 (aI (f9 (K:=K) (by rfl)) (aw dr (aK (av (K:=K) (by rfl)) (pv 1) (pv 4) (λ_ _=>rfl)) (aK (av (K:=K) (by rfl)) (pv 1) (pv 2) (λ_ _=>rfl))) (cA (aa ag (aa ag ab))) (by rfl))
         (af (aD (cA (aa (pv 2) (aa (pv 4) (aa (jh gv ag) ab))))))
         aN))))))
   (af (aD ei))),?_⟩
 have p8:=dy hn;have ppos:=bP n;refine⟨_,rfl,(n:Int),rfl,by lia,by lia,?_⟩;rw[bW];refine⟨_,rfl,by lia,by lia,λp1 H1 sm1 hp1 hl1=>⟨p1,rfl,⟨_,SqL.of hl1⟩,?_⟩⟩;rw[E4,df n (by lia)]at hl1;refine ba (K:=K) (a:=p1) (xs:=((List.range (2^n)).map λk:Nat=>(k:Int)).map V.int) (λi σ H2=>Same H1 H2/\(∀j,j<i->lR n told j=none)/\∃v2 v3 v4,σ=[some (.int (n:Int)),some (.ref a),v2,v3,v4])
  ⟨Same.refl _,(λj hj=>absurd hj (by lia)),none,none,none,rfl⟩ (λi σ H2 _ q=>SqL.of (q.1.at hl1)) ?_ ?_
 .rintro i y σ H2 hi ⟨sm2,hno,v2,v3,v4,rfl⟩;obtain⟨z,rfl,hz⟩:=aQ hi;have hil:i<2^n:=by have:=(Fd.mp hz).1;rw[E3,FD]at this;exact this
  rw[Fm,Gi hil]at hz;cases hz;have l1:=cR (2^n-1) i;refine⟨_,rfl,(n:Int),rfl,by lia,by lia,?_⟩;rw[bW];refine⟨_,rfl,2^n-1,i,rfl,_,rfl,by lia,by lia,λp2 H3 sm3 hp3 hl3=>⟨p2,rfl,⟨_,SqL.of hl3⟩,?_⟩⟩;rw[E4]at hl3;refine ba (K:=K) (a:=p2) (xs:=(outs n i).map V.int) (λj σ H4=>Same H3 H4/\(∀ (t:Nat) z,t<j->(outs n i)[t]?=some z->mK told i z=none)/\∃v3 v4,σ=[some (.int (n:Int)),some (.ref a),some (.int (i:Int)),v3,v4])
   ⟨Same.refl _,(λt z ht=>absurd ht (by lia)),v3,v4,rfl⟩ (λj σ H4 _ q=>SqL.of (q.1.at hl3)) ?_ ?_
  .rintro j y σ H4 hj ⟨sm4,hno2,v3,v4,rfl⟩;obtain⟨z,rfl,hz⟩:=aQ hj;have hzm:z∈outs n i:=E7 hz;obtain⟨t,ht,htb,rfl⟩:=(jv hn).mp hzm;have lo:i|||2^t<2^n:=GF hil (Hm (by lia) ht);have eo:Builtin.bitOr (i:Int) (1*2^((t:Nat):Int).toNat)=((i|||2^t:Nat):Int):=by rw[dM,cc]
   refine⟨_,rfl,_,rfl,_,_,rfl,rfl,⟨by lia,by lia,by decide⟩,_,_,rfl,rfl,?_⟩;(try dsimp only);rw[eo];have ha4:=(sm1.trans (sm2.trans (sm3.trans sm4))).seq ha;have at1:atI (told.map V.int) ((i|||2^t:Nat):Int)=some (.int (told.getD (i|||2^t) 0)):=bc (by lia);have at2:atI (told.map V.int) (i:Int)=some (.int (told.getD i 0)):=bc (by lia);refine⟨_,rfl,_,rfl,a,_,_,_,rfl,rfl,ha4,at1,_,rfl,_,rfl,a,_,_,_,rfl,rfl,ha4,at2,_,_,rfl,rfl,by show 2<=sizeLine;decide,λpt hpt=> ?_⟩;refine⟨pt,_,rfl, .inr (SqT.of ah),rfl,rfl,_,rfl,?_⟩;have eb:(!inV (V.int (told.getD (i|||2^t) 0-told.getD i 0)) [V.int 0,V.int 1])=jK told i (i|||2^t):=by have e:=ia (told.getD (i|||2^t) 0-told.getD i 0) [0,1];rw[show([V.int 0,V.int 1]:List V)=[0,1].map V.int from rfl,e];unfold jK;refine Fu (λb=> !b) ?_;rw[Gz];simp
   show if(!inV (V.int (told.getD (i|||2^t) 0-told.getD i 0)) [V.int 0,V.int 1])=true then _ else _;rw[eb];have smt:Same H4 (upd H4 pt (.tup [V.int 0,V.int 1])):=Same.new hpt;refine cn (λhc=> ?_) λhc=> ?_
   .refine⟨_,rfl,_,rfl,_,rfl,by show 3<=sizeLine;decide,λpr hpr=> ?_⟩;have smr:Same (upd H4 pt (.tup [V.int 0,V.int 1])) (upd (upd H4 pt (.tup [V.int 0,V.int 1])) pr (.tup [V.int (i:Int),V.int ((i|||2^t:Nat):Int),V.int (-1)])):=Same.new hpr;refine k _ _ (sm1.trans (sm2.trans (sm3.trans (sm4.trans (smt.trans smr))))) ?_;have e1:mK told i (t:Int)=some ((i:Int),((i|||2^t:Nat):Int),-1):=by unfold mK;rw[E4,E9 hc]
    have e2:=(oP (told:=told) (one:=i) hn).symm.trans (vJ hz (λt z h1 h2=>hno2 t z h1 h2) e1);have e3:fP n told=some ((i:Int),((i|||2^t:Nat):Int),-1):=w6 hil hno e2;rw[e3];exact⟨pr,rfl,ah⟩
   .refine⟨sm4.trans smt,λu z hu hz'=> ?_,_,_,rfl⟩;by_cases hu':u=j
    .subst hu';rw[hz]at hz';cases hz';unfold mK;rw[E4,Fg hc]
    .exact hno2 u z (by lia) hz'
  .rintro σ H4 ⟨sm4,hno2,v3,v4,rfl⟩;refine⟨sm2.trans (sm3.trans sm4),λj hj=> ?_,_,_,_,rfl⟩;by_cases hj':j=i
   .subst hj';rw[<-oP hn];refine w4 λt z hz=>hno2 t z ?_ hz;rw[E3];exact(Fd.mp hz).1
   .exact hno j (by lia)
 .rintro σ H2 ⟨sm2,hno,v2,v3,v4,rfl⟩;refine k _ _ (sm1.trans sm2) ?_;have e3:fP n told=none:=eU λj hj=>hno j (by rw[E3,E3,FD];exact hj);rw[e3];exact rfl
theorem sc_exchanges:aE ["n","s","found","thing","y"] ["n","s"] (aq s_exchanges):=⟨rfl,rfl,rfl,by decide+kernel,rfl,by decide+kernel,by decide+kernel⟩
theorem qV(T:Tb K mg)(D:aS K mg "exchanges" s_exchanges ["n","s"])(c_all_of:Cal P w K mg base 1 "all_of" ["n"] dJ)(c_things:Cal P w K mg base 2 "things" ["s"] cf)(c_less:Cal P w K mg base 1 "less" ["s","t"] d6)(c_exchanged:Cal P w K mg base 2 "exchanged" ["s","thing","y"] gY):Cal P w K mg base 3 "exchanges" ["n","s"] kC:=by
 refine D.cal sc_exchanges (λvs H Q E h=>by obtain⟨n,s,rfl,_⟩:=h;rfl) λf cdv A outer σs H vs Q E hr h=> ?_;obtain⟨n,s,rfl,hn,hs,k⟩:=h;refine⟨_,(ae (aH (i:=2) sc_exchanges.nd (by rfl) (E5 rfl) (e6 ab))
   (ae (aZ Fx rfl (aF (K:=K) (by rfl) (ao c_things hr (by decide) (by rfl) (aa (pv 1) ab))) (aB (i:=3) sc_exchanges.nd (by rfl) (E5 rfl))
     (af (aZ Fx rfl (aF (K:=K) (by rfl) (ao c_things hr (by decide) (by rfl) (aa (ao c_less hr (by decide) (by rfl) (aa (ao c_all_of hr (by decide) (by rfl) (aa (pv 0) ab)) (aa (pv 1) ab))) ab))) (aB (i:=4) sc_exchanges.nd (by rfl) (E5 rfl))
       (af (cq (gZ (K:=K) (by rfl) GO GH GI cK (pv 2) (aa (ao c_exchanged hr (by decide) (by rfl) (aa (pv 1) (aa (pv 3) (aa (pv 4) ab)))) ab)))))))
   (af (aD (aO (ud (K:=K) (by rfl)) (by rfl) T.sorted_ Ka (aa (pv 2) ab)))))),?_⟩
 have p8:=dy hn;have ppos:=bP n;have l1:=cR (2^n-1) s;refine⟨FV _,λq hq=> ?_⟩;have smq:Same H (upd H q (.lst [])):=Same.new hq;have hq0:upd H q (.lst []) q=some (.lst (([]:List Int).map V.int)):=ah;generalize upd H q (.lst [])=H0 at*;refine⟨_,rfl,_,rfl,by lia,by lia,λp1 H1 sm1 hp1 hl1=>⟨p1,rfl,⟨_,SqL.of hl1⟩,?_⟩⟩;rw[E4]at hl1;have hq1:=sm1.at hq0;have fl:∀i,(((bits s).take i).flatMap (jD n s)).length<64:=λi=>by
  rw[nA (pE n s)];have h1:((bits s).take i).length<=(bits s).length:=by rw[FP];lia
  exact Ft (Nat.mul_le_mul_right _ h1) (A2 n (by lia) s (by lia))
 refine ba (K:=K) (a:=p1) (xs:=(bits s).map V.int) (λi σ H2=>Same H H2/\H2 p1=some (.lst ((bits s).map V.int))/\H2 q=some (.lst ((((bits s).take i).flatMap (jD n s)).map V.int))/\∃v3 v4,σ=[some (.int (n:Int)),some (.int (s:Int)),some (.ref q),v3,v4])
  ⟨smq.trans sm1,hl1,hq1,none,none,rfl⟩ (λi σ H2 _ q=>SqL.of q.2.1) ?_ ?_
 .rintro i y σ H2 hi ⟨sm2,hp2,hq2,v3,v4,rfl⟩;obtain⟨z,rfl,hz⟩:=aQ hi;obtain⟨t,ht8,htb,rfl⟩:=bg.mp (E7 hz);have q1:q≠p1:=λe=>by rw[e,hp1]at hq0;cases hq0
  refine⟨_,rfl,(n:Int),rfl,by lia,by lia,?_⟩;rw[bW];refine⟨_,rfl,2^n-1,s,rfl,_,rfl,by lia,by lia,λp2 H3 sm3 hp3 hl3=>⟨p2,rfl,⟨_,SqL.of hl3⟩,?_⟩⟩;rw[E4]at hl3;have q2:q≠p2:=λe=>by rw[e,hp3]at hq2;cases hq2
  refine ba (K:=K) (a:=p2) (xs:=(outs n s).map V.int) (λj σ H4=>Same H H4/\H4 p1=some (.lst ((bits s).map V.int))/\H4 p2=some (.lst ((outs n s).map V.int))/\H4 q=some (.lst (((((bits s).take i).flatMap (jD n s))++((outs n s).take j).map λy=>((fb s t y.toNat:Nat):Int)).map V.int))/\∃v4,σ=[some (.int (n:Int)),some (.int (s:Int)),some (.ref q),some (.int (t:Int)),v4])
   ⟨sm2.trans sm3,sm3.at hp2,hl3,(by rw[List.take_zero,Ig,GX];exact sm3.at hq2),v4,rfl⟩ (λj σ H4 _ q=>SqL.of q.2.2.1) ?_ ?_
  .rintro j y σ H4 hj ⟨sm4,hp4,hp24,hq4,v4,rfl⟩;obtain⟨z,rfl,hzz⟩:=aQ hj;have hzm:z∈outs n s:=E7 hzz;obtain⟨y,hy,hyb,rfl⟩:=(jv hn).mp hzm;have hjl:j<(outs n s).length:=(Fd.mp hzz).1;have lq:((((bits s).take i).flatMap (jD n s))++((outs n s).take j).map λy=>((fb s t y.toNat:Nat):Int)).length<72:=by
    have h1:=fl i;have h2:=bZ (aT (2^n-1) s);have h3:((outs n s).take j).length<=8:=by rw[FP];unfold outs;lia
    rw[Fw,E3];lia
   refine⟨_,rfl, .inl ⟨rfl,_,SqL.of hq4⟩,?_⟩;refine⟨_,rfl,_,rfl,_,rfl,s,t,y,rfl,ht8,by lia,q,_,_,rfl,rfl,hq4,(by rw[E3];exact HP lq (by decide)),?_⟩;refine⟨sm4.upd hq,?_,?_,?_,_,rfl⟩
   .rw[aC q1.symm];exact hp4
   .rw[aC q2.symm];exact hp24
   .rw[ah,GK,hzz];refine Fu (λl=>some (HO.lst l)) ?_;rw[JP,FW,FW,FW,FW,GN];rfl
  .rintro σ H4 ⟨sm4,hp4,hp24,hq4,v4,rfl⟩;refine⟨sm4,hp4,?_,_,_,rfl⟩;rw[hq4,E3,Gm,GK,hz,List.flatMap_append,JP,List.flatMap_singleton];unfold jD;rw[E4]
 .rintro σ H2 ⟨sm2,hp2,hq2,v3,v4,rfl⟩;rw[E3,Gm]at hq2;refine⟨_,rfl,q,ib n s,rfl,SqL.of hq2,vM hn (by lia),λl ms hl hp hsrt=> ?_⟩;exact k l _ ms (sm2.trans (Same.new hl)) (sm2.free hl) ah hp hsrt
theorem sc_late_step:aE ["n","ranks","one","other","low","adds_nothing"] ["n","ranks"] (aq s_late_step):=⟨rfl,rfl,rfl,by decide+kernel,rfl,by decide+kernel,by decide+kernel⟩
theorem qU(T:Tb K mg)(D:aS K mg "late_step" s_late_step ["n","ranks"])(c_all_of:Cal P w K mg base 1 "all_of" ["n"] dJ)(c_parts:Cal P w K mg base 3 "parts" ["s"] eI)(c_exchanges:Cal P w K mg base 3 "exchanges" ["n","s"] kC):Cal P w K mg base 4 "late_step" ["n","ranks"] (jS K gB):=by
 refine D.cal sc_late_step (λvs H Q E h=>by obtain⟨a,n,told,rfl,_⟩:=h;rfl) λf cdv A outer σs H vs Q E hr h=> ?_;obtain⟨a,n,told,rfl,ha,hlen,hn,k⟩:=h;refine⟨_,(ae (aZ Fx rfl (aF (K:=K) (by rfl) (ao c_parts hr (by decide) (by rfl) (aa (ao c_all_of hr (by decide) (by rfl) (aa (pv 0) ab)) ab))) (aB (i:=2) sc_late_step.nd (by rfl) (E5 rfl))
     (af (aZ Fx rfl (aF (K:=K) (by rfl) (ao c_exchanges hr (by decide) (by rfl) (aa (pv 0) (aa (pv 2) ab)))) (aB (i:=3) sc_late_step.nd (by rfl) (E5 rfl))
       (ae (aH (i:=4) sc_late_step.nd (by rfl) (E5 rfl) (aK (av (K:=K) (by rfl)) (pv 1) (aw dO (pv 2) (pv 3)) (λ_ _=>rfl)))
       (ae (aH (i:=5) sc_late_step.nd (by rfl) (E5 rfl) (vf (fg bS (aK (av (K:=K) (by rfl)) (pv 1) (pv 2) (λ_ _=>rfl)) (pv 4) (nomark _)) (ve (fg bS (aK (av (K:=K) (by rfl)) (pv 1) (pv 3) (λ_ _=>rfl)) (pv 4) (nomark _)))))
       (af (a8 (PW.pt (gA (aI kM (pv 2) (pv 3) (nomark _)) (gA (bT (pv 5)) (gz (aI kN (aK (av (K:=K) (by rfl)) (pv 1) (aw hG (pv 2) (pv 3)) (λ_ _=>rfl)) (pv 4) (nomark _))))))
         (af (aD (cA (aa (pv 2) (aa (pv 3) (aa (jh gv ag) ab))))))
         aN)))))))
   (af (aD ei))),?_⟩
 have p8:=dy hn;have ppos:=bP n;refine⟨_,rfl,(n:Int),rfl,by lia,by lia,?_⟩;rw[bW];refine⟨_,rfl,by lia,by lia,λp1 H1 sm1 hp1 hl1=>⟨p1,rfl,⟨_,SqL.of hl1⟩,?_⟩⟩;rw[E4,df n (by lia)]at hl1;refine ba (K:=K) (a:=p1) (xs:=((List.range (2^n)).map λk:Nat=>(k:Int)).map V.int) (λi σ H2=>Same H1 H2/\(∀j,j<i->qR n told j=none)/\∃v2 v3 v4 v5,σ=[some (.int (n:Int)),some (.ref a),v2,v3,v4,v5])
  ⟨Same.refl _,(λj hj=>absurd hj (by lia)),none,none,none,none,rfl⟩ (λi σ H2 _ q=>SqL.of (q.1.at hl1)) ?_ ?_
 .rintro i y σ H2 hi ⟨sm2,hno,v2,v3,v4,v5,rfl⟩;obtain⟨z,rfl,hz⟩:=aQ hi;have hil:i<2^n:=by have:=(Fd.mp hz).1;rw[E3,FD]at this;exact this
  rw[Fm,Gi hil]at hz;cases hz;refine⟨_,rfl,_,rfl,n,i,rfl,hn,hil,λp2 H3 ms sm3 hp3 hl3 hperm hsrt=>⟨p2,rfl,⟨_,SqL.of hl3⟩,?_⟩⟩;refine ba (K:=K) (a:=p2) (xs:=ms.map V.int) (λj σ H4=>Same H3 H4/\(∀ (t:Nat) z,t<j->ms[t]?=some z->kJ told i z=none)/\∃v3 v4 v5,σ=[some (.int (n:Int)),some (.ref a),some (.int (i:Int)),v3,v4,v5])
   ⟨Same.refl _,(λt z ht=>absurd ht (by lia)),v3,v4,v5,rfl⟩ (λj σ H4 _ q=>SqL.of (q.1.at hl3)) ?_ ?_
  .rintro j y σ H4 hj ⟨sm4,hno2,v3,v4,v5,rfl⟩;obtain⟨z,rfl,hz⟩:=aQ hj;have hzm:z∈ib n i:=hperm.mem_iff.mp (E7 hz);obtain⟨o,ho,hnr,rfl⟩:=(nk hn hil z).mp hzm;have lo:i|||o<2^n:=GF hil ho;have la:i&&&o<2^n:=Ft Jw hil;have ha4:=(sm1.trans (sm2.trans (sm3.trans sm4))).seq ha;have at1:atI (told.map V.int) (Builtin.bitAnd (i:Int) (o:Int))=some (.int (told.getD (i&&&o) 0)):=by rw[cZ];exact bc (by lia)
   have at2:atI (told.map V.int) (i:Int)=some (.int (told.getD i 0)):=bc (by lia);have at3:atI (told.map V.int) (o:Int)=some (.int (told.getD o 0)):=bc (by lia);have at4:atI (told.map V.int) (Builtin.bitOr (i:Int) (o:Int))=some (.int (told.getD (i|||o) 0)):=by rw[cc];exact bc (by lia)
   refine⟨_,rfl,_,rfl,_,rfl,_,_,rfl,rfl,a,_,_,_,rfl,rfl,ha4,at1,?_⟩;have hz1:kJ told i (o:Int)=if(decide (i<o)&&jx told i o)=true then some ((i:Int),(o:Int),-1)else none:=by unfold kJ;rw[E4]
   have stay:∀H5,H5=H4->kJ told i (o:Int)=none->Same H3 H5/\(∀ (t:Nat) z,t<j+1->ms[t]?=some z->kJ told i z=none):=λH5 e hno3=>by
    subst e;refine⟨sm4,λu z hu hz'=> ?_⟩;by_cases hu':u=j
    .subst hu';rw[hz]at hz';cases hz';exact hno3
    .exact hno2 u z (by lia) hz'
   have key:∀b:Bool,(b=true↔(told.getD i 0=told.getD (i&&&o) 0/\told.getD o 0=told.getD (i&&&o) 0))->(b&&(decide (i<o)&&decide (told.getD (i|||o) 0>told.getD (i&&&o) 0)))=(decide (i<o)&&jx told i o):=λb hb=>by
    unfold jx;rw[Gz];simp only[Fp,decide_eq_true_eq,hb];constructor
    .rintro⟨⟨h1,h2⟩,h3,h4⟩;exact⟨h3,h1,h2,h4⟩
    .rintro⟨h3,h1,h2,h4⟩;exact⟨⟨h1,h2⟩,h3,h4⟩
   (try dsimp only);refine ke (λσ' H'=>H'=H4/\∃b:Bool,(b=true↔(told.getD i 0=told.getD (i&&&o) 0/\told.getD o 0=told.getD (i&&&o) 0))/\σ'=[some (.int (n:Int)),some (.ref a),some (.int (i:Int)),some (.int (o:Int)),some (.int (told.getD (i&&&o) 0)),some (.bl b)]) ?_ ?_
   .rintro σ' H' ⟨rfl,b,hb,rfl⟩;have hk:=key b hb;have miss:(decide (i<o)&&jx told i o)=false->kJ told i (o:Int)=none:=λe=>by rw[hz1,e];rfl
    refine⟨_,rfl,_,rfl,_,_,rfl,rfl,_,rfl,cn (λhc=> ?_) λhc=>dt ?_⟩
    .have h1:i<o:=by have:=Fi hc;lia
     simp only[E6 h1,GR]at hk;refine⟨_,rfl,_,rfl,cn (λhc=> ?_) λhc=>dt ?_⟩
     .have hb':b=true:=hc;simp only[hb',GR]at hk;refine⟨_,rfl,_,rfl,_,rfl,_,_,rfl,rfl,a,_,_,_,rfl,rfl,ha4,at4,_,rfl,_,_,rfl,rfl,_,rfl,cn (λhc=> ?_) λhc=> ?_⟩
      .refine⟨_,rfl,_,rfl,_,rfl,by show 3<=sizeLine;decide,λpr hpr=> ?_⟩;have smr:Same H' (upd H' pr (.tup [V.int (i:Int),V.int (o:Int),V.int (-1)])):=Same.new hpr;refine k _ _ (sm1.trans (sm2.trans (sm3.trans (sm4.trans smr)))) ?_;have hl:(decide (i<o)&&jx told i o)=true:=by rw[E6 h1,GR,<-hk];exact hc
       have e1:kJ told i (o:Int)=some ((i:Int),(o:Int),-1):=by rw[hz1,E9 hl]
       have e2:=(kI (told:=told) hn hil hperm hsrt).symm.trans (vJ hz (λt z h1 h2=>hno2 t z h1 h2) e1);have e3:gB n told=some ((i:Int),(o:Int),-1):=w6 hil hno e2;rw[e3];exact⟨pr,rfl,ah⟩
      .obtain⟨w1,w2⟩:=stay _ rfl (miss (by rw[E6 h1,GR,<-hk];exact F4.mpr hc));exact⟨w1,w2,_,_,_,rfl⟩
     .have hb':b=false:=F4.mpr hc;simp only[hb',HY]at hk;obtain⟨w1,w2⟩:=stay _ rfl (miss (by rw[E6 h1,GR,<-hk]));exact⟨w1,w2,_,_,_,rfl⟩
    .have h1:¬i<o:=by have:=Gy (F4.mpr hc);lia
     obtain⟨w1,w2⟩:=stay _ rfl (miss (by rw[E8 h1,HY]));exact⟨w1,w2,_,_,_,rfl⟩
   .intro hrest;refine⟨_,rfl,_,rfl,a,_,_,_,rfl,rfl,ha4,at2,_,rfl,rfl,_,rfl,cn (λhc=> ?_) λhc=> ?_⟩
    .have h1:told.getD i 0=told.getD (i&&&o) 0:=V.int.inj (Fi hc);refine⟨_,rfl,_,rfl,a,_,_,_,rfl,rfl,ha4,at3,_,rfl,rfl,?_⟩;refine hrest _ _ ⟨rfl,_,?_,rfl⟩;rw[t4,F7];exact⟨λh=>⟨h1,h⟩,λh=>h.2⟩
    .have h1:¬told.getD i 0=told.getD (i&&&o) 0:=λe=>hc (E6 (by rw[e]));refine hrest _ _ ⟨rfl,false,?_,rfl⟩;exact⟨(λh=>by cases h),λh=>absurd h.1 h1⟩
  .rintro σ H4 ⟨sm4,hno2,v3,v4,v5,rfl⟩;refine⟨sm2.trans (sm3.trans sm4),λj hj=> ?_,_,_,_,_,rfl⟩;by_cases hj':j=i
   .subst hj';rw[<-kI hn hil hperm hsrt];refine w4 λt z hz=>hno2 t z ?_ hz;rw[E3];exact(Fd.mp hz).1
   .exact hno j (by lia)
 .rintro σ H2 ⟨sm2,hno,v2,v3,v4,v5,rfl⟩;refine k _ _ (sm1.trans sm2) ?_;have e3:gB n told=none:=eU λj hj=>hno j (by rw[E3,E3,FD];exact hj);rw[e3];exact rfl
theorem sc_broken_ranks:aE ["n","ranks","found"] ["n","ranks"] (aq s_broken_ranks):=⟨rfl,rfl,rfl,by decide+kernel,rfl,by decide+kernel,by decide+kernel⟩
theorem lp(T:Tb K mg)(D:aS K mg "broken_ranks" s_broken_ranks ["n","ranks"])(c_wrong_step:Cal P w K mg base 4 "wrong_step" ["n","ranks"] (jS K fP))(c_late_step:Cal P w K mg base 4 "late_step" ["n","ranks"] (jS K gB)):Cal P w K mg base 5 "broken_ranks" ["n","ranks"] (jS K vR):=by
 refine D.cal sc_broken_ranks (λvs H Q E h=>by obtain⟨a,n,told,rfl,_⟩:=h;rfl) λf cdv A outer σs H vs Q E hr h=> ?_;obtain⟨a,n,told,rfl,ha,hlen,hn,k⟩:=h;refine⟨_,(ae (a8 (aI jo (aK (av (K:=K) (by rfl)) (pv 1) ag (λ_ _=>rfl)) ag (nomark _))
     (af (aD (cA (aa ag (aa ag (aa (jh gv ag) ab))))))
     aN)
   (ae (aH (i:=2) sc_broken_ranks.nd (by rfl) (E5 rfl) (ao c_wrong_step hr (by decide) (by rfl) (aa (pv 0) (aa (pv 1) ab))))
   (ae (a8 (aI vk (pv 2) ei (nomark _))
     (af (aH (i:=2) sc_broken_ranks.nd (by rfl) (E5 rfl) (ao c_late_step hr (by decide) (by rfl) (aa (pv 0) (aa (pv 1) ab)))))
     aN)
   (af (aD (pv 2)))))),?_⟩
 have ppos:=bP n;have at0:atI (told.map V.int) 0=some (.int (told.getD 0 0)):=bc (j:=0) (by lia);refine⟨_,rfl,a,_,_,_,rfl,rfl,ha,at0,rfl,_,rfl,cn (λhc=> ?_) λhc=> ?_⟩
 .have h1:¬told.getD 0 0=0:=λe=>by rw[e]at hc;have:(!decide (V.int 0=V.int 0))=true:=hc;simp at this
  refine⟨_,rfl,by show 3<=sizeLine;decide,λpr hpr=> ?_⟩;refine k _ _ (Same.new hpr) ?_;unfold vR;rw[Fg h1];exact⟨pr,rfl,ah⟩
 .have h1:told.getD 0 0=0:=by refine FU λe=>hc ?_;show(!decide (V.int (told.getD 0 0)=V.int 0))=true;rw[t4,E8 e];rfl
  have ed:vR n told=(fP n told).or (gB n told):=by unfold vR;rw[E9 h1]
  rw[ed]at k;refine⟨_,rfl,_,rfl,a,n,told,rfl,ha,hlen,hn,λv H1 sm1 hv=> ?_⟩;cases es:fP n told with
  |none=>
   rw[es]at hv k;have ev:v= .non:=hv;subst ev;refine⟨_,rfl,rfl,_,rfl,tO ?_⟩;refine⟨_,rfl,_,rfl,a,n,told,rfl,sm1.seq ha,hlen,hn,λv H2 sm2 hv=> ?_⟩;exact⟨_,rfl,k v H2 (sm1.trans sm2) hv⟩
  |some t=>
   rw[es]at hv k;obtain⟨x,y,z⟩:=t;obtain⟨p,rfl,hp⟩:=hv;refine⟨_,rfl,rfl,_,rfl,dt ?_⟩;exact⟨_,rfl,k _ H1 sm1 ⟨p,rfl,hp⟩⟩
theorem sc_holds_ring:aE ["rings","s","ring"] ["rings","s"] (aq s_holds_ring):=⟨rfl,rfl,rfl,by decide+kernel,rfl,by decide+kernel,by decide+kernel⟩
theorem ou(T:Tb K mg)(D:aS K mg "holds_ring" s_holds_ring ["rings","s"])(c_within:Cal P w K mg base 1 "within" ["s","t"] i5):Cal P w K mg base 2 "holds_ring" ["rings","s"] (mP K):=by
 refine D.cal sc_holds_ring (λvs H Q E h=>by obtain⟨a,rs,s,rfl,_⟩:=h;rfl) λf cdv A outer σs H vs Q E hr h=> ?_;obtain⟨a,rs,s,rfl,ha,k⟩:=h;refine⟨_,(ae (aZ Fx rfl (aF (K:=K) (by rfl) (pv 0)) (aB (i:=2) sc_holds_ring.nd (by rfl) (E5 rfl))
     (af (a8 (bT (ao c_within hr (by decide) (by rfl) (aa (pv 2) (aa (pv 1) ab))))
       (af (aD dz))
       aN)))
   (af (aD dz))),?_⟩
 refine⟨_,rfl,a,rfl,⟨_,ha⟩,?_⟩;refine ba (K:=K) (a:=a) (xs:=(aG rs).map V.int) (λi σ H2=>H=H2/\(rs.take i).any (λc=>decide (c&&&s=c))=false/\∃v2,σ=[some (.ref a),some (.int (s:Int)),v2]) ⟨rfl,rfl,none,rfl⟩ (λi σ H2 _ q=>q.1▸ha) ?_ ?_
 .rintro i y σ H2 hi ⟨rfl,hno,v2,rfl⟩;obtain⟨z,rfl,hz⟩:=aQ hi;obtain⟨c,hc,rfl⟩:=cY hz;refine⟨_,rfl,_,rfl,_,_,rfl,by lia,by lia,_,rfl,?_⟩;rw[E4,E4];refine cn (λhd=> ?_) λhd=> ?_
  .have e:rs.any (λc=>decide (c&&&s=c))=true:=Ih.mpr ⟨c,E7 hc,hd⟩;rw[e]at k;exact k
  .refine⟨rfl,?_,_,rfl⟩;rw[oK hc,List.any_append,hno];show(decide (c&&&s=c)||false)=false;rw[GP];simpa using hd
 .rintro σ H2 ⟨rfl,hno,v2,rfl⟩;rw[E3,bG,Gm]at hno;rw[hno]at k;exact k
theorem sc_ring_in_ring:aE ["rings","one","other"] ["rings"] (aq s_ring_in_ring):=⟨rfl,rfl,rfl,by decide+kernel,rfl,by decide+kernel,by decide+kernel⟩
theorem k9(T:Tb K mg)(D:aS K mg "ring_in_ring" s_ring_in_ring ["rings"])(c_within:Cal P w K mg base 1 "within" ["s","t"] i5):Cal P w K mg base 2 "ring_in_ring" ["rings"] (r9 K):=by
 refine D.cal sc_ring_in_ring (λvs H Q E h=>by obtain⟨a,rs,rfl,_⟩:=h;rfl) λf cdv A outer σs H vs Q E hr h=> ?_;obtain⟨a,rs,rfl,ha,hap,k⟩:=h;refine⟨_,(ae (aZ Fx rfl (aF (K:=K) (by rfl) (pv 0)) (aB (i:=1) sc_ring_in_ring.nd (by rfl) (E5 rfl))
     (af (aZ Fx rfl (aF (K:=K) (by rfl) (pv 0)) (aB (i:=2) sc_ring_in_ring.nd (by rfl) (E5 rfl))
       (af (a8 (PW.pt (gA (aI jo (pv 1) (pv 2) (nomark _)) (gz (bT (ao c_within hr (by decide) (by rfl) (aa (pv 1) (aa (pv 2) ab)))))))
         (af (aD (cA (aa (pv 1) (aa (pv 2) (aa (jh gv ag) ab))))))
         aN)))))
   (af (aD ei))),?_⟩
 refine⟨_,rfl,a,rfl,⟨_,ha⟩,?_⟩;refine ba (K:=K) (a:=a) (xs:=(aG rs).map V.int) (λi σ H2=>H=H2/\∃v1 v2,σ=[some (.ref a),v1,v2]) ⟨rfl,none,none,rfl⟩ (λi σ H2 _ q=>q.1▸ha) ?_ ?_
 .rintro i y σ H2 hi ⟨rfl,v1,v2,rfl⟩;obtain⟨z,rfl,hz⟩:=aQ hi;obtain⟨c,hc,rfl⟩:=cY hz;refine⟨_,rfl,a,rfl,⟨_,ha⟩,?_⟩;refine ba (K:=K) (a:=a) (xs:=(aG rs).map V.int) (λj σ H2=>H=H2/\∃v2,σ=[some (.ref a),some (.int (c:Int)),v2]) ⟨rfl,v2,rfl⟩ (λi σ H2 _ q=>q.1▸ha) ?_ ?_
  .rintro j y σ H2 hj ⟨rfl,v2,rfl⟩;obtain⟨z,rfl,hz⟩:=aQ hj;obtain⟨d,hd,rfl⟩:=cY hz;refine⟨_,rfl,_,rfl,rfl,_,rfl,?_⟩;rw[cI];refine cn (λhne=> ?_) λhne=> ?_
   .have hne':c≠d:=λe=>by rw[e,E6 rfl]at hne;cases hne
    refine⟨_,rfl,_,rfl,_,_,rfl,by lia,by lia,_,rfl,?_⟩;rw[E4,E4,E8 (hap c (E7 hc) d (E7 hd) hne')];exact dt ⟨rfl,_,rfl⟩
   .exact dt ⟨rfl,_,rfl⟩
  .rintro σ H2 ⟨rfl,v2,rfl⟩;exact⟨rfl,_,_,rfl⟩
 .rintro σ H2 ⟨rfl,v1,v2,rfl⟩;exact k
theorem sc_rings_without_third:aE ["rings","one","other","thing"] ["rings"] (aq s_rings_without_third):=⟨rfl,rfl,rfl,by decide+kernel,rfl,by decide+kernel,by decide+kernel⟩
theorem gD(T:Tb K mg)(D:aS K mg "rings_without_third" s_rings_without_third ["rings"])(c_things:Cal P w K mg base 2 "things" ["s"] cf)(c_less:Cal P w K mg base 1 "less" ["s","t"] d6)(c_holds_ring:Cal P w K mg base 2 "holds_ring" ["rings","s"] (mP K)):
  Cal P w K mg base 3 "rings_without_third" ["rings"] (wo K):=by
 refine D.cal sc_rings_without_third (λvs H Q E h=>by obtain⟨a,rs,rfl,_⟩:=h;rfl) λf cdv A outer σs H vs Q E hr h=> ?_;obtain⟨a,rs,rfl,ha,hbd,hth,k⟩:=h;refine⟨_,(ae (aZ Fx rfl (aF (K:=K) (by rfl) (pv 0)) (aB (i:=1) sc_rings_without_third.nd (by rfl) (E5 rfl))
     (af (aZ Fx rfl (aF (K:=K) (by rfl) (pv 0)) (aB (i:=2) sc_rings_without_third.nd (by rfl) (E5 rfl))
       (af (a8 (aI kM (pv 1) (pv 2) (nomark _))
         (af (aZ Fx rfl (aF (K:=K) (by rfl) (ao c_things hr (by decide) (by rfl) (aa (aw dO (pv 1) (pv 2)) ab))) (aB (i:=3) sc_rings_without_third.nd (by rfl) (E5 rfl))
           (af (a8 (eg (bT (ao c_holds_ring hr (by decide) (by rfl) (aa (pv 0) (aa (ao c_less hr (by decide) (by rfl) (aa (aw hG (pv 1) (pv 2)) (aa (aw bJ ag (pv 3)) ab))) ab)))))
             (af (aD (cA (aa (pv 1) (aa (pv 2) (aa (pv 3) ab))))))
             aN))))
         aN)))))
   (af (aD ei))),?_⟩
 refine⟨_,rfl,a,rfl,⟨_,ha⟩,?_⟩;refine ba (K:=K) (a:=a) (xs:=(aG rs).map V.int) (λi σ H2=>Same H H2/\∃v1 v2 v3,σ=[some (.ref a),v1,v2,v3]) ⟨Same.refl _,none,none,none,rfl⟩ (λi σ H2 _ q=>q.1.seq ha) ?_ ?_
 .rintro i y σ H1 hi ⟨sm1,v1,v2,v3,rfl⟩;obtain⟨z,rfl,hz⟩:=aQ hi;obtain⟨c,hc,rfl⟩:=cY hz;have cm:=E7 hc;refine⟨_,rfl,a,rfl,⟨_,sm1.seq ha⟩,?_⟩;refine ba (K:=K) (a:=a) (xs:=(aG rs).map V.int) (λj σ H2=>Same H H2/\∃v2 v3,σ=[some (.ref a),some (.int (c:Int)),v2,v3]) ⟨sm1,v2,v3,rfl⟩ (λi σ H2 _ q=>q.1.seq ha) ?_ ?_
  .rintro j y σ H2 hj ⟨sm2,v2,v3,rfl⟩;obtain⟨z,rfl,hz⟩:=aQ hj;obtain⟨d,hd,rfl⟩:=cY hz;have dm:=E7 hd;refine⟨_,rfl,_,rfl,_,_,rfl,rfl,_,rfl,?_⟩;refine cn (λhlt=> ?_) λhlt=> ?_
   .have hne:c≠d:=λe=>by have:=Fi hlt;lia
    have c8:=hbd c cm;have d8:=hbd d dm;have cd8:c&&&d<256:=Ft Jw c8;refine⟨_,rfl,_,rfl,_,_,rfl,rfl,((c&&&d:Nat):Int),by rw[<-cZ];rfl,by lia,by lia,λp H3 sm3 hp hl3=>⟨p,rfl,⟨_,SqL.of hl3⟩,?_⟩⟩;rw[E4]at hl3;refine ba (K:=K) (a:=p) (xs:=(bits (c&&&d)).map V.int) (λl σ H2=>Same H3 H2/\∃v3,σ=[some (.ref a),some (.int (c:Int)),some (.int (d:Int)),v3]) ⟨Same.refl _,v3,rfl⟩ (λl σ H2 _ q=>SqL.of (q.1.at hl3)) ?_ ?_
    .rintro l y σ H4 hl ⟨sm4,v3,rfl⟩;obtain⟨z,rfl,hz⟩:=aQ hl;obtain⟨t,t8,htb,rfl⟩:=bg.mp (E7 hz);rw[FG,Fp]at htb;have sm:=sm2.trans (sm3.trans sm4);refine⟨_,rfl,_,rfl,_,rfl,_,_,rfl,rfl,_,rfl,_,_,rfl,rfl,⟨by lia,by lia,by decide⟩,c|||d,2^t,?_,?_⟩
     ·(try dsimp only);rw[dM,<-cc];rfl
     refine⟨a,rs,_,rfl,sm.seq ha,_,rfl,?_⟩;obtain⟨e,em,ee⟩:=hth c cm d dm hne t htb.1 htb.2;have ea:(rs.any λc_1=>decide (c_1&&&aT (c|||d) (2^t)=c_1))=true:=Ih.mpr ⟨e,em,E6 ee⟩;rw[ea];exact dt ⟨sm4,_,rfl⟩
    .rintro σ H4 ⟨sm4,v3,rfl⟩;exact⟨sm2.trans (sm3.trans sm4),_,_,rfl⟩
   .exact⟨sm2,_,_,rfl⟩
  .rintro σ H2 ⟨sm2,v2,v3,rfl⟩;exact⟨sm2,_,_,_,rfl⟩
 .rintro σ H2 ⟨sm,v1,v2,v3,rfl⟩;exact k _ sm
theorem sc_broken_rings:aE ["n","rings","found"] ["n","rings"] (aq s_broken_rings):=⟨rfl,rfl,rfl,by decide+kernel,rfl,by decide+kernel,by decide+kernel⟩
theorem lh(T:Tb K mg)(D:aS K mg "broken_rings" s_broken_rings ["n","rings"])(c_ring_in_ring:Cal P w K mg base 2 "ring_in_ring" ["rings"] (r9 K))(c_rings_without_third:Cal P w K mg base 3 "rings_without_third" ["rings"] (wo K)):
  Cal P w K mg base 4 "broken_rings" ["n","rings"] (oX K):=by
 refine D.cal sc_broken_rings (λvs H Q E h=>by obtain⟨a,n,rs,rfl,_⟩:=h;rfl) λf cdv A outer σs H vs Q E hr h=> ?_;obtain⟨a,n,rs,rfl,ha,hbd,h0,hap,hth,k⟩:=h;refine⟨_,(ae (a8 (aI (mZ (K:=K) (by rfl)) ag (pv 1) (by rfl))
     (af (aD (cA (aa ag (aa ag (aa (jh gv ag) ab))))))
     aN)
   (ae (aH (i:=2) sc_broken_rings.nd (by rfl) (E5 rfl) (ao c_ring_in_ring hr (by decide) (by rfl) (aa (pv 1) ab)))
   (ae (a8 (aI vk (pv 2) ei (nomark _))
     (af (aH (i:=2) sc_broken_rings.nd (by rfl) (E5 rfl) (ao c_rings_without_third hr (by decide) (by rfl) (aa (pv 1) ab))))
     aN)
   (af (aD (pv 2)))))),?_⟩
 refine⟨_,rfl,a,_,rfl, .inl ha,rfl,kj _,_,rfl,?_⟩;have e0:inV (V.int 0) ((aG rs).map V.int)=false:=by
  rw[ia];exact E8 λhm=>by
   obtain⟨s,hs,e⟩:=cp hm;have:s=0:=by lia
   exact h0 (this▸hs)
 show if(if false=true then !inV (V.int 0) ((aG rs).map V.int)else inV (V.int 0) ((aG rs).map V.int))=true then _ else _;rw[Fg Fo,e0];refine dt ?_;refine⟨_,rfl,a,rs,rfl,ha,hap,?_⟩;refine⟨_,rfl,rfl,_,rfl,?_⟩;refine tO ?_;exact⟨_,rfl,a,rs,rfl,ha,hbd,hth,λH' sm=>⟨_,rfl,k H' sm⟩⟩
theorem sc_least_flat:aE ["n","flats","s","least","flat"] ["n","flats","s"] (aq s_least_flat):=⟨rfl,rfl,rfl,by decide+kernel,rfl,by decide+kernel,by decide+kernel⟩
theorem ot(T:Tb K mg)(D:aS K mg "least_flat" s_least_flat ["n","flats","s"])(c_all_of:Cal P w K mg base 1 "all_of" ["n"] dJ)(c_within:Cal P w K mg base 1 "within" ["s","t"] i5):Cal P w K mg base 2 "least_flat" ["n","flats","s"] (mN K):=by
 refine D.cal sc_least_flat (λvs H Q E h=>by obtain⟨a,n,s,fs,rfl,_⟩:=h;rfl) λf cdv A outer σs H vs Q E hr h=> ?_;obtain⟨a,n,s,fs,rfl,hn,ha,k⟩:=h;refine⟨_,(ae (aH (i:=3) sc_least_flat.nd (by rfl) (E5 rfl) (ao c_all_of hr (by decide) (by rfl) (aa (pv 0) ab)))
   (ae (aZ Fx rfl (aF (K:=K) (by rfl) (pv 1)) (aB (i:=4) sc_least_flat.nd (by rfl) (E5 rfl))
     (af (a8 (bT (ao c_within hr (by decide) (by rfl) (aa (pv 2) (aa (pv 4) ab))))
       (af (aH (i:=3) sc_least_flat.nd (by rfl) (E5 rfl) (aw dO (pv 3) (pv 4))))
       aN)))
   (af (aD (pv 3))))),?_⟩
 refine⟨_,rfl,(n:Int),rfl,by lia,by lia,?_⟩;rw[bW];refine⟨_,rfl,a,rfl,⟨_,ha⟩,?_⟩;refine ba (K:=K) (a:=a) (xs:=(aG fs).map V.int) (λi σ H2=>H=H2/\∃v4,σ=[some (.int (n:Int)),some (.ref a),some (.int (s:Int)),some (.int (iQ n (fs.take i) s:Nat)),v4]) ⟨rfl,none,rfl⟩ (λi σ H2 _ q=>q.1▸ha) ?_ ?_
 .rintro i y σ H2 hi ⟨rfl,v4,rfl⟩;obtain⟨z,rfl,hz⟩:=aQ hi;obtain⟨c,hc,rfl⟩:=cY hz;refine⟨_,rfl,_,rfl,_,_,rfl,by lia,by lia,_,rfl,?_⟩;rw[E4,E4];have e:iQ n (fs.take (i+1)) s=if s&&&c=s then iQ n (fs.take i) s&&&c else iQ n (fs.take i) s:=by rw[oK hc];unfold iQ;rw[GL];rfl
  refine cn (λhd=> ?_) λhd=> ?_
  .rw[E9 (Fi hd)]at e;refine⟨_,rfl,_,rfl,_,_,rfl,rfl,⟨rfl,some (.int (c:Int)),?_⟩⟩;rw[e,<-cZ];rfl
  .rw[Fg λh=>hd (E6 h)]at e;refine⟨rfl,some (.int (c:Int)),?_⟩;rw[e];rfl
 .rintro σ H2 ⟨rfl,v4,rfl⟩;rw[E3,bG,Gm];exact⟨_,rfl,k⟩
theorem sc_refuse:aE ["found"] ["found"] (aq s_refuse):=⟨rfl,rfl,rfl,by decide+kernel,rfl,by decide+kernel,by decide+kernel⟩
theorem xW(D:aS K mg "refuse" s_refuse ["found"]):Cal P w K mg base 1 "refuse" ["found"] gX:=by
 refine D.cal sc_refuse (λvs H Q E h=>by obtain⟨rfl,_⟩:=h;rfl) λf cdv A outer σs H vs Q E hr h=> ?_;obtain⟨rfl,k⟩:=h;refine⟨_,(af (a8 (aI wV (pv 0) ei (nomark _))
     (af z5)
     aN)),?_⟩
 exact⟨_,rfl,rfl,_,rfl,dt k⟩
theorem sc_house_of_frees:aE ["n","free","most"] ["n","free"] (aq s_house_of_frees):=⟨rfl,rfl,rfl,by decide+kernel,rfl,by decide+kernel,by decide+kernel⟩
theorem jq(T:Tb K mg)(D:aS K mg "house_of_frees" s_house_of_frees ["n","free"])(c_size:Cal P w K mg base 3 "size" ["s"] gx)(n_Listed:jQ P w K mg base 2 "Listed" C ["self","n","some"] (i9 K C)):
  Cal P w K mg base 4 "house_of_frees" ["n","free"] (ir K C):=by
 refine D.cal sc_house_of_frees (λvs H Q E h=>by obtain⟨a,n,fs,r,rfl,_⟩:=h;rfl) λf cdv A outer σs H vs Q E hr h=> ?_;obtain⟨a,n,fs,r,rfl,ha,hlen,M,hf,k⟩:=h;refine⟨_,(ae (aH (i:=2) sc_house_of_frees.nd (by rfl) (GD rfl) (aO (iT (K:=K) (by rfl) (by rfl)) (by rfl) T.max_ IE (aa (bR (vars:=["s"]) (frn:=[]) (fr:=[]) rfl (by rfl) (by rfl) (by rfl) (by rfl) FA (aF (K:=K) (by rfl) (pv 1)) (λ_ _ _ _=>(aB (i:=0) (show List.Nodup (["s"]:List PySem.Str) by decide+kernel) (by rfl) (E5 rfl))) (λ_ _ _ _=>bz) (λ_ _ _ _=>(ao c_size hr (by decide) (by rfl) (aa (pv 0) ab)))) ab)))
   (af (aD (iL n_Listed hr (by decide) (by rfl) (aa (pv 0) (aa (bR (vars:=["s"]) (frn:=["most"]) (fr:=[2]) rfl (by rfl) (by rfl) (by rfl) (by rfl) ⟨⟨by rfl,E5 (by rfl),E5 (by rfl)⟩,FA⟩ (aF (K:=K) (by rfl) (pv 1)) (λ_ _ _ _=>(aB (i:=0) (show List.Nodup (["s","most"]:List PySem.Str) by decide+kernel) (by rfl) (E5 rfl))) (λ_ _ _ _=>(bX (aI bS (ao c_size hr (by decide) (by rfl) (aa (pv 0) ab)) (pv 1) (nomark _)))) (λ_ _ _ _=>(pv 0))) ab)))))),?_⟩
 obtain⟨⟨b0,hb0,hb1⟩,hmost⟩:=yc M hf;have p8:=dy M.n8;refine⟨_,rfl,a,rfl,⟨_,ha⟩,?_⟩;refine bh (λ_=>true) (λx=> .int ((λz:Int=>((sz z.toNat:Nat):Int)) (aW x))) ha (by rw[E3,bG];exact Fc hlen (by decide)) (λi x vs H' R S hx hv sm hk=> ?_) λq H1 hq sm1 hl1=> ?_
 .obtain⟨v,rfl⟩:=aV hv;obtain⟨z,rfl,hz⟩:=aQ hx;obtain⟨s,hs,rfl⟩:=cp (E7 hz);have hs':=((hf s).mp hs).1;simp only[bU,dI,E9];refine⟨_,rfl,_,rfl,by lia,by lia,λH3 sm3=> ?_⟩;have q:=hk [some (.int (s:Int))] H3 rfl sm3;rw[E9 rfl]at q;exact q
 have hl2:H1 q=some (.lst ((fs.map λs=>((sz s:Nat):Int)).map V.int)):=by rw[hl1,aU (λ_=>true) (λz:Int=>((sz z.toNat:Nat):Int)) (aG fs),Gf.mpr λ_ _=>rfl];exact Fu (λl:List Int=>some (HO.lst (l.map V.int))) (by rw[aG,F5];rfl)
 refine⟨q,_,rfl,SqL.of hl2,?_,λm hm hmax=> ?_⟩
 .intro e;rw[List.map_eq_nil_iff]at e;rw[e]at hb0;cases hb0
 have em:m=((r (2^n-1):Nat):Int):=by obtain⟨s,hs,rfl⟩:=Fn.mp hm;have h1:=hmost s hs;have h2:=hmax _ (Fn.mpr ⟨b0,hb0,rfl⟩);lia
 subst em;have ha1:=sm1.seq ha;refine⟨_,rfl,_,rfl,a,rfl,⟨_,ha1⟩,?_⟩;refine bh (λx=>(λz:Int=>decide (sz z.toNat=r (2^n-1))) (aW x)) (λx=> .int ((λz:Int=>z) (aW x))) ha1 (by rw[E3,bG];exact Fc hlen (by decide)) (λi x vs H' R S hx hv sm hk=> ?_) λp H2 hp sm2 hl3=> ?_
 .obtain⟨v,rfl⟩:=aV hv;obtain⟨z,rfl,hz⟩:=aQ hx;obtain⟨s,hs,rfl⟩:=cp (E7 hz);have hs':=((hf s).mp hs).1;refine⟨_,rfl,_,rfl,by lia,by lia,λH3 sm3=>⟨_,rfl,rfl,_,rfl,?_⟩⟩;have q:=hk [some (.int (s:Int))] H3 rfl sm3;rw[E4,cI];have q':if decide (sz s=r (2^n-1))=true then R (.int (s:Int)) _ H3 else S _ H3:=q;show if decide (sz s=r (2^n-1))=true then _ else _;by_cases hc:decide (sz s=r (2^n-1))=true
  .rw[E9 hc]at q'⊢;exact⟨_,rfl,q'⟩
  .rw[Fg hc]at q'⊢;exact q'
 replace hl3:=hl3.trans (Fu (λl=>some (HO.lst l)) (aU (λz:Int=>decide (sz z.toNat=r (2^n-1))) (λz:Int=>z) (aG fs)));rw[show(λz:Int=>z)=id from rfl,Hh,bY]at hl3;have hl4:H2 p=some (.lst ((aG (fs.filter λs=>decide (sz s=r (2^n-1)))).map V.int)):=hl3;have blen:(aG (fs.filter λs=>decide (sz s=r (2^n-1)))).length<=256:=by rw[bG];exact Fc (Ga _ _) hlen
 refine λph dh nph ndh neh=>⟨ph,dh,p,_,_,rfl,ah,SqL.of (by rw[aC (aA hl4 nph),aC (aA hl4 ndh)];exact hl4),by lia,λtt HA htt oth hph htup=>⟨rfl,?_⟩⟩;have smA:Same H2 HA:=λb o e=>oth b o (by rw[aC (aA e nph),aC (aA e ndh)];exact e) (aA e nph);exact k ph HA ((sm1.trans sm2).trans smA) ((sm1.trans sm2).free nph) ⟨_,⟨dh,tt,hph,htup,by lia⟩,nK hf⟩
theorem sc_of_rings:aE ["n","rings"] ["n","rings"] (aq s_of_rings):=⟨rfl,rfl,rfl,by decide+kernel,rfl,by decide+kernel,by decide+kernel⟩
theorem sT(T:Tb K mg)(D:aS K mg "of_rings" s_of_rings ["n","rings"])(c_refuse:Cal P w K mg base 1 "refuse" ["found"] gX)(c_broken_rings:Cal P w K mg base 4 "broken_rings" ["n","rings"] (oX K))(c_house_of_frees:Cal P w K mg base 4 "house_of_frees" ["n","free"] (ir K C))
  (c_parts:Cal P w K mg base 3 "parts" ["s"] eI) (c_all_of:Cal P w K mg base 1 "all_of" ["n"] dJ) (c_holds_ring:Cal P w K mg base 2 "holds_ring" ["rings","s"] (mP K)):Cal P w K mg base 5 "of_rings" ["n","rings"] (oR K C):=by
 refine D.cal sc_of_rings (λvs H Q E h=>by obtain⟨a,n,rs,r,rfl,_⟩:=h;rfl) λf cdv A outer σs H vs Q E hr h=> ?_;obtain⟨a,n,rs,r,rfl,ha,M,hrs,k⟩:=h;refine⟨_,(ae (cq (ao c_refuse hr (by decide) (by rfl) (aa (ao c_broken_rings hr (by decide) (by rfl) (aa (pv 0) (aa (pv 1) ab))) ab)))
   (af (aD (ao c_house_of_frees hr (by decide) (by rfl) (aa (pv 0) (aa (bR (vars:=["s"]) (frn:=["rings"]) (fr:=[1]) rfl (by rfl) (by rfl) (by rfl) (by rfl) ⟨⟨by rfl,E5 (by rfl),E5 (by rfl)⟩,FA⟩ (aF (K:=K) (by rfl) (ao c_parts hr (by decide) (by rfl) (aa (ao c_all_of hr (by decide) (by rfl) (aa (pv 0) ab)) ab))) (λ_ _ _ _=>(aB (i:=0) (show List.Nodup (["s","rings"]:List PySem.Str) by decide+kernel) (by rfl) (E5 rfl))) (λ_ _ _ _=>(bX (eg (bT (ao c_holds_ring hr (by decide) (by rfl) (aa (pv 1) (aa (pv 0) ab))))))) (λ_ _ _ _=>(pv 0))) ab)))))),?_⟩
 have p8:=dy M.n8;have n8:=M.n8;have lt:=λc hc=>((hrs c).mp hc).1;refine⟨_,rfl,_,rfl,a,_,rs,rfl,ha,λc hc=>by have:=lt c hc;lia,λh0=>M.wJ ((hrs 0).mp h0).2 rfl,λc hc d hd hne hs=>hne (M.mT ((hrs c).mp hc).2 (lt d hd) ((hrs d).mp hd).2 (cW.mp hs)),
  λc hc d hd hne t ht hu=> ?_,λH1 sm1=> ?_⟩
 .obtain⟨e,h1,h2⟩:=M.third (lt c hc) (lt d hd) ((hrs c).mp hc).2 ((hrs d).mp hd).2 hne ht hu;have ku:(c|||d).testBit t=true:=eQ c d t ht;have el:aT (c|||d) (2^t)=(c|||d)^^^2^t:=h7 ku;exact⟨e,(hrs e).mpr ⟨h2.lt (M.cv (GF (lt c hc) (lt d hd)) ku),h1⟩,cW.mpr (by rw[el];exact h2)⟩
 refine⟨rfl,?_⟩;refine⟨_,rfl,_,rfl,(n:Int),rfl,by lia,by lia,?_⟩;rw[bW];refine⟨_,rfl,by lia,by lia,λp H2 sm2 hp2 hl2=>⟨p,rfl,⟨_,SqL.of hl2⟩,?_⟩⟩;rw[E4,df n (by lia)]at hl2;refine bh (λx=>(λz:Int=> !(rs.any λc=>decide (c&&&z.toNat=c))) (aW x)) (λx=> .int ((λz:Int=>z) (aW x))) (SqL.of hl2) (by rw[E3,E3,FD];exact Fc p8 (by decide)) (λi x vs H' R S hx hv sm hk=> ?_) λq H3 hq sm3 hl3=> ?_
 .obtain⟨v,rfl⟩:=aV hv;obtain⟨z,rfl,hz⟩:=aQ hx;obtain⟨s,hs,rfl⟩:=Fn.mp (E7 hz);have q:=hk [some (.int (s:Int))] H' rfl (Same.refl _);refine⟨_,rfl,_,rfl,a,rs,s,rfl,((sm1.trans sm2).trans sm).seq ha,_,rfl,?_⟩;have q':if(!(rs.any λc=>decide (c&&&s=c)))=true then R (.int (s:Int)) _ H' else S _ H':=q;show if(!(rs.any λc=>decide (c&&&s=c)))=true then _ else _;by_cases hc:(!(rs.any λc=>decide (c&&&s=c)))=true
  .rw[E9 hc]at q'⊢;exact⟨_,rfl,q'⟩
  .rw[Fg hc]at q'⊢;exact q'
 replace hl3:=hl3.trans (Fu (λl=>some (HO.lst l)) (aU (λz:Int=> !(rs.any λc=>decide (c&&&z.toNat=c))) (λz:Int=>z) ((List.range (2^n)).map λk:Nat=>(k:Int))));rw[show(λz:Int=>z)=id from rfl,Hh]at hl3;have e3:=bY (List.range (2^n)) (λz:Int=> !(rs.any λc=>decide (c&&&z.toNat=c)));have hl4:H3 q=some (.lst ((aG ((List.range (2^n)).filter λs=> !(rs.any λc=>decide (c&&&s=c)))).map V.int)):=hl3.trans (Fu (λl:List Int=>some (HO.lst (l.map V.int))) e3);refine⟨q,n,_,r,rfl,SqL.of hl4,Fc (Ga _ _) (by rw[FD];exact p8),M,λs=> ?_,λph HA smA hph hL=>k ph HA (((sm1.trans sm2).trans sm3).trans smA) (((sm1.trans sm2).trans sm3).free hph) hL⟩;rw[FH,Fl];refine IM λhs=> ?_;rw[M.tT hs,HX,JT];constructor
 .intro h c hc hsub;exact h c ((hrs c).mpr ⟨hsub.lt hs,hc⟩) (E6 (cW.mpr hsub))
 .intro h c hc hd;exact h c ((hrs c).mp hc).2 (cW.mp (Fi hd))
theorem sc_of_ranks:aE ["n","ranks"] ["n","ranks"] (aq s_of_ranks):=⟨rfl,rfl,rfl,by decide+kernel,rfl,by decide+kernel,by decide+kernel⟩
theorem sU(T:Tb K mg)(D:aS K mg "of_ranks" s_of_ranks ["n","ranks"])(c_refuse:Cal P w K mg base 1 "refuse" ["found"] gX)(c_broken_ranks:Cal P w K mg base 6 "broken_ranks" ["n","ranks"] (oY K))(c_house_of_frees:Cal P w K mg base 4 "house_of_frees" ["n","free"] (ir K C))
  (c_parts:Cal P w K mg base 3 "parts" ["s"] eI) (c_all_of:Cal P w K mg base 1 "all_of" ["n"] dJ) (c_size:Cal P w K mg base 3 "size" ["s"] gx):Cal P w K mg base 7 "of_ranks" ["n","ranks"] (oS K C):=by
 refine D.cal sc_of_ranks (λvs H Q E h=>by obtain⟨a,n,r,rfl,_⟩:=h;rfl) λf cdv A outer σs H vs Q E hr h=> ?_;obtain⟨a,n,r,rfl,ha,M,k⟩:=h;refine⟨_,(ae (cq (ao c_refuse hr (by decide) (by rfl) (aa (ao c_broken_ranks hr (by decide) (by rfl) (aa (pv 0) (aa (pv 1) ab))) ab)))
   (af (aD (ao c_house_of_frees hr (by decide) (by rfl) (aa (pv 0) (aa (bR (vars:=["s"]) (frn:=["ranks"]) (fr:=[1]) rfl (by rfl) (by rfl) (by rfl) (by rfl) ⟨⟨by rfl,E5 (by rfl),E5 (by rfl)⟩,FA⟩ (aF (K:=K) (by rfl) (ao c_parts hr (by decide) (by rfl) (aa (ao c_all_of hr (by decide) (by rfl) (aa (pv 0) ab)) ab))) (λ_ _ _ _=>(aB (i:=0) (show List.Nodup (["s","ranks"]:List PySem.Str) by decide+kernel) (by rfl) (E5 rfl))) (λ_ _ _ _=>(bX (aI bS (aK (av (K:=K) (by rfl)) (pv 1) (pv 0) (λ_ _=>rfl)) (ao c_size hr (by decide) (by rfl) (aa (pv 0) ab)) (nomark _)))) (λ_ _ _ _=>(pv 0))) ab)))))),?_⟩
 have p8:=dy M.n8;have n8:=M.n8;refine⟨_,rfl,_,rfl,a,n,r,rfl,ha,M,λH1 sm1=> ?_⟩;refine⟨rfl,?_⟩;refine⟨_,rfl,_,rfl,(n:Int),rfl,by lia,by lia,?_⟩;rw[bW];refine⟨_,rfl,by lia,by lia,λp H2 sm2 hp2 hl2=>⟨p,rfl,⟨_,SqL.of hl2⟩,?_⟩⟩;rw[E4,df n (by lia)]at hl2;refine bh (λx=>(λz:Int=>decide (r z.toNat=sz z.toNat)) (aW x)) (λx=> .int ((λz:Int=>z) (aW x))) (SqL.of hl2) (by rw[E3,E3,FD];exact Fc p8 (by decide)) (λi x vs H' R S hx hv sm hk=> ?_) λq H3 hq sm3 hl3=> ?_
 .obtain⟨v,rfl⟩:=aV hv;obtain⟨z,rfl,hz⟩:=aQ hx;obtain⟨s,hs,rfl⟩:=Fn.mp (E7 hz);have hs':=Fl.mp hs;refine⟨_,rfl,_,rfl,a,_,_,_,rfl,rfl,((sm1.trans sm2).trans sm).seq ha,sM r hs',_,rfl,_,rfl,by lia,by lia,λH4 sm4=>⟨rfl,_,rfl,?_⟩⟩;have q:=hk [some (.int (s:Int))] H4 rfl sm4;rw[E4,cI];have q':if decide (r s=sz s)=true then R (.int (s:Int)) _ H4 else S _ H4:=q;show if decide (r s=sz s)=true then _ else _;by_cases hc:decide (r s=sz s)=true
  .rw[E9 hc]at q'⊢;exact⟨_,rfl,q'⟩
  .rw[Fg hc]at q'⊢;exact q'
 replace hl3:=hl3.trans (Fu (λl=>some (HO.lst l)) (aU (λz:Int=>decide (r z.toNat=sz z.toNat)) (λz:Int=>z) ((List.range (2^n)).map λk:Nat=>(k:Int))));rw[show(λz:Int=>z)=id from rfl,Hh]at hl3;have e3:=bY (List.range (2^n)) (λz:Int=>decide (r z.toNat=sz z.toNat));have hl4:H3 q=some (.lst ((aG ((List.range (2^n)).filter λs=>decide (r s=sz s))).map V.int)):=hl3.trans (Fu (λl:List Int=>some (HO.lst (l.map V.int))) e3);refine⟨q,n,_,r,rfl,SqL.of hl4,Fc (Ga _ _) (by rw[FD];exact p8),M,λs=> ?_,λph HA smA hph hL=>k ph HA (((sm1.trans sm2).trans sm3).trans smA) (((sm1.trans sm2).trans sm3).free hph) hL⟩;rw[FH,Fl];exact IM λhs=>⟨λh=>Fi h,λh=>E6 h⟩
theorem sc_of_bases:aE ["n","bases"] ["n","bases"] (aq s_of_bases):=⟨rfl,rfl,rfl,by decide+kernel,rfl,by decide+kernel,by decide+kernel⟩
theorem sW(T:Tb K mg)(D:aS K mg "of_bases" s_of_bases ["n","bases"])(c_refuse:Cal P w K mg base 1 "refuse" ["found"] gX)(c_broken_bases:Cal P w K mg base 4 "broken_bases" ["n","bases"] (o3 K))(n_Listed:jQ P w K mg base 2 "Listed" C ["self","n","some"] (i9 K C)):
  Cal P w K mg base 5 "of_bases" ["n","bases"] (oU K C):=by
 refine D.cal sc_of_bases (λvs H Q E h=>by obtain⟨a,n,bs,r,rfl,_⟩:=h;rfl) λf cdv A outer σs H vs Q E hr h=> ?_;obtain⟨a,n,bs,r,rfl,ha,hlen,M,hbs,k⟩:=h;refine⟨_,(ae (cq (ao c_refuse hr (by decide) (by rfl) (aa (ao c_broken_bases hr (by decide) (by rfl) (aa (pv 0) (aa (pv 1) ab))) ab)))
   (af (aD (iL n_Listed hr (by decide) (by rfl) (aa (pv 0) (aa (pv 1) ab)))))),?_⟩
 have p8:=dy M.n8;have n8:=M.n8;refine⟨_,rfl,_,rfl,a,_,bs,rfl,ha,?_,hlen,λb hb=>by have:=((hbs b).mp hb).1;lia,λb hb c hc t ht hu=> ?_,λH1 sm1=> ?_⟩
 .intro e;obtain⟨b,_,h2,h3,h4⟩:=M.extend (s:=0) (t:=2^n-1) (λk h=>by rw[Hc]at h;cases h) (cx n) (by rw[M.zero,gw]);have:=(hbs b).mpr ⟨h2.lt (cx n),h3,h4⟩;rw[e]at this;cases this
 .obtain⟨y,h1,h2,h3⟩:=M.exch ((hbs b).mp hb) ((hbs c).mp hc) ht hu;refine⟨y,h1,h2,?_⟩;rw[h7 ht];exact(hbs _).mpr h3
 refine⟨rfl,?_⟩;have ha1:=sm1.seq ha;refine⟨_,rfl,_,rfl,?_⟩;refine λph dh nph ndh neh=>⟨ph,dh,a,_,aG bs,rfl,ah,(pj nph ndh).seq ha1,by rw[bG];lia,λtt HA htt oth hph htup=>⟨rfl,?_⟩⟩;have smA:Same H1 HA:=λb o e=>oth b o (pj nph ndh b o e) (aA e nph);refine k ph HA (sm1.trans smA) (sm1.free nph) ⟨aG bs,⟨dh,tt,hph,htup,by rw[bG];lia⟩,λz=> ?_⟩;constructor
 .intro h;obtain⟨b,hb,rfl⟩:=cp h;obtain⟨h1,h2,h3⟩:=(hbs b).mp hb;exact⟨b,h1,rfl,h2,h3⟩
 .rintro⟨b,h1,rfl,h2,h3⟩;exact Fn.mpr ⟨b,(hbs b).mpr ⟨h1,h2,h3⟩,rfl⟩
theorem sc_is_free:aE ["over","s"] ["over","s"] (aq s_is_free):=⟨rfl,rfl,rfl,by decide+kernel,rfl,by decide+kernel,by decide+kernel⟩
theorem vp(T:Tb K mg)(D:aS K mg "is_free" s_is_free ["over","s"])(c_holds:Cal P w K mg base 1 "holds" ["s","thing"] qE)(c_things:Cal P w K mg base 2 "things" ["s"] cf)(c_less:Cal P w K mg base 1 "less" ["s","t"] d6):Cal P w K mg base 3 "is_free" ["over","s"] (sq K):=by
 refine D.cal sc_is_free (λvs H Q E h=>by obtain⟨a,n,s,r,rfl,_⟩:=h;rfl) λf cdv A outer σs H vs Q E hr h=> ?_;obtain⟨a,n,s,r,rfl,ha,hs,M,k⟩:=h;refine⟨_,(af (aD (z8 (aO (vZ (K:=K) (by rfl) (by rfl)) (by rfl) T.any_ PyProof.Rows.boot_any (aa (bR (vars:=["thing"]) (frn:=["over","s"]) (fr:=[0,1]) rfl (by rfl) (by rfl) (by rfl) (by rfl) ⟨⟨by rfl,E5 (by rfl),E5 (by rfl)⟩,⟨⟨by rfl,E5 (by rfl),E5 (by rfl)⟩,FA⟩⟩ (aF (K:=K) (by rfl) (ao c_things hr (by decide) (by rfl) (aa (pv 1) ab))) (λ_ _ _ _=>(aB (i:=0) (show List.Nodup (["thing","over","s"]:List PySem.Str) by decide+kernel) (by rfl) (E5 rfl))) (λ_ _ _ _=>bz) (λ_ _ _ _=>(ao c_holds hr (by decide) (by rfl) (aa (aK (av (K:=K) (by rfl)) (pv 1) (ao c_less hr (by decide) (by rfl) (aa (pv 2) (aa (aw bJ ag (pv 0)) ab))) (λ_ _=>rfl)) (aa (pv 0) ab))))) ab))))),?_⟩;have p8:=dy M.n8;have n8:=M.n8;refine⟨_,rfl,_,rfl,by lia,by lia,λp H1 sm1 hp hl1=>⟨p,rfl,⟨_,SqL.of hl1⟩,?_⟩⟩;rw[E4]at hl1;have b8:(bits s).length<=8:=bZ s;refine bh (λ_=>true) (λx=> .bl ((clR n r (s^^^2^(aW x).toNat)).testBit (aW x).toNat)) (SqL.of hl1) (by rw[E3];exact Fc b8 (by decide)) (λi x vs H' R S hx hv sm hk=> ?_) λq H2 hq sm2 hl2=> ?_
 .obtain⟨v,rfl⟩:=aV hv;obtain⟨z,rfl,hz⟩:=aQ hx;obtain⟨t,t8,htb,rfl⟩:=bg.mp (E7 hz);simp only[bU,dI,E9];have ti:((t:Int)).toNat=t:=E4 t;have lt1:=M.cv hs htb;have q:=hk [some (.int (t:Int))] H' rfl (Same.refl _);rw[E9 rfl]at q;refine⟨_,rfl,_,rfl,_,rfl,_,_,rfl,rfl,⟨by lia,by lia,by decide⟩,s,2^t,?_,?_⟩
  ·(try dsimp only);rw[dM];rfl
  rw[h7 htb];refine⟨a,_,_,_,rfl,rfl,(sm1.trans sm).seq ha,sM (clR n r) lt1,_,rfl,_,_,rfl,by lia,by lia,?_⟩;rw[E4,E4];have q':R (.bl ((clR n r (s^^^2^((t:Int)).toNat)).testBit ((t:Int)).toNat)) [some (.int (t:Int)),_,_] H':=q;rw[ti]at q';exact q'
 have hl3:H2 q=some (.lst (((bits s).map λz=>(clR n r (s^^^2^z.toNat)).testBit z.toNat).map V.bl)):=by rw[hl2];unfold dq;rw[Gf.mpr (λ_ _=>rfl),F5,F5];rfl
 refine⟨q,_,rfl,SqL.of hl3,_,rfl,?_⟩;have e:(!((bits s).map λz=>(clR n r (s^^^2^z.toNat)).testBit z.toNat).any id)=decide (r s=sz s):=by
  rw[Gz,HX,JT,F7,M.w8 hs];constructor
  .intro h k hk;have kn:=bB hs hk;have:=h _ (Fn.mpr ⟨(k:Int),bg.mpr ⟨k,by lia,hk,rfl⟩,rfl⟩);rw[E4]at this;simpa using this
  .intro h b hb;obtain⟨z,hz,rfl⟩:=Fn.mp hb;obtain⟨k,_,hk,rfl⟩:=bg.mp hz;rw[E4,h k hk];exact Fo
 have kk:=k H2 (sm1.trans sm2);rw[<-e]at kk;exact kk
theorem sc_of_flats:aE ["n","flats","sets","over"] ["n","flats"] (aq s_of_flats):=⟨rfl,rfl,rfl,by decide+kernel,rfl,by decide+kernel,by decide+kernel⟩
theorem sV(T:Tb K mg)(D:aS K mg "of_flats" s_of_flats ["n","flats"])(c_refuse:Cal P w K mg base 1 "refuse" ["found"] gX)(c_broken_flats:Cal P w K mg base 6 "broken_flats" ["n","flats"] (oZ K))(c_house_of_frees:Cal P w K mg base 4 "house_of_frees" ["n","free"] (ir K C))
  (c_parts:Cal P w K mg base 3 "parts" ["s"] eI) (c_all_of:Cal P w K mg base 1 "all_of" ["n"] dJ) (c_least_flat:Cal P w K mg base 2 "least_flat" ["n","flats","s"] (mN K)) (c_is_free:Cal P w K mg base 3 "is_free" ["over","s"] (sq K)):Cal P w K mg base 7 "of_flats" ["n","flats"] (oT K C):=by
 refine D.cal sc_of_flats (λvs H Q E h=>by obtain⟨a,n,fs,r,rfl,_⟩:=h;rfl) λf cdv A outer σs H vs Q E hr h=> ?_;obtain⟨a,n,fs,r,rfl,ha,M,hfs,hfl,k⟩:=h;refine⟨_,(ae (cq (ao c_refuse hr (by decide) (by rfl) (aa (ao c_broken_flats hr (by decide) (by rfl) (aa (pv 0) (aa (pv 1) ab))) ab)))
   (ae (aH (i:=2) sc_of_flats.nd (by rfl) (E5 rfl) (ao c_parts hr (by decide) (by rfl) (aa (ao c_all_of hr (by decide) (by rfl) (aa (pv 0) ab)) ab)))
   (ae (aH (i:=3) sc_of_flats.nd (by rfl) (GD rfl) (bR (vars:=["s"]) (frn:=["n","flats"]) (fr:=[0,1]) rfl (by rfl) (by rfl) (by rfl) (by rfl) ⟨⟨by rfl,E5 (by rfl),E5 (by rfl)⟩,⟨⟨by rfl,E5 (by rfl),E5 (by rfl)⟩,FA⟩⟩ (aF (K:=K) (by rfl) (pv 2)) (λ_ _ _ _=>(aB (i:=0) (show List.Nodup (["s","n","flats"]:List PySem.Str) by decide+kernel) (by rfl) (E5 rfl))) (λ_ _ _ _=>bz) (λ_ _ _ _=>(ao c_least_flat hr (by decide) (by rfl) (aa (pv 1) (aa (pv 2) (aa (pv 0) ab)))))))
   (af (aD (ao c_house_of_frees hr (by decide) (by rfl) (aa (pv 0) (aa (bR (vars:=["s"]) (frn:=["over"]) (fr:=[3]) rfl (by rfl) (by rfl) (by rfl) (by rfl) ⟨⟨by rfl,E5 (by rfl),E5 (by rfl)⟩,FA⟩ (aF (K:=K) (by rfl) (pv 2)) (λ_ _ _ _=>(aB (i:=0) (show List.Nodup (["s","over"]:List PySem.Str) by decide+kernel) (by rfl) (E5 rfl))) (λ_ _ _ _=>(bX (bT (ao c_is_free hr (by decide) (by rfl) (aa (pv 1) (aa (pv 0) ab)))))) (λ_ _ _ _=>(pv 0))) ab)))))))),?_⟩
 have p8:=dy M.n8;have n8:=M.n8;refine⟨_,rfl,_,rfl,a,n,fs,r,rfl,ha,M,hfs,hfl,λH1 sm1=> ?_⟩;refine⟨rfl,?_⟩;refine⟨_,rfl,(n:Int),rfl,by lia,by lia,?_⟩;rw[bW];refine⟨_,rfl,by lia,by lia,λp H2 sm2 hp2 hl2=> ?_⟩;rw[E4,df n (by lia)]at hl2;refine⟨_,rfl,p,rfl,⟨_,SqL.of hl2⟩,?_⟩;refine bh (λ_=>true) (λx=> .int ((λz:Int=>((clR n r z.toNat:Nat):Int)) (aW x))) (SqL.of hl2) (by rw[E3,E3,FD];exact Fc p8 (by decide)) (λi x vs H' R S hx hv sm hk=> ?_) λq H3 hq sm3 hl3=> ?_
 .obtain⟨v,rfl⟩:=aV hv;obtain⟨z,rfl,hz⟩:=aQ hx;obtain⟨s,hs,rfl⟩:=Fn.mp (E7 hz);have hs':=Fl.mp hs;simp only[bU,dI,E9];refine⟨_,rfl,_,rfl,_,rfl,a,n,s,fs,rfl,n8,((sm1.trans sm2).trans sm).seq ha,?_⟩;have q:=hk [some (.int (s:Int))] H' rfl (Same.refl _);rw[E9 rfl]at q;rw[M.leastF_cl hfs hs'];exact q
 have hl4:H3 q=some (.lst ((aG ((List.range (2^n)).map (clR n r))).map V.int)):=by rw[hl3,aU (λ_=>true) (λz:Int=>((clR n r z.toNat:Nat):Int)) ((List.range (2^n)).map λk:Nat=>(k:Int)),Gf.mpr λ_ _=>rfl];exact Fu (λl:List Int=>some (HO.lst (l.map V.int))) (by rw[aG,F5,F5];rfl)
 have hl5:=sm3.at hl2;refine⟨_,rfl,_,rfl,p,rfl,⟨_,SqL.of hl5⟩,?_⟩;refine bh (λx=>(λz:Int=>decide (r z.toNat=sz z.toNat)) (aW x)) (λx=> .int ((λz:Int=>z) (aW x))) (SqL.of hl5) (by rw[E3,E3,FD];exact Fc p8 (by decide)) (λi x vs H' R S hx hv sm hk=> ?_) λq2 H4 hq2 sm4 hl6=> ?_
 .obtain⟨v,rfl⟩:=aV hv;obtain⟨z,rfl,hz⟩:=aQ hx;obtain⟨s,hs,rfl⟩:=Fn.mp (E7 hz);have hs':=Fl.mp hs;refine⟨_,rfl,_,rfl,q,n,s,r,rfl,SqL.of (sm.at hl4),hs',M,λH5 sm5=>⟨_,rfl,?_⟩⟩;have q':if decide (r s=sz s)=true then R (.int (s:Int)) _ H5 else S _ H5:=hk [some (.int (s:Int))] H5 rfl sm5;by_cases hc:decide (r s=sz s)=true
  .rw[E9 hc]at q'⊢;exact⟨_,rfl,q'⟩
  .rw[Fg hc]at q'⊢;exact q'
 replace hl6:=hl6.trans (Fu (λl=>some (HO.lst l)) (aU (λz:Int=>decide (r z.toNat=sz z.toNat)) (λz:Int=>z) ((List.range (2^n)).map λk:Nat=>(k:Int))));rw[show(λz:Int=>z)=id from rfl,Hh]at hl6;have e3:=bY (List.range (2^n)) (λz:Int=>decide (r z.toNat=sz z.toNat));have hl7:H4 q2=some (.lst ((aG ((List.range (2^n)).filter λs=>decide (r s=sz s))).map V.int)):=hl6.trans (Fu (λl:List Int=>some (HO.lst (l.map V.int))) e3);have smx:=((sm1.trans sm2).trans sm3).trans sm4;refine⟨q2,n,_,r,rfl,SqL.of hl7,Fc (Ga _ _) (by rw[FD];exact p8),M,λs=> ?_,λph HA smA hph hL=>k ph HA (smx.trans smA) (smx.free hph) hL⟩;rw[FH,Fl];exact IM λhs=>⟨λh=>Fi h,λh=>E6 h⟩
theorem sc_marked:aE ["sets"] ["sets"] (aq s_marked):=⟨rfl,rfl,rfl,by decide+kernel,rfl,by decide+kernel,by decide+kernel⟩
theorem xX(T:Tb K mg)(D:aS K mg "marked" s_marked ["sets"]):Cal P w K mg base 2 "marked" ["sets"] (mM K):=by
 refine D.cal sc_marked (λvs H Q E h=>by obtain⟨a,bs,rfl,_⟩:=h;rfl) λf cdv A outer σs H vs Q E hr h=> ?_;obtain⟨a,bs,rfl,ha,hlen,k⟩:=h;refine⟨_,(af (aD (dD (uf (by rfl)) (by rfl) T.dict_ PyProof.Rows.boot_dict (aa (bR (vars:=["s"]) (frn:=[]) (fr:=[]) rfl (by rfl) (by rfl) (by rfl) (by rfl) FA (aF (K:=K) (by rfl) (pv 0)) (λ_ _ _ _=>(aB (i:=0) (show List.Nodup (["s"]:List PySem.Str) by decide+kernel) (by rfl) (E5 rfl))) (λ_ _ _ _=>bz) (λ_ _ _ _=>(cA (aa (pv 0) (aa dz ab))))) ab)))),?_⟩;refine⟨_,rfl,a,rfl,⟨_,ha⟩,?_⟩;refine h9 (λx y G=>∃t,y= .ref t/\G t=some (.tup [x, .bl true])) (λx y G G' e h=>by obtain⟨t,e1,g1⟩:=h;exact⟨t,e1,e.at g1⟩) ha (by rw[E3,bG];exact Fc hlen (by decide)) (λj x vs D H' R S hxj hv sm hD hk=> ?_) λq H1 ys hq sm1 hq1 hl hR=> ?_
 .obtain⟨v,rfl⟩:=aV hv;obtain⟨l,hl⟩:=hD;simp only[bU,dI,E9];refine⟨_,rfl,by show 2<=sizeLine;decide,λpt hpt=>hk (.ref pt) [some x] _ ⟨pt,rfl,?_⟩ rfl (Same.new hpt)⟩;rw[fX (aA hl hpt).symm];exact ah
 have hl':ys.length=bs.length:=by rw[hl,E3,bG]
 refine⟨q,ys,bs.map λb:Nat=>((Sum.inl (b:Int):Key),V.bl true),rfl,hq1,by rw[E3,hl'],by rw[E3];lia,λj p hp=> ?_,λd hd=> ?_⟩
 .rw[Fm]at hp;cases hb:bs[j]? with
  |none=>rw[hb]at hp;cases hp
  |some b=>
   rw[hb]at hp;cases hp;have hj:j<ys.length:=by rw[hl'];exact(Fd.mp hb).1
   obtain⟨t,e1,g1⟩:=hR j (.int (b:Int)) ys[j] (by unfold aG;rw[Fm,Fm,hb];rfl) (Fs hj);exact⟨t,by rw[Fs hj,e1],fv.at g1⟩
 .have smd:Same H1 (upd H1 d (.dK (iJ [] (bs.map λb:Nat=>((Sum.inl (b:Int):Key),V.bl true))))):=Same.new hd;exact k d _ (sm1.trans smd) (sm1.free hd) ⟨_,ah,λj=>by rw[kH];rfl⟩
theorem sc_has_exchange:aE ["listed","one","other","thing","y"] ["listed","one","other","thing"] (aq s_has_exchange):=⟨rfl,rfl,rfl,by decide+kernel,rfl,by decide+kernel,by decide+kernel⟩
theorem lg(T:Tb K mg)(D:aS K mg "has_exchange" s_has_exchange ["listed","one","other","thing"])(c_things:Cal P w K mg base 2 "things" ["s"] cf)(c_less:Cal P w K mg base 1 "less" ["s","t"] d6)(c_exchanged:Cal P w K mg base 2 "exchanged" ["s","thing","y"] gY):
  Cal P w K mg base 3 "has_exchange" ["listed","one","other","thing"] wF:=by
 refine D.cal sc_has_exchange (λvs H Q E h=>by obtain⟨p,bs,b,c,t,rfl,_⟩:=h;rfl) λf cdv A outer σs H vs Q E hr h=> ?_;obtain⟨p,bs,b,c,t,rfl,hp,b8,c8,t8,⟨y0,hy1,hy2,hy3⟩,k⟩:=h;refine⟨_,(ae (aZ Fx rfl (aF (K:=K) (by rfl) (ao c_things hr (by decide) (by rfl) (aa (ao c_less hr (by decide) (by rfl) (aa (pv 2) (aa (pv 1) ab))) ab))) (aB (i:=4) sc_has_exchange.nd (by rfl) (E5 rfl))
     (af (a8 (zY (Dv (Ft (IK (by decide) _) hr.units) (ao c_exchanged hr (by decide) (by rfl) (aa (pv 1) (aa (pv 3) (aa (pv 4) ab)))) (pv 0)))
       (af (aD dz))
       aN)))
   (af (aD dz))),?_⟩
 have l8:aT c b<256:=Ft (cR c b) c8;refine⟨_,rfl,_,rfl,c,b,rfl,_,rfl,by lia,by lia,λq H1 sm1 hq hl1=>⟨q,rfl,⟨_,SqL.of hl1⟩,?_⟩⟩;rw[E4]at hl1;have hy8:y0<8:=bB (n:=8) c8 hy1;have hm:(y0:Int)∈bits (aT c b):=bg.mpr ⟨y0,hy8,by rw[eT,hy1,hy2];rfl,rfl⟩;obtain⟨i0,hi0⟩:=Gw hm;refine ba (K:=K) (a:=q) (xs:=(bits (aT c b)).map V.int) (λi σ H2=>Same H1 H2/\i<=i0/\∃v4,σ=[some (.ref p),some (.int (b:Int)),some (.int (c:Int)),some (.int (t:Int)),v4]) ⟨Same.refl _,FV _,none,rfl⟩ (λi σ H2 _ q=>SqL.of (q.1.at hl1)) ?_ ?_
 .rintro i x σ H2 hi ⟨sm2,hle,v4,rfl⟩;obtain⟨z,rfl,hz⟩:=aQ hi;obtain⟨y,y8,hyb,rfl⟩:=bg.mp (E7 hz);obtain⟨kvs,hd,hk⟩:=(hp.same sm1).same sm2;refine⟨_,rfl,_,rfl,_,rfl,b,t,y,rfl,t8,y8,_,rfl,p,_,rfl,kA.k (k:=Sum.inl ((fb b t y:Nat):Int)) hd,_,rfl,?_⟩;rw[hk];refine cn (λhc=> ?_) λhc=> ?_
  .exact k H2 (sm1.trans sm2)
  .refine⟨sm2,?_,_,rfl⟩;refine JL hle λe=> ?_;subst e;rw[hi0]at hz;have:y0=y:=by have:=F9 hz;lia
   subst this;exact hc (E6 hy3)
 .rintro σ H2 ⟨sm2,hle,v4,rfl⟩;exact absurd (Fd.mp hi0).1 (J5 (by rw[E3]at hle;exact hle))
theorem sc_broken_bases:aE ["n","bases","listed","one","other","thing"] ["n","bases"] (aq s_broken_bases):=⟨rfl,rfl,rfl,by decide+kernel,rfl,by decide+kernel,by decide+kernel⟩
theorem lu(T:Tb K mg)(D:aS K mg "broken_bases" s_broken_bases ["n","bases"])(c_marked:Cal P w K mg base 2 "marked" ["sets"] (mM K))(c_things:Cal P w K mg base 2 "things" ["s"] cf)(c_less:Cal P w K mg base 1 "less" ["s","t"] d6)(c_has_exchange:Cal P w K mg base 3 "has_exchange" ["listed","one","other","thing"] wF):
  Cal P w K mg base 4 "broken_bases" ["n","bases"] (o3 K):=by
 refine D.cal sc_broken_bases (λvs H Q E h=>by obtain⟨a,n,bs,rfl,_⟩:=h;rfl) λf cdv A outer σs H vs Q E hr h=> ?_;obtain⟨a,n,bs,rfl,ha,hne,hlen,hbd,hex,k⟩:=h;refine⟨_,(ae (a8 (aI bS (aO (aM (K:=K) (by rfl)) (by rfl) T.len_ FY (aa (pv 1) ab)) ag (nomark _))
     (af (aD (cA (aa ag (aa ag (aa (jh gv ag) ab))))))
     aN)
   (ae (aH (i:=2) sc_broken_bases.nd (by rfl) (E5 rfl) (ao c_marked hr (by decide) (by rfl) (aa (pv 1) ab)))
   (ae (aZ Fx rfl (aF (K:=K) (by rfl) (pv 1)) (aB (i:=3) sc_broken_bases.nd (by rfl) (E5 rfl))
     (af (aZ Fx rfl (aF (K:=K) (by rfl) (pv 1)) (aB (i:=4) sc_broken_bases.nd (by rfl) (E5 rfl))
       (af (aZ Fx rfl (aF (K:=K) (by rfl) (ao c_things hr (by decide) (by rfl) (aa (ao c_less hr (by decide) (by rfl) (aa (pv 3) (aa (pv 4) ab))) ab))) (aB (i:=5) sc_broken_bases.nd (by rfl) (E5 rfl))
         (af (a8 (eg (bT (ao c_has_exchange hr (by decide) (by rfl) (aa (pv 2) (aa (pv 3) (aa (pv 4) (aa (pv 5) ab)))))))
           (af (aD (cA (aa (pv 3) (aa (pv 4) (aa (pv 5) ab))))))
           aN)))))))
   (af (aD ei))))),?_⟩
 refine⟨_,rfl,a,_,rfl, .inl ha,rfl,_,rfl,?_⟩;rw[E3,bG,E8 (λe=>hne (Iw (by have:=V.int.inj e;lia)))];refine dt ?_;refine⟨_,rfl,a,bs,rfl,ha,hlen,λp H1 sm1 hp hm=> ?_⟩;have ha1:=sm1.seq ha;refine⟨_,rfl,a,rfl,⟨_,ha1⟩,?_⟩;refine ba (K:=K) (a:=a) (xs:=(aG bs).map V.int) (λi σ H2=>Same H1 H2/\∃v3 v4 v5,σ=[some n,some (.ref a),some (.ref p),v3,v4,v5]) ⟨Same.refl _,none,none,none,rfl⟩ (λi σ H2 _ q=>q.1.seq ha1) ?_ ?_
 .rintro i x σ H2 hi ⟨sm2,v3,v4,v5,rfl⟩;obtain⟨z,rfl,hz⟩:=aQ hi;obtain⟨b,hb,rfl⟩:=cY hz;have bm:=E7 hb;refine⟨_,rfl,a,rfl,⟨_,sm2.seq ha1⟩,?_⟩;refine ba (K:=K) (a:=a) (xs:=(aG bs).map V.int) (λi σ H3=>Same H1 H3/\∃v4 v5,σ=[some n,some (.ref a),some (.ref p),some (.int (b:Int)),v4,v5]) ⟨sm2,v4,v5,rfl⟩ (λi σ H2 _ q=>q.1.seq ha1) ?_ ?_
  .rintro j x σ H3 hj ⟨sm3,v4,v5,rfl⟩;obtain⟨z,rfl,hz⟩:=aQ hj;obtain⟨c,hc,rfl⟩:=cY hz;have cm:=E7 hc;have b8:=hbd b bm;have c8:=hbd c cm;have l8:aT b c<256:=Ft (cR b c) b8;refine⟨_,rfl,_,rfl,b,c,rfl,_,rfl,by lia,by lia,λq H4 sm4 hq hl4=>⟨q,rfl,⟨_,SqL.of hl4⟩,?_⟩⟩;rw[E4]at hl4;refine ba (K:=K) (a:=q) (xs:=(bits (aT b c)).map V.int) (λi σ H5=>Same H4 H5/\∃v5,σ=[some n,some (.ref a),some (.ref p),some (.int (b:Int)),some (.int (c:Int)),v5]) ⟨Same.refl _,v5,rfl⟩ (λi σ H2 _ q=>SqL.of (q.1.at hl4)) ?_ ?_
   .rintro l x σ H5 hl ⟨sm5,v5,rfl⟩;obtain⟨z,rfl,hz⟩:=aQ hl;obtain⟨t,t8,htb,rfl⟩:=bg.mp (E7 hz);rw[eT,Fp,HX]at htb;refine⟨_,rfl,_,rfl,_,rfl,_,rfl,p,bs,b,c,t,rfl,((hm.same sm3).same sm4).same sm5,b8,c8,t8,hex b bm c cm t htb.1 htb.2,λH6 sm6=>⟨_,rfl,dt ⟨sm5.trans sm6,_,rfl⟩⟩⟩
   .rintro σ H5 ⟨sm5,v5,rfl⟩;exact⟨sm3.trans (sm4.trans sm5),_,_,rfl⟩
  .rintro σ H3 ⟨sm3,v4,v5,rfl⟩;exact⟨sm3,_,_,_,rfl⟩
 .rintro σ H2 ⟨sm2,v3,v4,v5,rfl⟩;exact k _ (sm1.trans sm2)
theorem sc_common_not_listed:aE ["flats","listed","one","other"] ["flats"] (aq s_common_not_listed):=⟨rfl,rfl,rfl,by decide+kernel,rfl,by decide+kernel,by decide+kernel⟩
theorem hU(T:Tb K mg)(D:aS K mg "common_not_listed" s_common_not_listed ["flats"])(c_marked:Cal P w K mg base 2 "marked" ["sets"] (mM K)):Cal P w K mg base 3 "common_not_listed" ["flats"] (oV K):=by
 refine D.cal sc_common_not_listed (λvs H Q E h=>by obtain⟨a,fs,rfl,_⟩:=h;rfl) λf cdv A outer σs H vs Q E hr h=> ?_;obtain⟨a,fs,rfl,ha,hlen,hcl,k⟩:=h;refine⟨_,(ae (aH (i:=1) sc_common_not_listed.nd (by rfl) (E5 rfl) (ao c_marked hr (by decide) (by rfl) (aa (pv 0) ab)))
   (ae (aZ Fx rfl (aF (K:=K) (by rfl) (pv 0)) (aB (i:=2) sc_common_not_listed.nd (by rfl) (E5 rfl))
     (af (aZ Fx rfl (aF (K:=K) (by rfl) (pv 0)) (aB (i:=3) sc_common_not_listed.nd (by rfl) (E5 rfl))
       (af (a8 (PW.pt (gA (aI kM (pv 2) (pv 3) (nomark _)) (gz (zY (xO (Ft (IK (by decide) _) hr.units) (aw dO (pv 2) (pv 3)) (pv 1))))))
         (af (aD (cA (aa (pv 2) (aa (pv 3) (aa (jh gv ag) ab))))))
         aN)))))
   (af (aD ei)))),?_⟩
 refine⟨_,rfl,a,fs,rfl,ha,hlen,λp H1 sm1 hp hm=> ?_⟩;have ha1:=sm1.seq ha;refine⟨_,rfl,a,rfl,⟨_,ha1⟩,?_⟩;refine ba (K:=K) (a:=a) (xs:=(aG fs).map V.int) (λi σ H2=>H1=H2/\∃v2 v3,σ=[some (.ref a),some (.ref p),v2,v3]) ⟨rfl,none,none,rfl⟩ (λi σ H2 _ q=>q.1▸ha1) ?_ ?_
 .rintro i x σ H2 hi ⟨rfl,v2,v3,rfl⟩;obtain⟨z,rfl,hz⟩:=aQ hi;obtain⟨b,hb,rfl⟩:=cY hz;have bm:=E7 hb;refine⟨_,rfl,a,rfl,⟨_,ha1⟩,?_⟩;refine ba (K:=K) (a:=a) (xs:=(aG fs).map V.int) (λi σ H2=>H1=H2/\∃v3,σ=[some (.ref a),some (.ref p),some (.int (b:Int)),v3]) ⟨rfl,v3,rfl⟩ (λi σ H2 _ q=>q.1▸ha1) ?_ ?_
  .rintro j x σ H2 hj ⟨rfl,v3,rfl⟩;obtain⟨z,rfl,hz⟩:=aQ hj;obtain⟨c,hc,rfl⟩:=cY hz;have cm:=E7 hc;obtain⟨kvs,hd,hk⟩:=hm;refine⟨_,rfl,_,rfl,_,_,rfl,rfl,_,rfl,?_⟩;refine cn (λhlt=> ?_) λhlt=> ?_
   .refine⟨_,rfl,_,rfl,_,_,rfl,rfl,_,rfl,p,dX kvs (Sum.inl ((b&&&c:Nat):Int)),rfl,?_,_,rfl,?_⟩
    .have g:=kA.k (k:=Sum.inl ((b&&&c:Nat):Int)) hd;(try dsimp only);rw[cZ];exact g
    rw[hk,E6 (hcl b bm c cm)];exact dt ⟨rfl,_,rfl⟩
   .exact dt ⟨rfl,_,rfl⟩
  .rintro σ H2 ⟨rfl,v3,rfl⟩;exact⟨rfl,_,_,rfl⟩
 .rintro σ H2 ⟨rfl,v2,v3,rfl⟩;exact k _ sm1
theorem sc_broken_flats:aE ["n","flats","everything","found"] ["n","flats"] (aq s_broken_flats):=⟨rfl,rfl,rfl,by decide+kernel,rfl,by decide+kernel,by decide+kernel⟩
theorem lr(T:Tb K mg)(D:aS K mg "broken_flats" s_broken_flats ["n","flats"])(c_all_of:Cal P w K mg base 1 "all_of" ["n"] dJ)(c_common_not_listed:Cal P w K mg base 3 "common_not_listed" ["flats"] (oV K))(c_flats_that_meet:Cal P w K mg base 4 "flats_that_meet" ["n","flats"] (zE K)):
  Cal P w K mg base 6 "broken_flats" ["n","flats"] (oZ K):=by
 refine D.cal sc_broken_flats (λvs H Q E h=>by obtain⟨a,n,fs,r,rfl,_⟩:=h;rfl) λf cdv A outer σs H vs Q E hr h=> ?_;obtain⟨a,n,fs,r,rfl,ha,M,hfs,hfl,k⟩:=h;refine⟨_,(ae (aH (i:=2) sc_broken_flats.nd (by rfl) (E5 rfl) (ao c_all_of hr (by decide) (by rfl) (aa (pv 0) ab)))
   (ae (a8 (aI (f9 (K:=K) (by rfl)) (pv 2) (pv 1) (by rfl))
     (af (aD (cA (aa (pv 2) (aa (pv 2) (aa (jh gv ag) ab))))))
     aN)
   (ae (aH (i:=3) sc_broken_flats.nd (by rfl) (E5 rfl) (ao c_common_not_listed hr (by decide) (by rfl) (aa (pv 1) ab)))
   (ae (a8 (aI vk (pv 3) ei (nomark _))
     (af (aH (i:=3) sc_broken_flats.nd (by rfl) (E5 rfl) (ao c_flats_that_meet hr (by decide) (by rfl) (aa (pv 0) (aa (pv 1) ab)))))
     aN)
   (af (aD (pv 3))))))),?_⟩
 have n8:=M.n8;refine⟨_,rfl,(n:Int),rfl,by lia,by lia,?_⟩;rw[bW];refine⟨_,rfl,_,rfl,a,_,rfl, .inl ha,rfl,kj _,_,rfl,?_⟩;have e0:inV (V.int ((2^n-1:Nat):Int)) ((aG fs).map V.int)=true:=by rw[ia];exact E6 (Fn.mpr ⟨2^n-1,(hfs _).mpr M.yB,rfl⟩)
 show if(if true=true then !inV (V.int ((2^n-1:Nat):Int)) ((aG fs).map V.int)else inV (V.int ((2^n-1:Nat):Int)) ((aG fs).map V.int))=true then _ else _;rw[E9 rfl,e0];refine dt ?_;refine⟨_,rfl,a,fs,rfl,ha,hfl,λf hf g hg=>(hfs _).mpr (M.AY ((hfs f).mp hf) ((hfs g).mp hg)),λH1 sm1=> ?_⟩;refine⟨_,rfl,rfl,_,rfl,?_⟩;refine tO ?_;exact⟨_,rfl,_,rfl,a,n,fs,r,rfl,sm1.seq ha,M,hfs,hfl,λH2 sm2=>⟨_,rfl,k H2 (sm1.trans sm2)⟩⟩
theorem sc_flats_that_meet:aE ["n","flats","one","over","thing","other"] ["n","flats"] (aq s_flats_that_meet):=⟨rfl,rfl,rfl,by decide+kernel,rfl,by decide+kernel,by decide+kernel⟩
theorem iN(T:Tb K mg)(D:aS K mg "flats_that_meet" s_flats_that_meet ["n","flats"])(c_all_of:Cal P w K mg base 1 "all_of" ["n"] dJ)(c_things:Cal P w K mg base 2 "things" ["s"] cf)(c_less:Cal P w K mg base 1 "less" ["s","t"] d6)(c_least_flat:Cal P w K mg base 2 "least_flat" ["n","flats","s"] (mN K)):
  Cal P w K mg base 4 "flats_that_meet" ["n","flats"] (zE K):=by
 refine D.cal sc_flats_that_meet (λvs H Q E h=>by obtain⟨a,n,fs,r,rfl,_⟩:=h;rfl) λf cdv A outer σs H vs Q E hr h=> ?_;obtain⟨a,n,fs,r,rfl,ha,M,hfs,hfl,k⟩:=h;refine⟨_,(ae (aZ Fx rfl (aF (K:=K) (by rfl) (pv 1)) (aB (i:=2) sc_flats_that_meet.nd (by rfl) (E5 rfl))
     (ae (aH (i:=3) sc_flats_that_meet.nd (by rfl) (E5 rfl) Aa)
     (ae (aZ Fx rfl (aF (K:=K) (by rfl) (ao c_things hr (by decide) (by rfl) (aa (ao c_less hr (by decide) (by rfl) (aa (ao c_all_of hr (by decide) (by rfl) (aa (pv 0) ab)) (aa (pv 2) ab))) ab))) (aB (i:=4) sc_flats_that_meet.nd (by rfl) (E5 rfl))
       (af (BP (Ft (IK (by decide) _) hr.units) (pv 3) (pv 4) (ao c_least_flat hr (by decide) (by rfl) (aa (pv 0) (aa (pv 1) (aa (aw hG (pv 2) (aw bJ ag (pv 4))) ab)))) (by rfl))))
     (af (aZ Fx rfl (aF (K:=K) (by rfl) (aO (vU (by rfl)) (by rfl) T.sorted_ Ka (aa (z9 (pv 3)) ab))) (aB (i:=5) sc_flats_that_meet.nd (by rfl) (E5 rfl))
       (af (aZ Fx rfl (aF (K:=K) (by rfl) (ao c_things hr (by decide) (by rfl) (aa (ao c_less hr (by decide) (by rfl) (aa (pv 5) (aa (pv 2) ab))) ab))) (aB (i:=4) sc_flats_that_meet.nd (by rfl) (E5 rfl))
         (af (a8 (aI jo (BV (Ft (IK (by decide) _) hr.units) (pv 3) (pv 4) (by intro _ _;rfl)) (pv 5) (nomark _))
           (af (aD (cA (aa (pv 2) (aa (pv 5) (aa (pv 4) ab))))))
           aN)))))))))
   (af (aD ei))),?_⟩
 have n8:=M.n8;have p8:=dy n8;refine⟨_,rfl,a,rfl,⟨_,ha⟩,?_⟩;refine ba (K:=K) (a:=a) (xs:=(aG fs).map V.int) (λi σ H2=>Same H H2/\∃v2 v3 v4 v5,σ=[some (.int (n:Int)),some (.ref a),v2,v3,v4,v5]) ⟨Same.refl _,none,none,none,none,rfl⟩ (λi σ H2 _ q=>q.1.seq ha) ?_ ?_
 .rintro i x σ H2 hi ⟨sm2,v2,v3,v4,v5,rfl⟩;obtain⟨z,rfl,hz⟩:=aQ hi;obtain⟨b,hb,rfl⟩:=cY hz;have hF:=(hfs b).mp (E7 hb);intro p hp;have hHp:H p=none:=sm2.free hp;have sm3:Same H (upd H2 p (.dK [])):=sm2.trans (Same.new hp);have hp3:upd H2 p (.dK []) p=some (.dK []):=ah;generalize upd H2 p (.dK [])=H3 at*;have lb:=cR (2^n-1) b;refine⟨_,rfl,(n:Int),rfl,by lia,by lia,?_⟩;rw[bW];refine⟨_,rfl,2^n-1,b,rfl,_,rfl,by lia,by lia,λq H4 sm4 hq hl4=>⟨q,rfl,⟨_,SqL.of hl4⟩,?_⟩⟩;rw[E4]at hl4;have nqp:q≠p:=(aA hp3 hq).symm;refine ba (K:=K) (a:=q) (xs:=(bits (aT (2^n-1) b)).map V.int) (λi σ H5=>Same H H5/\H5 q=some (.lst ((bits (aT (2^n-1) b)).map V.int))/\∃ (kvs:List (Key×V)) (v4 v5:Option V),Bm H5 p i (λz=>∃x,x<n/\b.testBit x=false/\z=((clR n r (b|||2^x):Nat):Int)) kvs/\
   (∀t:Nat,(t:Int)∈(bits (aT (2^n-1) b)).take i->dX kvs (Sum.inl (t:Int))=some (.int (clR n r (b|||2^t):Nat)))/\σ=[some (.int (n:Int)),some (.ref a),some (.int (b:Int)),some (.ref p),v4,v5])
   ⟨sm3.trans sm4,hl4,[],v4,v5,⟨sm4.at hp3,FV _,λq hq=>nomatch hq⟩,(λt ht=>nomatch ht),rfl⟩ (λi σ H5 _ q=>SqL.of q.2.1) ?_ ?_
  .rintro l x σ H5 hl ⟨sm5,hq5,kvs,v4,v5,⟨hd,hkl,hkv⟩,hval,rfl⟩;obtain⟨z,rfl,hz⟩:=aQ hl;obtain⟨t,t8,htb,rfl⟩:=bg.mp (E7 hz);rw[cM,Fp,HX]at htb;have tn:t<n:=Fi htb.1;have lbt:=bA hF.1 tn;have eo:Builtin.bitOr (b:Int) (1*2^((t:Nat):Int).toNat)=((b|||2^t:Nat):Int):=by rw[dM,cc]
   have ll:l<8:=Fb (Fd.mp hz).1 (bZ _);refine⟨_,rfl,_,rfl,_,rfl,_,rfl,_,_,rfl,rfl,⟨by lia,by lia,by decide⟩,_,_,rfl,rfl,a,n,b|||2^t,fs,?_,n8,sm5.seq ha,?_⟩
   ·(try dsimp only);rw[eo];rfl
   rw[M.leastF_cl hfs lbt];refine⟨_,rfl,_,rfl,p,upd H5 p (.dK (f7 kvs (Sum.inl (t:Int)) (.int (clR n r (b|||2^t):Nat)))),rfl, .inl ⟨kvs,Sum.inl (t:Int),hd,rfl,Ft hkl (HP ll (by decide)),rfl⟩,?_⟩;refine⟨λc o e=> ?_,?_,_,_,v5,⟨ah,?_,?_⟩,λt' ht'=> ?_,rfl⟩
   .rw[aC (aA e hHp)];exact sm5.at e
   .rw[aC nqp];exact hq5
   .have:=fT kvs (Sum.inl (t:Int):Key) (.int (clR n r (b|||2^t):Nat));lia
   .exact zX (Pv:=λv=>∃z:Int,v= .int z/\∃x,x<n/\b.testBit x=false/\z=((clR n r (b|||2^x):Nat):Int)) hkv ⟨_,rfl,t,tn,htb.2,rfl⟩
   .rw[rO];by_cases e:t'=t
    .subst e;rw[E9 rfl]
    .rw[Fg (λh=>e (by have:=Sum.inl.inj h;lia))];refine hval t' ?_;rw[GK,hz]at ht';rcases FE.mp ht' with h|h
     .exact h
     .have:=FI.mp h;exact absurd (by lia) e
  .rintro σ H5 ⟨sm5,hq5,kvs,v4,v5,hN,hval,rfl⟩;rw[E3,Gm]at hval;obtain⟨ns,ens,lns,hns⟩:=hN.list;rw[E3]at lns;have b8:(bits (aT (2^n-1) b)).length<=8:=bZ _;refine⟨_,rfl,p,kvs,rfl,hN.1,λv hv=> ?_⟩;refine⟨v,p,kvs,ns,rfl,ah,by rw[aC (aA hN.1 hv)];exact hN.1,ens,by lia,λl ms hl hperm hsort=> ?_⟩;have sm6:Same H5 (upd (upd H5 v (kx v p)) l (.lst (ms.map V.int))):=(Same.new hv).trans (Same.new hl);have hl6:upd (upd H5 v (kx v p)) l (.lst (ms.map V.int)) l=some (.lst (ms.map V.int)):=ah;generalize upd (upd H5 v (kx v p)) l (.lst (ms.map V.int))=H6 at*;refine⟨l,rfl,⟨_,SqL.of hl6⟩,?_⟩;refine ba (K:=K) (a:=l) (xs:=ms.map V.int) (λi σ H7=>Same H6 H7/\∃v4 v5,σ=[some (.int (n:Int)),some (.ref a),some (.int (b:Int)),some (.ref p),v4,v5]) ⟨Same.refl _,v4,v5,rfl⟩ (λi σ H7 _ q=>SqL.of (q.1.at hl6)) ?_ ?_
   .rintro j x σ H7 hj ⟨sm7,v4,v5,rfl⟩;obtain⟨z,rfl,hz⟩:=aQ hj;obtain⟨x,hx,bx,rfl⟩:=hns z (hperm.mem_iff.mp (E7 hz));have lbx:=bA hF.1 hx;have lc:=M.pM (b|||2^x);have ll:=cR (clR n r (b|||2^x)) b;refine⟨_,rfl,_,rfl,clR n r (b|||2^x),b,rfl,_,rfl,by lia,by lia,λq8 H8 sm8 hq8 hl8=>⟨q8,rfl,⟨_,SqL.of hl8⟩,?_⟩⟩;rw[E4]at hl8;refine ba (K:=K) (a:=q8) (xs:=(bits (aT (clR n r (b|||2^x)) b)).map V.int) (λi σ H9=>Same H8 H9/\∃v4,σ=[some (.int (n:Int)),some (.ref a),some (.int (b:Int)),some (.ref p),v4,some (.int (clR n r (b|||2^x):Nat))]) ⟨Same.refl _,v4,rfl⟩ (λi σ H9 _ q=>SqL.of (q.1.at hl8)) ?_ ?_
    .rintro m y σ H9 hm ⟨sm9,v4,rfl⟩;obtain⟨z,rfl,hz⟩:=aQ hm;obtain⟨t,t8,htb,rfl⟩:=bg.mp (E7 hz);rw[eT,Fp,HX]at htb;have tn:=bB lc htb.1;have ev:=hval t (bg.mpr ⟨t,t8,by rw[cM,E6 tn,htb.2];rfl,rfl⟩);have hd9:=(sm6.trans (sm7.trans (sm8.trans sm9))).at hN.1;rw[M.yA hF hx bx htb.1 htb.2]at ev;refine⟨_,rfl,_,rfl,p, .int (clR n r (b|||2^x):Nat),rfl, .inl ⟨kvs,Sum.inl (t:Int), .inl hd9,rfl,ev.symm⟩,_,rfl,rfl,_,rfl,?_⟩;rw[E6 rfl];exact dt ⟨sm9,_,rfl⟩
    .rintro σ H9 ⟨sm9,v4,rfl⟩;exact⟨sm7.trans (sm8.trans sm9),_,_,rfl⟩
   .rintro σ H7 ⟨sm7,v4,v5,rfl⟩;exact⟨sm5.trans (sm6.trans sm7),_,_,_,_,rfl⟩
 .rintro σ H2 ⟨sm,v2,v3,v4,v5,rfl⟩;exact k _ sm
theorem sc__law_far:aE ["_law_cells","_law_many","_law_rank","_law_some_here","_law_picked","_law_cell","_law_one","_law_near"] ["_law_cells","_law_many","_law_rank"] (aq s__law_far):=⟨rfl,rfl,rfl,by decide+kernel,rfl,by decide+kernel,by decide+kernel⟩
theorem tf(T:Tb K mg)(D:aS K mg "_law_far" s__law_far ["_law_cells","_law_many","_law_rank"])(c__law_size:Cal P w K mg base 1 "_law_size" ["_law_s"] iu):Cal P w K mg base 2 "_law_far" ["_law_cells","_law_many","_law_rank"] (CI K):=by
 refine D.cal sc__law_far (λvs H Q E h=>by obtain⟨a,cs,n,r,rfl,_⟩:=h;rfl) λf cdv A outer σs H vs Q E hr h=> ?_;obtain⟨a,cs,n,r,rfl,ha,hc0,hc64,hn,hrn,k⟩:=h;refine⟨_,(ae (dN (i:=3) sc__law_far.nd (by rfl) (by rfl) (vars:=["_law_s"]) (frn:=["_law_rank"]) (fr:=[2]) rfl (by rfl) (by rfl) (by rfl) (by rfl) ⟨⟨by rfl,E5 (by rfl),E5 (by rfl)⟩,FA⟩ (aX (by rfl) T.range_ (aa (aw bJ ag (pv 1)) ab)) (λ_ _ _ _=>(aB (i:=0) (show List.Nodup (["_law_s","_law_rank"]:List PySem.Str) by decide+kernel) (by rfl) (E5 rfl))) (λ_ _ _ _=>(bX (aI bS (ao c__law_size hr (by decide) (by rfl) (aa (pv 0) ab)) (pv 1) (nomark _)))) (λ_ _ _ _=>(pv 0)))
   (ae (aH (i:=4) sc__law_far.nd (by rfl) (GD rfl) (e6 ab))
   (ae (a8 (PW.pt (gA (aI kN (pv 2) ag (nomark _)) (gA (aI kM (pv 2) (pv 1) (nomark _)) (gz (aI kN (aw bE (aw bE (aw vj (aK (av (K:=K) (by rfl)) (pv 0) ag (λ_ _=>rfl)) ag) ag) ag) ag (nomark _))))))
     (af (aZ Fx rfl (aF (K:=K) (by rfl) (ji (ja (K:=K) (by rfl)) (pv 0) lX (lW (aw bE (aw ix (aw bE (aw vj (aK (av (K:=K) (by rfl)) (pv 0) ag (λ_ _=>rfl)) ag) ag) ag) (aO (aM (K:=K) (by rfl)) (by rfl) T.len_ FY (aa (pv 0) ab)))))) (aB (i:=5) sc__law_far.nd (by rfl) (E5 rfl))
       (ae (aH (i:=6) sc__law_far.nd (by rfl) (GD rfl) (aK (av (K:=K) (by rfl)) (pv 3) (aw bE (aw bE (aw vj (pv 5) ag) ag) (aO (aM (K:=K) (by rfl)) (by rfl) T.len_ FY (aa (pv 3) ab))) (λ_ _=>rfl)))
       (ae (dN (i:=7) sc__law_far.nd (by rfl) (by rfl) (vars:=["_law_s"]) (frn:=["_law_rank","_law_one"]) (fr:=[2,6]) rfl (by rfl) (by rfl) (by rfl) (by rfl) ⟨⟨by rfl,E5 (by rfl),E5 (by rfl)⟩,⟨⟨by rfl,E5 (by rfl),E5 (by rfl)⟩,FA⟩⟩ (aF (K:=K) (by rfl) (pv 4)) (λ_ _ _ _=>(aB (i:=0) (show List.Nodup (["_law_s","_law_rank","_law_one"]:List PySem.Str) by decide+kernel) (by rfl) (E5 rfl))) (λ_ _ _ _=>(bX (aI kN (ao c__law_size hr (by decide) (by rfl) (aa (aw dO (pv 0) (pv 2)) ab)) (aw dr (pv 1) ag) (nomark _)))) (λ_ _ _ _=>(pv 0)))
       (af (a8 (aI bS (aO (aM (K:=K) (by rfl)) (by rfl) T.len_ FY (aa (pv 7) ab)) ag (nomark _))
         (af (cq (gZ (K:=K) (by rfl) GO GH GI cK (pv 4) (aa (pv 6) ab))))
         aN))))))
     aN)
   (af (aD (bR (vars:=["_law_s"]) (frn:=["_law_picked"]) (fr:=[4]) rfl (by rfl) (by rfl) (by rfl) (by rfl) ⟨⟨by rfl,E5 (by rfl),E5 (by rfl)⟩,FA⟩ (aF (K:=K) (by rfl) (pv 3)) (λ_ _ _ _=>(aB (i:=0) (show List.Nodup (["_law_s","_law_picked"]:List PySem.Str) by decide+kernel) (by rfl) (E5 rfl))) (λ_ _ _ _=>(bX (aI (f9 (K:=K) (by rfl)) (pv 0) (pv 1) (by rfl)))) (λ_ _ _ _=>(pv 0)))))))),?_⟩
 have p8:=dy hn;have ppos:=bP n;refine⟨_,rfl,_,_,rfl,rfl,⟨by lia,by lia,by decide⟩,_,rfl,?_⟩;rw[cj];refine⟨by lia,by lia,?_⟩;rw[E4];refine cP (λi=>decide (sz i=r)) (λi=> .int (0+(i:Nat))) (Fc p8 (by decide)) (λi vs H' R S hi hv sm hk=> ?_) λp3 H1 hp3 sm1 hl1=> ?_
 .obtain⟨v,rfl⟩:=aV hv;have q:=hk [some (.int (0+(i:Nat)))] H' rfl (Same.refl _);refine⟨_,rfl,_,rfl,by lia,by lia,_,rfl,rfl,_,rfl,?_⟩;have e:(0+(i:Int)).toNat=i:=by lia
  rw[e];have e2:decide (V.int ((((bits i).length:Nat):Int))=V.int (r:Int))=decide (sz i=r):=by
   by_cases h:sz i=r
   .have h':(bits i).length=r:=h;rw[E6 h,h',E6 rfl]
   .rw[E8 h,E8 λz=>h (by have:=V.int.inj z;show(bits i).length=r;lia)]
  rw[e2];show if decide (sz i=r)=true then _ else _;by_cases hc:decide (sz i=r)=true
  .rw[E9 hc]at q⊢;exact⟨_,rfl,q⟩
  .rw[Fg hc]at q⊢;exact q
 rw[eu]at hl1;generalize hsome:(List.map (λs:Nat=>(s:Int)) (List.filter (λi=>decide (sz i=r)) (List.range (2^n))))=sets at hl1;have msome:∀z∈sets,∃s:Nat,s<2^n/\z=s:=λz hz=>by rw[<-hsome]at hz;obtain⟨s,hs,rfl⟩:=Fn.mp hz;exact⟨s,Fl.mp (FH.mp hs).1,rfl⟩
 have lsome:sets.length<=256:=by rw[<-hsome,E3];exact Fc (Ga _ _) (by rw[FD];exact p8)
 have psome:0<sets.length:=by
  obtain⟨s,h1,h2,_⟩:=wk (ps:=[]) hn hrn (.inl rfl);have:(s:Int)∈sets:=by rw[<-hsome];exact Fn.mpr ⟨s,FH.mpr ⟨Fl.mpr h1,E6 h2⟩,rfl⟩
  exact Hr this
 refine⟨FV _,λq hq=> ?_⟩;have smq:Same H1 (upd H1 q (.lst [])):=Same.new hq;have hq1:upd H1 q (.lst []) q=some (.lst (([]:List Int).map V.int)):=ah;have hl2:=smq.at hl1;have sm2:Same H (upd H1 q (.lst [])):=sm1.trans smq;have hqH:H q=none:=sm1.free hq;generalize upd H1 q (.lst [])=H2 at*;(try dsimp only);refine ke (λσ' H'=>∃ (ps:List Int) (v5 v6 v7:Option V),Same H H'/\H' p3=some (.lst (sets.map V.int))/\H' q=some (.lst (ps.map V.int))/\(ps=[]\/(0<r/\r<n/\Far r ps))/\
  σ'=[some (.ref a),some (.int (n:Int)),some (.int (r:Int)),some (.ref p3),some (.ref q),v5,v6,v7]) ?_ ?_
 .rintro σ' H' ⟨ps,v5,v6,v7,smr,h3,hq',far,rfl⟩;refine⟨_,rfl,p3,rfl,⟨_,SqL.of h3⟩,?_⟩;refine bh (λx=>(λz:Int=> !decide (z∈ps)) (aW x)) (λx=> .int ((λz:Int=>z) (aW x))) (SqL.of h3) (by rw[E3];exact Fc lsome (by decide)) (λi x vs H'' R S hx hv sm hk=> ?_) λD H'' hD sm hl=> ?_
  .obtain⟨v,rfl⟩:=aV hv;obtain⟨z,rfl,hz⟩:=aQ hx;have qq:=hk [some (.int z)] H'' rfl (Same.refl _);refine⟨_,rfl,_,rfl,q,_,rfl, .inl (SqL.of (sm.at hq')),rfl,kj _,_,rfl,?_⟩;have qq':if(!decide (z∈ps))=true then R (.int z) _ H'' else S _ H'':=qq;show if(!inV (.int z) (ps.map V.int))=true then _ else _;rw[ia];by_cases hc:(!decide (z∈ps))=true
   .rw[E9 hc]at qq'⊢;exact⟨_,rfl,qq'⟩
   .rw[Fg hc]at qq'⊢;exact qq'
  replace hl:=hl.trans (Fu (λl=>some (HO.lst l)) (aU (λz:Int=> !decide (z∈ps)) (λz:Int=>z) sets));rw[show(λz:Int=>z)=id from rfl,Hh]at hl;refine k D H'' ps (smr.trans sm) (smr.free hD) (hl.trans ?_) far;have e:sets.filter (λz:Int=> !decide (z∈ps))=dn n r ps:=by rw[<-hsome];unfold dn;rw[Ki,JO];refine Fu (List.map λs:Nat=>(s:Int)) (Hy λs _=> ?_);unfold mG;show((!decide ((s:Int)∈ps))&&decide (sz s=r))=_;rw[Bool.and_comm];by_cases h:(s:Int)∈ps<;>simp[h]
  rw[e]
 .intro hrest;have stop:∀H',H'=H2->(∃ (ps:List Int) (v5 v6 v7:Option V),Same H H'/\H' p3=some (.lst (sets.map V.int))/\H' q=some (.lst (ps.map V.int))/\(ps=[]\/(0<r/\r<n/\Far r ps))/\
   [some (V.ref a),some (.int (n:Int)),some (.int (r:Int)),some (.ref p3),some (.ref q),none,none,none]=[some (V.ref a),some (.int (n:Int)),some (.int (r:Int)),some (.ref p3),some (.ref q),v5,v6,v7]):=λH' e=>by
   subst e;exact⟨[],none,none,none,sm2,hl2,hq1, .inl rfl,rfl⟩
  have at0:atI (cs.map V.int) 0=some (.int (cs.getD 0 0)):=bc (j:=0) hc0;have ha2:=sm2.seq ha;refine⟨_,rfl,_,_,rfl,rfl,_,rfl,cn (λhc=> ?_) λhc=>dt (hrest _ _ (stop _ rfl))⟩;have r0:0<r:=by have:=Fi hc;lia
  refine⟨_,rfl,_,rfl,_,_,rfl,rfl,_,rfl,cn (λhc=> ?_) λhc=>dt (hrest _ _ (stop _ rfl))⟩;have r1:r<n:=by have:=Fi hc;lia
  refine⟨_,rfl,a,_,_,_,rfl,rfl,ha2,at0,_,_,rfl,rfl, .inr ⟨by decide,by decide⟩,_,_,rfl,rfl,(by show(0:Int)<65521;decide),_,_,rfl,rfl,(by show(0:Int)<3;decide),_,_,rfl,rfl,_,rfl,cn (λhc=> ?_) λhc=>hrest _ _ (stop _ rfl)⟩;refine⟨_,rfl,_,rfl,a,_,_,_,rfl,rfl,ha2,at0,_,_,rfl,rfl, .inr ⟨by decide,by decide⟩,_,_,rfl,rfl,(by show(0:Int)<65521;decide),_,_,rfl,rfl,⟨by decide,by decide⟩,_,rfl,a,_,rfl, .inl ha2,_,_,rfl,rfl,?_,_,rfl,a,_,rfl,ha2,λpc hpc=> ?_⟩
  .show(0:Int)<(((cs.map V.int).length:Nat):Int);rw[E3];lia
  obtain⟨ds,ed,hdl⟩:=Be cs none (some (cs.getD 0 0*16807 % 65521/3 % (((cs.map V.int).length:Nat):Int)));rw[ed];have hpc1:upd H2 pc (.lst (ds.map V.int)) pc=some (.lst (ds.map V.int)):=ah;have smc:Same H2 (upd H2 pc (.lst (ds.map V.int))):=Same.new hpc;generalize upd H2 pc (.lst (ds.map V.int))=H3 at*;have hqne:q≠p3:=λe=>by have h1:=sm1.free hq;rw[e]at h1;have:=hq;rw[e,hl1]at this;cases this
  have hqpc:q≠pc:=λe=>by rw[e,hpc]at hq1;cases hq1
  refine⟨pc,rfl,⟨_,SqL.of hpc1⟩,?_⟩;refine ba (K:=K) (a:=pc) (xs:=ds.map V.int) (λi σ H'=>∃ (ps:List Int) (v5 v6 v7:Option V),Same H H'/\H' p3=some (.lst (sets.map V.int))/\H' pc=some (.lst (ds.map V.int))/\H' q=some (.lst (ps.map V.int))/\ps.length<=i/\(∀z∈ps,z∈sets)/\Far r ps/\
   σ=[some (.ref a),some (.int (n:Int)),some (.int (r:Int)),some (.ref p3),some (.ref q),v5,v6,v7])
   ⟨[],none,none,none,sm2.trans smc,smc.at hl2,hpc1,smc.at hq1,Fj _,(λz hz=>by cases hz),Ck _,rfl⟩ (λi σ H' _ ⟨_,_,_,_,_,_,h,_⟩=>SqL.of h) ?_ ?_
  .rintro i y σ H' hi ⟨ps,v5,v6,v7,sm',h3,hpc',hq',hlen,hsub,far,rfl⟩;obtain⟨c,rfl,hcat⟩:=aQ hi;have hil:i<ds.length:=(Fd.mp hcat).1;have lpos:(0:Int)<(((sets.map V.int).length:Nat):Int):=by rw[E3];lia
   have j0:0<=c*48271 % 2147483647 % (((sets.map V.int).length:Nat):Int):=Hq _ (by lia);have j1:c*48271 % 2147483647 % (((sets.map V.int).length:Nat):Int)<(((sets.map V.int).length:Nat):Int):=Hk _ lpos;obtain⟨j,hj⟩:=Gn j0;have hjl:j<sets.length:=by rw[hj,E3]at j1;lia
   have at1:atI (sets.map V.int) (c*48271 % 2147483647 % (((sets.map V.int).length:Nat):Int))=some (.int (sets[j]'hjl)):=by rw[hj];exact rf (by simp[hjl])
   refine⟨_,rfl,_,rfl,_,_,rfl,rfl, .inr ⟨by decide,by decide⟩,_,_,rfl,rfl,(by show(0:Int)<2147483647;decide),_,rfl,p3,_,rfl, .inl (SqL.of h3),_,_,rfl,rfl,lpos,p3,_,_,_,rfl,rfl,SqL.of h3,at1,?_⟩;have hone:sets[j]'hjl∈sets:=Gj hjl;generalize sets[j]'hjl=one at*;obtain⟨o,ho,rfl⟩:=msome one hone;have o256:o<256:=Fb ho p8;refine⟨_,rfl,q,rfl,⟨_,SqL.of hq'⟩,?_⟩;refine bh (λx=>(λz:Int=>decide ((sz (z.toNat&&& (o:Int).toNat):Int)>(r:Int) -2)) (aW x)) (λx=> .int ((λz:Int=>z) (aW x))) (SqL.of hq') (by rw[E3];exact Fc (show ps.length<=64 by lia) (by decide)) (λi x vs H'' R S hx hv sm hk=> ?_) λpn H4 hpn sm4 hl4=> ?_
   .obtain⟨v,rfl⟩:=aV hv;obtain⟨z,rfl,hz⟩:=aQ hx;obtain⟨u,hu,rfl⟩:=msome z (hsub z (E7 hz));have qq:=hk [some (.int (u:Int))] H'' rfl (Same.refl _);have ea:Builtin.bitAnd (u:Int) (o:Int)=((u&&&o:Nat):Int):=by rw[dg (F0 _) (F0 _),E4,E4]
    have la:u&&&o<256:=nN (Fb hu p8);refine⟨_,rfl,_,rfl,_,_,rfl,rfl,Builtin.bitAnd (u:Int) (o:Int),rfl,(by rw[ea];lia),(by rw[ea];lia),_,rfl,_,_,rfl,rfl,_,_,rfl,rfl,_,rfl,?_⟩;rw[ea,E4];have qq':if decide ((sz (u&&&o):Int)>(r:Int) -2)=true then R (.int (u:Int)) _ H'' else S _ H'':=qq;show if decide ((sz (u&&&o):Int)>(r:Int) -2)=true then _ else _;by_cases hc:decide ((sz (u&&&o):Int)>(r:Int) -2)=true
    .rw[E9 hc]at qq'⊢;exact⟨_,rfl,qq'⟩
    .rw[Fg hc]at qq'⊢;exact qq'
   replace hl4:=hl4.trans (Fu (λl=>some (HO.lst l)) (aU (λz:Int=>decide ((sz (z.toNat&&& (o:Int).toNat):Int)>(r:Int) -2)) (λz:Int=>z) ps));rw[show(λz:Int=>z)=id from rfl,Hh]at hl4;refine⟨_,rfl,pn,_,rfl, .inl (SqL.of hl4),rfl,_,rfl,cn (λhc=> ?_) λhc=> ?_⟩
   .have h0:(ps.filter λz:Int=>decide ((sz (z.toNat&&& (o:Int).toNat):Int)>(r:Int) -2))=[]:=by have h:=V.int.inj (Fi hc);rw[E3]at h;exact Iw (by lia)
    have hq4:=sm4.at hq';refine⟨_,rfl, .inl ⟨rfl,_,SqL.of hq4⟩,_,rfl,q,_,_,rfl,rfl,hq4,(by rw[E3];exact Ft (show ps.length<=64 by lia) (by decide)),?_⟩;refine⟨ps++[(o:Int)],_,_,_,(sm'.trans sm4).upd hqH,?_,?_,?_,?_,?_,?_,rfl⟩
    .rw[aC hqne.symm];exact sm4.at h3
    .rw[aC hqpc.symm];exact sm4.at hpc'
    .rw[ah,FW];rfl
    .rw[Fw];show ps.length+1<=i+1;lia
    .intro z hz;rcases FE.mp hz with hz|hz
     .exact hsub z hz
     .have:z=(o:Int):=by simpa using hz
      rw[this];exact hone
    .refine A1 far λz hz hgt=> ?_;have:z∈ps.filter λz:Int=>decide ((sz (z.toNat&&& (o:Int).toNat):Int)>(r:Int) -2):=FH.mpr ⟨hz,E6 hgt⟩;rw[h0]at this;cases this
   .exact⟨ps,_,_,_,sm'.trans sm4,sm4.at h3,sm4.at hpc',sm4.at hq',by lia,hsub,far,rfl⟩
  .rintro σ H' ⟨ps,v5,v6,v7,sm',h3,hpc',hq',hlen,hsub,far,rfl⟩;exact hrest _ _ ⟨ps,v5,v6,v7,sm',h3,hq', .inr ⟨r0,r1,far⟩,rfl⟩
theorem sc__law_ranks:aE ["_law_many","_law_told","_law_levels","_law_s","_law_rank","_law_k"] ["_law_many","_law_told"] (aq s__law_ranks):=⟨rfl,rfl,rfl,by decide+kernel,rfl,by decide+kernel,by decide+kernel⟩
theorem oz(T:Tb K mg)(D:aS K mg "_law_ranks" s__law_ranks ["_law_many","_law_told"])(c__law_size:Cal P w K mg base 1 "_law_size" ["_law_s"] iu):Cal P w K mg base 2 "_law_ranks" ["_law_many","_law_told"] (si K):=by
 refine D.cal sc__law_ranks (λvs H Q E h=>by obtain⟨a,ms,n,rfl,_⟩:=h;rfl) λf cdv A outer σs H vs Q E hr h=> ?_;obtain⟨a,ms,n,rfl,ha,hne,hms,hml,hn,k⟩:=h;refine⟨_,(ae (aH (i:=2) sc__law_ranks.nd (by rfl) (E5 rfl) (e6 ab))
   (ae (aZ Fx rfl (aX (by rfl) T.range_ (aa (aw bJ ag (pv 0)) ab)) (aB (i:=3) sc__law_ranks.nd (by rfl) (GD rfl))
     (ae (aH (i:=4) sc__law_ranks.nd (by rfl) (E5 rfl) ag)
     (ae (a8 (aI kN (aO (aM (K:=K) (by rfl)) (by rfl) T.len_ FY (aa (bR (vars:=["_law_one"]) (frn:=["_law_s"]) (fr:=[3]) rfl (by rfl) (by rfl) (by rfl) (by rfl) ⟨⟨by rfl,E5 (by rfl),E5 (by rfl)⟩,FA⟩ (aF (K:=K) (by rfl) (pv 1)) (λ_ _ _ _=>(aB (i:=0) (show List.Nodup (["_law_one","_law_s"]:List PySem.Str) by decide+kernel) (by rfl) (E5 rfl))) (λ_ _ _ _=>(bX (aI bS (aw dO (pv 0) (pv 1)) (pv 1) (nomark _)))) (λ_ _ _ _=>(pv 0))) ab)) ag (nomark _))
       (af (aH (i:=4) sc__law_ranks.nd (by rfl) (E5 rfl) (ao c__law_size hr (by decide) (by rfl) (aa (pv 3) ab))))
       (af (aZ Fx rfl (aX (by rfl) T.range_ (aa (pv 0) ab)) (aB (i:=5) sc__law_ranks.nd (by rfl) (E5 rfl))
         (af (a8 (aI bS (aw dO (aw j6 (pv 3) (pv 5)) ag) ag (nomark _))
           (af (aH (i:=4) sc__law_ranks.nd (by rfl) (E5 rfl) (aO (yR (by rfl)) (by rfl) T.max_ IE (aa (pv 4) (aa (aK (av (K:=K) (by rfl)) (pv 2) (aw mY (pv 3) (aw bJ ag (pv 5))) (λ_ _=>rfl)) ab)))))
           aN)))))
     (af (cq (gZ (K:=K) (by rfl) GO GH GI cK (pv 2) (aa (pv 4) ab)))))))
   (af (aD (pv 2))))),?_⟩
 have p8:=dy hn;have ppos:=bP n;refine⟨FV _,λq hq=> ?_⟩;refine⟨_,rfl,_,_,rfl,rfl,⟨by lia,by lia,by decide⟩,_,rfl,?_⟩;rw[cj];refine⟨by lia,by lia,?_⟩;rw[E4];refine bV (n:=2^n) (λi σ H2=>∃ (v3 v4 v5:Option V),Same H H2/\H2 q=some (.lst (((List.range i).map λs=>((au ms s:Nat):Int)).map V.int))/\σ=[some (.int (n:Int)),some (.ref a),some (.ref q),v3,v4,v5])
  ⟨none,none,none,Same.new hq,ah,rfl⟩ ?_ ?_
 .rintro i σ H2 hi ⟨v3,v4,v5,sm2,hq2,rfl⟩;generalize hlv:((List.range i).map λs=>((au ms s:Nat):Int))=lv at hq2;have llv:lv.length=i:=by rw[<-hlv,E3,FD]
  have glv:∀t,t<i->lv.getD t 0=((au ms t:Nat):Int):=λt ht=>by rw[<-hlv,Ff,Fm,Gi ht];rfl
  have i256:i<256:=by lia
  refine sE (λσ' H'=>∃v5:Option V,Same H2 H'/\σ'=[some (.int (n:Int)),some (.ref a),some (.ref q),some (.int (0+(i:Nat))),some (.int ((au ms i:Nat):Int)),v5]) ?_ ?_
  .rintro σ' H' ⟨v5,sm',rfl⟩;have hq3:=sm'.at hq2;refine⟨_,rfl, .inl ⟨rfl,_,SqL.of hq3⟩,_,rfl,q,_,_,rfl,rfl,hq3,(by rw[E3,llv];exact HP i256 (by decide)),?_⟩;refine⟨_,_,_,(sm2.trans sm').upd hq,?_,rfl⟩;rw[ah,GA,FW,hlv,FW];rfl
  .intro hrest;have e0:(0+(i:Int)).toNat=i:=by lia
   refine⟨_,rfl,a,rfl,⟨_,sm2.seq ha⟩,?_⟩;refine bh (λx=>(λm:Int=>decide (m.toNat&&&i=i)) (aW x)) (λx=> .int ((λz:Int=>z) (aW x))) (sm2.seq ha) (by rw[E3];exact Fc hml (by decide)) (λj x vs H' R S hx hv sm hk=> ?_) λpn H3 hpn sm3 hl3=> ?_
   .obtain⟨v,rfl⟩:=aV hv;obtain⟨m,rfl,hm⟩:=aQ hx;obtain⟨m0,m1⟩:=hms m (E7 hm);have qq:=hk [some (.int m)] H' rfl (Same.refl _);have ea:Builtin.bitAnd m (0+(i:Int))=((m.toNat&&&i:Nat):Int):=by rw[dg m0 (by lia),e0]
    refine⟨_,rfl,_,rfl,_,_,rfl,rfl,_,rfl,rfl,_,rfl,?_⟩;show if decide (V.int (Builtin.bitAnd m (0+(i:Int)))=V.int (0+(i:Int)))=true then _ else _;rw[ea];have e2:decide (V.int ((m.toNat&&&i:Nat):Int)=V.int (0+(i:Int)))=decide (m.toNat&&&i=i):=by rw[FX];exact cI _ _
    rw[e2];have qq':if decide (m.toNat&&&i=i)=true then R (.int m) _ H' else S _ H':=qq;show if decide (m.toNat&&&i=i)=true then _ else _;by_cases hc:decide (m.toNat&&&i=i)=true
    .rw[E9 hc]at qq'⊢;exact⟨_,rfl,qq'⟩
    .rw[Fg hc]at qq'⊢;exact qq'
   replace hl3:=hl3.trans (Fu (λl=>some (HO.lst l)) (aU (λm:Int=>decide (m.toNat&&&i=i)) (λz:Int=>z) ms));rw[show(λz:Int=>z)=id from rfl,Hh]at hl3;refine⟨pn,_,rfl, .inl (SqL.of hl3),_,_,rfl,rfl,_,rfl,cn (λhc=> ?_) λhc=> ?_⟩
   .have hex:∃m∈ms,m.toNat&&&i=i:=by
     have h:=Fi hc;rw[E3]at h;have:0<(ms.filter λm:Int=>decide (m.toNat&&&i=i)).length:=by lia
     obtain⟨m,hm⟩:=JH this;exact⟨m,(FH.mp hm).1,Fi (FH.mp hm).2⟩
    refine⟨_,rfl,_,rfl,by lia,by lia,?_⟩;refine hrest _ _ ⟨v5,sm3,?_⟩;rw[e0,<-Ep hex];rfl
   .have hno:∀m∈ms,¬(m.toNat&&&i=i):=λm hm e=>by have h:=Gy (F4.mpr hc);rw[E3]at h;have:m∈ms.filter λm:Int=>decide (m.toNat&&&i=i):=FH.mpr ⟨hm,E6 e⟩;have:=Hr this;lia
    refine⟨_,rfl,_,rfl,by lia,by lia,?_⟩;rw[E4];have hq3:=sm3.at hq2;refine bV (n:=n) (λj σ H4=>H4=H3/\∃v,σ=[some (.int (n:Int)),some (.ref a),some (.ref q),some (.int (0+(i:Nat))),some (.int (dP lv i j)),v]) ⟨rfl,_,rfl⟩ ?_ ?_
    .intro j σ H4 hj hw;obtain⟨eH,v,es⟩:=hw;subst es;subst eH;refine⟨_,rfl,_,rfl,_,_,rfl,rfl,(by show(0:Int)<=0+(j:Int);lia),_,_,rfl,rfl,rfl,_,rfl,?_⟩;have eb:decide (V.int (Builtin.bitAnd ((0+(i:Int)) /2^(0+(j:Int)).toNat) 1)=V.int 1)=i.testBit j:=by rw[FX];exact lS
     rw[eb];have es:=kR lv i j;refine cn (λhb=> ?_) λhb=> ?_
     .rw[E9 hb]at es;have j8:j<8:=by lia
      have dl:=cv i i256 j j8 hb;obtain⟨x1,x2⟩:=hE i i256 j j8;have e1:(0+(j:Int)).toNat=j:=by lia
      have e2:(1*2^(0+(j:Int)).toNat:Int)=((2^j:Nat):Int):=by rw[e1,Hl];simp
      have ex:Builtin.bitXor (0+(i:Int)) (1*2^(0+(j:Int)).toNat)=((i^^^2^j:Nat):Int):=by unfold Builtin.bitXor;rw[e2,FX,jJ (F0 _) (F0 _),dg (F0 _) (F0 _),E4,E4];lia
      have at1:atI (lv.map V.int) (Builtin.bitXor (0+(i:Int)) (1*2^(0+(j:Int)).toNat))=some (.int (lv.getD (i^^^2^j) 0)):=by rw[ex];exact bc (by lia)
      refine⟨_,rfl,_,rfl,_,rfl,_,rfl,_,_,rfl,rfl,⟨by lia,by lia,by decide⟩,_,_,rfl,rfl,q,_,_,_,rfl,rfl,SqL.of hq3,at1,_,_,rfl,rfl,some (.int (0+(j:Nat))),?_⟩;rw[es];rfl
     .rw[Fg hb]at es;refine⟨rfl,some (.int (0+(j:Nat))),?_⟩;rw[es];rfl
    .intro σ H4 hw;obtain⟨eH,v,es⟩:=hw;subst es;subst eH;refine hrest _ _ ⟨v,sm3,?_⟩;rw[B7 hn hi hne hno glv]
 .rintro σ H2 ⟨v3,v4,v5,sm2,hq2,rfl⟩;exact⟨_,rfl,k q H2 sm2 hq hq2⟩
theorem sc__law_rings:aE ["_law_many","_law_levels","_law_found","_law_s","_law_free_here","_law_k"] ["_law_many","_law_levels"] (aq s__law_rings):=⟨rfl,rfl,rfl,by decide+kernel,rfl,by decide+kernel,by decide+kernel⟩
theorem oy(T:Tb K mg)(D:aS K mg "_law_rings" s__law_rings ["_law_many","_law_levels"])(c__law_size:Cal P w K mg base 1 "_law_size" ["_law_s"] iu):Cal P w K mg base 2 "_law_rings" ["_law_many","_law_levels"] (sg K):=by
 refine D.cal sc__law_rings (λvs H Q E h=>by obtain⟨a,ms,n,rfl,_⟩:=h;rfl) λf cdv A outer σs H vs Q E hr h=> ?_;obtain⟨a,ms,n,rfl,ha,hn,k⟩:=h;refine⟨_,(ae (aH (i:=2) sc__law_rings.nd (by rfl) (E5 rfl) (e6 ab))
   (ae (aZ Fx rfl (aX (by rfl) T.range_ (aa (aw bJ ag (pv 0)) ab)) (aB (i:=3) sc__law_rings.nd (by rfl) (E5 rfl))
     (af (a8 (aI kM (aK (av (K:=K) (by rfl)) (pv 1) (pv 3) (λ_ _=>rfl)) (ao c__law_size hr (by decide) (by rfl) (aa (pv 3) ab)) (nomark _))
       (ae (aH (i:=4) sc__law_rings.nd (by rfl) (E5 rfl) dz)
       (ae (aZ Fx rfl (aX (by rfl) T.range_ (aa (pv 0) ab)) (aB (i:=5) sc__law_rings.nd (by rfl) (E5 rfl))
         (af (a8 (PW.pt (gA (aI bS (aw dO (aw j6 (pv 3) (pv 5)) ag) ag (nomark _)) (gz (aI kM (aK (av (K:=K) (by rfl)) (pv 1) (aw mY (pv 3) (aw bJ ag (pv 5))) (λ_ _=>rfl)) (aw dr (ao c__law_size hr (by decide) (by rfl) (aa (pv 3) ab)) ag) (nomark _)))))
           (af (aH (i:=4) sc__law_rings.nd (by rfl) (E5 rfl) dz))
           aN)))
       (af (a8 (bT (pv 4))
         (af (cq (gZ (K:=K) (by rfl) GO GH GI cK (pv 2) (aa (pv 3) ab))))
         aN))))
       aN)))
   (af (aD (pv 2))))),?_⟩
 have p8:=dy hn;have ppos:=bP n;refine⟨FV _,λq hq=> ?_⟩;refine⟨_,rfl,_,_,rfl,rfl,⟨by lia,by lia,by decide⟩,_,rfl,?_⟩;rw[cj];refine⟨by lia,by lia,?_⟩;rw[E4];refine bV (n:=2^n) (λi σ H2=>∃ (v3 v4 v5:Option V),Same H H2/\H2 q=some (.lst ((aG ((List.range i).filter (cJ ms))).map V.int))/\σ=[some (.int (n:Int)),some (.ref a),some (.ref q),v3,v4,v5])
  ⟨none,none,none,Same.new hq,ah,rfl⟩ ?_ ?_
 .rintro i σ H2 hi ⟨v3,v4,v5,sm2,hq2,rfl⟩;have ha2:=sm2.seq ha;have e0:(0+(i:Int)).toNat=i:=by lia
  have i256:i<256:=by lia
  have at0:atI ((cz ms n).map V.int) (0+(i:Int))=some (.int ((au ms i:Nat):Int)):=by rw[FX];exact d7 hi
  have re:=BH (ms:=ms) hn hi;have ef:(List.range (i+1)).filter (cJ ms)=if cJ ms i=true then(List.range i).filter (cJ ms)++[i]else(List.range i).filter (cJ ms):=by rw[GA,Hj];by_cases h:cJ ms i=true<;>simp[h]
  refine⟨_,rfl,_,rfl,a,_,_,_,rfl,rfl,ha2,at0,_,rfl,_,rfl,by lia,by lia,_,_,rfl,rfl,_,rfl,cn (λhc=> ?_) λhc=> ?_⟩
  .rw[e0]at hc;refine⟨_,rfl,_,rfl,by lia,by lia,?_⟩;rw[E4];refine bV (n:=n) (λj σ H3=>H3=H2/\∃v,σ=[some (.int (n:Int)),some (.ref a),some (.ref q),some (.int (0+(i:Nat))),some (.bl (kE ms i j)),v]) ⟨rfl,_,rfl⟩ ?_ ?_
   .intro j σ H3 hj hw;obtain⟨eH,v,es⟩:=hw;subst es;subst eH;have rs:=uW ms i j;refine⟨_,rfl,_,rfl,_,_,rfl,rfl,(by show(0:Int)<=0+(j:Int);lia),_,_,rfl,rfl,rfl,_,rfl,?_⟩;have eb:decide (V.int (Builtin.bitAnd ((0+(i:Int)) /2^(0+(j:Int)).toNat) 1)=V.int 1)=i.testBit j:=by rw[FX];exact lS
    rw[eb];refine cn (λhb=> ?_) λhb=> ?_
    .have j8:j<8:=by lia
     have dl:=cv i i256 j j8 hb;obtain⟨x1,x2⟩:=hE i i256 j j8;have e1:(0+(j:Int)).toNat=j:=by lia
     have e2:(1*2^(0+(j:Int)).toNat:Int)=((2^j:Nat):Int):=by rw[e1,Hl];simp
     have ex:Builtin.bitXor (0+(i:Int)) (1*2^(0+(j:Int)).toNat)=((i^^^2^j:Nat):Int):=by unfold Builtin.bitXor;rw[e2,FX,cc,cZ];lia
     have at1:atI ((cz ms n).map V.int) (Builtin.bitXor (0+(i:Int)) (1*2^(0+(j:Int)).toNat))=some (.int ((au ms (i^^^2^j):Nat):Int)):=by rw[ex];exact d7 (by lia)
     refine⟨_,rfl,_,rfl,_,rfl,_,_,rfl,rfl,⟨by lia,by lia,by decide⟩,_,_,rfl,rfl,a,_,_,_,rfl,rfl,ha2,at1,_,rfl,_,rfl,by lia,by lia,_,_,rfl,rfl,_,_,rfl,rfl,_,rfl,cn (λhd=> ?_) λhd=> ?_⟩
     .rw[e0]at hd;refine⟨rfl,some (.int (0+(j:Nat))),?_⟩;rw[rs,hb,hd,Bool.and_self,Bool.not_true,GS];rfl
     .rw[e0]at hd;refine⟨rfl,some (.int (0+(j:Nat))),?_⟩;rw[rs,hb,F4.mpr hd,GS,IB,HU];rfl
    .refine dt ⟨rfl,some (.int (0+(j:Nat))),?_⟩;rw[rs,F4.mpr hb,HY,IB,HU];rfl
   .intro σ H3 hw;obtain⟨eH,v,es⟩:=hw;subst es;subst eH;have er:cJ ms i=kE ms i n:=by rw[re,hc,GR]
    refine⟨_,rfl,_,rfl,cn (λhd=> ?_) λhd=> ?_⟩
    .rw[<-er]at hd;rw[E9 hd]at ef;refine⟨_,rfl, .inl ⟨rfl,_,SqL.of hq2⟩,_,rfl,q,_,_,rfl,rfl,hq2,?_,?_⟩
     .rw[E3];unfold aG;rw[E3];exact Ft (Ga _ _) (by rw[FD];exact HP i256 (by decide))
     refine⟨_,_,_,sm2.upd hq,?_,rfl⟩;rw[ah,ef];unfold aG;rw[FW,FW];show some (HO.lst (_++[V.int (0+(i:Int))]))=some (HO.lst (_++[V.int (i:Int)]));rw[FX]
    .rw[<-er]at hd;rw[Fg hd]at ef;exact⟨_,_,_,sm2,by rw[ef];exact hq2,rfl⟩
  .rw[e0]at hc;have er:¬cJ ms i=true:=by rw[re,F4.mpr hc,HY];exact Fo
   rw[Fg er]at ef;exact⟨_,_,_,sm2,by rw[ef];exact hq2,rfl⟩
 .rintro σ H2 ⟨v3,v4,v5,sm2,hq2,rfl⟩;exact⟨_,rfl,k q H2 sm2 hq hq2⟩
theorem sc__law_flats:aE ["_law_many","_law_levels","_law_found","_law_s","_law_flat","_law_k"] ["_law_many","_law_levels"] (aq s__law_flats):=⟨rfl,rfl,rfl,by decide+kernel,rfl,by decide+kernel,by decide+kernel⟩
theorem oB(T:Tb K mg)(D:aS K mg "_law_flats" s__law_flats ["_law_many","_law_levels"]):Cal P w K mg base 1 "_law_flats" ["_law_many","_law_levels"] (sk K):=by
 refine D.cal sc__law_flats (λvs H Q E h=>by obtain⟨a,ms,n,rfl,_⟩:=h;rfl) λf cdv A outer σs H vs Q E hr h=> ?_;obtain⟨a,ms,n,rfl,ha,hn,k⟩:=h;refine⟨_,(ae (aH (i:=2) sc__law_flats.nd (by rfl) (E5 rfl) (e6 ab))
   (ae (aZ Fx rfl (aX (by rfl) T.range_ (aa (aw bJ ag (pv 0)) ab)) (aB (i:=3) sc__law_flats.nd (by rfl) (E5 rfl))
     (ae (aH (i:=4) sc__law_flats.nd (by rfl) (E5 rfl) dz)
     (ae (aZ Fx rfl (aX (by rfl) T.range_ (aa (pv 0) ab)) (aB (i:=5) sc__law_flats.nd (by rfl) (E5 rfl))
       (af (a8 (PW.pt (gA (aI bS (aw dO (aw j6 (pv 3) (pv 5)) ag) ag (nomark _)) (gz (aI bS (aK (av (K:=K) (by rfl)) (pv 1) (aw hG (pv 3) (aw bJ ag (pv 5))) (λ_ _=>rfl)) (aK (av (K:=K) (by rfl)) (pv 1) (pv 3) (λ_ _=>rfl)) (nomark _)))))
         (af (aH (i:=4) sc__law_flats.nd (by rfl) (E5 rfl) dz))
         aN)))
     (af (a8 (bT (pv 4))
       (af (cq (gZ (K:=K) (by rfl) GO GH GI cK (pv 2) (aa (pv 3) ab))))
       aN)))))
   (af (aD (pv 2))))),?_⟩
 have p8:=dy hn;have ppos:=bP n;refine⟨FV _,λq hq=> ?_⟩;refine⟨_,rfl,_,_,rfl,rfl,⟨by lia,by lia,by decide⟩,_,rfl,?_⟩;rw[cj];refine⟨by lia,by lia,?_⟩;rw[E4];refine bV (n:=2^n) (λi σ H2=>∃ (v3 v4 v5:Option V),Same H H2/\H2 q=some (.lst ((aG ((List.range i).filter λs=>fZ ms s n)).map V.int))/\σ=[some (.int (n:Int)),some (.ref a),some (.ref q),v3,v4,v5])
  ⟨none,none,none,Same.new hq,ah,rfl⟩ ?_ ?_
 .rintro i σ H2 hi ⟨v3,v4,v5,sm2,hq2,rfl⟩;have ha2:=sm2.seq ha;have e0:(0+(i:Int)).toNat=i:=by lia
  have i256:i<256:=by lia
  have at0:atI ((cz ms n).map V.int) (0+(i:Int))=some (.int ((au ms i:Nat):Int)):=by rw[FX];exact d7 hi
  have ef:(List.range (i+1)).filter (λs=>fZ ms s n)=if fZ ms i n=true then(List.range i).filter (λs=>fZ ms s n)++[i]else(List.range i).filter (λs=>fZ ms s n):=by rw[GA,Hj];by_cases h:fZ ms i n=true<;>simp[h]
  refine⟨_,rfl,_,rfl,by lia,by lia,?_⟩;rw[E4];refine bV (n:=n) (λj σ H3=>H3=H2/\∃v,σ=[some (.int (n:Int)),some (.ref a),some (.ref q),some (.int (0+(i:Nat))),some (.bl (fZ ms i j)),v]) ⟨rfl,_,rfl⟩ ?_ ?_
  .intro j σ H3 hj hw;obtain⟨eH,v,es⟩:=hw;subst es;subst eH;have rs:=vL ms i j;refine⟨_,rfl,_,rfl,_,_,rfl,rfl,(by show(0:Int)<=0+(j:Int);lia),_,_,rfl,rfl,rfl,_,rfl,?_⟩;have eb:decide (V.int (Builtin.bitAnd ((0+(i:Int)) /2^(0+(j:Int)).toNat) 1)=V.int 0)= !i.testBit j:=by rw[FX];exact zH
   rw[eb];refine cn (λhb=> ?_) λhb=> ?_
   .have dl:=bA hi hj;have e1:(0+(j:Int)).toNat=j:=by lia
    have e2:(1*2^(0+(j:Int)).toNat:Int)=((2^j:Nat):Int):=by rw[e1,Hl];simp
    have ex:Builtin.bitOr (0+(i:Int)) (1*2^(0+(j:Int)).toNat)=((i|||2^j:Nat):Int):=by rw[e2,FX,cc]
    have at1:atI ((cz ms n).map V.int) (Builtin.bitOr (0+(i:Int)) (1*2^(0+(j:Int)).toNat))=some (.int ((au ms (i|||2^j):Nat):Int)):=by rw[ex];exact d7 dl
    refine⟨_,rfl,_,rfl,_,rfl,_,_,rfl,rfl,⟨by lia,by lia,by decide⟩,_,_,rfl,rfl,a,_,_,_,rfl,rfl,ha2,at1,_,rfl,_,rfl,a,_,_,_,rfl,rfl,ha2,at0,rfl,_,rfl,?_⟩;rw[cI];refine cn (λhd=> ?_) λhd=> ?_
    .refine⟨rfl,some (.int (0+(j:Nat))),?_⟩;rw[rs,hb,hd,Bool.and_self,Bool.not_true,GS];rfl
    .refine⟨rfl,some (.int (0+(j:Nat))),?_⟩;rw[rs,hb,F4.mpr hd,GS,IB,HU];rfl
   .refine dt ⟨rfl,some (.int (0+(j:Nat))),?_⟩;rw[rs,F4.mpr hb,HY,IB,HU];rfl
  .intro σ H3 hw;obtain⟨eH,v,es⟩:=hw;subst es;subst eH;refine⟨_,rfl,_,rfl,cn (λhd=> ?_) λhd=> ?_⟩
   .rw[E9 hd]at ef;refine⟨_,rfl, .inl ⟨rfl,_,SqL.of hq2⟩,_,rfl,q,_,_,rfl,rfl,hq2,?_,?_⟩
    .rw[E3,bG];exact Ft (Ga _ _) (by rw[FD];exact HP i256 (by decide))
    refine⟨_,_,_,sm2.upd hq,?_,rfl⟩;rw[ah,ef];unfold aG;rw[FW,FW];show some (HO.lst (_++[V.int (0+(i:Int))]))=some (HO.lst (_++[V.int (i:Int)]));rw[FX]
   .rw[Fg hd]at ef;exact⟨_,_,_,sm2,by rw[ef];exact hq2,rfl⟩
 .rintro σ H2 ⟨v3,v4,v5,sm2,hq2,rfl⟩;exact⟨_,rfl,k q H2 sm2 hq hq2⟩
theorem sc__law_two:aE ["_law_a","_law_b","_law_j","_law_k"] ["_law_a","_law_b","_law_j","_law_k"] (aq s__law_two):=⟨rfl,rfl,rfl,by decide+kernel,rfl,by decide+kernel,by decide+kernel⟩
theorem sY(D:aS K mg "_law_two" s__law_two ["_law_a","_law_b","_law_j","_law_k"]):Cal P w K mg base 1 "_law_two" ["_law_a","_law_b","_law_j","_law_k"] (zC K):=by refine D.cal sc__law_two (λvs H Q E h=>by obtain⟨a,b,x,y,n,j,k,rfl,_⟩:=h;rfl) λf cdv A outer σs H vs Q E hr h=> ?_;obtain⟨a,b,x,y,n,j,kk,rfl,ha,hb,hx,hy,hj,hk,k⟩:=h;refine⟨_,(af (aD (aw dr (aw bQ (aK (av (K:=K) (by rfl)) (pv 0) (pv 2) (λ_ _=>rfl)) (aK (av (K:=K) (by rfl)) (pv 1) (pv 3) (λ_ _=>rfl))) (aw bQ (aK (av (K:=K) (by rfl)) (pv 0) (pv 3) (λ_ _=>rfl)) (aK (av (K:=K) (by rfl)) (pv 1) (pv 2) (λ_ _=>rfl)))))),?_⟩;have x1:atI (x.map V.int) (j:Int)=some (.int (x.getD j 0)):=bc (by rw[hx.1];exact hj);have x2:atI (x.map V.int) (kk:Int)=some (.int (x.getD kk 0)):=bc (by rw[hx.1];exact hk);have y1:atI (y.map V.int) (j:Int)=some (.int (y.getD j 0)):=bc (by rw[hy.1];exact hj);have y2:atI (y.map V.int) (kk:Int)=some (.int (y.getD kk 0)):=bc (by rw[hy.1];exact hk);have m1:bO (x.getD j 0) (y.getD kk 0):=bO.of (hx.at j) (hy.at kk) (by decide);have m2:bO (x.getD kk 0) (y.getD j 0):=bO.of (hx.at kk) (hy.at j) (by decide);exact⟨_,rfl,_,rfl,a,_,_,_,rfl,rfl,SqL.of ha,x1,_,rfl,_,rfl,b,_,_,_,rfl,rfl,SqL.of hb,y2,_,_,rfl,rfl,m1,_,rfl,_,rfl,a,_,_,_,rfl,rfl,SqL.of ha,x2,_,rfl,_,rfl,b,_,_,_,rfl,rfl,SqL.of hb,y1,_,_,rfl,rfl,m2,_,_,rfl,rfl,k⟩
theorem sc__law_some:aE ["_law_number_here","_law_prime"] ["_law_number_here","_law_prime"] (aq s__law_some):=⟨rfl,rfl,rfl,by decide+kernel,rfl,by decide+kernel,by decide+kernel⟩
theorem qX(D:aS K mg "_law_some" s__law_some ["_law_number_here","_law_prime"]):Cal P w K mg base 1 "_law_some" ["_law_number_here","_law_prime"] wq:=by
 refine D.cal sc__law_some (λvs H Q E h=>by obtain⟨z,m,rfl,_⟩:=h;rfl) λf cdv A outer σs H vs Q E hr h=> ?_;obtain⟨z,m,rfl,m0,k⟩:=h;refine⟨_,(ae (a8 (aI kN (pv 1) ag (nomark _))
     (af (aD (fg jo (aw bE (pv 0) (pv 1)) ag (nomark _))))
     aN)
   (af (aD (fg jo (pv 0) ag (nomark _))))),?_⟩
 have key:∀y:Int,(y=0↔m∣z)->((!decide (V.int y=V.int 0))=true↔¬m∣z):=λy hy=>by
  by_cases e:y=0
  .have e2:m∣z:=hy.mp e;rw[E6 (by rw[e])];exact⟨λh=>absurd h (by decide),λh=>absurd e2 h⟩
  .rw[E8 λh=>e (V.int.inj h)];exact⟨λ_ h=>e (hy.mpr h),λ_=>rfl⟩
 refine⟨_,rfl,_,_,rfl,rfl,_,rfl,cn (λh=> ?_) λh=> ?_⟩
 .have mp:0<m:=Fi h;exact⟨_,rfl,_,rfl,_,_,rfl,rfl,mp,rfl,k _ (key _ ⟨Int.dvd_of_emod_eq_zero,Int.emod_eq_zero_of_dvd⟩)⟩
 .have mp:m=0:=by have:=Gy (F4.mpr h);lia
  refine⟨_,rfl,rfl,k _ (key _ ?_)⟩;rw[mp];exact JF.symm
theorem sc__law_number:aE ["_law_cell","_law_k","_law_way","_law_mixed"] ["_law_cell","_law_k","_law_way"] (aq s__law_number):=⟨rfl,rfl,rfl,by decide+kernel,rfl,by decide+kernel,by decide+kernel⟩
theorem j7(D:aS K mg "_law_number" s__law_number ["_law_cell","_law_k","_law_way"]):Cal P w K mg base 1 "_law_number" ["_law_cell","_law_k","_law_way"] sj:=by
 refine D.cal sc__law_number (λvs H Q E h=>by obtain⟨c,k,w,rfl,_⟩:=h;rfl) λf cdv A outer σs H vs Q E hr h=> ?_;obtain⟨c,kk,way,rfl,hc,hk,k⟩:=h;refine⟨_,(ae (aH (i:=3) sc__law_number.nd (by rfl) (E5 rfl) (aw bQ (aw cX (aw cX (pv 0) (pv 1)) ag) (aw cX ag (aw bQ (aw bQ ag (pv 1)) (pv 1)))))
   (ae (a8 (aI bS (pv 2) ag (nomark _))
     (af (aD (aw dr (aw bE (aw bQ (pv 3) (aw cX (aw vi ag ag) ag)) (aw dr (aw bQ ag (aw vi ag ag)) ag)) (aw dr (aw vi ag ag) ag))))
     aN)
   (af (aD (aw bE (aw bE (pv 3) ag) ag))))),?_⟩
 obtain⟨B,hB⟩:∃B:Nat,B=2^20:=⟨_,rfl⟩;rw[<-hB]at hc;have a1:=ij hc;have a2:(c+(kk:Int)+1).natAbs<2^(B+7):=by rw[Int.add_assoc];exact Bl a1 (by lia)
 have k2:(31*(kk:Int)).natAbs<2^12:=by lia
 have k7:((kk:Int)).natAbs<2^7:=by lia
 have mA:bO 31 (kk:Int):=bO.of (k:=5) (by decide) k7 (by decide);have mB:bO (31*(kk:Int)) (kk:Int):=bO.of k2 k7 (by decide);have k3:=iA k2 k7;have k4:(7919+31*(kk:Int)*(kk:Int)).natAbs<2^20:=by lia
 have mC:bO (c+(kk:Int)+1) (7919+31*(kk:Int)*(kk:Int)):=bO.of a2 k4 (by lia);have a3:=iA a2 k4;refine⟨_,rfl,_,rfl,_,_,rfl,rfl,_,_,rfl,rfl,_,rfl,_,_,rfl,rfl,mA,_,rfl,_,_,rfl,rfl,mB,_,_,rfl,rfl,_,_,rfl,rfl,mC,?_⟩;generalize (c+(kk:Int)+1)*(7919+31*(kk:Int)*(kk:Int))=mx at*;have e55:(10^(55:Int).toNat+33:Int).natAbs<2^190:=by decide
 have mD:bO mx (10^(55:Int).toNat+33):=bO.of a3 e55 (by lia);have b60:bO 2 (10^(60:Int).toNat):=bO.of (k:=2) (m:=200) (by decide) (by decide) (by decide);have p60:(0:Int)<2*10^(60:Int).toNat-1:=by decide
 refine⟨_,rfl,rfl,_,rfl,cn (λz=> ?_) λz=> ?_⟩
 .refine⟨_,rfl,_,_,rfl,rfl,⟨by decide,by decide,by decide⟩,_,_,rfl,rfl,_,_,rfl,rfl,mD,_,_,rfl,rfl,⟨by decide,by decide,by decide⟩,_,_,rfl,rfl,b60,_,_,rfl,rfl,_,_,rfl,rfl,p60,_,_,rfl,rfl,⟨by decide,by decide,by decide⟩,_,_,rfl,rfl,_,_,rfl,rfl,k _ ?_⟩;generalize mx*(10^(55:Int).toNat+33)=zz;have h1:=Hq zz (show(2*10^(60:Int).toNat-1:Int)≠0 by decide);have h2:=Hk zz p60;have e60:(10:Int)^(60:Int).toNat=1000000000000000000000000000000000000000000000000000000000000:=by decide
  generalize zz % (2*10^(60:Int).toNat-1)=z at*;rw[e60]at*;have e2:2^200=1606938044258990275541962092341162602522202993782792835301376:=by decide
  rw[e2];clear a1 a2 a3 k3 k4 k2 k7 mA mB mC mD hc e55 b60 p60;lia
 have few:∀ (t:Int) (u:Int),0<t->t<=19->0<=u->u<=9->(mx % 65521 % t-u).natAbs<2^200:=λt u h1 h2 h3 h4=>by have g1:=Hq (mx % 65521) (show t≠0 by lia);have g2:=Hk (mx % 65521) h1;exact Fb (show(mx % 65521 % t-u).natAbs<2^6 by lia) (Fy (by decide) (by decide))
 refine⟨_,rfl,_,_,rfl,rfl,(by show(0:Int)<65521;decide),_,_,rfl,rfl,(by show(0:Int)<3;decide),k _ ?_⟩;have:=few 3 0 (by decide) (by decide) (by decide) (by decide)
 rwa [Int.sub_zero]at this
theorem sc__law_pieces:aE ["_law_points","_law_ties","_law_s","_law_heads","_law_at","_law_one","_law_other"] ["_law_points","_law_ties","_law_s"] (aq s__law_pieces):=⟨rfl,rfl,rfl,by decide+kernel,rfl,by decide+kernel,by decide+kernel⟩
theorem ng(T:Tb K mg)(D:aS K mg "_law_pieces" s__law_pieces ["_law_points","_law_ties","_law_s"]):Cal P w K mg base 1 "_law_pieces" ["_law_points","_law_ties","_law_s"] (wA K):=by
 refine D.cal sc__law_pieces (λvs H Q E h=>by obtain⟨a,xs,ts,p,s,rfl,_⟩:=h;rfl) λf cdv A outer σs H vs Q E hr h=> ?_;obtain⟨a,xs,ts,p,s,rfl,ha,hx,hok,hp8,ht8,hs,k⟩:=h;refine⟨_,(ae (aH (i:=3) sc__law_pieces.nd (by rfl) (GD rfl) (bR (vars:=["_law_k"]) (frn:=[]) (fr:=[]) rfl (by rfl) (by rfl) (by rfl) (by rfl) FA (aX (by rfl) T.range_ (aa (pv 0) ab)) (λ_ _ _ _=>(aB (i:=0) (show List.Nodup (["_law_k"]:List PySem.Str) by decide+kernel) (by rfl) (E5 rfl))) (λ_ _ _ _=>bz) (λ_ _ _ _=>(pv 0))))
   (ae (aZ Fx rfl (aX (by rfl) T.range_ (aa (aO (aM (K:=K) (by rfl)) (by rfl) T.len_ FY (aa (pv 1) ab)) ab)) (aB (i:=4) sc__law_pieces.nd (by rfl) (E5 rfl))
     (af (a8 (aI bS (aw dO (aw j6 (pv 2) (pv 4)) ag) ag (nomark _))
       (ae (aH (i:=5) sc__law_pieces.nd (by rfl) (GD rfl) (aK (av (K:=K) (by rfl)) (pv 3) (aK (fW (K:=K) (by rfl)) (aK (av (K:=K) (by rfl)) (pv 1) (pv 4) (λ_ _=>rfl)) ag (λ_ _=>rfl)) (λ_ _=>rfl)))
       (ae (aH (i:=6) sc__law_pieces.nd (by rfl) (GD rfl) (aK (av (K:=K) (by rfl)) (pv 3) (aK (fW (K:=K) (by rfl)) (aK (av (K:=K) (by rfl)) (pv 1) (pv 4) (λ_ _=>rfl)) ag (λ_ _=>rfl)) (λ_ _=>rfl)))
       (af (aH (i:=3) sc__law_pieces.nd (by rfl) (GD rfl) (bR (vars:=["_law_head"]) (frn:=["_law_one","_law_other"]) (fr:=[5,6]) rfl (by rfl) (by rfl) (by rfl) (by rfl) ⟨⟨by rfl,E5 (by rfl),E5 (by rfl)⟩,⟨⟨by rfl,E5 (by rfl),E5 (by rfl)⟩,FA⟩⟩ (aF (K:=K) (by rfl) (pv 3)) (λ_ _ _ _=>(aB (i:=0) (show List.Nodup (["_law_head","_law_one","_law_other"]:List PySem.Str) by decide+kernel) (by rfl) (E5 rfl))) (λ_ _ _ _=>bz) (λ_ _ _ _=>(sQ (aI (mZ (K:=K) (by rfl)) (pv 0) (cA (aa (pv 1) (aa (pv 2) ab))) (by rfl)) (aO (kr (by rfl)) (by rfl) T.min_ Jq (aa (pv 1) (aa (pv 2) ab))) (pv 0))))))))
       aN)))
   (af (aD (aO (aM (K:=K) (by rfl)) (by rfl) T.len_ FY (aa (bR (vars:=["_law_k"]) (frn:=["_law_heads"]) (fr:=[3]) rfl (by rfl) (by rfl) (by rfl) (by rfl) ⟨⟨by rfl,E5 (by rfl),E5 (by rfl)⟩,FA⟩ (aX (by rfl) T.range_ (aa (pv 0) ab)) (λ_ _ _ _=>(aB (i:=0) (show List.Nodup (["_law_k","_law_heads"]:List PySem.Str) by decide+kernel) (by rfl) (E5 rfl))) (λ_ _ _ _=>(bX (aI bS (aK (av (K:=K) (by rfl)) (pv 1) (pv 0) (λ_ _=>rfl)) (pv 0) (nomark _)))) (λ_ _ _ _=>(pv 0))) ab)))))),?_⟩
 refine⟨_,rfl,(p:Int),rfl,by lia,by lia,?_⟩;rw[E4];refine cP (λ_=>true) (λi=> .int (0+(i:Nat))) (Fc hp8 (by decide)) (λi vs H' R S hi hv sm hk=> ?_) λp1 H1 hp1 sm1 hl1=> ?_
 .obtain⟨v,rfl⟩:=aV hv;have q:=hk [some (.int (0+(i:Nat)))] H' rfl (Same.refl _);rw[E9 rfl]at q;simp only[bU,dI,E9];exact⟨_,rfl,q⟩
 rw[uR]at hl1;have hxl:=hx.1;refine⟨_,rfl,a,_,rfl, .inl (sm1.seq ha),_,rfl,by lia,by lia,?_⟩;rw[E4];refine bV (n:=xs.length) (λi σ H2=>Same H H2/\∃ (q:Addr) (hd:List Int) (v4 v5 v6:Option V),H2 q=some (.lst (hd.map V.int))/\Hds p (vz p ts s i) hd/\σ=[some (.int (p:Int)),some (.ref a),some (.int (s:Int)),some (.ref q),v4,v5,v6])
  ⟨sm1,p1,start p,none,none,none,hl1,Hds.start p,rfl⟩ ?_ ?_
 .rintro i σ H2 hi ⟨sm2,q,hd,v4,v5,v6,hq,HD,rfl⟩;have ms:=yd p ts s i;have eb:decide (V.int (Builtin.bitAnd ((s:Int) /2^(0+(i:Int)).toNat) 1)=V.int 1)=s.testBit i:=lS;refine⟨_,rfl,_,rfl,_,_,rfl,rfl,(by show(0:Int)<=0+(i:Int);lia),_,_,rfl,rfl,rfl,_,rfl,?_⟩;rw[eb];refine cn (λhb=> ?_) λhb=> ?_
  .rw[E9 hb]at ms;have hit:i<ts.length:=by lia
   obtain⟨c,hc1,hc2⟩:=hx.2 i ts[i] (Fs hit);have et:ts.getD i (0,0)=ts[i]:=by simp[hit]
   have bt:=hok ts[i] (Gj hit);rw[et]at ms;generalize ts[i]=t at*;have hc2':=sm2.at hc2;have at1:atI xs (0+(i:Int))=some (.ref c):=by rw[FX];exact bw hc1
   have t0:atI [V.int (t.1:Int),V.int (t.2:Int)] 0=some (.int t.1):=bw (j:=0) rfl;have t1:atI [V.int (t.1:Int),V.int (t.2:Int)] 1=some (.int t.2):=bw (j:=1) rfl;have ax:atI (hd.map V.int) (t.1:Int)=some (.int (hd.getD t.1 0)):=bc (by rw[HD.len];exact bt.1);have ay:atI (hd.map V.int) (t.2:Int)=some (.int (hd.getD t.2 0)):=bc (by rw[HD.len];exact bt.2);refine⟨_,rfl,_,rfl,_,rfl,a,_,_,_,rfl,rfl,sm2.seq ha,at1,c,_,_,_,rfl,rfl,SqT.of hc2',t0,q,_,_,_,rfl,rfl,SqL.of hq,ax,?_⟩;refine⟨_,rfl,_,rfl,_,rfl,a,_,_,_,rfl,rfl,sm2.seq ha,at1,c,_,_,_,rfl,rfl,SqT.of hc2',t1,q,_,_,_,rfl,rfl,SqL.of hq,ay,?_⟩;refine⟨_,rfl,q,rfl,⟨_,SqL.of hq⟩,?_⟩;refine bh (λx=>(λ_=>true) (aW x)) (λv=> .int ((λh:Int=>if h=hd.getD t.1 0\/h=hd.getD t.2 0 then tG (hd.getD t.1 0) (hd.getD t.2 0)else h) (aW v))) (SqL.of hq) (by rw[E3,HD.len];exact Fc hp8 (by decide)) (λj v vs H' R S hv' hv sm hk=> ?_) λq2 H3 hq2 sm3 hl3=> ?_
   .obtain⟨v,rfl⟩:=aV hv;obtain⟨m,rfl,hm⟩:=aQ hv';simp only[bU,dI,E9];refine⟨_,rfl,_,rfl,_,rfl,by show 2<=sizeLine;decide,λpt hpt=> ?_⟩;have q':=hk [some (.int m)] _ rfl (Same.new (o:= .tup [V.int (hd.getD t.1 0),V.int (hd.getD t.2 0)]) hpt);rw[E9 rfl]at q';refine⟨pt,_,rfl, .inr (SqT.of ah),rfl,rfl,_,rfl,?_⟩;have ein:inV (V.int m) [V.int (hd.getD t.1 0),V.int (hd.getD t.2 0)]=decide (m=hd.getD t.1 0\/m=hd.getD t.2 0):=by have e:=ia m [hd.getD t.1 0,hd.getD t.2 0];rw[show inV (V.int m) [V.int (hd.getD t.1 0),V.int (hd.getD t.2 0)]=inV (V.int m) ([hd.getD t.1 0,hd.getD t.2 0].map V.int)from rfl,e];exact Ii.mpr (by simp)
    show if(inV (V.int m) [V.int (hd.getD t.1 0),V.int (hd.getD t.2 0)])=true then _ else _;rw[ein];replace q':R (V.int (if m=hd.getD t.1 0\/m=hd.getD t.2 0 then tG (hd.getD t.1 0) (hd.getD t.2 0)else m)) _ _:=q';refine cn (λhc=> ?_) λhc=> ?_
    .rw[E9 (Fi hc)]at q';exact⟨_,rfl,_,rfl,_,_,rfl,q'⟩
    .rw[Fg (Gy (F4.mpr hc))]at q';exact⟨_,rfl,q'⟩
   replace hl3:=hl3.trans (Fu (λl=>some (HO.lst l)) (aU (λ_=>true) (λh:Int=>if h=hd.getD t.1 0\/h=hd.getD t.2 0 then tG (hd.getD t.1 0) (hd.getD t.2 0)else h) hd));rw[Gf.mpr (λ_ _=>rfl)]at hl3;refine⟨sm2.trans sm3,q2,vx hd t.1 t.2,_,_,_,hl3,?_,rfl⟩;rw[ms];exact HD.step bt.1 bt.2
  .rw[Fg hb]at ms;exact⟨sm2,q,hd,_,_,_,hq,by rw[ms];exact HD,rfl⟩
 .rintro σ H2 ⟨sm2,q,hd,v4,v5,v6,hq,HD,rfl⟩;rw[hxl,AA ht8 hs]at HD;refine⟨_,rfl,(p:Int),rfl,by lia,by lia,?_⟩;rw[E4];refine cP (λi=>decide (hd.getD i 0=(i:Int))) (λi=> .int (0+(i:Nat))) (Fc hp8 (by decide)) (λi vs H' R S hi hv sm hk=> ?_) λp3 H3 hp3 sm3 hl3=> ?_
  .obtain⟨v,rfl⟩:=aV hv;have qq:=hk [some (.int (0+(i:Nat)))] H' rfl (Same.refl _);have at1:atI (hd.map V.int) (0+(i:Int))=some (.int (hd.getD i 0)):=by rw[FX];exact bc (by rw[HD.len];exact hi)
   refine⟨_,rfl,_,rfl,q,_,_,_,rfl,rfl,SqL.of (sm.at hq),at1,_,rfl,rfl,_,rfl,?_⟩;have e2:decide (V.int (hd.getD i 0)=V.int (0+(i:Int)))=decide (hd.getD i 0=(i:Int)):=by rw[FX];exact Ii.mpr ⟨λz=>V.int.inj z,λz=>by rw[z]⟩
   rw[e2];show if decide (hd.getD i 0=(i:Int))=true then _ else _;by_cases hc:decide (hd.getD i 0=(i:Int))=true
   .rw[E9 hc]at qq⊢;exact⟨_,rfl,qq⟩
   .rw[Fg hc]at qq⊢;exact qq
  rw[eu]at hl3;have:=k H3 (sm2.trans sm3);refine⟨p3,_,rfl, .inl (SqL.of hl3),?_⟩;rw[E3,E3];have e:((List.range p).filter λi=>decide (hd.getD i 0=(i:Int))).length=pcs p ts s:=HD.count.symm;rw[e];exact this
theorem sc__law_net:aE ["_law_cells","_law_many","_law_points","_law_ties","_law_k","_law_mixed","_law_due"] ["_law_cells","_law_many"] (aq s__law_net):=⟨rfl,rfl,rfl,by decide+kernel,rfl,by decide+kernel,by decide+kernel⟩
theorem sZ(T:Tb K mg)(D:aS K mg "_law_net" s__law_net ["_law_cells","_law_many"])(c__law_pieces:Cal P w K mg base 1 "_law_pieces" ["_law_points","_law_ties","_law_s"] (wA K))(n_Net:jQ P w K mg base 2 "Net" cN ["self","n","points","ties"] (wB K cN)):Cal P w K mg base 4 "_law_net" ["_law_cells","_law_many"] (qF K (CA cN)):=by
 refine D.cal sc__law_net (λvs H Q E h=>by obtain⟨b,cs,n,rfl,_⟩:=h;rfl) λf cdv A outer σs H vs Q E hr h=> ?_;obtain⟨b,cs,n,rfl,hC,n6,kk⟩:=h;refine⟨_,(ae (aH (i:=2) sc__law_net.nd (by rfl) (GD rfl) (aw cX ag (aw bE (aw bE (aw bQ (aK (av (K:=K) (by rfl)) (pv 0) ag (λ_ _=>rfl)) ag) ag) ag)))
   (ae (aH (i:=3) sc__law_net.nd (by rfl) (GD rfl) (e6 ab))
   (ae (aZ Fx rfl (aX (by rfl) T.range_ (aa (pv 1) ab)) (aB (i:=4) sc__law_net.nd (by rfl) (E5 rfl))
     (ae (aH (i:=5) sc__law_net.nd (by rfl) (E5 rfl) (aw bE (aw bQ (aw cX (aK (av (K:=K) (by rfl)) (pv 0) (aw bE (pv 4) (aO (aM (K:=K) (by rfl)) (by rfl) T.len_ FY (aa (pv 0) ab))) (λ_ _=>rfl)) (pv 4)) (aw cX ag (aw bQ (aw bQ ag (pv 4)) (pv 4)))) ag))
     (af (cq (gZ (K:=K) (by rfl) GO GH GI cK (pv 3) (aa (cA (aa (aw bE (pv 5) (pv 2)) (aa (aw bE (aw ix (pv 5) ag) (pv 2)) ab))) ab))))))
   (ae (dN (i:=6) sc__law_net.nd (by rfl) (by rfl) (vars:=["_law_s"]) (frn:=["_law_points","_law_ties"]) (fr:=[2,3]) rfl (by rfl) (by rfl) (by rfl) (by rfl) ⟨⟨by rfl,E5 (by rfl),E5 (by rfl)⟩,⟨⟨by rfl,E5 (by rfl),E5 (by rfl)⟩,FA⟩⟩ (aX (by rfl) T.range_ (aa (aw bJ ag (pv 1)) ab)) (λ_ _ _ _=>(aB (i:=0) (show List.Nodup (["_law_s","_law_points","_law_ties"]:List PySem.Str) by decide+kernel) (by rfl) (E5 rfl))) (λ_ _ _ _=>bz) (λ_ _ _ _=>(aw dr (pv 1) (ao c__law_pieces hr (by decide) (by rfl) (aa (pv 1) (aa (pv 2) (aa (pv 0) ab)))))))
   (af (aD (cA (aa (iL n_Net hr (by decide) (by rfl) (aa (pv 1) (aa (pv 2) (aa (pv 3) ab)))) (aa (pv 6) ab))))))))),?_⟩
 obtain⟨c0,at0,cb0⟩:=mr hC;have ppos:=bP n;have p64:2^n<=64:=Fy (n:=2) (by lia) n6;refine⟨_,rfl,b,_,_,_,rfl,rfl,hC.1,at0,_,_,rfl,rfl,cb0 16807 (by decide),_,_,rfl,rfl,by decide,_,_,rfl,rfl,by decide,_,_,rfl,rfl,?_⟩;(try dsimp only);obtain⟨p,ep,p0,p8⟩:∃p:Nat,1+c0*16807 % 65521 % 7=(p:Int)/\0<p/\p<=7:=⟨(1+c0*16807 % 65521 % 7).toNat,by lia,by lia,by lia⟩;rw[ep];refine⟨FV _,λq hq=> ?_⟩;refine⟨_,rfl,(n:Int),rfl,by lia,by lia,?_⟩;rw[E4];refine bV (n:=n) (λi σ H'=>∃xs v5 v6 v7,Same H H'/\H' q=some (.lst xs)/\xs.length=i/\EY p H' xs/\σ=[some (.ref b),some (.int (n:Int)),some (.int (p:Int)),some (.ref q),v5,v6,v7])
  ⟨[],none,none,none,Same.new hq,ah,rfl,(λy hy=>nomatch hy),rfl⟩ ?_ ?_
 .rintro i σ H' hi ⟨xs,v5,v6,v7,sm,hq',hxl,hT,rfl⟩;have hb:=sm.seq hC.1;obtain⟨cell,B,hB',at1,cb⟩:=Cw hC i;have at1':atI (cs.map V.int) ((0+(i:Int)) % ((cs.map V.int).length:Nat))=some (.int cell):=by rw[FX];exact at1
  have lpos:(0:Int)<((cs.map V.int).length:Nat):=by rw[E3];have:=hC.2.1;lia
  refine⟨_,rfl,_,rfl,_,rfl,b,_,rfl, .inl hb,_,_,rfl,rfl,lpos,b,_,_,_,rfl,rfl,hb,at1',_,rfl,_,_,rfl,rfl,?_⟩;rw[FX];have c0:=Bk (j:=3) cb (show((i:Int)).natAbs<2^3 by lia);have m1:bO 31 (i:Int):=bO.of (k:=5) (m:=3) (by decide) (by lia) (by decide);have m2:bO (31*(i:Int)) (i:Int):=bO.of (k:=8) (m:=3) (by lia) (by lia) (by decide);have hii:(i:Int)*(i:Int)=((i*i:Nat):Int):=by rw[Int.natCast_mul]
  have i16:i*i<=36:=Nat.mul_le_mul (show i<=6 by lia) (show i<=6 by lia);have m3:bO (cell+(i:Int)) (48271+31*(i:Int)*(i:Int)):=bO.of c0 (m:=20) (by rw[Ht,hii];lia) (by lia);refine⟨_,rfl,_,_,rfl,rfl,m1,_,rfl,_,_,rfl,rfl,m2,_,_,rfl,rfl,_,_,rfl,rfl,m3,_,_,rfl,rfl,by decide,?_⟩;(try dsimp only);obtain⟨mx,emx⟩:=Gn (show 0<=(cell+(i:Int))*(48271+31*(i:Int)*(i:Int)) % 2147483629 from Hq _ (by decide));rw[emx];refine⟨_,rfl, .inl ⟨rfl,_,SqL.of hq'⟩,_,rfl,_,rfl,_,_,rfl,rfl,(by show(0:Int)<(p:Int);lia),_,rfl,_,_,rfl,rfl,⟨by decide,by decide⟩,_,rfl,_,_,rfl,rfl,(by show(0:Int)<(p:Int);lia),(by show 2<=sizeLine;decide),λc hc=> ?_⟩;have e1:(mx:Int) % (p:Int)=((mx % p:Nat):Int):=(Jm ..).symm;have e2:(mx:Int) /1009 % (p:Int)=((mx/1009 % p:Nat):Int):=by rw[Jm,Int.natCast_ediv];rfl
  (try dsimp only);rw[e1,e2];have sc:Same H' (upd H' c (.tup [.int ((mx % p:Nat):Int), .int ((mx/1009 % p:Nat):Int)])):=Same.new hc;refine⟨q,xs,_,rfl,rfl,sc.at hq',by rw[hxl];exact Fb (show i<8 by lia) (by decide),?_⟩;have hcq:c≠q:=λz=>by rw[z,hq']at hc;cases hc
  refine⟨xs++[.ref c],_,_,_,(sm.trans sc).upd hq,ah,by rw[Fw,hxl];rfl,λy hy=> ?_,rfl⟩;rcases FE.mp hy with hy|hy
  .obtain⟨c',t',g1,g2,g3⟩:=hT y hy;exact⟨c',t',g1,(aC (gK (sc.at g2) (sc.at hq') (by intro z;cases z))).trans (sc.at g2),g3⟩
  .rw[FI.mp hy];exact⟨c,(mx % p,mx/1009 % p),rfl,(aC hcq).trans ah,JY _ p0,JY _ p0⟩
 rintro σ H' ⟨xs,v5,v6,v7,sm,hq',hxl,hT,rfl⟩;obtain⟨ts,hts,hok⟩:=sS xs hT;have tsl:ts.length=n:=by rw[<-hts.1,hxl]
 refine⟨_,rfl,_,_,rfl,rfl,⟨by lia,by lia,by decide⟩,_,rfl,?_⟩;rw[cj];refine⟨by lia,by lia,?_⟩;rw[E4];refine cP (λ_=>true) (λs=> .int ((rkC (ts.map fi) s:Nat):Int)) (Fc p64 (by decide)) (λi vs H2 R S hi hv sm2 hk=> ?_) λd H2 hd sm2 hl2=> ?_
 .obtain⟨v,rfl⟩:=aV hv;simp only[bU,dI,E9];refine⟨_,rfl,_,rfl,_,rfl,_,rfl,q,xs,ts,p,i,(by rw[FX];rfl),SqL.of (sm2.at hq'),hts.ts (e9.of sm2),hok,by lia,by lia,by rw[tsl];exact hi,λH3 sm3=> ?_⟩;have q':=hk [some (.int (0+(i:Nat)))] H3 rfl sm3;rw[E9 rfl]at q';refine⟨_,_,rfl,rfl,?_⟩;have e:=Ar hok (s:=i) (by rw[tsl];exact hi);(try dsimp only);rw[<-e];exact q'
 have hl2':H2 d=some (.lst ((aG ((List.range (2^n)).map (rkC (ts.map fi)))).map V.int)):=by rw[hl2,iI]
 have hq2:=sm2.at hq';have hts2:=hts.ts (e9.of sm2);refine⟨_,rfl,_,rfl,_,rfl,λph dh nph ndh neh=>⟨ph,dh,q,_,_,xs,ts,rfl,ah,SqL.of (by rw[aC (aA hq2 nph),aC (aA hq2 ndh)];exact hq2),hts2.ts (λb zs e=>by rw[aC (aA e nph),aC (aA e ndh)];exact e),by lia,λtt ws2 HA htt oth hph htup hys=> ?_⟩⟩;have smA:Same H2 HA:=λb o e=>oth b o (by rw[aC (aA e nph),aC (aA e ndh)];exact e) (aA e nph);refine⟨rfl,_,rfl,by show 2<=sizeLine;decide,λpt hpt=> ?_⟩;have smt:Same HA (upd HA pt (.tup [.ref ph, .ref d])):=Same.new hpt;have ho:CA cN HA ph n (rkC (ts.map fi)):=⟨p,ts,⟨dh,tt,ws2,hph,htup,hys⟩,hok,by lia,tsl,λs hs=>Ar hok (by rw[tsl];exact hs)⟩;obtain⟨p',ts',g1,g2⟩:=ho;exact kk pt ph d _ (rkC (ts.map fi)) (((sm.trans sm2).trans smA).trans smt) ah ⟨p',ts',g1.same smt,g2⟩ (AE _ (by lia)) (smt.at (smA.at hl2'))
theorem sc__law_three:aE ["_law_rows","_law_i","_law_j","_law_k","_law_number_here"] ["_law_rows","_law_i","_law_j","_law_k"] (aq s__law_three):=⟨rfl,rfl,rfl,by decide+kernel,rfl,by decide+kernel,by decide+kernel⟩
theorem lA(T:Tb K mg)(D:aS K mg "_law_three" s__law_three ["_law_rows","_law_i","_law_j","_law_k"])(c__law_two:Cal P w K mg base 1 "_law_two" ["_law_a","_law_b","_law_j","_law_k"] (zC K)):Cal P w K mg base 2 "_law_three" ["_law_rows","_law_i","_law_j","_law_k"] (oQ K):=by
 refine D.cal sc__law_three (λvs H Q E h=>by obtain⟨a,xs,L,n,i,j,kk,rfl,_⟩:=h;rfl) λf cdv A outer σs H vs Q E hr h=> ?_;obtain⟨a,xs,L,n,i,j,kk,rfl,ha,hx,hrow,li,lj,lk,l3,k1,k2⟩:=h;refine⟨_,(ae (a8 (aI kM (aO (aM (K:=K) (by rfl)) (by rfl) T.len_ FY (aa (pv 0) ab)) ag (nomark _))
     (af (aD ag))
     aN)
   (ae (aH (i:=4) sc__law_three.nd (by rfl) (E5 rfl) (aw dr (aw bQ (aK (av (K:=K) (by rfl)) (aK (av (K:=K) (by rfl)) (pv 0) ag (λ_ _=>rfl)) (pv 1) (λ_ _=>rfl)) (ao c__law_two hr (by decide) (by rfl) (aa (aK (av (K:=K) (by rfl)) (pv 0) ag (λ_ _=>rfl)) (aa (aK (av (K:=K) (by rfl)) (pv 0) ag (λ_ _=>rfl)) (aa (pv 2) (aa (pv 3) ab)))))) (aw bQ (aK (av (K:=K) (by rfl)) (aK (av (K:=K) (by rfl)) (pv 0) ag (λ_ _=>rfl)) (pv 2) (λ_ _=>rfl)) (ao c__law_two hr (by decide) (by rfl) (aa (aK (av (K:=K) (by rfl)) (pv 0) ag (λ_ _=>rfl)) (aa (aK (av (K:=K) (by rfl)) (pv 0) ag (λ_ _=>rfl)) (aa (pv 1) (aa (pv 3) ab))))))))
   (af (aD (aw cX (pv 4) (aw bQ (aK (av (K:=K) (by rfl)) (aK (av (K:=K) (by rfl)) (pv 0) ag (λ_ _=>rfl)) (pv 3) (λ_ _=>rfl)) (ao c__law_two hr (by decide) (by rfl) (aa (aK (av (K:=K) (by rfl)) (pv 0) ag (λ_ _=>rfl)) (aa (aK (av (K:=K) (by rfl)) (pv 0) ag (λ_ _=>rfl)) (aa (pv 1) (aa (pv 2) ab))))))))))),?_⟩
 have hxl:=hx.1;refine⟨_,rfl,a,_,rfl, .inl ha,_,_,rfl,rfl,_,rfl,cn (λz=> ?_) λz=> ?_⟩
 .have:L.length<3:=by have:=Fi z;lia
  exact k1 this
 .have l3':L.length=3:=by have:=Gy (F4.mpr z);lia
  obtain⟨x,y,z,rfl⟩:∃x y z,L=[x,y,z]:=by
   match L,l3' with
   | [x,y,z],_=>exact⟨x,y,z,rfl⟩
  obtain⟨b0,g0,h0⟩:=hx.2 0 x rfl;obtain⟨b1,g1,h1⟩:=hx.2 1 y rfl;obtain⟨b2,g2,h2⟩:=hx.2 2 z rfl;have rx:=hrow x (by simp);have ry:=hrow y (by simp);have rz:=hrow z (by simp);have q0:=bw (j:=0) g0;have q1:=bw (j:=1) g1;have q2:=bw (j:=2) g2;have ai:atI (x.map V.int) (i:Int)=some (.int (x.getD i 0)):=bc (by rw[rx.1];exact li);have aj:atI (x.map V.int) (j:Int)=some (.int (x.getD j 0)):=bc (by rw[rx.1];exact lj);have ak:atI (x.map V.int) (kk:Int)=some (.int (x.getD kk 0)):=bc (by rw[rx.1];exact lk);have tw:∀u v:Nat,(y.getD u 0*z.getD v 0-y.getD v 0*z.getD u 0).natAbs<2^401:=λu v=>wm (iA (ry.at u) (rz.at v)) (iA (ry.at v) (rz.at u));have mm:∀t u v:Nat,bO (x.getD t 0) (y.getD u 0*z.getD v 0-y.getD v 0*z.getD u 0):=λt u v=>bO.of (rx.at t) (tw u v) (by decide);have eD:x.getD i 0*(y.getD j 0*z.getD kk 0-y.getD kk 0*z.getD j 0) -x.getD j 0*(y.getD i 0*z.getD kk 0-y.getD kk 0*z.getD i 0)+x.getD kk 0*(y.getD i 0*z.getD j 0-y.getD j 0*z.getD i 0)=aP [aY x,aY y,aY z] [i,j,kk]:=(yD (aY x) (aY y) (aY z) i j kk).symm;refine⟨_,rfl,a,_,_,_,rfl,rfl,ha,q0,_,rfl,b0,_,_,_,rfl,rfl,SqL.of h0,ai,_,rfl,a,_,_,_,rfl,rfl,ha,q1,_,rfl,a,_,_,_,rfl,rfl,ha,q2,_,rfl,_,rfl,b1,b2,y,z,n,j,kk,rfl,h1,h2,ry,rz,lj,lk,_,_,rfl,rfl,mm i j kk,?_⟩;refine⟨_,rfl,a,_,_,_,rfl,rfl,ha,q0,_,rfl,b0,_,_,_,rfl,rfl,SqL.of h0,aj,_,rfl,a,_,_,_,rfl,rfl,ha,q1,_,rfl,a,_,_,_,rfl,rfl,ha,q2,_,rfl,_,rfl,b1,b2,y,z,n,i,kk,rfl,h1,h2,ry,rz,li,lk,_,_,rfl,rfl,mm j i kk,_,_,rfl,rfl,?_⟩;refine⟨_,rfl,_,rfl,a,_,_,_,rfl,rfl,ha,q0,_,rfl,b0,_,_,_,rfl,rfl,SqL.of h0,ak,_,rfl,a,_,_,_,rfl,rfl,ha,q1,_,rfl,a,_,_,_,rfl,rfl,ha,q2,_,rfl,_,rfl,b1,b2,y,z,n,i,j,rfl,h1,h2,ry,rz,li,lj,_,_,rfl,rfl,mm kk i j,_,_,rfl,rfl,?_⟩;(try dsimp only);rw[eD];exact k2 x y z rfl
theorem sc__law_free:aE ["_law_rows","_law_prime","_law_some_here","_law_other","_law_one"] ["_law_rows","_law_prime","_law_some_here"] (aq s__law_free):=⟨rfl,rfl,rfl,by decide+kernel,rfl,by decide+kernel,by decide+kernel⟩
theorem nh(T:Tb K mg)(D:aS K mg "_law_free" s__law_free ["_law_rows","_law_prime","_law_some_here"])(c__law_two:Cal P w K mg base 1 "_law_two" ["_law_a","_law_b","_law_j","_law_k"] (zC K))(c__law_some:Cal P w K mg base 1 "_law_some" ["_law_number_here","_law_prime"] wq)(c__law_three:Cal P w K mg base 2 "_law_three" ["_law_rows","_law_i","_law_j","_law_k"] (oQ K)):
  Cal P w K mg base 3 "_law_free" ["_law_rows","_law_prime","_law_some_here"] (sx K):=by
 refine D.cal sc__law_free (λvs H Q E h=>by obtain⟨a,b,xs,L,n,J,m,rfl,_⟩:=h;rfl) λf cdv A outer σs H vs Q E hr h=> ?_;obtain⟨a,b,xs,L,n,J,m,rfl,ha,hx,hrow,l3,hb,hJ,j3,pm,k⟩:=h;refine⟨_,(ae (a8 (aI bS (aO (aM (K:=K) (by rfl)) (by rfl) T.len_ FY (aa (pv 2) ab)) ag (nomark _))
     (af (aD dz))
     aN)
   (ae (a8 (aI bS (aO (aM (K:=K) (by rfl)) (by rfl) T.len_ FY (aa (pv 2) ab)) ag (nomark _))
     (af (aD (fg kN (aO (aM (K:=K) (by rfl)) (by rfl) T.len_ FY (aa (bR (vars:=["_law_row"]) (frn:=["_law_prime","_law_some_here"]) (fr:=[1,2]) rfl (by rfl) (by rfl) (by rfl) (by rfl) ⟨⟨by rfl,E5 (by rfl),E5 (by rfl)⟩,⟨⟨by rfl,E5 (by rfl),E5 (by rfl)⟩,FA⟩⟩ (aF (K:=K) (by rfl) (pv 0)) (λ_ _ _ _=>(aB (i:=0) (show List.Nodup (["_law_row","_law_prime","_law_some_here"]:List PySem.Str) by decide+kernel) (by rfl) (E5 rfl))) (λ_ _ _ _=>(bX (bT (ao c__law_some hr (by decide) (by rfl) (aa (aK (av (K:=K) (by rfl)) (pv 0) (aK (av (K:=K) (by rfl)) (pv 2) ag (λ_ _=>rfl)) (λ_ _=>rfl)) (aa (pv 1) ab)))))) (λ_ _ _ _=>(pv 0))) ab)) ag (nomark _))))
     aN)
   (ae (a8 (aI bS (aO (aM (K:=K) (by rfl)) (by rfl) T.len_ FY (aa (pv 2) ab)) ag (nomark _))
     (af (aD (ao c__law_some hr (by decide) (by rfl) (aa (ao c__law_three hr (by decide) (by rfl) (aa (pv 0) (aa (aK (av (K:=K) (by rfl)) (pv 2) ag (λ_ _=>rfl)) (aa (aK (av (K:=K) (by rfl)) (pv 2) ag (λ_ _=>rfl)) (aa (aK (av (K:=K) (by rfl)) (pv 2) ag (λ_ _=>rfl)) ab))))) (aa (pv 1) ab)))))
     aN)
   (ae (aZ Fx rfl (aX (by rfl) T.range_ (aa (aO (aM (K:=K) (by rfl)) (by rfl) T.len_ FY (aa (pv 0) ab)) ab)) (aB (i:=3) sc__law_free.nd (by rfl) (E5 rfl))
     (af (aZ Fx rfl (aX (by rfl) T.range_ (aa (pv 3) ab)) (aB (i:=4) sc__law_free.nd (by rfl) (E5 rfl))
       (af (a8 (bT (ao c__law_some hr (by decide) (by rfl) (aa (ao c__law_two hr (by decide) (by rfl) (aa (aK (av (K:=K) (by rfl)) (pv 0) (pv 4) (λ_ _=>rfl)) (aa (aK (av (K:=K) (by rfl)) (pv 0) (pv 3) (λ_ _=>rfl)) (aa (aK (av (K:=K) (by rfl)) (pv 2) ag (λ_ _=>rfl)) (aa (aK (av (K:=K) (by rfl)) (pv 2) ag (λ_ _=>rfl)) ab))))) (aa (pv 1) ab))))
         (af (aD dz))
         aN)))))
   (af (aD dz)))))),?_⟩
 have hxl:=hx.1;have jl:=ka J;have dec:∀c:Nat,decide (V.int ((((aG J).map V.int).length:Nat):Int)=V.int (c:Int))=decide (J.length=c):=λc=>by rw[jl];exact Ii.mpr ⟨λz=>by have:=V.int.inj z;lia,λz=>by rw[z]⟩
 refine⟨_,rfl,b,_,rfl, .inl hb,rfl,_,rfl,?_⟩;refine(Fu (λx=>if x=true then _ else _) (dec 0)).mpr (cn (λz=> ?_) λz0=> ?_)
 .have:J=[]:=Iw (Fi z);rw[this]at k;exact k true H ⟨λ_=>yz pm _,λ_=>rfl⟩ (Same.refl _)
 refine⟨_,rfl,b,_,rfl, .inl hb,rfl,_,rfl,?_⟩;refine(Fu (λx=>if x=true then _ else _) (dec 1)).mpr (cn (λz=> ?_) λz1=> ?_)
 .obtain⟨j,rfl⟩:∃j,J=[j]:=List.length_eq_one_iff.mp (Fi z);have a0:=dE (l:=[j]) (i:=0) rfl;have jn:=hJ j (by simp);refine⟨_,rfl,a,rfl,⟨_,ha⟩,?_⟩
  classical
  refine bh (λx=>decide (∃ (c:Addr) (r:List Int),x= .ref c/\H c=some (.lst (r.map V.int))/\¬m∣aY r j)) id ha (by rw[hxl];exact Fc l3 (by decide)) (λi x vs H' R S hx' hv sm hk=> ?_) λq H1 hq sm1 hl1=> ?_
  .obtain⟨v,rfl⟩:=aV hv;obtain⟨c,r,hr1,rfl,hc⟩:=hx.at hx';have rr:=hrow r (E7 hr1);have qq:=hk [some (.ref c)] H' rfl (Same.refl _);have at1:atI (r.map V.int) (j:Int)=some (.int (r.getD j 0)):=bc (by rw[rr.1];exact jn);refine⟨_,rfl,_,rfl,b,_,_,_,rfl,rfl,sm.seq hb,a0,c,_,_,_,rfl,rfl,SqL.of (sm.at hc),at1,_,rfl,_,m,rfl,pm.nn,λbb hbb=>⟨bb,rfl,?_⟩⟩;have e:decide (∃ (c':Addr) (r':List Int),V.ref c= .ref c'/\H c'=some (.lst (r'.map V.int))/\¬m∣aY r' j)=bb:=by
    rw[Gz,F7,hbb];constructor
    .rintro⟨c',r',e1,e2,e3⟩;cases e1;rw[hc]at e2;injection e2 with e2
     injection e2 with e2
     rw[<-fG e2]at e3;exact e3
    .exact λh=>⟨c,r,rfl,hc,h⟩
   rw[e]at qq;cases bb with
   |true=>exact⟨_,rfl,qq⟩
   |false=>exact qq
  refine⟨q,_,rfl, .inl (SqL.of hl1),_,_,rfl,rfl,k _ H1 ?_ sm1⟩;rw[F7,AW];constructor
  .intro h;have h0:0<(dq (λx=>decide (∃ (c:Addr) (r:List Int),x= .ref c/\H c=some (.lst (r.map V.int))/\¬m∣aY r j)) id xs).length:=by lia
   unfold dq at h0;rw[E3]at h0;obtain⟨x,hx0⟩:=JH h0;obtain⟨hx1,hx2⟩:=FH.mp hx0;obtain⟨i,hi⟩:=Gw hx1;obtain⟨c,r,hr1,rfl,hc⟩:=hx.at hi;obtain⟨c',r',e1,e2,e3⟩:=Fi hx2;cases e1;rw[hc]at e2;injection e2 with e2
   injection e2 with e2
   rw[<-fG e2]at e3;exact⟨aY r,Il (E7 hr1),e3⟩
  .rintro⟨x,hx1,hx2⟩;obtain⟨r,hr1,rfl⟩:=Fn.mp hx1;obtain⟨i,hi⟩:=Gw hr1;obtain⟨c,hc1,hc2⟩:=hx.2 i r hi;have:V.ref c∈xs.filter (λx=>decide (∃ (c:Addr) (r:List Int),x= .ref c/\H c=some (.lst (r.map V.int))/\¬m∣aY r j)):=FH.mpr ⟨E7 hc1,E6 ⟨c,r,rfl,hc2,hx2⟩⟩;have:=Hr this;unfold dq;rw[E3];lia
 refine⟨_,rfl,b,_,rfl, .inl hb,rfl,_,rfl,?_⟩;refine(Fu (λx=>if x=true then _ else _) (dec 3)).mpr (cn (λz=> ?_) λz3=> ?_)
 .obtain⟨i,j,kk,rfl⟩:∃i j kk,J=[i,j,kk]:=by
   match J,(show J.length=3 from Fi z)with
   | [i,j,kk],_=>exact⟨i,j,kk,rfl⟩
  have a0:=dE (l:=[i,j,kk]) (i:=0) rfl;have a1:=dE (l:=[i,j,kk]) (i:=1) rfl;have a2:=dE (l:=[i,j,kk]) (i:=2) rfl;refine⟨_,rfl,_,rfl,b,_,_,_,rfl,rfl,hb,a0,_,rfl,b,_,_,_,rfl,rfl,hb,a1,_,rfl,b,_,_,_,rfl,rfl,hb,a2,a,xs,L,n,i,j,kk,rfl,ha,hx,hrow,hJ i (by simp),hJ j (by simp),hJ kk (by simp),l3,λlt=> ?_,λx y z eL=> ?_⟩
  .refine⟨_,rfl,_,m,rfl,pm.nn,λbb hbb=>k bb H (hbb.trans ⟨λh=>absurd (Ij m) h,λh=> ?_⟩) (Same.refl _)⟩;have:=h.few;rw[E3]at this;exact absurd this (by show¬3<=L.length;lia)
  .subst eL;exact⟨_,rfl,_,m,rfl,pm.nn,λbb hbb=>k bb H (hbb.trans vK.symm) (Same.refl _)⟩
 obtain⟨j,kk,rfl⟩:∃j kk,J=[j,kk]:=by
  have h0:=Gy (F4.mpr z0);have h1:=Gy (F4.mpr z1);have h3:=Gy (F4.mpr z3)
  match J,(show J.length=2 by lia)with
  | [j,kk],_=>exact⟨j,kk,rfl⟩
 have a0:=dE (l:=[j,kk]) (i:=0) rfl;have a1:=dE (l:=[j,kk]) (i:=1) rfl;have jn:=hJ j (by simp);have kn:=hJ kk (by simp);refine⟨_,rfl,a,_,rfl, .inl ha,_,rfl,by lia,by lia,?_⟩;rw[E4];refine bV (n:=xs.length) (λq σ H'=>H=H'/\(∀ (p' q':Nat) (x y:List Int),p'<q'->q'<q->L[p']?=some x->L[q']?=some y->m∣aP [aY x,aY y] [j,kk])/\∃v3 v4,σ=[some (.ref a),some (.int m),some (.ref b),v3,v4])
  ⟨rfl,λ_ _ _ _ _ h=>absurd h (Ir _),none,none,rfl⟩ ?_ ?_
 .rintro q σ H' hq ⟨rfl,bef,v3,v4,rfl⟩;refine⟨_,rfl,(0+(q:Int)),rfl,by lia,by lia,?_⟩;rw[show(0+(q:Int)).toNat=q by lia];obtain⟨y,hy⟩:∃y,L[q]?=some y:=⟨L[q]'(by lia),Fs (by lia)⟩;obtain⟨by',hby1,hby2⟩:=hx.2 q y hy;have ry:=hrow y (E7 hy);have atq:atI xs (0+(q:Int))=some (.ref by'):=by rw[FX];exact bw hby1
  refine bV (n:=q) (λp σ H'=>H=H'/\(∀ (p':Nat) (x:List Int),p'<p->L[p']?=some x->m∣aP [aY x,aY y] [j,kk])/\∃v4,σ=[some (.ref a),some (.int m),some (.ref b),some (.int (0+(q:Nat))),v4])
   ⟨rfl,λ_ _ h=>absurd h (Ir _),v4,rfl⟩ ?_ ?_
  .rintro p σ H' hp ⟨rfl,bef2,v4,rfl⟩;obtain⟨x,hx0⟩:∃x,L[p]?=some x:=⟨L[p]'(by lia),Fs (by lia)⟩;obtain⟨bx,hbx1,hbx2⟩:=hx.2 p x hx0;have rx:=hrow x (E7 hx0);have atp:atI xs (0+(p:Int))=some (.ref bx):=by rw[FX];exact bw hbx1
   refine⟨_,rfl,_,rfl,a,_,_,_,rfl,rfl,ha,atp,_,rfl,_,rfl,a,_,_,_,rfl,rfl,ha,atq,_,rfl,b,_,_,_,rfl,rfl,hb,a0,_,rfl,b,_,_,_,rfl,rfl,hb,a1,bx,by',x,y,n,j,kk,rfl,hbx2,hby2,rx,ry,jn,kn,_,rfl,_,m,rfl,pm.nn,λbb hbb=>⟨bb,rfl,?_⟩⟩;rw[CY]at hbb;cases bb with
   |true=>exact k true H ⟨λ_=>tS.mpr ⟨p,q,aY x,aY y,hp,by rw[Fm,hx0];rfl,by rw[Fm,hy];rfl,hbb.mp rfl⟩,λ_=>rfl⟩ (Same.refl _)
   |false=>
    refine⟨rfl,λp' x' hp' hx'=> ?_,_,rfl⟩;by_cases e:p'=p
    .subst e;rw[hx0]at hx';cases hx';exact FU λnd=>absurd (hbb.mpr nd) Fo
    .exact bef2 p' x' (by lia) hx'
  .rintro σ H' ⟨rfl,bef2,v4,rfl⟩;refine⟨rfl,λp' q' x' y' h1 h2 h3 h4=> ?_,_,_,rfl⟩;by_cases e:q'=q
   .subst e;rw[hy]at h4;cases h4;exact bef2 p' x' h1 h3
   .exact bef p' q' x' y' h1 (by lia) h3 h4
 .rintro σ H' ⟨rfl,bef,v3,v4,rfl⟩;refine k false H ⟨λh=>absurd h Fo,λh=> ?_⟩ (Same.refl _);obtain⟨p,q,x,y,h1,h2,h3,h4⟩:=tS.mp h;rw[Fm]at h2 h3;obtain⟨x',hx1,rfl⟩:=Jf.mp h2;obtain⟨y',hy1,rfl⟩:=Jf.mp h3;exact absurd (bef p q x' y' h1 (by have:=(Fd.mp hy1).1;lia) hx1 hy1) h4
theorem sc__law_table_ranks:aE ["_law_many","_law_prime","_law_rows","_law_found","_law_s","_law_some_here","_law_rank"] ["_law_many","_law_prime","_law_rows"] (aq s__law_table_ranks):=⟨rfl,rfl,rfl,by decide+kernel,rfl,by decide+kernel,by decide+kernel⟩
theorem iB(T:Tb K mg)(D:aS K mg "_law_table_ranks" s__law_table_ranks ["_law_many","_law_prime","_law_rows"])(c__law_free:Cal P w K mg base 3 "_law_free" ["_law_rows","_law_prime","_law_some_here"] (sx K)):Cal P w K mg base 4 "_law_table_ranks" ["_law_many","_law_prime","_law_rows"] (r6 K):=by
 refine D.cal sc__law_table_ranks (λvs H Q E h=>by obtain⟨a,xs,L,n,m,rfl,_⟩:=h;rfl) λf cdv A outer σs H vs Q E hr h=> ?_;obtain⟨a,xs,L,n,m,rfl,ha,hx,hrow,l3,n6,pm,k⟩:=h;refine⟨_,(ae (aH (i:=3) sc__law_table_ranks.nd (by rfl) (GD rfl) (e6 ab))
   (ae (aZ Fx rfl (aX (by rfl) T.range_ (aa (aw bJ ag (pv 0)) ab)) (aB (i:=4) sc__law_table_ranks.nd (by rfl) (GD rfl))
     (ae (dN (i:=5) sc__law_table_ranks.nd (by rfl) (by rfl) (vars:=["_law_k"]) (frn:=["_law_s"]) (fr:=[4]) rfl (by rfl) (by rfl) (by rfl) (by rfl) ⟨⟨by rfl,E5 (by rfl),E5 (by rfl)⟩,FA⟩ (aX (by rfl) T.range_ (aa (pv 0) ab)) (λ_ _ _ _=>(aB (i:=0) (show List.Nodup (["_law_k","_law_s"]:List PySem.Str) by decide+kernel) (by rfl) (E5 rfl))) (λ_ _ _ _=>(bX (aI bS (aw dO (aw j6 (pv 1) (pv 0)) ag) ag (nomark _)))) (λ_ _ _ _=>(pv 0)))
     (ae (aH (i:=6) sc__law_table_ranks.nd (by rfl) (E5 rfl) ag)
     (ae (a8 (PW.pt (gA (aI kM (aO (aM (K:=K) (by rfl)) (by rfl) T.len_ FY (aa (pv 5) ab)) ag (nomark _)) (gz (bT (ao c__law_free hr (by decide) (by rfl) (aa (pv 2) (aa (pv 1) (aa (pv 5) ab))))))))
       (af (aH (i:=6) sc__law_table_ranks.nd (by rfl) (E5 rfl) (aO (aM (K:=K) (by rfl)) (by rfl) T.len_ FY (aa (pv 5) ab))))
       (af (aH (i:=6) sc__law_table_ranks.nd (by rfl) (E5 rfl) (aO (iT (K:=K) (by rfl) (by rfl)) (by rfl) T.max_ IE (aa (bR (vars:=["_law_k"]) (frn:=["_law_found","_law_s"]) (fr:=[3,4]) rfl (by rfl) (by rfl) (by rfl) (by rfl) ⟨⟨by rfl,E5 (by rfl),E5 (by rfl)⟩,⟨⟨by rfl,E5 (by rfl),E5 (by rfl)⟩,FA⟩⟩ (aF (K:=K) (by rfl) (pv 5)) (λ_ _ _ _=>(aB (i:=0) (show List.Nodup (["_law_k","_law_found","_law_s"]:List PySem.Str) by decide+kernel) (by rfl) (E5 rfl))) (λ_ _ _ _=>bz) (λ_ _ _ _=>(aK (av (K:=K) (by rfl)) (pv 1) (aw mY (pv 2) (aw bJ ag (pv 0))) (λ_ _=>rfl)))) ab)))))
     (af (cq (gZ (K:=K) (by rfl) GO GH GI cK (pv 3) (aa (pv 6) ab))))))))
   (af (aD (pv 3))))),?_⟩
 have ppos:=bP n;have p64:2^n<=64:=Fy (n:=2) (by lia) n6;have M:=sH pm (L.map aY) (n:=n) (by lia);refine⟨FV _,λq hq=> ?_⟩;refine⟨_,rfl,_,_,rfl,rfl,⟨by lia,by lia,by decide⟩,_,rfl,?_⟩;rw[cj];refine⟨by lia,by lia,?_⟩;rw[E4];refine bV (n:=2^n) (λi σ H2=>∃ (v4 v5 v6:Option V),Same H H2/\H2 q=some (.lst ((aG ((List.range i).map (fC m (L.map aY)))).map V.int))/\σ=[some (.int (n:Int)),some (.int m),some (.ref a),some (.ref q),v4,v5,v6])
  ⟨none,none,none,Same.new hq,ah,rfl⟩ ?_ ?_
 .rintro s σ H2 hs ⟨v4,v5,v6,sm2,hq2,rfl⟩;have s8:s<256:=by lia
  refine⟨_,rfl,(n:Int),rfl,by lia,by lia,?_⟩;rw[E4];refine cP (λi=>s.testBit i) (λi=> .int (0+(i:Nat))) (Fc n6 (by decide)) (λi vs H' R S hi hv sm hk=> ?_) λb H3 hb sm3 hl3=> ?_
  .obtain⟨v,rfl⟩:=aV hv;have qq:=hk [some (.int (0+(i:Nat)))] H' rfl (Same.refl _);refine⟨_,rfl,_,rfl,_,_,rfl,rfl,(by show(0:Int)<=0+(i:Int);lia),_,_,rfl,rfl,rfl,_,rfl,?_⟩;have eb:decide (V.int (Builtin.bitAnd ((0+(s:Int)) /2^(0+(i:Int)).toNat) 1)=V.int 1)=s.testBit i:=by rw[FX (s:Int)];exact lS
   rw[eb];show if s.testBit i=true then _ else _;by_cases hc:s.testBit i=true
   .rw[E9 hc]at qq⊢;exact⟨_,rfl,qq⟩
   .rw[Fg hc]at qq⊢;exact qq
  rw[eu,mV (by lia) hs]at hl3;have hl3':H3 b=some (.lst ((aG (dW s)).map V.int)):=hl3;have cl:=pK s;have nl:=ka (dW s);have hJ:∀j∈dW s,j<n:=λj hj=>bB hs (dF.mp hj).2;have hq3:=sm3.at hq2;dsimp only[bU];refine sE (λσ' H'=>Same H3 H'/\σ'=[some (.int (n:Int)),some (.int m),some (.ref a),some (.ref q),some (.int (0+(s:Nat))),some (.ref b),some (.int ((fC m (L.map aY) s:Nat):Int))]) ?_ ?_
  .rintro σ' H' ⟨sm',rfl⟩;have hq4:=sm'.at hq3;refine⟨_,rfl, .inl ⟨rfl,_,SqL.of hq4⟩,_,rfl,q,_,_,rfl,rfl,hq4,(by rw[ka,E3,FD];exact Fb s8 (by decide)),?_⟩;refine⟨_,_,_,((sm2.trans sm3).trans sm').upd hq,?_,rfl⟩;rw[ah,GA,FW];unfold aG;rw[FW,FW];rfl
  .intro hrest;refine⟨_,rfl,b,_,rfl, .inl (SqL.of hl3'),_,_,rfl,rfl,_,rfl,Cg (F:=fC m (L.map aY) s=sz s) (λH4 sm4 ne=>dt ?_) (λz h=> ?_) λz hB=> ?_⟩
   .have hb4:=sm4.at hl3';refine⟨_,rfl,b,rfl,⟨_,SqL.of hb4⟩,?_⟩;refine bh (λx=>(λ_=>true) (aW x)) (λx=> .int ((λz:Int=>((fC m (L.map aY) (s^^^2^z.toNat):Nat):Int)) (aW x))) (SqL.of hb4) (by rw[nl,cl];exact Fc (bZ s) (by decide)) (λi x vs H' R S hx' hv sm hk=> ?_) λpn H5 hpn sm5 hl5=> ?_
    .obtain⟨v,rfl⟩:=aV hv;obtain⟨z,rfl,hz⟩:=aQ hx';obtain⟨kk,hk1,rfl⟩:=cp (E7 hz);have kb:=(dF.mp hk1).2;have dl:=cv s s8 kk (dF.mp hk1).1 kb;have qq:=hk [some (.int (kk:Int))] H' rfl (Same.refl _);rw[E9 rfl]at qq;simp only[bU,dI,E9];have at1:atI ((aG ((List.range s).map (fC m (L.map aY)))).map V.int) (Builtin.bitXor (0+(s:Int)) (1*2^((kk:Nat):Int).toNat))=some (.int ((fC m (L.map aY) (s^^^2^kk):Nat):Int)):=by rw[Bq s8 kb];exact dE (by rw[Fm,Gi dl];rfl)
     exact⟨_,rfl,_,rfl,_,rfl,_,_,rfl,rfl,⟨by lia,by have:=(dF.mp hk1).1;lia,by decide⟩,_,_,rfl,rfl,q,_,_,_,rfl,rfl,SqL.of (sm.at (sm4.at hq3)),at1,qq⟩
    replace hl5:=hl5.trans (Fu (λl=>some (HO.lst l)) (aU (λ_=>true) (λz:Int=>((fC m (L.map aY) (s^^^2^z.toNat):Nat):Int)) (aG (dW s))));rw[Gf.mpr (λ_ _=>rfl)]at hl5;obtain⟨k0,b0,e0⟩:=M.drop_ex hs ne;have mem:∀z:Int,z∈(aG (dW s)).map (λz:Int=>((fC m (L.map aY) (s^^^2^z.toNat):Nat):Int))↔∃kk,s.testBit kk=true/\z=((fC m (L.map aY) (s^^^2^kk):Nat):Int):=λz=>by
     rw[Fn];constructor
     .rintro⟨y,hy,rfl⟩;obtain⟨kk,hk1,rfl⟩:=cp hy;exact⟨kk,(dF.mp hk1).2,rfl⟩
     .rintro⟨kk,hk1,rfl⟩;exact⟨(kk:Int),Fn.mpr ⟨kk,dF.mpr ⟨bB (n:=8) (by lia) hk1,hk1⟩,rfl⟩,rfl⟩
    have m0:=(mem _).mpr ⟨k0,b0,rfl⟩;refine⟨pn,_,rfl,SqL.of hl5,List.ne_nil_of_mem m0,λmx hm hmax=> ?_⟩;obtain⟨k1,b1,rfl⟩:=(mem mx).mp hm;have g1:=hmax _ m0;have g2:=M.drop_le hs b1;have e:fC m (L.map aY) (s^^^2^k1)=fC m (L.map aY) s:=by lia
    rw[e];exact hrest _ _ ⟨sm4.trans sm5,rfl⟩
   .have:=((jV pm _ s).mp h).few;rw[E3]at this;exact z (E6 (by rw[nl];lia))
   .have z':=Fi z;refine⟨_,rfl,_,rfl,_,rfl,a,b,xs,L,n,dW s,m,rfl,(sm2.trans sm3).seq ha,hx.same (sm2.trans sm3),hrow,l3,SqL.of hl3',hJ,by lia,pm,λbb H4 hbb sm4=>⟨bb,rfl,?_⟩⟩;cases bb with
    |true=>
     have e:fC m (L.map aY) s=sz s:=(jV pm _ s).mpr (hbb.mp rfl);refine⟨_,rfl,b,_,rfl, .inl (SqL.of (sm4.at hl3')),?_⟩;have:=hrest (_::_::_::_::_::_::some (.int ((fC m (L.map aY) s:Nat):Int))::[]) H4 ⟨sm4,rfl⟩;rw[e,<-cl,<-nl]at this;exact this
    |false=>exact hB H4 sm4 λe=>absurd (hbb.mpr ((jV pm _ s).mp e)) Fo
 .rintro σ H2 ⟨v4,v5,v6,sm2,hq2,rfl⟩;exact⟨_,rfl,k q H2 sm2 hq hq2⟩
theorem sc__law_table:aE ["_law_cells","_law_many","_law_prime","_law_rows","_law_j"] ["_law_cells","_law_many"] (aq s__law_table):=⟨rfl,rfl,rfl,by decide+kernel,rfl,by decide+kernel,by decide+kernel⟩
theorem ox(T:Tb K mg)(D:aS K mg "_law_table" s__law_table ["_law_cells","_law_many"])(c__law_number:Cal P w K mg base 1 "_law_number" ["_law_cell","_law_k","_law_way"] sj)(c__law_table_ranks:Cal P w K mg base 4 "_law_table_ranks" ["_law_many","_law_prime","_law_rows"] (r6 K))(n_Tabled:jQ P w K mg base 2 "Tabled" cT ["self","n","prime","rows"] (su K cT)):Cal P w K mg base 5 "_law_table" ["_law_cells","_law_many"] (qF K (DU cT)):=by
 refine D.cal sc__law_table (λvs H Q E h=>by obtain⟨b,cs,n,rfl,_⟩:=h;rfl) λf cdv A outer σs H vs Q E hr h=> ?_;obtain⟨b,cs,n,rfl,hC,n6,kk⟩:=h;refine⟨_,(ae (aH (i:=2) sc__law_table.nd (by rfl) (E5 rfl) (aK (av (K:=K) (by rfl)) (e6 (aa ag (aa ag (aa ag (aa ag ab))))) (aw bE (aw bE (aw bQ (aK (av (K:=K) (by rfl)) (pv 0) ag (λ_ _=>rfl)) ag) ag) ag) (λ_ _=>rfl)))
   (ae (aH (i:=3) sc__law_table.nd (by rfl) (E5 rfl) (e6 ab))
   (ae (aZ Fx rfl (aX (by rfl) T.range_ (aa (aw bE (aw bE (aw bQ (aK (av (K:=K) (by rfl)) (pv 0) ag (λ_ _=>rfl)) ag) ag) ag) ab)) (aB (i:=4) sc__law_table.nd (by rfl) (GD rfl))
     (af (cq (gZ (K:=K) (by rfl) GO GH GI cK (pv 3) (aa (bR (vars:=["_law_k"]) (frn:=["_law_cells","_law_j"]) (fr:=[0,4]) rfl (by rfl) (by rfl) (by rfl) (by rfl) ⟨⟨by rfl,E5 (by rfl),E5 (by rfl)⟩,⟨⟨by rfl,E5 (by rfl),E5 (by rfl)⟩,FA⟩⟩ (aX (by rfl) T.range_ (aa (pv 1) ab)) (λ_ _ _ _=>(aB (i:=0) (show List.Nodup (["_law_k","_law_cells","_law_j"]:List PySem.Str) by decide+kernel) (by rfl) (E5 rfl))) (λ_ _ _ _=>bz) (λ_ _ _ _=>(ao c__law_number hr (by decide) (by rfl) (aa (aK (av (K:=K) (by rfl)) (pv 1) (aw bE (aw cX (aw bQ ag (pv 2)) (pv 0)) (aO (aM (K:=K) (by rfl)) (by rfl) T.len_ FY (aa (pv 1) ab))) (λ_ _=>rfl)) (aa (aw cX (aw bQ ag (pv 2)) (pv 0)) (aa (aw bE (aw ix (aK (av (K:=K) (by rfl)) (pv 1) ag (λ_ _=>rfl)) ag) ag) ab)))))) ab)))))
   (af (aD (cA (aa (iL n_Tabled hr (by decide) (by rfl) (aa (pv 1) (aa (pv 2) (aa (pv 3) ab)))) (aa (ao c__law_table_ranks hr (by decide) (by rfl) (aa (pv 1) (aa (pv 2) (aa (pv 3) ab)))) ab)))))))),?_⟩
 obtain⟨c0,at0,cb0⟩:=mr hC;obtain⟨j4,ej,hj4⟩:∃j:Nat,c0*69621 % 65519 % 4=(j:Int)/\j<4:=⟨(c0*69621 % 65519 % 4).toNat,by lia,by lia⟩;obtain⟨m,hm,atm⟩:=Bw j4 hj4;rw[<-ej]at atm;refine⟨by show 4<=sizeLine;decide,λpd hpd=> ?_⟩;have smd:Same H (upd H pd (.lst [V.int 2,V.int 3,V.int 0,V.int 97])):=Same.new hpd;have hpd1:upd H pd (.lst [V.int 2,V.int 3,V.int 0,V.int 97]) pd=some (.lst [V.int 2,V.int 3,V.int 0,V.int 97]):=ah;refine⟨_,rfl,b,_,_,_,rfl,rfl,smd.seq hC.1,at0,_,_,rfl,rfl,cb0 69621 (by decide),_,_,rfl,rfl,by decide,_,_,rfl,rfl,by decide,pd,_,_,_,rfl,rfl,SqL.of hpd1,atm,?_⟩;generalize upd H pd (.lst [V.int 2,V.int 3,V.int 0,V.int 97])=H1 at*;refine⟨FV _,λq hq=> ?_⟩;have smq:Same H1 (upd H1 q (.lst [])):=Same.new hq;have sm2:=smd.trans smq;obtain⟨hg,eh,h3⟩:∃hg:Nat,c0*16807 % 65521 % 4=(hg:Int)/\hg<4:=⟨(c0*16807 % 65521 % 4).toNat,by lia,by lia⟩;refine⟨_,rfl,b,_,_,_,rfl,rfl,sm2.seq hC.1,at0,_,_,rfl,rfl,cb0 16807 (by decide),_,_,rfl,rfl,by decide,_,_,rfl,rfl,by decide,(hg:Int),(by rw[<-eh]),by lia,by lia,?_⟩;rw[E4];refine bV (n:=hg) (λi σ H'=>∃xs M v4,Same H H'/\H' q=some (.lst xs)/\bo H' xs M/\M.length=i/\(∀x∈M,eY n 200 x)/\σ=[some (.ref b),some (.int (n:Int)),some (.int m),some (.ref q),v4])
  ⟨[],[],none,sm2,ah,⟨rfl,λi r h=>by simp at h⟩,rfl,(λx hx=>nomatch hx),rfl⟩ ?_ ?_
 .rintro j σ H' hj ⟨xs,M,v4,sm,hq',hx',lM,bM,rfl⟩;refine⟨_,rfl, .inl ⟨rfl,_,SqL.of hq'⟩,_,rfl,(n:Int),rfl,by lia,by lia,?_⟩;rw[E4];refine ym true (λz=>z.natAbs<2^200) (Fc n6 (by decide)) (λi vs H2 R S hi hv sm3 hk _=> ?_) λp H2 r hp sm3 hl3 hz _ hlen=> ?_
  .obtain⟨v,rfl⟩:=aV hv;simp only[bU,dI,E9];have hb:=(sm.trans sm3).seq hC.1;have ek:7*(0+(j:Int))+(0+(i:Int))=((7*j+i:Nat):Int):=by lia
   have ek8:8*(0+(j:Int))+(0+(i:Int))=((8*j+i:Nat):Int):=by lia
   obtain⟨cell,at1,cb⟩:=Bj hC (7*j+i);have at1':atI (cs.map V.int) ((7*(0+(j:Int))+(0+(i:Int))) % ((cs.map V.int).length:Nat))=some (.int cell):=by rw[ek];exact at1
   have lpos:(0:Int)<((cs.map V.int).length:Nat):=by rw[E3];have:=hC.2.1;lia
   have m0:bO 7 (0+(j:Int)):=bO.of (k:=3) (m:=3) (by decide) (by lia) (by decide);have m1:bO 8 (0+(j:Int)):=bO.of (k:=4) (m:=3) (by decide) (by lia) (by decide);refine⟨_,rfl,_,rfl,_,_,rfl,rfl,m0,_,rfl,_,_,rfl,rfl,_,rfl,b,_,rfl, .inl hb,_,_,rfl,rfl,lpos,b,_,_,_,rfl,rfl,hb,at1',_,rfl,_,_,rfl,rfl,m1,_,rfl,_,_,rfl,rfl,_,rfl,b,_,_,_,rfl,rfl,hb,at0,_,_,rfl,rfl,⟨by decide,by decide⟩,_,_,rfl,rfl,by decide,cell,8*j+i,_,(by rw[ek8];rfl),cb,by lia,λz hz=> ?_⟩;exact hk z [some (.int (0+(i:Nat)))] H2 hz rfl (Same.refl _)
  have hq2:=sm3.at hq';have pq:p≠q:=λz=>by rw[z,hq']at hp;cases hp
  refine⟨q,_,_,rfl,rfl,hq2,by rw[hx'.1,lM];exact Fb (show j<8 by lia) (by decide),?_⟩;refine⟨xs++[.ref p],M++[r],_,(sm.trans sm3).upd (smd.free hq),ah,bo.push (hx'.same sm3) hq2 hl3 pq,by rw[Fw,lM];rfl,λy hy=> ?_,rfl⟩;rcases FE.mp hy with hy|hy
  .exact bM y hy
  .rw[FI.mp hy];exact⟨hlen rfl,hz⟩
 rintro σ H' ⟨xs,M,v4,sm,hq',hx',lM,bM,rfl⟩;refine⟨_,rfl,_,rfl,_,rfl,λph dh nph ndh neh=>⟨ph,dh,q,_,_,xs,M,rfl,ah,by rw[aC (aA hq' nph),aC (aA hq' ndh)];exact hq',hx'.same (λb o e=>by rw[aC (aA e nph),aC (aA e ndh)];exact e),by rw[hx'.1,lM];lia,λtt ys HA htt oth hph htup hys=> ?_⟩⟩;have smA:Same H' HA:=λb o e=>oth b o (by rw[aC (aA e nph),aC (aA e ndh)];exact e) (aA e nph);refine⟨rfl,_,rfl,_,rfl,_,rfl,q,xs,M,n,m,rfl,SqL.of (smA.at hq'),hx'.same smA,bM,by lia,n6,hm,λd HB smB hd hlB=> ?_⟩;refine⟨by show 2<=sizeLine;decide,λpt hpt=> ?_⟩;have smt:Same HB (upd HB pt (.tup [.ref ph, .ref d])):=Same.new hpt;have ta:TaP cT HA ph n m M:=⟨dh,tt,ys,hph,htup,hys⟩;exact kk pt ph d _ (fC m (M.map aY)) (((sm.trans smA).trans smB).trans smt) ah ⟨m,M,ta.same (smB.trans smt),by lia,bM,hm,λs _=>rfl⟩ (sH hm _ (by lia)) (smt.at hlB)
theorem sc__law_house:aE ["_law_cells","_law_many","_law_sort","_law_most","_law_told"] ["_law_cells","_law_many","_law_sort"] (aq s__law_house):=⟨rfl,rfl,rfl,by decide+kernel,rfl,by decide+kernel,by decide+kernel⟩
theorem oA(T:Tb K mg)(D:aS K mg "_law_house" s__law_house ["_law_cells","_law_many","_law_sort"])(c__law_net:Cal P w K mg base 4 "_law_net" ["_law_cells","_law_many"] (qF K (CA cN)))(c__law_table:Cal P w K mg base 5 "_law_table" ["_law_cells","_law_many"] (qF K (DU cT)))(n_Even:jQ P w K mg base 2 "Even" cE ["self","n","k"] (wC cE))
  (n_Listed:jQ P w K mg base 2 "Listed" cL ["self","n","some"] (i9 K cL)) (c__law_size:Cal P w K mg base 1 "_law_size" ["_law_s"] iu) (c__law_far:Cal P w K mg base 2 "_law_far" ["_law_cells","_law_many","_law_rank"] (CI K)) (c__law_ranks:Cal P w K mg base 2 "_law_ranks" ["_law_many","_law_told"] (si K)):
  Cal P w K mg base 6 "_law_house" ["_law_cells","_law_many","_law_sort"] (wD K (hs4 cE cN cT cL)):=by
 refine D.cal sc__law_house (λvs H Q E h=>by obtain⟨b,cs,n,t,rfl,_⟩:=h;rfl) λf cdv A outer σs H vs Q E hr h=> ?_;obtain⟨b,cs,n,t,rfl,hC,n6,kk⟩:=h;refine⟨_,(ae (a8 (aI bS (pv 2) ag (nomark _))
     (af (aD (ao c__law_net hr (by decide) (by rfl) (aa (pv 0) (aa (pv 1) ab)))))
     aN)
   (ae (a8 (aI bS (pv 2) ag (nomark _))
     (af (aD (ao c__law_table hr (by decide) (by rfl) (aa (pv 0) (aa (pv 1) ab)))))
     aN)
   (ae (aH (i:=3) sc__law_house.nd (by rfl) (GD rfl) (aw bE (aw bE (aw bQ (aK (av (K:=K) (by rfl)) (pv 0) ag (λ_ _=>rfl)) ag) ag) (aw cX (pv 1) ag)))
   (ae (a8 (aI bS (pv 2) ag (nomark _))
     (af (aD (cA (aa (iL n_Even hr (by decide) (by rfl) (aa (pv 1) (aa (pv 3) ab))) (aa (bR (vars:=["_law_s"]) (frn:=["_law_most"]) (fr:=[3]) rfl (by rfl) (by rfl) (by rfl) (by rfl) ⟨⟨by rfl,E5 (by rfl),E5 (by rfl)⟩,FA⟩ (aX (by rfl) T.range_ (aa (aw bJ ag (pv 1)) ab)) (λ_ _ _ _=>(aB (i:=0) (show List.Nodup (["_law_s","_law_most"]:List PySem.Str) by decide+kernel) (by rfl) (E5 rfl))) (λ_ _ _ _=>bz) (λ_ _ _ _=>(aO (kr (by rfl)) (by rfl) T.min_ Jq (aa (pv 1) (aa (ao c__law_size hr (by decide) (by rfl) (aa (pv 0) ab)) ab))))) ab)))))
     aN)
   (ae (aH (i:=4) sc__law_house.nd (by rfl) (E5 rfl) (ao c__law_far hr (by decide) (by rfl) (aa (pv 0) (aa (pv 1) (aa (pv 3) ab)))))
   (af (aD (cA (aa (iL n_Listed hr (by decide) (by rfl) (aa (pv 1) (aa (pv 4) ab))) (aa (ao c__law_ranks hr (by decide) (by rfl) (aa (pv 1) (aa (pv 4) ab))) ab)))))))))),?_⟩
 have ppos:=bP n;have p64:2^n<=64:=Fy (n:=2) (by lia) n6;refine⟨_,rfl,rfl,_,rfl,cn (λ_=> ?_) λ_=> ?_⟩
 .exact⟨_,rfl,_,rfl,b,cs,n,rfl,hC,n6,λp q d H' r sm hp ho M hd=>kk p q d H' r sm hp (.inl (.inr (.inl ho))) M hd⟩
 refine⟨_,rfl,rfl,_,rfl,cn (λ_=> ?_) λ_=> ?_⟩
 .exact⟨_,rfl,_,rfl,b,cs,n,rfl,hC,n6,λp q d H' r sm hp ho M hd=>kk p q d H' r sm hp (.inl (.inr (.inr ho))) M hd⟩
 obtain⟨c0,at0,cb0⟩:=mr hC;obtain⟨m,em⟩:=Gn (show 0<=c0*48271 % 65537 % ((n:Int)+1)from Hq _ (by lia));have mn:m<=n:=by have:=Hk (c0*48271 % 65537) (show(0:Int)<(n:Int)+1 by lia);lia
 refine⟨_,rfl,b,_,_,_,rfl,rfl,hC.1,at0,_,_,rfl,rfl,cb0 48271 (by decide),_,_,rfl,rfl,by decide,_,rfl,_,_,rfl,rfl,_,_,rfl,rfl,(by show(0:Int)<(n:Int)+1;lia),?_⟩;(try dsimp only);rw[em];refine⟨_,rfl,rfl,_,rfl,cn (λ_=> ?_) λ_=> ?_⟩
 .refine⟨_,rfl,_,rfl,λph dh nph ndh neh=>⟨ph,dh,_,_,rfl,ah,?_⟩⟩;rw[fM];have smA:=((Same.refl H).upd (o:=HO.own ph) ndh).upd (o:= .ins cE dh (evF n m)) nph;have hA:upd (upd H dh (HO.own ph)) ph (.ins cE dh (evF n m)) ph=some (.ins cE dh (evF n m)):=ah;generalize upd (upd H dh (HO.own ph)) ph (.ins cE dh (evF n m))=HA at*;refine⟨rfl,_,rfl,_,_,rfl,rfl,⟨by lia,by lia,by decide⟩,_,rfl,?_⟩;rw[cj];refine⟨by lia,by lia,?_⟩;rw[E4];refine cP (λ_=>true) (λs=> .int ((min (sz s) m:Nat):Int)) (Fc p64 (by decide)) (λi vs H2 R S hi hv sm2 hk=> ?_) λd H2 hd sm2 hl2=> ?_
  .obtain⟨v,rfl⟩:=aV hv;simp only[bU,dI,E9];have q':=hk [some (.int (0+(i:Nat)))] H2 rfl (Same.refl _);rw[E9 rfl]at q';refine⟨_,rfl,_,rfl,_,rfl,by lia,by lia,_,_,rfl,?_⟩;have e:(if(((bits (0+(i:Int)).toNat).length:Nat):Int)<(m:Int)then(((bits (0+(i:Int)).toNat).length:Nat):Int)else(m:Int))=((min (sz i) m:Nat):Int):=by rw[show(0+(i:Int)).toNat=i by lia];show(if((sz i:Nat):Int)<(m:Int)then((sz i:Nat):Int)else(m:Int))=_;split<;>lia
   rw[<-e]at q';exact q'
  rw[iI (λs=>min (sz s) m)]at hl2;refine⟨by show 2<=sizeLine;decide,λpt hpt=> ?_⟩;have smt:Same H2 (upd H2 pt (.tup [.ref ph, .ref d])):=Same.new hpt;exact kk pt ph d _ (λs=>min (sz s) m) ((smA.trans sm2).trans smt) ah (.inl (.inl ⟨dh,m,smt.at (sm2.at hA),λs _=>rfl⟩)) (AD (by lia) m) (smt.at hl2)
 refine⟨_,rfl,_,rfl,_,rfl,b,cs,n,m,rfl,hC.1,hC.2.1,hC.2.2.1,by lia,mn,λpt H4 ps sm4 hpt hl4 hfar=> ?_⟩;have tne:=oh (by lia) mn hfar;have tlen:=xt n m ps (by lia);have tbd:∀z∈dn n m ps,0<=z/\z<256:=λz hz=>by obtain⟨s,h1,_,_,rfl⟩:=kf.mp hz;lia
 obtain⟨M,hbs⟩:=Cm (by lia) mn hfar;refine⟨_,rfl,_,rfl,λph dh nph ndh neh=>⟨ph,dh,pt,_,_,rfl,ah,SqL.of (by rw[aC (aA hl4 nph),aC (aA hl4 ndh)];exact hl4),by lia,λtt HA htt oth hph htup=>⟨rfl,?_⟩⟩⟩;have smA:Same H4 HA:=λb o e=>oth b o (by rw[aC (aA e nph),aC (aA e ndh)];exact e) (aA e nph);refine⟨_,rfl,_,rfl,pt,dn n m ps,n,rfl,SqL.of (smA.at hl4),tne,tbd,tlen,by lia,λd HB smB hd hlB=> ?_⟩;refine⟨by show 2<=sizeLine;decide,λpr hpr=> ?_⟩;have smt:Same HB (upd HB pr (.tup [.ref ph, .ref d])):=Same.new hpr;have li:we cL HA ph n (dn n m ps):=⟨dh,tt,hph,htup,by lia⟩;refine kk pr ph d _ (au (dn n m ps)) (((sm4.trans smA).trans smB).trans smt) ah (.inr ⟨_,li.same (smB.trans smt),tne,tbd,λs _=>rfl⟩) M ?_;have:=smt.at hlB;rw[this];exact Fu (λl:List Int=>some (HO.lst (l.map V.int))) (by unfold aG;rw[F5];rfl)
theorem sc_law:aE ["_law_script","_law_cells","_law_many","_law_house_here","_law_due","_law_most","_law_free_here","_law_told","_law_round_sets","_law_flat","_law_s","_law_shut","_law_found"] ["_law_script"] (aq s_law):=⟨rfl,rfl,rfl,by decide+kernel,rfl,by decide+kernel,by decide+kernel⟩
theorem Ea:PSp (rq CX0 P w K mg base ["_law_script","_law_cells","_law_many","_law_house_here","_law_due","_law_most","_law_free_here","_law_told","_law_round_sets","_law_flat","_law_s","_law_shut","_law_found"] "law" (aq s_law) f cdv A outer s H E).nox ((bj s_law).getD 1 (.Pass ⟨0,0,0,0⟩))
  (zy (tOp (BM K) (D1 (CD [4,5,3,6,2,1,0])) (tOp (rI (λ_ j=>0<j) λi j=> .int (i % j)) (tOp (BM K) (C0 1) (tC (.int 0))) (tC (.int 7)))) (bU 2)):=by
 have hI:kz (vP (wb (zR ((bj s_law).getD 1 (.Pass ⟨0,0,0,0⟩))))) [4,5,3,6,2,1,0]:=jy (by decide+kernel);obtain⟨p1,p2,p3,p4,p5,p6,p7,p8,p9,j1,j2,e⟩:∃ (p1 p2 p3 p4 p5 p6 p7 p8 p9:Pos) (j1 j2:Nat),(bj s_law).getD 1 (.Pass ⟨0,0,0,0⟩)= .Assign [.Name "_law_many" p1] (.Subscript (.List (vP (wb (zR ((bj s_law).getD 1 (.Pass ⟨0,0,0,0⟩))))) p2) (.BinOp (.Subscript (.Name "_law_cells" p3) (.Constant (.int 0) j1 p4) p5) .Mod (.Constant (.int 7) j2 p6) p7) p8) p9:=⟨_,_,_,_,_,_,_,_,_,_,_,rfl⟩;generalize vP (wb (zR ((bj s_law).getD 1 (.Pass ⟨0,0,0,0⟩))))=es at hI e;rw[e];refine⟨?_⟩;exact aH (i:=2) sc_law.nd (by rfl) (E5 rfl) (aK (av (K:=K) (by rfl)) (e6 (xP hI)) (aw bE (aK (av (K:=K) (by rfl)) (pv 1) ag (λ_ _=>rfl)) ag) (λ_ _=>rfl))
theorem EW:bj s_law=(bj s_law).getD 0 (.Pass ⟨0,0,0,0⟩)::(bj s_law).getD 1 (.Pass ⟨0,0,0,0⟩)::(bj s_law).drop 2:=by rfl
theorem EV:∃st1,st1=(bj s_law).getD 1 (.Pass ⟨0,0,0,0⟩)/\bj s_law=(bj s_law).getD 0 (.Pass ⟨0,0,0,0⟩)::st1::(bj s_law).drop 2:=⟨_,rfl,EW⟩
theorem Dz(F:Fun K "law" "law" s_law f fd)(T:Tb K mg)(c__law_house:Cal P w K mg base 6 "_law_house" ["_law_cells","_law_many","_law_sort"] (wD K (hs4 cE cN cT cL)))(n_Other:jQ P w K mg base 5 "Other" cO ["self","house"] (sv (hs4 cE cN cT cL) cO))(c__law_size:Cal P w K mg base 1 "_law_size" ["_law_s"] iu)
  (c__law_rings:Cal P w K mg base 2 "_law_rings" ["_law_many","_law_levels"] (sg K)) (c__law_flats:Cal P w K mg base 1 "_law_flats" ["_law_many","_law_levels"] (sk K)) (c__law_list:Cal P w K mg base 2 "_law_list" ["_law_found","_law_due"] (zF K)) (c__law_whole:Cal P w K mg base 1 "_law_whole" ["_law_found"] qC)
  (c_ranks:Cal P w K mg base 6 "ranks" ["house"] (i8 (hsO (hs4 cE cN cT cL) cO))) (c_frees:Cal P w K mg base 6 "frees" ["house"] (mQ (hsO (hs4 cE cN cT cL) cO))) (c_bases:Cal P w K mg base 7 "bases" ["house"] (sA (hsO (hs4 cE cN cT cL) cO))) (c_rings:Cal P w K mg base 7 "rings" ["house"] (r8 (hsO (hs4 cE cN cT cL) cO))) (c_flats:Cal P w K mg base 7 "flats" ["house"] (sy (hsO (hs4 cE cN cT cL) cO))) (c_closed:Cal P w K mg base 6 "closed" ["house","s"] (oW (hsO (hs4 cE cN cT cL) cO)))
  (c_of_bases:Cal P w K mg base 5 "of_bases" ["n","bases"] (oU K cL)) (c_of_rings:Cal P w K mg base 5 "of_rings" ["n","rings"] (oR K cL)) (c_of_flats:Cal P w K mg base 7 "of_flats" ["n","flats"] (oT K cL)) (c_of_ranks:Cal P w K mg base 7 "of_ranks" ["n","ranks"] (oS K cL)):gJ P w K mg base CX0 8 f fd ["_law_script"] (qD K):=by
 refine F.ok sc_law (λvs H Q E h=>by obtain⟨a,ns,rfl,_⟩:=h;rfl) λcdv A outer σs H vs Q E hr h=> ?_;obtain⟨a,ns,rfl,ha,hn,nbits,k⟩:=h;have z4:=AO cE cN cT cL;have zO:=AN z4 cO;have st_law_1:=Ea (P:=P) (w:=w) (K:=K) (mg:=mg) (base:=base) (f:=f) (cdv:=cdv) (A:=A) (outer:=outer) (s:=σs) (H:=H) (E:=E);obtain⟨st1,h1,ebody⟩:=EV;rw[<-h1]at st_law_1;rw[ebody];refine⟨_,(ae (aH (i:=1) sc_law.nd (by rfl) (E5 rfl) (aw vm (ji (ja (K:=K) (by rfl)) (pv 0) lX (lW ag)) (e6 (aa ag ab))))
   (ae (st_law_1.h)
   (ae (Dk (ao c__law_house hr (by decide) (by rfl) (aa (pv 1) (aa (pv 2) (aa (aw bE (aw ix (aK (av (K:=K) (by rfl)) (pv 1) ag (λ_ _=>rfl)) ag) ag) ab)))) (lZ (K:=K) (n:=2) (by rfl) (by rfl) (eR (aB (i:=3) sc_law.nd (by rfl) (E5 rfl)) (eR (aB (i:=4) sc_law.nd (by rfl) (GD rfl)) lY))))
   (ae (aH (i:=5) sc_law.nd (by rfl) (GD rfl) (aw dr (aw bJ ag (pv 2)) ag))
   (ae (a8 (aI bS (aw bE (aK (av (K:=K) (by rfl)) (pv 1) (aw dr (jh gv ag) (aw ix (aO (aM (K:=K) (by rfl)) (by rfl) T.len_ FY (aa (pv 1) ab)) ag)) (λ_ _=>rfl)) ag) ag (nomark _))
     (ae (aH (i:=3) sc_law.nd (by rfl) (E5 rfl) (iL n_Other hr (by decide) (by rfl) (aa (pv 3) ab)))
     (af (aH (i:=4) sc_law.nd (by rfl) (GD rfl) (bR (vars:=["_law_s"]) (frn:=["_law_due","_law_most"]) (fr:=[4,5]) rfl (by rfl) (by rfl) (by rfl) (by rfl) ⟨⟨by rfl,E5 (by rfl),E5 (by rfl)⟩,⟨⟨by rfl,E5 (by rfl),E5 (by rfl)⟩,FA⟩⟩ (aX (by rfl) T.range_ (aa (aw bJ ag (pv 2)) ab)) (λ_ _ _ _=>(aB (i:=0) (show List.Nodup (["_law_s","_law_due","_law_most"]:List PySem.Str) by decide+kernel) (by rfl) (E5 rfl))) (λ_ _ _ _=>bz) (λ_ _ _ _=>(aw dr (aw cX (ao c__law_size hr (by decide) (by rfl) (aa (pv 0) ab)) (aK (av (K:=K) (by rfl)) (pv 1) (aw mY (pv 2) (pv 0)) (λ_ _=>rfl))) (aK (av (K:=K) (by rfl)) (pv 1) (pv 2) (λ_ _=>rfl))))))))
     aN)
   (ae (dN (i:=6) sc_law.nd (by rfl) (by rfl) (vars:=["_law_s"]) (frn:=["_law_due"]) (fr:=[4]) rfl (by rfl) (by rfl) (by rfl) (by rfl) ⟨⟨by rfl,E5 (by rfl),E5 (by rfl)⟩,FA⟩ (aX (by rfl) T.range_ (aa (aw bJ ag (pv 2)) ab)) (λ_ _ _ _=>(aB (i:=0) (show List.Nodup (["_law_s","_law_due"]:List PySem.Str) by decide+kernel) (by rfl) (E5 rfl))) (λ_ _ _ _=>(bX (aI bS (aK (av (K:=K) (by rfl)) (pv 1) (pv 0) (λ_ _=>rfl)) (ao c__law_size hr (by decide) (by rfl) (aa (pv 0) ab)) (nomark _)))) (λ_ _ _ _=>(pv 0)))
   (ae (dN (i:=7) sc_law.nd (by rfl) (by rfl) (vars:=["_law_s"]) (frn:=["_law_due","_law_most"]) (fr:=[4,5]) rfl (by rfl) (by rfl) (by rfl) (by rfl) ⟨⟨by rfl,E5 (by rfl),E5 (by rfl)⟩,⟨⟨by rfl,E5 (by rfl),E5 (by rfl)⟩,FA⟩⟩ (aF (K:=K) (by rfl) (pv 6)) (λ_ _ _ _=>(aB (i:=0) (show List.Nodup (["_law_s","_law_due","_law_most"]:List PySem.Str) by decide+kernel) (by rfl) (E5 rfl))) (λ_ _ _ _=>(bX (aI bS (aK (av (K:=K) (by rfl)) (pv 1) (pv 0) (λ_ _=>rfl)) (aK (av (K:=K) (by rfl)) (pv 1) (pv 2) (λ_ _=>rfl)) (nomark _)))) (λ_ _ _ _=>(pv 0)))
   (ae (aH (i:=8) sc_law.nd (by rfl) (E5 rfl) (ao c__law_rings hr (by decide) (by rfl) (aa (pv 2) (aa (pv 4) ab))))
   (ae (aH (i:=9) sc_law.nd (by rfl) (E5 rfl) (ao c__law_flats hr (by decide) (by rfl) (aa (pv 2) (aa (pv 4) ab))))
   (ae (a8 (PW.pt (o4 (eg (bT (ao c__law_list hr (by decide) (by rfl) (aa (ao c_ranks hr (by decide) (by rfl) (aa (pv 3) ab)) (aa (pv 4) ab))))) (jX (eg (bT (ao c__law_list hr (by decide) (by rfl) (aa (ao c_bases hr (by decide) (by rfl) (aa (pv 3) ab)) (aa (pv 7) ab))))))))
     (af (aD dz))
     aN)
   (ae (a8 (PW.pt (o4 (eg (bT (ao c__law_list hr (by decide) (by rfl) (aa (ao c_rings hr (by decide) (by rfl) (aa (pv 3) ab)) (aa (pv 8) ab))))) (jX (eg (bT (ao c__law_list hr (by decide) (by rfl) (aa (ao c_flats hr (by decide) (by rfl) (aa (pv 3) ab)) (aa (pv 9) ab))))))))
     (af (aD dz))
     aN)
   (ae (a8 (eg (bT (ao c__law_list hr (by decide) (by rfl) (aa (ao c_frees hr (by decide) (by rfl) (aa (pv 3) ab)) (aa (pv 6) ab)))))
     (af (aD dz))
     aN)
   (ae (aH (i:=10) sc_law.nd (by rfl) (GD rfl) (aw bE (aw bE (aw bQ (aK (av (K:=K) (by rfl)) (pv 1) ag (λ_ _=>rfl)) ag) ag) (aw bJ ag (pv 2))))
   (ae (dN (i:=11) sc_law.nd (by rfl) (by rfl) (vars:=["_law_k"]) (frn:=["_law_due","_law_s"]) (fr:=[4,10]) rfl (by rfl) (by rfl) (by rfl) (by rfl) ⟨⟨by rfl,E5 (by rfl),E5 (by rfl)⟩,⟨⟨by rfl,E5 (by rfl),E5 (by rfl)⟩,FA⟩⟩ (aX (by rfl) T.range_ (aa (pv 2) ab)) (λ_ _ _ _=>(aB (i:=0) (show List.Nodup (["_law_k","_law_due","_law_s"]:List PySem.Str) by decide+kernel) (by rfl) (E5 rfl))) (λ_ _ _ _=>(bX (aI bS (aK (av (K:=K) (by rfl)) (pv 1) (aw hG (pv 2) (aw bJ ag (pv 0))) (λ_ _=>rfl)) (aK (av (K:=K) (by rfl)) (pv 1) (pv 2) (λ_ _=>rfl)) (nomark _)))) (λ_ _ _ _=>(pv 0)))
   (ae (aH (i:=12) sc_law.nd (by rfl) (E5 rfl) (ao c_closed hr (by decide) (by rfl) (aa (pv 3) (aa (pv 10) ab))))
   (ae (a8 (PW.pt (o4 (eg (bT (ao c__law_whole hr (by decide) (by rfl) (aa (pv 12) ab)))) (jX (aI jo (pv 12) (aO (yO (K:=K) (by rfl) (by rfl)) (by rfl) T.sum_ PyProof.Rows.boot_sum (aa (bR (vars:=["_law_k"]) (frn:=[]) (fr:=[]) rfl (by rfl) (by rfl) (by rfl) (by rfl) FA (aF (K:=K) (by rfl) (pv 11)) (λ_ _ _ _=>(aB (i:=0) (show List.Nodup (["_law_k"]:List PySem.Str) by decide+kernel) (by rfl) (E5 rfl))) (λ_ _ _ _=>bz) (λ_ _ _ _=>(aw bJ ag (pv 0)))) ab)) (nomark _)))))
     (af (aD dz))
     aN)
   (ae (a8 (PW.pt (o4 (eg (bT (ao c__law_list hr (by decide) (by rfl) (aa (ao c_ranks hr (by decide) (by rfl) (aa (ao c_of_bases hr (by decide) (by rfl) (aa (pv 2) (aa (pv 7) ab))) ab)) (aa (pv 4) ab))))) (jX (eg (bT (ao c__law_list hr (by decide) (by rfl) (aa (ao c_flats hr (by decide) (by rfl) (aa (ao c_of_ranks hr (by decide) (by rfl) (aa (pv 2) (aa (pv 4) ab))) ab)) (aa (pv 9) ab))))))))
     (af (aD dz))
     aN)
   (af (aD (vf (ao c__law_list hr (by decide) (by rfl) (aa (ao c_rings hr (by decide) (by rfl) (aa (ao c_of_flats hr (by decide) (by rfl) (aa (pv 2) (aa (pv 9) ab))) ab)) (aa (pv 8) ab))) (ve (ao c__law_list hr (by decide) (by rfl) (aa (ao c_bases hr (by decide) (by rfl) (aa (ao c_of_rings hr (by decide) (by rfl) (aa (pv 2) (aa (pv 8) ab))) ab)) (aa (pv 7) ab)))))))))))))))))))))))),?_⟩
 refine⟨_,rfl,_,rfl,a,_,rfl,ha,λp1 hp1=> ?_⟩;rw[DQ (by decide)];refine⟨by show 1<=sizeLine;decide,λp2 hp2=> ?_⟩;have h1:upd H p1 (.lst ((ns.take (63:Int).toNat).map V.int)) p1=some (.lst ((ns.take (63:Int).toNat).map V.int)):=ah;refine⟨p1,p2,_,_,rfl,rfl,(by rw[aC (aA h1 hp2)];exact h1),ah,?_,λp3 hp3=> ?_⟩
 .rw[E3,FP];show min _ _+1<=sizeLine;exact Fc (show min (63:Int).toNat ns.length+1<=64 by lia) (by decide)
 generalize upd (upd H p1 (.lst ((ns.take (63:Int).toNat).map V.int))) p2 (.lst [V.int 0])=H1 at*;have ec:(ns.take (63:Int).toNat).map V.int++[V.int 0]=(ns.take (63:Int).toNat++[0]).map V.int:=by rw[FW];rfl
 rw[ec];have hcl:(ns.take (63:Int).toNat++[0]).length<=64:=by rw[Fw,FP];show min _ _+1<=64;lia
 have hcp:0<(ns.take (63:Int).toNat++[0]).length:=by rw[Fw];show 0<_+1;lia
 have cbits:∀z∈ns.take (63:Int).toNat++[0],Builtin.Int.intBits z<=2^20:=λz hz=>by
  rcases FE.mp hz with hz|hz
  .exact nbits z (IG hz)
  .rw[FI.mp hz];exact FV _
 generalize ns.take (63:Int).toNat++[0]=cs at*;have hl1:upd H1 p3 (.lst (cs.map V.int)) p3=some (.lst (cs.map V.int)):=ah;generalize upd H1 p3 (.lst (cs.map V.int))=H2 at*;have hC2:qy K H2 p3 cs:=⟨SqL.of hl1,hcp,hcl,cbits⟩;obtain⟨c,at0,cb0⟩:=mr hC2;refine⟨by rw[E3];decide,λpd hpd=> ?_⟩;have smd:Same H2 (upd H2 pd (.lst (List.map V.int [4,5,3,6,2,1,0]))):=Same.new hpd;have hpd1:upd H2 pd (.lst (List.map V.int [4,5,3,6,2,1,0])) pd=some (.lst (List.map V.int [4,5,3,6,2,1,0])):=ah;have hl2:=smd.at hl1;obtain⟨j,hj⟩:=Gn (show 0<=c % 7 from Hq _ (by decide));have hj7:j<7:=by have:=Hk c (show(0:Int)<7 by decide);lia
 have at7:atI (List.map V.int [4,5,3,6,2,1,0]) (c % 7)=some (.int ((Bv.getD j 0:Nat):Int)):=by rw[hj];exact rf (Bu j hj7)
 have n6:=Bt j hj7;generalize Bv.getD j 0=n at*;refine⟨_,rfl,p3,_,_,_,rfl,rfl,SqL.of hl2,at0,_,_,rfl,rfl,(by show(0:Int)<7;decide),pd,_,_,_,rfl,rfl,SqL.of hpd1,at7,?_⟩;generalize upd H2 pd (.lst (List.map V.int [4,5,3,6,2,1,0]))=H3 at*;have ppos:=bP n;have p64:2^n<=64:=Fy (n:=2) (by lia) n6;have s256:∀s,s<2^n->s<256:=λs h=>by lia
 refine⟨_,rfl,_,rfl,_,rfl,p3,_,_,_,rfl,rfl,SqL.of hl2,at0,_,_,rfl,rfl,⟨by decide,by decide⟩,_,_,rfl,rfl,(by show(0:Int)<4;decide),p3,cs,n,_,rfl,⟨SqL.of hl2,hcp,hcl,cbits⟩,n6,λpp q d H4 r sm4 hpp ho M hd=> ?_⟩;refine⟨pp,_,rfl,SqT.of hpp,rfl,_,_,rfl,_,_,rfl,rfl,?_⟩;have hl4:=sm4.at hl2;refine⟨_,rfl,_,_,rfl,rfl,⟨by lia,by lia,by decide⟩,_,_,rfl,rfl,?_⟩;have ef:(1*2^((n:Nat):Int).toNat-1:Int)=((2^n-1:Nat):Int):=by rw[cj];lia
 (try dsimp only);rw[ef];have atN:∀ (r:Nat->Nat) (s:Nat),s<2^n->atI ((aG ((List.range (2^n)).map r)).map V.int) (s:Int)=some (.int ((r s:Nat):Int)):=λr s hs=>dE (by rw[Fm,Gi hs];rfl);refine ke (λσ' H'=>∃ (hh du:Addr) (ms:List Int),ZOk (hsO (hs4 cE cN cT cL) cO) H' hh n ms/\Mat n (au ms)/\H' du=some (.lst ((cz ms n).map V.int))/\H' p3=some (.lst (cs.map V.int))/\σ'=[some (.ref a),some (.ref p3),some (.int (n:Int)),some (.ref hh),some (.ref du),some (.int ((2^n-1:Nat):Int)),none,none,none,none,none,none,none]) ?_ ?_
 .rintro σ' H' ⟨hh,du,ms,zo,MM,hdu,hl5,rfl⟩;clear hl4 hl2 hl1 hpp ho M hd sm4 smd hpd1 at7;have rN:=kF ms n;have atR:∀s:Nat,s<2^n->atI ((cz ms n).map V.int) (s:Int)=some (.int ((au ms s:Nat):Int)):=λs hs=>d7 hs;have flen:∀q:Nat->Bool,((List.range (2^n)).filter q).length<=256:=λq=>Fc (Ga _ _) (by rw[FD];lia);have nlen:∀q:Nat->Bool,(aG ((List.range (2^n)).filter q)).length<=1000:=λq=>by unfold aG;rw[E3];exact Fc (flen q) (by decide)
  refine⟨_,rfl,_,_,rfl,rfl,⟨by lia,by lia,by decide⟩,_,rfl,?_⟩;rw[cj];refine⟨by lia,by lia,?_⟩;rw[E4];refine cP (eV ms) (λi=> .int (0+(i:Nat))) (Fc p64 (by decide)) (λi vs HB R S hi hv smB hk=> ?_) λpf HF hpf smF hlF=> ?_
  .obtain⟨v,rfl⟩:=aV hv;have qq:=hk [some (.int (0+(i:Nat)))] HB rfl (Same.refl _);have at1:atI ((cz ms n).map V.int) (0+(i:Int))=some (.int ((au ms i:Nat):Int)):=by rw[FX];exact atR i hi
   refine⟨_,rfl,_,rfl,du,_,_,_,rfl,rfl,SqL.of (smB.at hdu),at1,_,rfl,_,rfl,by lia,by have:=s256 i hi;lia,rfl,_,rfl,?_⟩;have e2:decide (V.int ((au ms i:Nat):Int)=V.int (((bits (0+(i:Int)).toNat).length:Nat):Int))=eV ms i:=by rw[show(0+(i:Int)).toNat=i by lia];exact cI _ _
   rw[e2];show if eV ms i=true then _ else _;by_cases hc:eV ms i=true
   .rw[E9 hc]at qq⊢;exact⟨_,rfl,qq⟩
   .rw[Fg hc]at qq⊢;exact qq
  rw[eu]at hlF;replace hlF:HF pf=some (.lst ((aG ((List.range (2^n)).filter (eV ms))).map V.int)):=hlF;replace hdu:=smF.at hdu;replace hl5:=smF.at hl5;replace zo:=zo.same zO smF;clear smF hpf;refine⟨_,rfl,pf,rfl,⟨_,SqL.of hlF⟩,?_⟩;refine bh (λx=>(λz:Int=>decide (au ms z.toNat=au ms (2^n-1))) (aW x)) (λx=> .int ((λz:Int=>z) (aW x))) (SqL.of hlF) (by rw[E3];exact Fc (nlen _) (by decide)) (λi x vs HB R S hx hv smB hk=> ?_) λpb HG hpb smG hlG=> ?_
  .obtain⟨v,rfl⟩:=aV hv;obtain⟨z,rfl,hz⟩:=aQ hx;obtain⟨s,hs,rfl⟩:=cp (E7 hz);have hs':=Fl.mp (FH.mp hs).1;have qq:=hk [some (.int (s:Int))] HB rfl (Same.refl _);refine⟨_,rfl,_,rfl,du,_,_,_,rfl,rfl,SqL.of (smB.at hdu),atR s hs',_,rfl,_,rfl,du,_,_,_,rfl,rfl,SqL.of (smB.at hdu),atR _ (cx n),rfl,_,rfl,?_⟩;rw[cI];have qq':if decide (au ms s=au ms (2^n-1))=true then R (.int (s:Int)) _ HB else S _ HB:=qq;show if decide (au ms s=au ms (2^n-1))=true then _ else _;by_cases hc:decide (au ms s=au ms (2^n-1))=true
   .rw[E9 hc]at qq'⊢;exact⟨_,rfl,qq'⟩
   .rw[Fg hc]at qq'⊢;exact qq'
  replace hlG:=hlG.trans (Fu (λl=>some (HO.lst l)) (aU (λz:Int=>decide (au ms z.toNat=au ms (2^n-1))) (λz:Int=>z) (aG ((List.range (2^n)).filter (eV ms)))));rw[show(λz:Int=>z)=id from rfl,Hh,bY]at hlG;replace hlG:HG pb=some (.lst ((aG ((List.range (2^n)).filter (kW ms (au ms (2^n-1))))).map V.int)):=by rw[hlG];exact Fu (λl:List Nat=>some (HO.lst ((aG l).map V.int))) uM
  replace hdu:=smG.at hdu;replace hl5:=smG.at hl5;replace hlF:=smG.at hlF;replace zo:=zo.same zO smG;clear smG hpb;refine⟨_,rfl,_,rfl,du,ms,n,rfl,SqL.of hdu,by lia,λpr HI smI hpr hlI=> ?_⟩;replace hdu:=smI.at hdu;replace hl5:=smI.at hl5;replace hlF:=smI.at hlF;replace hlG:=smI.at hlG;replace zo:=zo.same zO smI;clear smI hpr;refine⟨_,rfl,_,rfl,du,ms,n,rfl,SqL.of hdu,by lia,λpl HJ smJ hpl hlJ=> ?_⟩;rw[<-tV MM]at hlJ;have tl:rM (hsO (hs4 cE cN cT cL) cO) n ms cs hh du p3 pf pb pr pl HJ:=⟨zo.same zO smJ,smJ.at hdu,smJ.at hl5,smJ.at hlF,smJ.at hlG,smJ.at hlI,hlJ⟩;clear smJ hpl hdu hl5 hlF hlG hlI hlJ zo;have rlen:(cz ms n).length<=1000:=by unfold cz;rw[E3,FD];lia
  refine⟨_,rfl,hh,n,ms,rfl,tl.zo,λq1 H1 sm1 hq1 hr1=> ?_⟩;replace tl:=tl.same zO sm1;refine⟨_,rfl,q1,du,_,_,rfl,hr1,SqL.of tl.du,rlen,true,Fu V.bl (E6 rfl),dt ?_⟩;clear sm1 hq1 hr1;refine⟨_,rfl,hh,n,ms,rfl,tl.zo,λq1 H1 sm1 hq1 hr1=> ?_⟩;replace tl:=tl.same zO sm1;refine⟨_,rfl,q1,pb,_,_,rfl,hr1,SqL.of tl.lG,nlen _,true,Fu V.bl (E6 rfl),dt ?_⟩;clear sm1 hq1 hr1;refine⟨_,rfl,hh,n,ms,rfl,tl.zo,λq1 H1 sm1 hq1 hr1=> ?_⟩;replace tl:=tl.same zO sm1;refine⟨_,rfl,q1,pr,_,_,rfl,hr1,SqL.of tl.lI,nlen _,true,Fu V.bl (E6 rfl),dt ?_⟩;clear sm1 hq1 hr1;refine⟨_,rfl,hh,n,ms,rfl,tl.zo,λq1 H1 sm1 hq1 hr1=> ?_⟩;replace tl:=tl.same zO sm1;refine⟨_,rfl,q1,pl,_,_,rfl,hr1,SqL.of tl.lJ,nlen _,true,Fu V.bl (E6 rfl),dt ?_⟩;clear sm1 hq1 hr1;refine⟨_,rfl,hh,n,ms,rfl,tl.zo,λq1 H1 sm1 hq1 hr1=> ?_⟩;replace tl:=tl.same zO sm1;refine⟨_,rfl,q1,pf,_,_,rfl,hr1,SqL.of tl.lF,nlen _,true,Fu V.bl (E6 rfl),dt ?_⟩;clear sm1 hq1 hr1;refine⟨_,rfl,p3,_,_,_,rfl,rfl,SqL.of tl.l5,at0,_,_,rfl,rfl,cb0 69621 (by decide),_,_,rfl,rfl,by decide,_,rfl,_,_,rfl,rfl,⟨by lia,by lia,by decide⟩,_,_,rfl,rfl,(by rw[cj];lia),?_⟩;(try dsimp only);rw[cj];obtain⟨s,es⟩:=Gn (show 0<=c*69621 % 65519 % ((2^n:Nat):Int)from Hq _ (by lia));have hs:s<2^n:=by have:=Hk (c*69621 % 65519) (show(0:Int)<((2^n:Nat):Int) by lia);lia
  rw[es];refine⟨_,rfl,(n:Int),rfl,by lia,by lia,?_⟩;rw[E4];refine cP (λk=>decide (au ms (s|||2^k)=au ms s)) (λi=> .int (0+(i:Nat))) (Fc n6 (by decide)) (λi vs HB R S hi hv smB hk=> ?_) λps HK hps smK hlK=> ?_
  .obtain⟨v,rfl⟩:=aV hv;have qq:=hk [some (.int (0+(i:Nat)))] HB rfl (Same.refl _);have eo:Builtin.bitOr (s:Int) (1*2^(0+(i:Int)).toNat)=((s|||2^i:Nat):Int):=by rw[FX,dM,cc]
   have at1:atI ((cz ms n).map V.int) (Builtin.bitOr (s:Int) (1*2^(0+(i:Int)).toNat))=some (.int ((au ms (s|||2^i):Nat):Int)):=by rw[eo];exact atR _ (bA hs hi)
   refine⟨_,rfl,_,rfl,_,rfl,_,_,rfl,rfl,⟨by lia,by lia,by decide⟩,_,_,rfl,rfl,du,_,_,_,rfl,rfl,SqL.of (smB.at tl.du),at1,_,rfl,_,rfl,du,_,_,_,rfl,rfl,SqL.of (smB.at tl.du),atR s hs,rfl,_,rfl,?_⟩;rw[cI];show if decide (au ms (s|||2^i)=au ms s)=true then _ else _;by_cases hc:decide (au ms (s|||2^i)=au ms s)=true
   .rw[E9 hc]at qq⊢;exact⟨_,rfl,qq⟩
   .rw[Fg hc]at qq⊢;exact qq
  rw[eu]at hlK;replace hlK:HK ps=some (.lst ((aG (sD ms n s)).map V.int)):=hlK;replace tl:=tl.same zO smK;clear smK hps;refine⟨_,rfl,_,rfl,hh,n,s,ms,rfl,tl.zo,hs,λH1 sm1=> ?_⟩;replace tl:=tl.same zO sm1;replace hlK:=sm1.at hlK;clear sm1;refine⟨_,rfl,_,rfl,true,rfl,dt ?_⟩;refine⟨_,rfl,_,rfl,ps,rfl,⟨_,SqL.of hlK⟩,?_⟩;refine bh (λx=>(λ_=>true) (aW x)) (λx=> .int ((λz:Int=>(1*2^z.toNat:Int)) (aW x))) (SqL.of hlK) (by rw[E3];unfold aG;rw[E3];exact Fc (Ga _ _) (by rw[FD];exact Fc n6 (by decide))) (λi x vs HB R S hx hv smB hk=> ?_) λpt HL hpt smL hlL=> ?_
  .obtain⟨v,rfl⟩:=aV hv;obtain⟨z,rfl,hz⟩:=aQ hx;obtain⟨kk,hk1,rfl⟩:=cp (E7 hz);have hk2:=Fl.mp (FH.mp hk1).1;have qq:=hk [some (.int (kk:Int))] HB rfl (Same.refl _);rw[E9 rfl]at qq;simp only[bU,dI,E9];exact⟨_,rfl,_,_,rfl,rfl,⟨by lia,by lia,by decide⟩,qq⟩
  replace hlL:=hlL.trans (Fu (λl=>some (HO.lst l)) (aU (λ_=>true) (λz:Int=>(1*2^z.toNat:Int)) (aG (sD ms n s))));rw[Gf.mpr (λ_ _=>rfl)]at hlL;replace tl:=tl.same zO smL;refine⟨pt,_,rfl,SqL.of hlL,?_⟩;rw[zG MM hs];refine⟨rfl,_,rfl,Er rfl ?_⟩;clear hlL hpt smL hlK;refine⟨_,rfl,_,rfl,pb,n,_,au ms,rfl,SqL.of tl.lG,flen _,MM,yf,λq1 H1 sm1 hq1 li=> ?_⟩;replace tl:=tl.same zO sm1;refine⟨q1,n,ms,rfl,ri MM li,λq2 H2 sm2 hq2 hr2=> ?_⟩;replace tl:=tl.same zO sm2;refine⟨_,rfl,q2,du,_,_,rfl,hr2,SqL.of tl.du,rlen,true,Fu V.bl (E6 rfl),dt ?_⟩;clear sm1 hq1 li sm2 hq2 hr2;refine⟨_,rfl,_,rfl,du,n,au ms,rfl,SqL.of (by rw[<-rN];exact tl.du),MM,λq1 H1 sm1 hq1 li=> ?_⟩;replace tl:=tl.same zO sm1;refine⟨q1,n,ms,rfl,ri MM li,λq2 H2 sm2 hq2 hr2=> ?_⟩;replace tl:=tl.same zO sm2;refine⟨_,rfl,q2,pl,_,_,rfl,hr2,SqL.of tl.lJ,nlen _,true,Fu V.bl (E6 rfl),dt ?_⟩;clear sm1 hq1 li sm2 hq2 hr2;refine⟨_,rfl,_,rfl,pl,n,_,au ms,rfl,SqL.of tl.lJ,MM,(λg=>by rw[tV MM];exact o9 MM g),flen _,λq1 H1 sm1 hq1 li=> ?_⟩;replace tl:=tl.same zO sm1;refine⟨q1,n,ms,rfl,ri MM li,λq2 H2 sm2 hq2 hr2=> ?_⟩;replace tl:=tl.same zO sm2;refine⟨_,rfl,q2,pr,_,_,rfl,hr2,SqL.of tl.lI,nlen _,true,Fu V.bl (E6 rfl),tO ?_⟩;clear sm1 hq1 li sm2 hq2 hr2;refine⟨_,rfl,_,rfl,pr,n,_,au ms,rfl,SqL.of tl.lI,MM,ye MM,λq1 H1 sm1 hq1 li=> ?_⟩;replace tl:=tl.same zO sm1;refine⟨q1,n,ms,rfl,ri MM li,λq2 H2 sm2 hq2 hr2=> ?_⟩;replace tl:=tl.same zO sm2;refine⟨_,rfl,q2,pb,_,_,rfl,hr2,SqL.of tl.lG,nlen _,?_⟩;rw[E6 rfl];exact k _
 .intro hrest;have go:∀ (H':Hp) (hh du:Addr) (r:Nat->Nat),(hsO (hs4 cE cN cT cL) cO).ho H' hh n r->Mat n r->H' du=some (.lst ((aG ((List.range (2^n)).map r)).map V.int))->∃ms:List Int,ZOk (hsO (hs4 cE cN cT cL) cO) H' hh n ms/\Mat n (au ms)/\H' du=some (.lst ((cz ms n).map V.int)):=λH' hh du r ho M hd=>by obtain⟨ms,e,M'⟩:=DE M;refine⟨ms,⟨(DM (DN cE cN cT cL) cO).congr ho e,M.n8⟩,M',?_⟩;rw[hd,kF,GJ λs hs=>e s (Fl.mp hs)]
  have atx:=DS (l:=cs) (i:= -1- (((cs.map V.int).length:Nat):Int) /2) (by rw[E3];lia) (by rw[E3];lia);refine⟨_,rfl,_,rfl,_,rfl,p3,_,rfl, .inl (SqL.of hl4),_,_,rfl,rfl,⟨by decide,by decide⟩,_,_,rfl,rfl,p3,_,_,_,rfl,rfl,SqL.of hl4,atx,_,_,rfl,rfl,(by show(0:Int)<2;decide),rfl,_,rfl,cn (λ_=> ?_) λ_=> ?_⟩
  .refine⟨_,rfl,λph dh nph ndh neh=>⟨ph,dh,q,n,r,rfl,ah,z4.same (xF nph ndh) ho,by lia,λHA oth hph=>⟨rfl,?_⟩⟩⟩;have smA:Same H4 HA:=λb o e=>oth b o (by rw[aC (aA e nph),aC (aA e ndh)];exact e) (aA e nph);have hdA:=smA.at hd;refine⟨_,rfl,_,_,rfl,rfl,⟨by lia,by lia,by decide⟩,_,rfl,?_⟩;rw[cj];refine⟨by lia,by lia,?_⟩;rw[E4];refine cP (λ_=>true) (λs=> .int ((kT n r s:Nat):Int)) (Fc p64 (by decide)) (λi vs HB R S hi hv smB hk=> ?_) λdd HB hdd smB hlB=> ?_
   .obtain⟨v,rfl⟩:=aV hv;simp only[bU,dI,E9];have q':=hk [some (.int (0+(i:Nat)))] HB rfl (Same.refl _);rw[E9 rfl,M.eX hi]at q';have ex:Builtin.bitXor ((2^n-1:Nat):Int) (0+(i:Int))=((aT (2^n-1) i:Nat):Int):=by rw[FX,xo,AV hi]
    have at1:atI ((aG ((List.range (2^n)).map r)).map V.int) (Builtin.bitXor ((2^n-1:Nat):Int) (0+(i:Int)))=some (.int ((r (aT (2^n-1) i):Nat):Int)):=by rw[ex];exact atN r _ wY
    refine⟨_,rfl,_,rfl,by lia,by have:=s256 i hi;lia,_,rfl,_,rfl,_,rfl,_,_,rfl,rfl,d,_,_,_,rfl,rfl,SqL.of (smB.at hdA),at1,_,_,rfl,rfl,_,rfl,_,rfl,d,_,_,_,rfl,rfl,SqL.of (smB.at hdA),atN r _ (cx n),_,_,rfl,rfl,?_⟩;rw[show(0+(i:Int)).toNat=i by lia];exact q'
   rw[iI (kT n r)]at hlB;have oth':EB cO HB ((hs4 cE cN cT cL).ho HB) ph n (kT n r):=⟨dh,q,r,smB.at hph,z4.same (smA.trans smB) ho,λs hs=>M.eX hs⟩;obtain⟨ms,g1,g2,g3⟩:=go HB ph dd (kT n r) (.inr oth') M.dual hlB;exact hrest _ _ ⟨ph,dd,ms,g1,g2,g3,smB.at (smA.at hl4),rfl⟩
  .obtain⟨ms,g1,g2,g3⟩:=go H4 q d r (.inl ho) M hd;exact hrest _ _ ⟨q,d,ms,g1,g2,g3,hl4,rfl⟩
end
inductive HD(K:PySem.W.Frag)(n:Str)(st:Stmt):Prop
 |mk {f:Addr} {oc:Value} {od an:Option Addr} {sl:Array (Option Value)} {kV dc pm cd ct:Value} (a:nsIn K mainGlobals n=some (some (.ref f))) (l:K.lookup f=some ⟨oc,od, .func (fnOf n n (cH st) (bj st) (aq st) .none kV dc pm an cd ct),sl⟩) (c:codeIn K cd n=true) (k:keepIn K (.ref f)=true):HD K n st
theorem HD.at{K:PySem.W.Frag}{h:Heap}(X:K.In h)(G:h.Ns mainGlobals mg)(d:HD K n st){ps:List Str}(b:∀ (kV doc pm:Value) (an:Option Addr) (cdv ct:Value) (us:List Value),us.length=ps.length->bindArgs (fnOf n n (cH st) (bj st) (aq st) .none kV doc pm an cdv ct) ⟨us,[]⟩=pure (ps.zip us)):aS K mg n st ps:=by obtain⟨a,l,c,k⟩:=d;exact DP (st:=st) (ps:=ps) X G a l c k b
inductive HM(K:PySem.W.Frag)(C:Addr)(n q:Str)(st:Stmt)(f:Addr):Prop
 |mk {oc:Value} {od an:Option Addr} {sl:Array (Option Value)} {kV dc pm cd ct:Value} (a:findIn K (.ref C) n=some (some (.ref f))) (i:isFn K (.ref f)=true) (l:K.lookup f=some ⟨oc,od, .func (fnOf n q (cH st) (bj st) (aq st) .none kV dc pm an cd ct),sl⟩) (c:codeIn K cd q=true) (k:keepIn K (.ref f)=true):HM K C n q st f
theorem HM.at(d:HM K C n q st f){ps:List Str}(b:∀ (kV doc pm:Value) (an:Option Addr) (cdv ct:Value) (us:List Value),us.length=ps.length->bindArgs (fnOf n q (cH st) (bj st) (aq st) .none kV doc pm an cdv ct) ⟨us,[]⟩=pure (ps.zip us)):eZ K n q st ps f/\findIn K (.ref C) n=some (some (.ref f))/\isFn K (.ref f)=true/\keepIn K (.ref f)=true:=by obtain⟨a,i,l,c,k⟩:=d;exact⟨DD (st:=st) (ps:=ps) l c k b,a,i,k⟩
structure HL(K:PySem.W.Frag)(n:Str)(C:Addr):Prop where
 a:nsIn K mainGlobals n=some (some (.ref C))
 pg:plainGet K C Str.empty=true
 hd:hasDictIn K C=true
 po:plainOver K C=true
 sa:findIn K (.ref C) "__setattr__"=some (some (.builtin "object.__setattr__"))
 mi:makesIn K C=true
 kc:keepIn K (.ref C)=true
structure HI(K:PySem.W.Frag)(C:Addr):Prop where
 a:findIn K (.ref C) "__class__"=some (some (.builtin "object.__class__"))
 b:specialIn K (.builtin "object.__class__") "__get__"=some (some (.builtin "getset_descriptor.__get__"))
 c:takesIn K (.builtin "object.__class__")=some true
 d:mroIn K C (.type "object")=some true
theorem all_mk{l:PySem.W.OpenLaw}{K:PySem.W.Frag}{h:Heap}(X:K.In h)(G:h.Ns mainGlobals mg)(hfa:mg "law"=some (.ref fa))
  
  
  
  
  (qn2:HL K "House" Cn2)
  (qn4:HL K "Even" Cn4)
  (qn5:HL K "Net" Cn5)
  (qn1:HL K "Tabled" Cn1)
  (qn0:HL K "Listed" Cn0)
  (qn3:HL K "Other" Cn3)
  (m_House___init__:HM K Cn2 "__init__" "House.__init__" s_House___init__ f_House___init__)
  (m_House_everything:HM K Cn2 "everything" "House.everything" s_House_everything f_House_everything)
  (nan2_many:findIn K (.ref Cn2) "many"=some none)
  (in2:HI K Cn2)
  (isn2_House:kitOne K (.ref Cn2) (.ref Cn2)=some true)
  (m_Even___init__:HM K Cn4 "__init__" "Even.__init__" s_Even___init__ f_Even___init__)
  (m_Even_rank:HM K Cn4 "rank" "Even.rank" s_Even_rank f_Even_rank)
  (hn4_everything:findIn K (.ref Cn4) "everything"=some (some (.ref f_House_everything)))
  (nan4_many:findIn K (.ref Cn4) "many"=some none)
  (nan4_most:findIn K (.ref Cn4) "most"=some none)
  (in4:HI K Cn4)
  (isn4_House:kitOne K (.ref Cn4) (.ref Cn2)=some true)
  (m_Net___init__:HM K Cn5 "__init__" "Net.__init__" s_Net___init__ f_Net___init__)
  (m_Net_pieces:HM K Cn5 "pieces" "Net.pieces" s_Net_pieces f_Net_pieces)
  (m_Net_rank:HM K Cn5 "rank" "Net.rank" s_Net_rank f_Net_rank)
  (hn5_everything:findIn K (.ref Cn5) "everything"=some (some (.ref f_House_everything)))
  (nan5_many:findIn K (.ref Cn5) "many"=some none)
  (nan5_points:findIn K (.ref Cn5) "points"=some none)
  (nan5_ties:findIn K (.ref Cn5) "ties"=some none)
  (in5:HI K Cn5)
  (isn5_House:kitOne K (.ref Cn5) (.ref Cn2)=some true)
  (m_Tabled___init__:HM K Cn1 "__init__" "Tabled.__init__" s_Tabled___init__ f_Tabled___init__)
  (m_Tabled_rank:HM K Cn1 "rank" "Tabled.rank" s_Tabled_rank f_Tabled_rank)
  (hn1_everything:findIn K (.ref Cn1) "everything"=some (some (.ref f_House_everything)))
  (nan1_many:findIn K (.ref Cn1) "many"=some none)
  (nan1_prime:findIn K (.ref Cn1) "prime"=some none)
  (nan1_rows:findIn K (.ref Cn1) "rows"=some none)
  (in1:HI K Cn1)
  (isn1_House:kitOne K (.ref Cn1) (.ref Cn2)=some true)
  (m_Listed___init__:HM K Cn0 "__init__" "Listed.__init__" s_Listed___init__ f_Listed___init__)
  (m_Listed_rank:HM K Cn0 "rank" "Listed.rank" s_Listed_rank f_Listed_rank)
  (hn0_everything:findIn K (.ref Cn0) "everything"=some (some (.ref f_House_everything)))
  (nan0_many:findIn K (.ref Cn0) "many"=some none)
  (nan0_listed:findIn K (.ref Cn0) "listed"=some none)
  (in0:HI K Cn0)
  (isn0_House:kitOne K (.ref Cn0) (.ref Cn2)=some true)
  (m_Other_rank:HM K Cn3 "rank" "Other.rank" s_Other_rank f_Other_rank)
  (m_Other___init__:HM K Cn3 "__init__" "Other.__init__" s_Other___init__ f_Other___init__)
  (hn3_everything:findIn K (.ref Cn3) "everything"=some (some (.ref f_House_everything)))
  (nan3_many:findIn K (.ref Cn3) "many"=some none)
  (nan3_house:findIn K (.ref Cn3) "house"=some none)
  (nan3_full:findIn K (.ref Cn3) "full"=some none)
  (nan3_full_rank:findIn K (.ref Cn3) "full_rank"=some none)
  (in3:HI K Cn3)
  (isn3_House:kitOne K (.ref Cn3) (.ref Cn2)=some true)
  (h_holds:HD K "holds" s_holds)
  (h_things:HD K "things" s_things)
  (h_size:HD K "size" s_size)
  (h_within:HD K "within" s_within)
  (h_parts:HD K "parts" s_parts)
  (h_all_of:HD K "all_of" s_all_of)
  (h_less:HD K "less" s_less)
  (h_marked:HD K "marked" s_marked)
  (h_exchanged:HD K "exchanged" s_exchanged)
  (h_has_exchange:HD K "has_exchange" s_has_exchange)
  (h_broken_bases:HD K "broken_bases" s_broken_bases)
  (h_holds_ring:HD K "holds_ring" s_holds_ring)
  (h_ring_in_ring:HD K "ring_in_ring" s_ring_in_ring)
  (h_rings_without_third:HD K "rings_without_third" s_rings_without_third)
  (h_broken_rings:HD K "broken_rings" s_broken_rings)
  (h_wrong_step:HD K "wrong_step" s_wrong_step)
  (h_exchanges:HD K "exchanges" s_exchanges)
  (h_late_step:HD K "late_step" s_late_step)
  (h_broken_ranks:HD K "broken_ranks" s_broken_ranks)
  (h_common_not_listed:HD K "common_not_listed" s_common_not_listed)
  (h_least_flat:HD K "least_flat" s_least_flat)
  (h_flats_that_meet:HD K "flats_that_meet" s_flats_that_meet)
  (h_broken_flats:HD K "broken_flats" s_broken_flats)
  (h_tied:HD K "tied" s_tied)
  (h_rests:HD K "rests" s_rests)
  (h_pivot_place:HD K "pivot_place" s_pivot_place)
  (h_cleared:HD K "cleared" s_cleared)
  (h_all_cleared:HD K "all_cleared" s_all_cleared)
  (h_rank_of:HD K "rank_of" s_rank_of)
  (h_whole_rank:HD K "whole_rank" s_whole_rank)
  (h_ranks:HD K "ranks" s_ranks)
  (h_frees:HD K "frees" s_frees)
  (h_bases:HD K "bases" s_bases)
  (h_is_ring:HD K "is_ring" s_is_ring)
  (h_rings:HD K "rings" s_rings)
  (h_is_flat:HD K "is_flat" s_is_flat)
  (h_flats:HD K "flats" s_flats)
  (h_closed:HD K "closed" s_closed)
  (h_refuse:HD K "refuse" s_refuse)
  (h_house_of_frees:HD K "house_of_frees" s_house_of_frees)
  (h_of_bases:HD K "of_bases" s_of_bases)
  (h_of_rings:HD K "of_rings" s_of_rings)
  (h_is_free:HD K "is_free" s_is_free)
  (h_of_flats:HD K "of_flats" s_of_flats)
  (h_of_ranks:HD K "of_ranks" s_of_ranks)
  (h__law_whole:HD K "_law_whole" s__law_whole)
  (h__law_size:HD K "_law_size" s__law_size)
  (h__law_list:HD K "_law_list" s__law_list)
  (h__law_far:HD K "_law_far" s__law_far)
  (h__law_ranks:HD K "_law_ranks" s__law_ranks)
  (h__law_rings:HD K "_law_rings" s__law_rings)
  (h__law_flats:HD K "_law_flats" s__law_flats)
  (h__law_pieces:HD K "_law_pieces" s__law_pieces)
  (h__law_two:HD K "_law_two" s__law_two)
  (h__law_three:HD K "_law_three" s__law_three)
  (h__law_some:HD K "_law_some" s__law_some)
  (h__law_free:HD K "_law_free" s__law_free)
  (h__law_table_ranks:HD K "_law_table_ranks" s__law_table_ranks)
  (h__law_number:HD K "_law_number" s__law_number)
  (h__law_net:HD K "_law_net" s__law_net)
  (h__law_table:HD K "_law_table" s__law_table)
  (h__law_house:HD K "_law_house" s__law_house)
  (an6:nsIn K mainGlobals "law"=some (some (.ref fn6)))
  (ln6:K.lookup fn6=some ⟨ocn6,odn6, .func (fnOf "law" "law" (cH s_law) (bj s_law) (aq s_law) .none kVn6 dcn6 pmn6 ann6 cdn6 ctn6),sln6⟩)
  (cn6:codeIn K cdn6 "law"=true)
  (kn6:keepIn K (.ref fn6)=true)
  (z_len:nsIn K mainGlobals "len"=some none)
  (z_range:nsIn K mainGlobals "range"=some none)
  (z_isinstance:nsIn K mainGlobals "isinstance"=some none)
  (z_int:nsIn K mainGlobals "int"=some none)
  (z_bool:nsIn K mainGlobals "bool"=some none)
  (z_list:nsIn K mainGlobals "list"=some none)
  (z_max:nsIn K mainGlobals "max"=some none)
  (z_min:nsIn K mainGlobals "min"=some none)
  (z_tuple:nsIn K mainGlobals "tuple"=some none)
  (z_sorted:nsIn K mainGlobals "sorted"=some none)
  (z_any:nsIn K mainGlobals "any"=some none)
  (z_all:nsIn K mainGlobals "all"=some none)
  (z_dict:nsIn K mainGlobals "dict"=some none)
  (z_sum:nsIn K mainGlobals "sum"=some none)
  (z_enumerate:nsIn K mainGlobals "enumerate"=some none)
  (z_zip:nsIn K mainGlobals "zip"=some none)
  (z_set:nsIn K mainGlobals "set"=some none)
  (kII:kitOne K (.type "int") (.type "int")=some true)
  (kIB:kitOne K (.type "int") (.type "bool")=some false)
  (kLL:kitOne K (.type "list") (.type "list")=some true)
  (kTT:kitOne K (.type "tuple") (.type "tuple")=some true)
  (gaH:specialIn K (.ref Cn2) "__getattribute__"=some (some (.builtin "type.__getattribute__")))
  (rdH:PySem.W.readsIn K Cn2 (.type "type")=true)
  (fcH:PySem.W.findCls K (.ref Cn2) (.type "type") "__init__"=some (.val (.ref f_House___init__)))
  (ne3:Cn4≠Cn5/\Cn4≠Cn1/\Cn5≠Cn1)
  (neL:Cn4≠Cn0/\Cn5≠Cn0/\Cn1≠Cn0)
  (neO:Cn3≠Cn4/\Cn3≠Cn5/\Cn3≠Cn1/\Cn3≠Cn0):
  ∃fd:FuncData,(∀ (s:Shared) (v:Value),BindsTo s fd ⟨[v],[]⟩ [("_law_script",v)])/\∀base:Heap,K.In base->base.Ns mainGlobals mg->gJ l.prog w K mg base CX0 8 fa fd ["_law_script"] (qD K):=by
 have e:=hfa.symm.trans (HS X G an6);cases e;have T:Tb K mg:=⟨F8 X G z_len,F8 X G z_range,F8 X G z_isinstance,F8 X G z_int,F8 X G z_bool,F8 X G z_list,F8 X G z_max,F8 X G z_min,F8 X G z_tuple,F8 X G z_sorted,F8 X G z_any,F8 X G z_all,F8 X G z_dict,F8 X G z_sum,F8 X G z_enumerate,F8 X G z_zip,F8 X G z_set,kII,kIB,kLL,kTT⟩;have D_holds:=h_holds.at X G (ps:=["s","thing"]) λ_ _ _ _ _ _=>cB λ_ _=>rfl;have D_things:=h_things.at X G (ps:=["s"]) λ_ _ _ _ _ _=>gE λ_=>rfl;have D_size:=h_size.at X G (ps:=["s"]) λ_ _ _ _ _ _=>gE λ_=>rfl;have D_within:=h_within.at X G (ps:=["s","t"]) λ_ _ _ _ _ _=>cB λ_ _=>rfl;have D_parts:=h_parts.at X G (ps:=["s"]) λ_ _ _ _ _ _=>gE λ_=>rfl;have D_all_of:=h_all_of.at X G (ps:=["n"]) λ_ _ _ _ _ _=>gE λ_=>rfl;have D_less:=h_less.at X G (ps:=["s","t"]) λ_ _ _ _ _ _=>cB λ_ _=>rfl;have D_marked:=h_marked.at X G (ps:=["sets"]) λ_ _ _ _ _ _=>gE λ_=>rfl;have D_exchanged:=h_exchanged.at X G (ps:=["s","thing","y"]) λ_ _ _ _ _ _=>lD λ_ _ _=>rfl;have D_has_exchange:=h_has_exchange.at X G (ps:=["listed","one","other","thing"]) λ_ _ _ _ _ _=>vF λ_ _ _ _=>rfl;have D_broken_bases:=h_broken_bases.at X G (ps:=["n","bases"]) λ_ _ _ _ _ _=>cB λ_ _=>rfl;have D_holds_ring:=h_holds_ring.at X G (ps:=["rings","s"]) λ_ _ _ _ _ _=>cB λ_ _=>rfl;have D_ring_in_ring:=h_ring_in_ring.at X G (ps:=["rings"]) λ_ _ _ _ _ _=>gE λ_=>rfl;have D_rings_without_third:=h_rings_without_third.at X G (ps:=["rings"]) λ_ _ _ _ _ _=>gE λ_=>rfl;have D_broken_rings:=h_broken_rings.at X G (ps:=["n","rings"]) λ_ _ _ _ _ _=>cB λ_ _=>rfl;have D_wrong_step:=h_wrong_step.at X G (ps:=["n","ranks"]) λ_ _ _ _ _ _=>cB λ_ _=>rfl;have D_exchanges:=h_exchanges.at X G (ps:=["n","s"]) λ_ _ _ _ _ _=>cB λ_ _=>rfl;have D_late_step:=h_late_step.at X G (ps:=["n","ranks"]) λ_ _ _ _ _ _=>cB λ_ _=>rfl;have D_broken_ranks:=h_broken_ranks.at X G (ps:=["n","ranks"]) λ_ _ _ _ _ _=>cB λ_ _=>rfl;have D_common_not_listed:=h_common_not_listed.at X G (ps:=["flats"]) λ_ _ _ _ _ _=>gE λ_=>rfl;have D_least_flat:=h_least_flat.at X G (ps:=["n","flats","s"]) λ_ _ _ _ _ _=>lD λ_ _ _=>rfl;have D_flats_that_meet:=h_flats_that_meet.at X G (ps:=["n","flats"]) λ_ _ _ _ _ _=>cB λ_ _=>rfl;have D_broken_flats:=h_broken_flats.at X G (ps:=["n","flats"]) λ_ _ _ _ _ _=>cB λ_ _=>rfl;have D_tied:=h_tied.at X G (ps:=["marks","tie"]) λ_ _ _ _ _ _=>cB λ_ _=>rfl;have D_rests:=h_rests.at X G (ps:=["row","prime"]) λ_ _ _ _ _ _=>cB λ_ _=>rfl;have D_pivot_place:=h_pivot_place.at X G (ps:=["rows","column"]) λ_ _ _ _ _ _=>cB λ_ _=>rfl;have D_cleared:=h_cleared.at X G (ps:=["row","pivot","column","divisor"]) λ_ _ _ _ _ _=>vF λ_ _ _ _=>rfl;have D_all_cleared:=h_all_cleared.at X G (ps:=["rows","place","column","divisor"]) λ_ _ _ _ _ _=>vF λ_ _ _ _=>rfl;have D_rank_of:=h_rank_of.at X G (ps:=["rows","prime"]) λ_ _ _ _ _ _=>cB λ_ _=>rfl;have D_whole_rank:=h_whole_rank.at X G (ps:=["house"]) λ_ _ _ _ _ _=>gE λ_=>rfl;have D_ranks:=h_ranks.at X G (ps:=["house"]) λ_ _ _ _ _ _=>gE λ_=>rfl;have D_frees:=h_frees.at X G (ps:=["house"]) λ_ _ _ _ _ _=>gE λ_=>rfl;have D_bases:=h_bases.at X G (ps:=["house"]) λ_ _ _ _ _ _=>gE λ_=>rfl;have D_is_ring:=h_is_ring.at X G (ps:=["free","s"]) λ_ _ _ _ _ _=>cB λ_ _=>rfl;have D_rings:=h_rings.at X G (ps:=["house"]) λ_ _ _ _ _ _=>gE λ_=>rfl;have D_is_flat:=h_is_flat.at X G (ps:=["told","outside","s"]) λ_ _ _ _ _ _=>lD λ_ _ _=>rfl;have D_flats:=h_flats.at X G (ps:=["house"]) λ_ _ _ _ _ _=>gE λ_=>rfl;have D_closed:=h_closed.at X G (ps:=["house","s"]) λ_ _ _ _ _ _=>cB λ_ _=>rfl;have D_refuse:=h_refuse.at X G (ps:=["found"]) λ_ _ _ _ _ _=>gE λ_=>rfl;have D_house_of_frees:=h_house_of_frees.at X G (ps:=["n","free"]) λ_ _ _ _ _ _=>cB λ_ _=>rfl;have D_of_bases:=h_of_bases.at X G (ps:=["n","bases"]) λ_ _ _ _ _ _=>cB λ_ _=>rfl;have D_of_rings:=h_of_rings.at X G (ps:=["n","rings"]) λ_ _ _ _ _ _=>cB λ_ _=>rfl;have D_is_free:=h_is_free.at X G (ps:=["over","s"]) λ_ _ _ _ _ _=>cB λ_ _=>rfl;have D_of_flats:=h_of_flats.at X G (ps:=["n","flats"]) λ_ _ _ _ _ _=>cB λ_ _=>rfl;have D_of_ranks:=h_of_ranks.at X G (ps:=["n","ranks"]) λ_ _ _ _ _ _=>cB λ_ _=>rfl;have D__law_whole:=h__law_whole.at X G (ps:=["_law_found"]) λ_ _ _ _ _ _=>gE λ_=>rfl;have D__law_size:=h__law_size.at X G (ps:=["_law_s"]) λ_ _ _ _ _ _=>gE λ_=>rfl;have D__law_list:=h__law_list.at X G (ps:=["_law_found","_law_due"]) λ_ _ _ _ _ _=>cB λ_ _=>rfl;have D__law_far:=h__law_far.at X G (ps:=["_law_cells","_law_many","_law_rank"]) λ_ _ _ _ _ _=>lD λ_ _ _=>rfl;have D__law_ranks:=h__law_ranks.at X G (ps:=["_law_many","_law_told"]) λ_ _ _ _ _ _=>cB λ_ _=>rfl;have D__law_rings:=h__law_rings.at X G (ps:=["_law_many","_law_levels"]) λ_ _ _ _ _ _=>cB λ_ _=>rfl;have D__law_flats:=h__law_flats.at X G (ps:=["_law_many","_law_levels"]) λ_ _ _ _ _ _=>cB λ_ _=>rfl;have D__law_pieces:=h__law_pieces.at X G (ps:=["_law_points","_law_ties","_law_s"]) λ_ _ _ _ _ _=>lD λ_ _ _=>rfl;have D__law_two:=h__law_two.at X G (ps:=["_law_a","_law_b","_law_j","_law_k"]) λ_ _ _ _ _ _=>vF λ_ _ _ _=>rfl;have D__law_three:=h__law_three.at X G (ps:=["_law_rows","_law_i","_law_j","_law_k"]) λ_ _ _ _ _ _=>vF λ_ _ _ _=>rfl;have D__law_some:=h__law_some.at X G (ps:=["_law_number_here","_law_prime"]) λ_ _ _ _ _ _=>cB λ_ _=>rfl;have D__law_free:=h__law_free.at X G (ps:=["_law_rows","_law_prime","_law_some_here"]) λ_ _ _ _ _ _=>lD λ_ _ _=>rfl;have D__law_table_ranks:=h__law_table_ranks.at X G (ps:=["_law_many","_law_prime","_law_rows"]) λ_ _ _ _ _ _=>lD λ_ _ _=>rfl;have D__law_number:=h__law_number.at X G (ps:=["_law_cell","_law_k","_law_way"]) λ_ _ _ _ _ _=>lD λ_ _ _=>rfl;have D__law_net:=h__law_net.at X G (ps:=["_law_cells","_law_many"]) λ_ _ _ _ _ _=>cB λ_ _=>rfl;have D__law_table:=h__law_table.at X G (ps:=["_law_cells","_law_many"]) λ_ _ _ _ _ _=>cB λ_ _=>rfl;have D__law_house:=h__law_house.at X G (ps:=["_law_cells","_law_many","_law_sort"]) λ_ _ _ _ _ _=>lD λ_ _ _=>rfl;obtain⟨aCn2,pgn2,hdn2,pon2,san2,mkn2,kcn2⟩:=qn2;have gn2:=HS X G aCn2;have Kn2:Cls K Cn2:=⟨pgn2,hdn2,pon2,san2⟩;obtain⟨ian2,ibn2,icn2,idn2⟩:=in2;obtain⟨aCn4,pgn4,hdn4,pon4,san4,mkn4,kcn4⟩:=qn4;have gn4:=HS X G aCn4;have Kn4:Cls K Cn4:=⟨pgn4,hdn4,pon4,san4⟩;obtain⟨ian4,ibn4,icn4,idn4⟩:=in4;obtain⟨aCn5,pgn5,hdn5,pon5,san5,mkn5,kcn5⟩:=qn5;have gn5:=HS X G aCn5;have Kn5:Cls K Cn5:=⟨pgn5,hdn5,pon5,san5⟩;obtain⟨ian5,ibn5,icn5,idn5⟩:=in5;obtain⟨aCn1,pgn1,hdn1,pon1,san1,mkn1,kcn1⟩:=qn1;have gn1:=HS X G aCn1;have Kn1:Cls K Cn1:=⟨pgn1,hdn1,pon1,san1⟩;obtain⟨ian1,ibn1,icn1,idn1⟩:=in1;obtain⟨aCn0,pgn0,hdn0,pon0,san0,mkn0,kcn0⟩:=qn0;have gn0:=HS X G aCn0;have Kn0:Cls K Cn0:=⟨pgn0,hdn0,pon0,san0⟩;obtain⟨ian0,ibn0,icn0,idn0⟩:=in0;obtain⟨aCn3,pgn3,hdn3,pon3,san3,mkn3,kcn3⟩:=qn3;have gn3:=HS X G aCn3;have Kn3:Cls K Cn3:=⟨pgn3,hdn3,pon3,san3⟩;obtain⟨ian3,ibn3,icn3,idn3⟩:=in3;obtain⟨D_House___init__,a_House___init__,i_House___init__,k_House___init__⟩:=m_House___init__.at (ps:=["self","n"]) λ_ _ _ _ _ _=>cB λ_ _=>rfl;obtain⟨D_House_everything,a_House_everything,i_House_everything,k_House_everything⟩:=m_House_everything.at (ps:=["self"]) λ_ _ _ _ _ _=>gE λ_=>rfl;obtain⟨D_Even___init__,a_Even___init__,i_Even___init__,k_Even___init__⟩:=m_Even___init__.at (ps:=["self","n","k"]) λ_ _ _ _ _ _=>lD λ_ _ _=>rfl;obtain⟨D_Even_rank,a_Even_rank,i_Even_rank,k_Even_rank⟩:=m_Even_rank.at (ps:=["self","s"]) λ_ _ _ _ _ _=>cB λ_ _=>rfl;obtain⟨D_Listed___init__,a_Listed___init__,i_Listed___init__,k_Listed___init__⟩:=m_Listed___init__.at (ps:=["self","n","some"]) λ_ _ _ _ _ _=>lD λ_ _ _=>rfl;obtain⟨D_Listed_rank,a_Listed_rank,i_Listed_rank,k_Listed_rank⟩:=m_Listed_rank.at (ps:=["self","s"]) λ_ _ _ _ _ _=>cB λ_ _=>rfl;obtain⟨D_Net___init__,a_Net___init__,i_Net___init__,k_Net___init__⟩:=m_Net___init__.at (ps:=["self","n","points","ties"]) λ_ _ _ _ _ _=>vF λ_ _ _ _=>rfl;obtain⟨D_Net_pieces,a_Net_pieces,i_Net_pieces,k_Net_pieces⟩:=m_Net_pieces.at (ps:=["self","s"]) λ_ _ _ _ _ _=>cB λ_ _=>rfl;obtain⟨D_Net_rank,a_Net_rank,i_Net_rank,k_Net_rank⟩:=m_Net_rank.at (ps:=["self","s"]) λ_ _ _ _ _ _=>cB λ_ _=>rfl;obtain⟨D_Tabled___init__,a_Tabled___init__,i_Tabled___init__,k_Tabled___init__⟩:=m_Tabled___init__.at (ps:=["self","n","prime","rows"]) λ_ _ _ _ _ _=>vF λ_ _ _ _=>rfl;obtain⟨D_Tabled_rank,a_Tabled_rank,i_Tabled_rank,k_Tabled_rank⟩:=m_Tabled_rank.at (ps:=["self","s"]) λ_ _ _ _ _ _=>cB λ_ _=>rfl;obtain⟨D_Other_rank,a_Other_rank,i_Other_rank,k_Other_rank⟩:=m_Other_rank.at (ps:=["self","s"]) λ_ _ _ _ _ _=>cB λ_ _=>rfl;obtain⟨D_Other___init__,a_Other___init__,i_Other___init__,k_Other___init__⟩:=m_Other___init__.at (ps:=["self","house"]) λ_ _ _ _ _ _=>cB λ_ _=>rfl;have Fn6:=nz (st:=s_law) ln6 cn6 kn6;refine⟨fnOf "law" "law" (cH s_law) (bj s_law) (aq s_law) .none kVn6 dcn6 pmn6 ann6 cdn6 ctn6,λs v=> .of_eq rfl,λbase KB GB=> ?_⟩;have z4:gP (hs4 Cn4 Cn5 Cn1 Cn0):=AO _ _ _ _;have zO:gP (hsO (hs4 Cn4 Cn5 Cn1 Cn0) Cn3):=AN z4 _;have hc4:∀C,(hs4 Cn4 Cn5 Cn1 Cn0).dom C->HC K Cn2 C:=λC dm=>by(rcases dm with (rfl|rfl|rfl)|rfl);exact⟨Kn4,nan4_many,⟨ian4,ibn4,icn4,idn4⟩,isn4_House⟩;exact⟨Kn5,nan5_many,⟨ian5,ibn5,icn5,idn5⟩,isn5_House⟩;exact⟨Kn1,nan1_many,⟨ian1,ibn1,icn1,idn1⟩,isn1_House⟩;exact⟨Kn0,nan0_many,⟨ian0,ibn0,icn0,idn0⟩,isn0_House⟩
 have hcO:∀C,(hsO (hs4 Cn4 Cn5 Cn1 Cn0) Cn3).dom C->HC K Cn2 C:=λC dm=>by(rcases dm with dm|rfl);exact hc4 C dm;exact⟨Kn3,nan3_many,⟨ian3,ibn3,icn3,idn3⟩,isn3_House⟩
 have neD:∀C,(hs4 Cn4 Cn5 Cn1 Cn0).dom C->Cn3≠C:=λC dm=>by(rcases dm with (rfl|rfl|rfl)|rfl);exact neO.1;exact neO.2.1;exact neO.2.2.1;exact neO.2.2.2
 have c_holds:=An (P:=l.prog) (w:=w) (mg:=mg) (base:=base) D_holds;have c_things:=xV (P:=l.prog) (w:=w) (mg:=mg) (base:=base) T D_things c_holds;have c_size:=BZ (P:=l.prog) (w:=w) (mg:=mg) (base:=base) T D_size c_things;have c_within:=xU (P:=l.prog) (w:=w) (mg:=mg) (base:=base) D_within;have c_parts:=Am (P:=l.prog) (w:=w) (mg:=mg) (base:=base) T D_parts c_things;have c_all_of:=xZ (P:=l.prog) (w:=w) (mg:=mg) (base:=base) D_all_of;have c_less:=B1 (P:=l.prog) (w:=w) (mg:=mg) (base:=base) D_less;have c_marked:=xX (P:=l.prog) (w:=w) (mg:=mg) (base:=base) T D_marked;have c_exchanged:=qW (P:=l.prog) (w:=w) (mg:=mg) (base:=base) D_exchanged c_less;have c_has_exchange:=lg (P:=l.prog) (w:=w) (mg:=mg) (base:=base) T D_has_exchange c_things c_less c_exchanged;have c_broken_bases:=lu (P:=l.prog) (w:=w) (mg:=mg) (base:=base) T D_broken_bases c_marked c_things c_less c_has_exchange;have c_holds_ring:=ou (P:=l.prog) (w:=w) (mg:=mg) (base:=base) T D_holds_ring c_within;have c_ring_in_ring:=k9 (P:=l.prog) (w:=w) (mg:=mg) (base:=base) T D_ring_in_ring c_within;have c_rings_without_third:=gD (P:=l.prog) (w:=w) (mg:=mg) (base:=base) T D_rings_without_third c_things c_less c_holds_ring;have c_broken_rings:=lh (P:=l.prog) (w:=w) (mg:=mg) (base:=base) T D_broken_rings c_ring_in_ring c_rings_without_third;have c_wrong_step:=oo (P:=l.prog) (w:=w) (mg:=mg) (base:=base) T D_wrong_step c_all_of c_parts c_things c_less;have c_exchanges:=qV (P:=l.prog) (w:=w) (mg:=mg) (base:=base) T D_exchanges c_all_of c_things c_less c_exchanged;have c_late_step:=qU (P:=l.prog) (w:=w) (mg:=mg) (base:=base) T D_late_step c_all_of c_parts c_exchanges;have c_broken_ranks:=lp (P:=l.prog) (w:=w) (mg:=mg) (base:=base) T D_broken_ranks c_wrong_step c_late_step;have c_common_not_listed:=hU (P:=l.prog) (w:=w) (mg:=mg) (base:=base) T D_common_not_listed c_marked;have c_least_flat:=ot (P:=l.prog) (w:=w) (mg:=mg) (base:=base) T D_least_flat c_all_of c_within;have c_flats_that_meet:=iN (P:=l.prog) (w:=w) (mg:=mg) (base:=base) T D_flats_that_meet c_all_of c_things c_less c_least_flat;have c_broken_flats:=lr (P:=l.prog) (w:=w) (mg:=mg) (base:=base) T D_broken_flats c_all_of c_common_not_listed c_flats_that_meet;have w_House___init__:=jt (P:=l.prog) (w:=w) (mg:=mg) (base:=base) D_House___init__;have w_House_everything:=iD (P:=l.prog) (w:=w) (mg:=mg) (base:=base) D_House_everything c_all_of;have w_Even___init__:=j9 (P:=l.prog) (w:=w) (mg:=mg) (base:=base) D_Even___init__ gn2 Kn4 nan4_many nan4_most ⟨⟨_,w_House___init__,fcH⟩,gaH,rdH⟩;have w_Even_rank:=rb (P:=l.prog) (w:=w) (mg:=mg) (base:=base) T D_Even_rank Kn4 nan4_most c_size;have w_Listed___init__:=iO (P:=l.prog) (w:=w) (mg:=mg) (base:=base) T D_Listed___init__ gn2 Kn0 nan0_many nan0_listed ⟨⟨_,w_House___init__,fcH⟩,gaH,rdH⟩;have w_Listed_rank:=ni (P:=l.prog) (w:=w) (mg:=mg) (base:=base) T D_Listed_rank Kn0 nan0_listed c_size;have c_tied:=BY (P:=l.prog) (w:=w) (mg:=mg) (base:=base) D_tied;have w_Net___init__:=lC (P:=l.prog) (w:=w) (mg:=mg) (base:=base) T D_Net___init__ gn2 Kn5 nan5_many nan5_points nan5_ties ⟨⟨_,w_House___init__,fcH⟩,gaH,rdH⟩;have w_Net_pieces:=oE (P:=l.prog) (w:=w) (mg:=mg) (base:=base) T D_Net_pieces Kn5 nan5_points nan5_ties c_things c_tied;have w_Net_rank:=tj (P:=l.prog) (w:=w) (mg:=mg) (base:=base) D_Net_rank Kn5 nan5_points (λC h=>by subst h;exact⟨Kn5,_,⟨a_Net_pieces,i_Net_pieces,k_Net_pieces⟩,w_Net_pieces⟩);have c_rests:=Ak (P:=l.prog) (w:=w) (mg:=mg) (base:=base) T D_rests;have c_pivot_place:=nc (P:=l.prog) (w:=w) (mg:=mg) (base:=base) T D_pivot_place;have c_cleared:=sX (P:=l.prog) (w:=w) (mg:=mg) (base:=base) T D_cleared;have c_all_cleared:=lz (P:=l.prog) (w:=w) (mg:=mg) (base:=base) T D_all_cleared c_cleared;have c_rank_of:=vn (P:=l.prog) (w:=w) (mg:=mg) (base:=base) T D_rank_of c_rests c_pivot_place c_all_cleared;have w_Tabled___init__:=iC (P:=l.prog) (w:=w) (mg:=mg) (base:=base) T D_Tabled___init__ gn2 Kn1 nan1_many nan1_prime nan1_rows ⟨⟨_,w_House___init__,fcH⟩,gaH,rdH⟩;have w_Tabled_rank:=lB (P:=l.prog) (w:=w) (mg:=mg) (base:=base) T D_Tabled_rank Kn1 nan1_prime nan1_rows c_things c_rank_of;have me:∀C,(hsO (hs4 Cn4 Cn5 Cn1 Cn0) Cn3).dom C->dH l.prog w K mg base 2 C "everything" ["self"] (fc K):=λC dm=>by(rcases dm with ((rfl|rfl|rfl)|rfl)|rfl);exact⟨Kn4,_,⟨hn4_everything,i_House_everything,k_House_everything⟩,w_House_everything⟩;exact⟨Kn5,_,⟨hn5_everything,i_House_everything,k_House_everything⟩,w_House_everything⟩;exact⟨Kn1,_,⟨hn1_everything,i_House_everything,k_House_everything⟩,w_House_everything⟩;exact⟨Kn0,_,⟨hn0_everything,i_House_everything,k_House_everything⟩,w_House_everything⟩;exact⟨Kn3,_,⟨hn3_everything,i_House_everything,k_House_everything⟩,w_House_everything⟩
 have m4:∀C,(hs4 Cn4 Cn5 Cn1 Cn0).dom C->dH l.prog w K mg base 4 C "rank" ["self","s"] (gW (hs4 Cn4 Cn5 Cn1 Cn0) C):=λC dm=>by(rcases dm with (rfl|rfl|rfl)|rfl);exact dH.imp ⟨Kn4,_,⟨a_Even_rank,i_Even_rank,k_Even_rank⟩,dU.imp w_Even_rank (Dc ne3.1 ne3.2.1)⟩ (uS neL.1);exact dH.imp ⟨Kn5,_,⟨a_Net_rank,i_Net_rank,k_Net_rank⟩,dU.imp w_Net_rank (C8 ne3.1 ne3.2.2)⟩ (uS neL.2.1);exact dH.imp ⟨Kn1,_,⟨a_Tabled_rank,i_Tabled_rank,k_Tabled_rank⟩,dU.imp w_Tabled_rank (C7 ne3.2.1 ne3.2.2)⟩ (uS neL.2.2);exact⟨Kn0,_,⟨a_Listed_rank,i_Listed_rank,k_Listed_rank⟩,dU.imp w_Listed_rank (C9 (λh=>by(rcases h with h|h|h);exact neL.1 h.symm;exact neL.2.1 h.symm;exact neL.2.2 h.symm))⟩
 have w_Other_rank:=oC (P:=l.prog) (w:=w) (mg:=mg) (base:=base) (Z:=hs4 Cn4 Cn5 Cn1 Cn0) (cO:=Cn3) (C_House:=Cn2) D_Other_rank Kn3 nan3_house nan3_full nan3_full_rank z4 neD (by decide) c_less c_size m4;have w_Other___init__:=jr (P:=l.prog) (w:=w) (mg:=mg) (base:=base) (Z:=hs4 Cn4 Cn5 Cn1 Cn0) (cO:=Cn3) D_Other___init__ gn2 Kn3 nan3_many nan3_house nan3_full nan3_full_rank hc4 z4 (by decide) ⟨⟨_,w_House___init__,fcH⟩,gaH,rdH⟩ (λC dm=>me C (.inl dm)) m4;have mO:∀C,(hsO (hs4 Cn4 Cn5 Cn1 Cn0) Cn3).dom C->dH l.prog w K mg base 5 C "rank" ["self","s"] (gW (hsO (hs4 Cn4 Cn5 Cn1 Cn0) Cn3) C):=λC dm=>by(rcases dm with dm|rfl);exact dH.imp (dH.mono (m4 C dm) (by decide)) (xC (neD C dm));exact⟨Kn3,_,⟨a_Other_rank,i_Other_rank,k_Other_rank⟩,w_Other_rank⟩
 have nL:jQ l.prog w K mg base 2 "Listed" Cn0 ["self","n","some"] (i9 K Cn0):=⟨⟨_,⟨mkn0,a_Listed___init__,i_Listed___init__,kcn0⟩,w_Listed___init__⟩,gn0⟩;have c_whole_rank:=oq (P:=l.prog) (w:=w) (mg:=mg) (base:=base) zO hcO D_whole_rank mO me;have c_ranks:=Cal.imp (P:=l.prog) (w:=w) (mg:=mg) (base:=base) (Al zO D_ranks hcO mO me c_parts) uY;have c_frees:=Ao (P:=l.prog) (w:=w) (mg:=mg) (base:=base) zO hcO D_frees mO me c_parts c_size;have c_bases:=Aq (P:=l.prog) (w:=w) (mg:=mg) (base:=base) zO D_bases c_whole_rank c_frees c_size;have c_is_ring:=vo (P:=l.prog) (w:=w) (mg:=mg) (base:=base) T D_is_ring c_things c_less;have c_rings:=Aj (P:=l.prog) (w:=w) (mg:=mg) (base:=base) zO hcO T D_rings me c_ranks c_parts c_size c_is_ring;have c_is_flat:=vq (P:=l.prog) (w:=w) (mg:=mg) (base:=base) T D_is_flat c_things;have c_flats:=Ap (P:=l.prog) (w:=w) (mg:=mg) (base:=base) zO hcO T D_flats me c_ranks c_parts c_less c_is_flat;have c_closed:=xY (P:=l.prog) (w:=w) (mg:=mg) (base:=base) zO hcO T D_closed mO me c_things c_less;have c_refuse:=xW (P:=l.prog) (w:=w) (mg:=mg) (base:=base) D_refuse;have c_house_of_frees:=jq (P:=l.prog) (w:=w) (mg:=mg) (base:=base) T D_house_of_frees c_size nL;have c_of_bases:=sW (P:=l.prog) (w:=w) (mg:=mg) (base:=base) T D_of_bases c_refuse c_broken_bases nL;have c_of_rings:=sT (P:=l.prog) (w:=w) (mg:=mg) (base:=base) T D_of_rings c_refuse c_broken_rings c_house_of_frees c_parts c_all_of c_holds_ring;have c_is_free:=vp (P:=l.prog) (w:=w) (mg:=mg) (base:=base) T D_is_free c_holds c_things c_less;have c_of_flats:=sV (P:=l.prog) (w:=w) (mg:=mg) (base:=base) T D_of_flats c_refuse c_broken_flats c_house_of_frees c_parts c_all_of c_least_flat c_is_free;have c_of_ranks:=sU (P:=l.prog) (w:=w) (mg:=mg) (base:=base) T D_of_ranks c_refuse (Cal.mono (Cal.imp c_broken_ranks ug) (by decide)) c_house_of_frees c_parts c_all_of c_size;have c__law_whole:=ow (P:=l.prog) (w:=w) (mg:=mg) (base:=base) T D__law_whole;have c__law_size:=qY (P:=l.prog) (w:=w) (mg:=mg) (base:=base) D__law_size;have c__law_list:=qZ (P:=l.prog) (w:=w) (mg:=mg) (base:=base) T D__law_list c__law_whole;have c__law_far:=tf (P:=l.prog) (w:=w) (mg:=mg) (base:=base) T D__law_far c__law_size;have c__law_ranks:=oz (P:=l.prog) (w:=w) (mg:=mg) (base:=base) T D__law_ranks c__law_size;have c__law_rings:=oy (P:=l.prog) (w:=w) (mg:=mg) (base:=base) T D__law_rings c__law_size;have c__law_flats:=oB (P:=l.prog) (w:=w) (mg:=mg) (base:=base) T D__law_flats;have c__law_pieces:=ng (P:=l.prog) (w:=w) (mg:=mg) (base:=base) T D__law_pieces;have c__law_two:=sY (P:=l.prog) (w:=w) (mg:=mg) (base:=base) D__law_two;have c__law_three:=lA (P:=l.prog) (w:=w) (mg:=mg) (base:=base) T D__law_three c__law_two;have c__law_some:=qX (P:=l.prog) (w:=w) (mg:=mg) (base:=base) D__law_some;have c__law_free:=nh (P:=l.prog) (w:=w) (mg:=mg) (base:=base) T D__law_free c__law_two c__law_some c__law_three;have c__law_table_ranks:=iB (P:=l.prog) (w:=w) (mg:=mg) (base:=base) T D__law_table_ranks c__law_free;have c__law_number:=j7 (P:=l.prog) (w:=w) (mg:=mg) (base:=base) D__law_number;have c__law_net:=sZ (P:=l.prog) (w:=w) (mg:=mg) (base:=base) T D__law_net c__law_pieces ⟨⟨_,⟨mkn5,a_Net___init__,i_Net___init__,kcn5⟩,w_Net___init__⟩,gn5⟩;have c__law_table:=ox (P:=l.prog) (w:=w) (mg:=mg) (base:=base) T D__law_table c__law_number c__law_table_ranks ⟨⟨_,⟨mkn1,a_Tabled___init__,i_Tabled___init__,kcn1⟩,w_Tabled___init__⟩,gn1⟩;have c__law_house:=oA (P:=l.prog) (w:=w) (mg:=mg) (base:=base) T D__law_house c__law_net c__law_table ⟨⟨_,⟨mkn4,a_Even___init__,i_Even___init__,kcn4⟩,w_Even___init__⟩,gn4⟩ nL c__law_size c__law_far c__law_ranks;exact Dz Fn6 T c__law_house ⟨⟨_,⟨mkn3,a_Other___init__,i_Other___init__,kcn3⟩,w_Other___init__⟩,gn3⟩ c__law_size c__law_rings c__law_flats c__law_list c__law_whole c_ranks c_frees c_bases c_rings c_flats c_closed c_of_bases c_of_rings c_of_flats c_of_ranks
theorem walk{l:PySem.W.OpenLaw}{q:Program}{loose:List Str}{XP:(Str->Option Value)->Heap->Prop}{YP:World->Heap->Prop}{d:DefRec}{K:Params->PySem.W.Frag}(hn:l.most=some 63)(hdf:d.params.defaults=[])
  (hY:∀ (w:World) (h:Heap),YP w h->(K w.params).In h)
  (F:∀ (w:World) (mg:Str->Option Value) (fa:Addr) (h:Heap),(K w.params).In h->h.Ns mainGlobals mg->mg d.name=some (.ref fa)->
   ∃fd:FuncData,(∀ (s:Shared) (u:Value),BindsTo s fd ⟨[u],[]⟩ [("_law_script",u)])/\∀base:Heap,(K w.params).In base->base.Ns mainGlobals mg->gJ l.prog w (K w.params) mg base CX0 8 fa fd ["_law_script"] (qD (K w.params))):
  PySem.W.WalkO q loose XP YP l.row.toRowW d [] (λf vs=>PySem.call f vs):=
 L2.yZ (n:=63) (k:=8) (x:= "_law_script") (CX:=λ_=>CX0) (sp:=λw=>qD (K w.params)) hn (by decide) hdf ⟨rfl,by decide,by decide⟩ hY F (λ_ _ a ns hl hb _ hS=>⟨a,ns,rfl,hS,hl,hb,λ_=>rfl⟩) λ_ _ _ _ _ z=>z
end BhK
theorem PySem.W.Fast.te7239439084724097079:True:=trivial
namespace Hd
open PySem PySem.W PySem.Calls PyProof.Rows
open PySem.W.Fast PySem.Challenge BhK
noncomputable section
abbrev R(a:Nat):Value:= .ref a
abbrev V(x:Str)(t:Nat):Value:= .str x t
abbrev I(i:Int):Value:= .int i 0
abbrev E(P:Params)(x:Str)(t:Nat)(v:Value):DictEntry:=⟨PyData.keyHash P x, .str x t,v⟩
abbrev Y:Obj:=⟨.type "tuple",none, .seq #[] 0, #[]⟩
abbrev T(l:List Value):Obj:=⟨.type "tuple",none, .seq ⟨l⟩ 0, #[]⟩
abbrev Z:Obj:=⟨.none,none, .fields #[], #[]⟩
abbrev W(l:List Value):Obj:=⟨.none,none, .fields ⟨l⟩, #[]⟩
abbrev F(n q:Str)(s:Stmt)(g:Nat)(dv kv doc pm:Value)(an:Option Nat)(cd ct:Value)(b:Nat):FuncData:=⟨n,q,L2.cH s, .stmts (L2.bj s),L2.aq s,g,[],dv,kv,doc,pm,an,cd,ct,b⟩
abbrev C(n q:Str)(t:Nat)(l k g:Int)(x:Nat)(b:Bool)(u v w:Value)(d:Nat):Obj:=⟨.type "code",none, .fields ⟨[.str n t, .str q (t.add 1), .str "/claim/cut.py" (t.add 2), .int l 0, .int k 0, .int 0 0, .int 0 0, .int g 0, .ref x, .bool b, .int 181 0, .ref (x.add 1), .none,u,v,w, .int d 0, .int l 0, .str "/claim/cut.py" (d.add 1)]⟩, #[]⟩
abbrev ff(n q:Str)(s:Stmt):Obj:=⟨.none,none, .func (F n q s 0 .none .none .none .none none .none .none 0), #[]⟩
abbrev fk(n q:Str)(s:Stmt)(m:Value)(c:Nat):Obj:=⟨.type "function",none, .func (F n q s 3 .none .none .none m none (.ref c) .none 0), #[]⟩
abbrev f1(n:Str)(s:Stmt):Obj:=ff n n s
abbrev f2(n:Str)(s:Stmt)(m:Value)(c:Nat):Obj:=fk n n s m c
abbrev C1(n:Str)(t:Nat)(l k g:Int)(x:Nat)(b:Bool)(u v w:Value)(d:Nat):Obj:=C n n t l k g x b u v w d
abbrev D(l:List DictEntry)(k:Nat):Obj:=⟨.type "dict",none, .dict ⟨l⟩ k, #[]⟩
abbrev fr(a b:Nat)(m:Value):Obj:=⟨.type "frame",none,Data.plain, #[some (R a),some (R 3),some (R b),none,some m,none,some (R 0)]⟩
abbrev bf(n:String)(v:Value):Obj:=⟨.type "builtin_function_or_method",none, .fields ⟨[.builtin n,v]⟩, #[]⟩
abbrev m0:Value:=V "basehouse.breaks" 239
abbrev m1:Value:=V "basehouse.sets" 187
abbrev m2:Value:=V "basehouse.errors" 402
abbrev m3:Value:=V "HouseError" 412
abbrev m4:Value:=V "basehouse.houses" 451
abbrev m5:Value:=V "House" 461
abbrev m6:Value:=V "House" 453
abbrev m7:Value:=V "basehouse.tellings" 563
abbrev m8:Value:=V "basehouse.nets" 670
abbrev m9:Value:=V "basehouse.pivots" 720
abbrev m10:Value:=V "basehouse.turned" 788
abbrev m11:Value:=V "basehouse.tables" 756
abbrev m12:Value:=V "law_basehouse_k25_whole_there_and_back" 826
abbrev o13:=C1 "<module>" 182 1 0 0 11 false .none .none .none 185
abbrev o14:=fr 13 3 (V "__main__" 164)
abbrev g0(P:Params):List DictEntry:=[E P "__name__" 165 m0]
abbrev g1(P:Params):List DictEntry:=[E P "__doc__" 166 .none,E P "__package__" 167 .none,E P "__loader__" 168 (.builtin "__main__.__loader__#opaque"),E P "__spec__" 169 .none,E P "__annotations__" 170 (R 6),E P "__builtins__" 171 (R 4),E P "__file__" 173 (V "/claim/cut.py" 172),E P "__cached__" 174 .none,E P "holds" 196 (R 21),E P "things" 202 (R 26),E P "size" 209 (R 33),E P "within" 217 (R 40),E P "parts" 223 (R 45),E P "all_of" 230 (R 52),E P "less" 238 (R 59),E P "marked" 246 (R 64),E P "exchanged" 255 (R 71),E P "has_exchange" 266 (R 78),E P "broken_bases" 278 (R 85),E P "holds_ring" 287 (R 92)]
abbrev o3v1(P:Params):=D ((g0 P).append (g1 P)) 21
abbrev g2:List Value:=[(I 2)]
abbrev g3:List Value:=[(I 0),(R 20),(I 4),(I 0),(R 25),(I 6),(I 0),(R 32),(I 8),(I 0),(R 39),(I 10),(I 0),(R 44),(I 15),(I 0),(R 51),(I 17),(I 0),(R 58),(I 20),(I 0),(R 63),(I 22),(I 0),(R 70),(I 24),(I 0),(R 77),(I 29),(I 0),(R 84),(I 39),(I 0),(R 91)]
abbrev o12v1:=W (g2.append g3)
abbrev o17:=T [(V "s" 192),(V "thing" 193)]
abbrev o19:=f1 "holds" s_holds
abbrev o20:=C1 "holds" 189 2 2 3 15 true (R 17) (R 18) (R 19) 194
abbrev o21:=f2 "holds" s_holds m1 20
abbrev o24:=f1 "things" s_things
abbrev o25:=C1 "things" 197 4 1 3 22 true .none .none (R 24) 200
abbrev o26:=f2 "things" s_things m1 25
abbrev o29:=T [(V "s" 206)]
abbrev o31:=f1 "size" s_size
abbrev o32:=C1 "size" 203 6 1 3 27 true (R 29) (R 30) (R 31) 207
abbrev o33:=f2 "size" s_size m1 32
abbrev o36:=T [(V "s" 213),(V "t" 214)]
abbrev o38:=f1 "within" s_within
abbrev o39:=C1 "within" 210 8 2 3 34 true (R 36) (R 37) (R 38) 215
abbrev o40:=f2 "within" s_within m1 39
abbrev o43:=f1 "parts" s_parts
abbrev o44:=C1 "parts" 218 10 1 3 41 true .none .none (R 43) 221
abbrev o45:=f2 "parts" s_parts m1 44
abbrev o48:=T [(V "n" 227)]
abbrev o50:=f1 "all_of" s_all_of
abbrev o51:=C1 "all_of" 224 15 1 3 46 true (R 48) (R 49) (R 50) 228
abbrev o52:=f2 "all_of" s_all_of m1 51
abbrev o55:=T [(V "s" 234),(V "t" 235)]
abbrev o57:=f1 "less" s_less
abbrev o58:=C1 "less" 231 17 2 3 53 true (R 55) (R 56) (R 57) 236
abbrev o59:=f2 "less" s_less m1 58
abbrev o62:=f1 "marked" s_marked
abbrev o63:=C1 "marked" 241 20 1 3 60 true .none .none (R 62) 244
abbrev o64:=f2 "marked" s_marked m0 63
abbrev o67:=T [(V "s" 250),(V "thing" 251),(V "y" 252)]
abbrev o69:=f1 "exchanged" s_exchanged
abbrev o70:=C1 "exchanged" 247 22 3 3 65 true (R 67) (R 68) (R 69) 253
abbrev o71:=f2 "exchanged" s_exchanged m0 70
abbrev o74:=T [(V "listed" 259),(V "one" 260),(V "other" 261),(V "thing" 262),(V "y" 263)]
abbrev o76:=f1 "has_exchange" s_has_exchange
abbrev o77:=C1 "has_exchange" 256 24 4 3 72 true (R 74) (R 75) (R 76) 264
abbrev o78:=f2 "has_exchange" s_has_exchange m0 77
abbrev o81:=T [(V "n" 270),(V "bases" 271),(V "listed" 272),(V "one" 273),(V "other" 274),(V "thing" 275)]
abbrev o83:=f1 "broken_bases" s_broken_bases
abbrev o84:=C1 "broken_bases" 267 29 2 3 79 true (R 81) (R 82) (R 83) 276
abbrev o85:=f2 "broken_bases" s_broken_bases m0 84
abbrev o88:=T [(V "rings" 282),(V "s" 283),(V "ring" 284)]
abbrev o90:=f1 "holds_ring" s_holds_ring
abbrev o91:=C1 "holds_ring" 279 39 2 3 86 true (R 88) (R 89) (R 90) 285
abbrev o92:=f2 "holds_ring" s_holds_ring m0 91
abbrev g4(P:Params):List DictEntry:=[E P "__name__" 165 m2]
abbrev g5(P:Params):List DictEntry:=[E P "ring_in_ring" 296 (R 99),E P "rings_without_third" 306 (R 106),E P "broken_rings" 315 (R 113),E P "wrong_step" 326 (R 120),E P "exchanges" 337 (R 127),E P "late_step" 349 (R 134),E P "broken_ranks" 358 (R 141),E P "common_not_listed" 368 (R 148),E P "least_flat" 379 (R 155),E P "flats_that_meet" 391 (R 162),E P "broken_flats" 401 (R 169)]
abbrev o3v2(P:Params):=D ((g4 P).append ((g1 P).append (g5 P))) 32
abbrev g6:List Value:=[(I 44),(I 0),(R 98),(I 50),(I 0),(R 105),(I 58),(I 0),(R 112),(I 65),(I 0),(R 119),(I 72),(I 0),(R 126),(I 78),(I 0),(R 133),(I 86),(I 0),(R 140),(I 93),(I 0),(R 147),(I 100),(I 0),(R 154),(I 106),(I 0),(R 161),(I 116),(I 0),(R 168)]
abbrev o12v2:=W (g2.append (g3.append g6))
abbrev o95:=T [(V "rings" 291),(V "one" 292),(V "other" 293)]
abbrev o97:=f1 "ring_in_ring" s_ring_in_ring
abbrev o98:=C1 "ring_in_ring" 288 44 1 3 93 true (R 95) (R 96) (R 97) 294
abbrev o99:=f2 "ring_in_ring" s_ring_in_ring m0 98
abbrev o102:=T [(V "rings" 300),(V "one" 301),(V "other" 302),(V "thing" 303)]
abbrev o104:=f1 "rings_without_third" s_rings_without_third
abbrev o105:=C1 "rings_without_third" 297 50 1 3 100 true (R 102) (R 103) (R 104) 304
abbrev o106:=f2 "rings_without_third" s_rings_without_third m0 105
abbrev o109:=T [(V "n" 310),(V "rings" 311),(V "found" 312)]
abbrev o111:=f1 "broken_rings" s_broken_rings
abbrev o112:=C1 "broken_rings" 307 58 2 3 107 true (R 109) (R 110) (R 111) 313
abbrev o113:=f2 "broken_rings" s_broken_rings m0 112
abbrev o116:=T [(V "n" 319),(V "ranks" 320),(V "one" 321),(V "thing" 322),(V "other" 323)]
abbrev o118:=f1 "wrong_step" s_wrong_step
abbrev o119:=C1 "wrong_step" 316 65 2 3 114 true (R 116) (R 117) (R 118) 324
abbrev o120:=f2 "wrong_step" s_wrong_step m0 119
abbrev o123:=T [(V "n" 330),(V "s" 331),(V "found" 332),(V "thing" 333),(V "y" 334)]
abbrev o125:=f1 "exchanges" s_exchanges
abbrev o126:=C1 "exchanges" 327 72 2 3 121 true (R 123) (R 124) (R 125) 335
abbrev o127:=f2 "exchanges" s_exchanges m0 126
abbrev o130:=T [(V "n" 341),(V "ranks" 342),(V "one" 343),(V "other" 344),(V "low" 345),(V "adds_nothing" 346)]
abbrev o132:=f1 "late_step" s_late_step
abbrev o133:=C1 "late_step" 338 78 2 3 128 true (R 130) (R 131) (R 132) 347
abbrev o134:=f2 "late_step" s_late_step m0 133
abbrev o137:=T [(V "n" 353),(V "ranks" 354),(V "found" 355)]
abbrev o139:=f1 "broken_ranks" s_broken_ranks
abbrev o140:=C1 "broken_ranks" 350 86 2 3 135 true (R 137) (R 138) (R 139) 356
abbrev o141:=f2 "broken_ranks" s_broken_ranks m0 140
abbrev o144:=T [(V "flats" 362),(V "listed" 363),(V "one" 364),(V "other" 365)]
abbrev o146:=f1 "common_not_listed" s_common_not_listed
abbrev o147:=C1 "common_not_listed" 359 93 1 3 142 true (R 144) (R 145) (R 146) 366
abbrev o148:=f2 "common_not_listed" s_common_not_listed m0 147
abbrev o151:=T [(V "n" 372),(V "flats" 373),(V "s" 374),(V "least" 375),(V "flat" 376)]
abbrev o153:=f1 "least_flat" s_least_flat
abbrev o154:=C1 "least_flat" 369 100 3 3 149 true (R 151) (R 152) (R 153) 377
abbrev o155:=f2 "least_flat" s_least_flat m0 154
abbrev o158:=T [(V "n" 383),(V "flats" 384),(V "one" 385),(V "over" 386),(V "thing" 387),(V "other" 388)]
abbrev o160:=f1 "flats_that_meet" s_flats_that_meet
abbrev o161:=C1 "flats_that_meet" 380 106 2 3 156 true (R 158) (R 159) (R 160) 389
abbrev o162:=f2 "flats_that_meet" s_flats_that_meet m0 161
abbrev o165:=T [(V "n" 395),(V "flats" 396),(V "everything" 397),(V "found" 398)]
abbrev o167:=f1 "broken_flats" s_broken_flats
abbrev o168:=C1 "broken_flats" 392 116 2 3 163 true (R 165) (R 166) (R 167) 399
abbrev o169:=f2 "broken_flats" s_broken_flats m0 168
abbrev g7(P:Params):List DictEntry:=[E P "HouseError" 421 (R 179)]
abbrev o3v3(P:Params):=D ((g4 P).append ((g1 P).append ((g5 P).append (g7 P)))) 33
abbrev g8:List Value:=[(I 125),(I 0),(R 175)]
abbrev o12v3:=W (g2.append (g3.append (g6.append g8)))
abbrev o170:=T [(.type "ValueError")]
abbrev o171:=bf "type.__prepare__" (.type "type")
abbrev o172(P:Params):=D ([E P "__module__" 411 m2,E P "__qualname__" 413 m3,E P "__firstlineno__" 415 (.int 125 414),E P "__static_attributes__" 416 (R 177)]) 4
abbrev o175:=C1 "HouseError" 406 125 0 0 173 false .none .none .none 409
abbrev o176:=fr 175 172 m2
abbrev o178(P:Params):=D ([E P "__module__" 411 m2,E P "__firstlineno__" 415 (.int 125 414),E P "__static_attributes__" 416 (R 177),E P "__weakref__" 418 (R 180),E P "__doc__" 419 .none]) 3
abbrev o179:Obj:=⟨(.type "type"),none,Data.cls {name:=Str.ofString "HouseError",bases:=[Value.type "ValueError"],mro:=[Value.ref 179,Value.type "ValueError",Value.type "Exception",Value.type "BaseException",Value.type "object"],ns:=178,qualname:=Str.ofString "HouseError"}, #[some (R 170),none,some (V "HouseError" 404),some m3,some (.builtin "ValueError.__new__"),some (.bool true)]⟩
abbrev o180:Obj:=⟨(.type "getset_descriptor"),none, .fields ⟨[(V "__weakref__" 417),(R 179),(.builtin "ExceptionGroup.__weakref__"), .none]⟩, #[]⟩
abbrev o181:Obj:=⟨(.type "super"),none, .fields ⟨[(R 179),(R 179),(R 179)]⟩, #[]⟩
abbrev o182:=bf "object.__init_subclass__" (R 179)
abbrev g9(P:Params):List DictEntry:=[E P "__name__" 165 m4]
abbrev g10(P:Params):List DictEntry:=[E P "NoHouse" 450 (R 199)]
abbrev o3v4(P:Params):=D ((g9 P).append ((g1 P).append ((g5 P).append ((g7 P).append (g10 P))))) 34
abbrev g11:List Value:=[(I 127),(I 0),(R 188)]
abbrev o12v4:=W (g2.append (g3.append (g6.append (g8.append g11))))
abbrev o179v1:Obj:=⟨(.type "type"),none,Data.cls {name:=Str.ofString "HouseError",bases:=[Value.type "ValueError"],mro:=[Value.ref 179,Value.type "ValueError",Value.type "Exception",Value.type "BaseException",Value.type "object"],ns:=178,qualname:=Str.ofString "HouseError",subclasses:=[Value.ref 199]}, #[some (R 170),none,some (V "HouseError" 404),some m3,some (.builtin "ValueError.__new__"),some (.bool true)]⟩
abbrev o183:=T [(R 179)]
abbrev o184:=bf "type.__prepare__" (.type "type")
abbrev o185(P:Params):=D ([E P "__module__" 429 m2,E P "__qualname__" 431 (V "NoHouse" 430),E P "__firstlineno__" 433 (.int 127 432),E P "__init__" 443 (R 196),E P "__static_attributes__" 447 (R 197)]) 5
abbrev o187:=W [(I 129),(I 4),(R 195)]
abbrev o188:=C1 "NoHouse" 424 127 0 0 186 false .none .none .none 427
abbrev o189:=fr 188 185 m2
abbrev o192:=T [(V "self" 437),(V "one" 438),(V "other" 439),(V "thing" 440)]
abbrev o194:=ff "__init__" "NoHouse.__init__" s_NoHouse___init__
abbrev o195:=C "__init__" "NoHouse.__init__" 434 129 4 3 190 true (R 192) (R 193) (R 194) 441
abbrev o196:=fk "__init__" "NoHouse.__init__" s_NoHouse___init__ m2 195
abbrev o197:=T [(V "one" 444),(V "other" 445),(V "thing" 446)]
abbrev o198(P:Params):=D ([E P "__module__" 429 m2,E P "__firstlineno__" 433 (.int 127 432),E P "__init__" 443 (R 196),E P "__static_attributes__" 447 (R 197),E P "__doc__" 448 .none]) 2
abbrev o199:Obj:=⟨(.type "type"),none,Data.cls {name:=Str.ofString "NoHouse",bases:=[Value.ref 179],mro:=[Value.ref 199,Value.ref 179,Value.type "ValueError",Value.type "Exception",Value.type "BaseException",Value.type "object"],ns:=198,qualname:=Str.ofString "NoHouse"}, #[some (R 183),none,some (V "NoHouse" 422),some (V "NoHouse" 430),some (.builtin "ValueError.__new__"),some (.bool true)]⟩
abbrev o200:Obj:=⟨(.type "super"),none, .fields ⟨[(R 199),(R 199),(R 199)]⟩, #[]⟩
abbrev o201:=bf "object.__init_subclass__" (R 199)
abbrev g12(P:Params):List DictEntry:=[E P "House" 496 (R 232)]
abbrev o3v5(P:Params):=D ((g9 P).append ((g1 P).append ((g5 P).append ((g7 P).append ((g10 P).append (g12 P)))))) 35
abbrev g13:List Value:=[(I 135),(I 0),(R 207)]
abbrev o12v5:=W (g2.append (g3.append (g6.append (g8.append (g11.append g13)))))
abbrev o203:=bf "type.__prepare__" (.type "type")
abbrev o204(P:Params):=D ([E P "__module__" 460 m4,E P "__qualname__" 462 m5,E P "__firstlineno__" 464 (.int 135 463),E P "__init__" 472 (R 215),E P "rank" 480 (R 222),E P "everything" 487 (R 229),E P "__static_attributes__" 489 (R 230)]) 7
abbrev o206:=W [(I 137),(I 4),(R 214),(I 140),(I 4),(R 221),(I 143),(I 4),(R 228)]
abbrev o207:=C1 "House" 455 135 0 0 205 false .none .none .none 458
abbrev o208:=fr 207 204 m4
abbrev o211:=T [(V "self" 468),(V "n" 469)]
abbrev o213:=ff "__init__" "House.__init__" s_House___init__
abbrev o214:=C "__init__" "House.__init__" 465 137 2 3 209 true (R 211) (R 212) (R 213) 470
abbrev o215:=fk "__init__" "House.__init__" s_House___init__ m4 214
abbrev o218:=T [(V "self" 476),(V "s" 477)]
abbrev o220:=ff "rank" "House.rank" s_House_rank
abbrev o221:=C "rank" "House.rank" 473 140 2 3 216 true (R 218) (R 219) (R 220) 478
abbrev o222:=fk "rank" "House.rank" s_House_rank m4 221
abbrev o225:=T [(V "self" 484)]
abbrev o227:=ff "everything" "House.everything" s_House_everything
abbrev o228:=C "everything" "House.everything" 481 143 1 3 223 true (R 225) (R 226) (R 227) 485
abbrev o229:=fk "everything" "House.everything" s_House_everything m4 228
abbrev o230:=T [(V "many" 488)]
abbrev o231(P:Params):=D ([E P "__module__" 460 m4,E P "__firstlineno__" 464 (.int 135 463),E P "__init__" 472 (R 215),E P "rank" 480 (R 222),E P "everything" 487 (R 229),E P "__static_attributes__" 489 (R 230),E P "__dict__" 491 (R 233),E P "__weakref__" 493 (R 234),E P "__doc__" 494 .none]) 4
abbrev o232:Obj:=⟨(.type "type"),none,Data.cls {name:=Str.ofString "House",bases:=[Value.type "object"],mro:=[Value.ref 232,Value.type "object"],ns:=231,qualname:=Str.ofString "House"}, #[none,none,some m6,some m5,some (.builtin "object.__new__"),some (.bool true)]⟩
abbrev o233:Obj:=⟨(.type "getset_descriptor"),none, .fields ⟨[(V "__dict__" 490),(R 232),(.builtin "function.__dict__"),(.builtin "function.__dict__#set")]⟩, #[]⟩
abbrev o234:Obj:=⟨(.type "getset_descriptor"),none, .fields ⟨[(V "__weakref__" 492),(R 232),(.builtin "ExceptionGroup.__weakref__"), .none]⟩, #[]⟩
abbrev o235:Obj:=⟨(.type "super"),none, .fields ⟨[(R 232),(R 232),(R 232)]⟩, #[]⟩
abbrev o236:=bf "object.__init_subclass__" (R 232)
abbrev g14(P:Params):List DictEntry:=[E P "Even" 530 (R 260)]
abbrev o3v6(P:Params):=D ((g9 P).append ((g1 P).append ((g5 P).append ((g7 P).append ((g10 P).append ((g12 P).append (g14 P))))))) 36
abbrev g15:List Value:=[(I 145),(I 0),(R 242)]
abbrev o12v6:=W (g2.append (g3.append (g6.append (g8.append (g11.append (g13.append g15))))))
abbrev o232v1:Obj:=⟨(.type "type"),none,Data.cls {name:=Str.ofString "House",bases:=[Value.type "object"],mro:=[Value.ref 232,Value.type "object"],ns:=231,qualname:=Str.ofString "House",subclasses:=[Value.ref 260]}, #[none,none,some m6,some m5,some (.builtin "object.__new__"),some (.bool true)]⟩
abbrev o237:=T [(R 232)]
abbrev o238:=bf "type.__prepare__" (.type "type")
abbrev o239(P:Params):=D ([E P "__module__" 504 m4,E P "__qualname__" 506 (V "Even" 505),E P "__firstlineno__" 508 (.int 145 507),E P "__init__" 517 (R 250),E P "rank" 525 (R 257),E P "__static_attributes__" 527 (R 258)]) 6
abbrev o241:=W [(I 147),(I 4),(R 249),(I 151),(I 4),(R 256)]
abbrev o242:=C1 "Even" 499 145 0 0 240 false .none .none .none 502
abbrev o243:=fr 242 239 m4
abbrev o246:=T [(V "self" 512),(V "n" 513),(V "k" 514)]
abbrev o248:=ff "__init__" "Even.__init__" s_Even___init__
abbrev o249:=C "__init__" "Even.__init__" 509 147 3 3 244 true (R 246) (R 247) (R 248) 515
abbrev o250:=fk "__init__" "Even.__init__" s_Even___init__ m4 249
abbrev o253:=T [(V "self" 521),(V "s" 522)]
abbrev o255:=ff "rank" "Even.rank" s_Even_rank
abbrev o256:=C "rank" "Even.rank" 518 151 2 3 251 true (R 253) (R 254) (R 255) 523
abbrev o257:=fk "rank" "Even.rank" s_Even_rank m4 256
abbrev o258:=T [(V "most" 526)]
abbrev o259(P:Params):=D ([E P "__module__" 504 m4,E P "__firstlineno__" 508 (.int 145 507),E P "__init__" 517 (R 250),E P "rank" 525 (R 257),E P "__static_attributes__" 527 (R 258),E P "__doc__" 528 .none]) 2
abbrev o260:Obj:=⟨(.type "type"),none,Data.cls {name:=Str.ofString "Even",bases:=[Value.ref 232],mro:=[Value.ref 260,Value.ref 232,Value.type "object"],ns:=259,qualname:=Str.ofString "Even"}, #[some (R 237),none,some (V "Even" 497),some (V "Even" 505),some (.builtin "object.__new__"),some (.bool true)]⟩
abbrev o261:Obj:=⟨(.type "super"),none, .fields ⟨[(R 260),(R 260),(R 260)]⟩, #[]⟩
abbrev o262:=bf "object.__init_subclass__" (R 260)
abbrev g16(P:Params):List DictEntry:=[E P "__name__" 165 m7]
abbrev g17(P:Params):List DictEntry:=[E P "Listed" 562 (R 284),E P "whole_rank" 571 (R 293),E P "ranks" 577 (R 298),E P "frees" 583 (R 303),E P "bases" 589 (R 308)]
abbrev o3v7(P:Params):=D ((g16 P).append ((g1 P).append ((g5 P).append ((g7 P).append ((g10 P).append ((g12 P).append ((g14 P).append (g17 P)))))))) 41
abbrev g18:List Value:=[(I 153),(I 0),(R 268),(I 162),(I 0),(R 292),(I 164),(I 0),(R 297),(I 166),(I 0),(R 302),(I 168),(I 0),(R 307)]
abbrev o12v7:=W (g2.append (g3.append (g6.append (g8.append (g11.append (g13.append (g15.append g18)))))))
abbrev o232v2:Obj:=⟨(.type "type"),none,Data.cls {name:=Str.ofString "House",bases:=[Value.type "object"],mro:=[Value.ref 232,Value.type "object"],ns:=231,qualname:=Str.ofString "House",subclasses:=[Value.ref 260,Value.ref 284]}, #[none,none,some m6,some m5,some (.builtin "object.__new__"),some (.bool true)]⟩
abbrev o263:=T [(R 232)]
abbrev o264:=bf "type.__prepare__" (.type "type")
abbrev o265(P:Params):=D ([E P "__module__" 538 m4,E P "__qualname__" 540 (V "Listed" 539),E P "__firstlineno__" 542 (.int 153 541),E P "__init__" 551 (R 276),E P "rank" 557 (R 281),E P "__static_attributes__" 559 (R 282)]) 6
abbrev o267:=W [(I 155),(I 4),(R 275),(I 159),(I 4),(R 280)]
abbrev o268:=C1 "Listed" 533 153 0 0 266 false .none .none .none 536
abbrev o269:=fr 268 265 m4
abbrev o272:=T [(V "self" 546),(V "n" 547),(V "some" 548)]
abbrev o274:=ff "__init__" "Listed.__init__" s_Listed___init__
abbrev o275:=C "__init__" "Listed.__init__" 543 155 3 3 270 true (R 272) (R 273) (R 274) 549
abbrev o276:=fk "__init__" "Listed.__init__" s_Listed___init__ m4 275
abbrev o279:=ff "rank" "Listed.rank" s_Listed_rank
abbrev o280:=C "rank" "Listed.rank" 552 159 2 3 277 true .none .none (R 279) 555
abbrev o281:=fk "rank" "Listed.rank" s_Listed_rank m4 280
abbrev o282:=T [(V "listed" 558)]
abbrev o283(P:Params):=D ([E P "__module__" 538 m4,E P "__firstlineno__" 542 (.int 153 541),E P "__init__" 551 (R 276),E P "rank" 557 (R 281),E P "__static_attributes__" 559 (R 282),E P "__doc__" 560 .none]) 2
abbrev o284:Obj:=⟨(.type "type"),none,Data.cls {name:=Str.ofString "Listed",bases:=[Value.ref 232],mro:=[Value.ref 284,Value.ref 232,Value.type "object"],ns:=283,qualname:=Str.ofString "Listed"}, #[some (R 263),none,some (V "Listed" 531),some (V "Listed" 539),some (.builtin "object.__new__"),some (.bool true)]⟩
abbrev o285:Obj:=⟨(.type "super"),none, .fields ⟨[(R 284),(R 284),(R 284)]⟩, #[]⟩
abbrev o286:=bf "object.__init_subclass__" (R 284)
abbrev o289:=T [(V "house" 568)]
abbrev o291:=f1 "whole_rank" s_whole_rank
abbrev o292:=C1 "whole_rank" 565 162 1 3 287 true (R 289) (R 290) (R 291) 569
abbrev o293:=f2 "whole_rank" s_whole_rank m7 292
abbrev o296:=f1 "ranks" s_ranks
abbrev o297:=C1 "ranks" 572 164 1 3 294 true .none .none (R 296) 575
abbrev o298:=f2 "ranks" s_ranks m7 297
abbrev o301:=f1 "frees" s_frees
abbrev o302:=C1 "frees" 578 166 1 3 299 true .none .none (R 301) 581
abbrev o303:=f2 "frees" s_frees m7 302
abbrev o306:=f1 "bases" s_bases
abbrev o307:=C1 "bases" 584 168 1 3 304 true .none .none (R 306) 587
abbrev o308:=f2 "bases" s_bases m7 307
abbrev g19(P:Params):List DictEntry:=[E P "__name__" 165 m8]
abbrev g20(P:Params):List DictEntry:=[E P "is_ring" 595 (R 313),E P "rings" 601 (R 318),E P "is_flat" 607 (R 323),E P "flats" 613 (R 328),E P "closed" 624 (R 335),E P "refuse" 631 (R 342),E P "house_of_frees" 637 (R 347),E P "of_bases" 645 (R 354),E P "of_rings" 651 (R 359),E P "is_free" 657 (R 364),E P "of_flats" 663 (R 369),E P "of_ranks" 669 (R 374),E P "tied" 677 (R 379)]
abbrev o3v8(P:Params):=D ((g19 P).append ((g1 P).append ((g5 P).append ((g7 P).append ((g10 P).append ((g12 P).append ((g14 P).append ((g17 P).append (g20 P))))))))) 54
abbrev g21:List Value:=[(I 171),(I 0),(R 312),(I 175),(I 0),(R 317),(I 178),(I 0),(R 322),(I 180),(I 0),(R 327),(I 184),(I 0),(R 334),(I 191),(I 0),(R 341),(I 194),(I 0),(R 346),(I 197),(I 0),(R 353),(I 200),(I 0),(R 358),(I 203),(I 0),(R 363),(I 205),(I 0),(R 368),(I 210),(I 0),(R 373),(I 214),(I 0),(R 378)]
abbrev o12v8:=W (g2.append (g3.append (g6.append (g8.append (g11.append (g13.append (g15.append (g18.append g21))))))))
abbrev o311:=f1 "is_ring" s_is_ring
abbrev o312:=C1 "is_ring" 590 171 2 3 309 true .none .none (R 311) 593
abbrev o313:=f2 "is_ring" s_is_ring m7 312
abbrev o316:=f1 "rings" s_rings
abbrev o317:=C1 "rings" 596 175 1 3 314 true .none .none (R 316) 599
abbrev o318:=f2 "rings" s_rings m7 317
abbrev o321:=f1 "is_flat" s_is_flat
abbrev o322:=C1 "is_flat" 602 178 3 3 319 true .none .none (R 321) 605
abbrev o323:=f2 "is_flat" s_is_flat m7 322
abbrev o326:=f1 "flats" s_flats
abbrev o327:=C1 "flats" 608 180 1 3 324 true .none .none (R 326) 611
abbrev o328:=f2 "flats" s_flats m7 327
abbrev o331:=T [(V "house" 617),(V "s" 618),(V "rank" 619),(V "found" 620),(V "thing" 621)]
abbrev o333:=f1 "closed" s_closed
abbrev o334:=C1 "closed" 614 184 2 3 329 true (R 331) (R 332) (R 333) 622
abbrev o335:=f2 "closed" s_closed m7 334
abbrev o338:=T [(V "found" 628)]
abbrev o340:=f1 "refuse" s_refuse
abbrev o341:=C1 "refuse" 625 191 1 3 336 true (R 338) (R 339) (R 340) 629
abbrev o342:=f2 "refuse" s_refuse m7 341
abbrev o345:=f1 "house_of_frees" s_house_of_frees
abbrev o346:=C1 "house_of_frees" 632 194 2 3 343 true .none .none (R 345) 635
abbrev o347:=f2 "house_of_frees" s_house_of_frees m7 346
abbrev o350:=T [(V "n" 641),(V "bases" 642)]
abbrev o352:=f1 "of_bases" s_of_bases
abbrev o353:=C1 "of_bases" 638 197 2 3 348 true (R 350) (R 351) (R 352) 643
abbrev o354:=f2 "of_bases" s_of_bases m7 353
abbrev o357:=f1 "of_rings" s_of_rings
abbrev o358:=C1 "of_rings" 646 200 2 3 355 true .none .none (R 357) 649
abbrev o359:=f2 "of_rings" s_of_rings m7 358
abbrev o362:=f1 "is_free" s_is_free
abbrev o363:=C1 "is_free" 652 203 2 3 360 true .none .none (R 362) 655
abbrev o364:=f2 "is_free" s_is_free m7 363
abbrev o367:=f1 "of_flats" s_of_flats
abbrev o368:=C1 "of_flats" 658 205 2 3 365 true .none .none (R 367) 661
abbrev o369:=f2 "of_flats" s_of_flats m7 368
abbrev o372:=f1 "of_ranks" s_of_ranks
abbrev o373:=C1 "of_ranks" 664 210 2 3 370 true .none .none (R 372) 667
abbrev o374:=f2 "of_ranks" s_of_ranks m7 373
abbrev o377:=f1 "tied" s_tied
abbrev o378:=C1 "tied" 672 214 2 3 375 true .none .none (R 377) 675
abbrev o379:=f2 "tied" s_tied m8 378
abbrev g22(P:Params):List DictEntry:=[E P "__name__" 165 m9]
abbrev g23(P:Params):List DictEntry:=[E P "Net" 719 (R 408),E P "rests" 727 (R 415),E P "pivot_place" 737 (R 422)]
abbrev o3v9(P:Params):=D ((g22 P).append ((g1 P).append ((g5 P).append ((g7 P).append ((g10 P).append ((g12 P).append ((g14 P).append ((g17 P).append ((g20 P).append (g23 P)))))))))) 57
abbrev g24:List Value:=[(I 218),(I 0),(R 385),(I 234),(I 0),(R 414),(I 238),(I 0),(R 421)]
abbrev o12v9:=W (g2.append (g3.append (g6.append (g8.append (g11.append (g13.append (g15.append (g18.append (g21.append g24)))))))))
abbrev o232v3:Obj:=⟨(.type "type"),none,Data.cls {name:=Str.ofString "House",bases:=[Value.type "object"],mro:=[Value.ref 232,Value.type "object"],ns:=231,qualname:=Str.ofString "House",subclasses:=[Value.ref 260,Value.ref 284,Value.ref 408]}, #[none,none,some m6,some m5,some (.builtin "object.__new__"),some (.bool true)]⟩
abbrev o380:=T [(R 232)]
abbrev o381:=bf "type.__prepare__" (.type "type")
abbrev o382(P:Params):=D ([E P "__module__" 685 m8,E P "__qualname__" 687 (V "Net" 686),E P "__firstlineno__" 689 (.int 218 688),E P "__init__" 695 (R 391),E P "pieces" 705 (R 398),E P "rank" 713 (R 405),E P "__static_attributes__" 716 (R 406)]) 7
abbrev o384:=W [(I 220),(I 4),(R 390),(I 225),(I 4),(R 397),(I 231),(I 4),(R 404)]
abbrev o385:=C1 "Net" 680 218 0 0 383 false .none .none .none 683
abbrev o386:=fr 385 382 m8
abbrev o389:=ff "__init__" "Net.__init__" s_Net___init__
abbrev o390:=C "__init__" "Net.__init__" 690 220 4 3 387 true .none .none (R 389) 693
abbrev o391:=fk "__init__" "Net.__init__" s_Net___init__ m8 390
abbrev o394:=T [(V "self" 699),(V "s" 700),(V "marks" 701),(V "thing" 702)]
abbrev o396:=ff "pieces" "Net.pieces" s_Net_pieces
abbrev o397:=C "pieces" "Net.pieces" 696 225 2 3 392 true (R 394) (R 395) (R 396) 703
abbrev o398:=fk "pieces" "Net.pieces" s_Net_pieces m8 397
abbrev o401:=T [(V "self" 709),(V "s" 710)]
abbrev o403:=ff "rank" "Net.rank" s_Net_rank
abbrev o404:=C "rank" "Net.rank" 706 231 2 3 399 true (R 401) (R 402) (R 403) 711
abbrev o405:=fk "rank" "Net.rank" s_Net_rank m8 404
abbrev o406:=T [(V "points" 714),(V "ties" 715)]
abbrev o407(P:Params):=D ([E P "__module__" 685 m8,E P "__firstlineno__" 689 (.int 218 688),E P "__init__" 695 (R 391),E P "pieces" 705 (R 398),E P "rank" 713 (R 405),E P "__static_attributes__" 716 (R 406),E P "__doc__" 717 .none]) 2
abbrev o408:Obj:=⟨(.type "type"),none,Data.cls {name:=Str.ofString "Net",bases:=[Value.ref 232],mro:=[Value.ref 408,Value.ref 232,Value.type "object"],ns:=407,qualname:=Str.ofString "Net"}, #[some (R 380),none,some (V "Net" 678),some (V "Net" 686),some (.builtin "object.__new__"),some (.bool true)]⟩
abbrev o409:Obj:=⟨(.type "super"),none, .fields ⟨[(R 408),(R 408),(R 408)]⟩, #[]⟩
abbrev o410:=bf "object.__init_subclass__" (R 408)
abbrev o413:=f1 "rests" s_rests
abbrev o414:=C1 "rests" 722 234 2 3 411 true .none .none (R 413) 725
abbrev o415:=f2 "rests" s_rests m9 414
abbrev o418:=T [(V "rows" 731),(V "column" 732),(V "place" 733),(V "row" 734)]
abbrev o420:=f1 "pivot_place" s_pivot_place
abbrev o421:=C1 "pivot_place" 728 238 2 3 416 true (R 418) (R 419) (R 420) 735
abbrev o422:=f2 "pivot_place" s_pivot_place m9 421
abbrev g25(P:Params):List DictEntry:=[E P "__name__" 165 m10]
abbrev g26(P:Params):List DictEntry:=[E P "cleared" 743 (R 427),E P "all_cleared" 749 (R 432),E P "rank_of" 755 (R 437),E P "Tabled" 787 (R 457)]
abbrev o3v10(P:Params):=D ((g25 P).append ((g1 P).append ((g5 P).append ((g7 P).append ((g10 P).append ((g12 P).append ((g14 P).append ((g17 P).append ((g20 P).append ((g23 P).append (g26 P))))))))))) 61
abbrev g27:List Value:=[(I 243),(I 0),(R 426),(I 247),(I 0),(R 431),(I 251),(I 0),(R 436),(I 267),(I 0),(R 443)]
abbrev o12v10:=W (g2.append (g3.append (g6.append (g8.append (g11.append (g13.append (g15.append (g18.append (g21.append (g24.append g27))))))))))
abbrev o232v4:Obj:=⟨(.type "type"),none,Data.cls {name:=Str.ofString "House",bases:=[Value.type "object"],mro:=[Value.ref 232,Value.type "object"],ns:=231,qualname:=Str.ofString "House",subclasses:=[Value.ref 260,Value.ref 284,Value.ref 408,Value.ref 457]}, #[none,none,some m6,some m5,some (.builtin "object.__new__"),some (.bool true)]⟩
abbrev o425:=f1 "cleared" s_cleared
abbrev o426:=C1 "cleared" 738 243 4 3 423 true .none .none (R 425) 741
abbrev o427:=f2 "cleared" s_cleared m9 426
abbrev o430:=f1 "all_cleared" s_all_cleared
abbrev o431:=C1 "all_cleared" 744 247 4 3 428 true .none .none (R 430) 747
abbrev o432:=f2 "all_cleared" s_all_cleared m9 431
abbrev o435:=f1 "rank_of" s_rank_of
abbrev o436:=C1 "rank_of" 750 251 2 3 433 true .none .none (R 435) 753
abbrev o437:=f2 "rank_of" s_rank_of m9 436
abbrev o438:=T [(R 232)]
abbrev o439:=bf "type.__prepare__" (.type "type")
abbrev o440(P:Params):=D ([E P "__module__" 765 m11,E P "__qualname__" 767 (V "Tabled" 766),E P "__firstlineno__" 769 (.int 267 768),E P "__init__" 775 (R 449),E P "rank" 781 (R 454),E P "__static_attributes__" 784 (R 455)]) 6
abbrev o442:=W [(I 269),(I 4),(R 448),(I 274),(I 4),(R 453)]
abbrev o443:=C1 "Tabled" 760 267 0 0 441 false .none .none .none 763
abbrev o444:=fr 443 440 m11
abbrev o447:=ff "__init__" "Tabled.__init__" s_Tabled___init__
abbrev o448:=C "__init__" "Tabled.__init__" 770 269 4 3 445 true .none .none (R 447) 773
abbrev o449:=fk "__init__" "Tabled.__init__" s_Tabled___init__ m11 448
abbrev o452:=ff "rank" "Tabled.rank" s_Tabled_rank
abbrev o453:=C "rank" "Tabled.rank" 776 274 2 3 450 true .none .none (R 452) 779
abbrev o454:=fk "rank" "Tabled.rank" s_Tabled_rank m11 453
abbrev o455:=T [(V "prime" 782),(V "rows" 783)]
abbrev o456(P:Params):=D ([E P "__module__" 765 m11,E P "__firstlineno__" 769 (.int 267 768),E P "__init__" 775 (R 449),E P "rank" 781 (R 454),E P "__static_attributes__" 784 (R 455),E P "__doc__" 785 .none]) 2
abbrev o457:Obj:=⟨(.type "type"),none,Data.cls {name:=Str.ofString "Tabled",bases:=[Value.ref 232],mro:=[Value.ref 457,Value.ref 232,Value.type "object"],ns:=456,qualname:=Str.ofString "Tabled"}, #[some (R 438),none,some (V "Tabled" 758),some (V "Tabled" 766),some (.builtin "object.__new__"),some (.bool true)]⟩
abbrev o458:Obj:=⟨(.type "super"),none, .fields ⟨[(R 457),(R 457),(R 457)]⟩, #[]⟩
abbrev o459:=bf "object.__init_subclass__" (R 457)
abbrev g28(P:Params):List DictEntry:=[E P "__name__" 165 m12]
abbrev g29(P:Params):List DictEntry:=[E P "Other" 825 (R 483),E P "_law_whole" 834 (R 492),E P "_law_size" 842 (R 499),E P "_law_list" 851 (R 506)]
abbrev o3v11(P:Params):=D ((g28 P).append ((g1 P).append ((g5 P).append ((g7 P).append ((g10 P).append ((g12 P).append ((g14 P).append ((g17 P).append ((g20 P).append ((g23 P).append ((g26 P).append (g29 P)))))))))))) 65
abbrev g30:List Value:=[(I 278),(I 0),(R 465),(I 290),(I 0),(R 491),(I 292),(I 0),(R 498),(I 298),(I 0),(R 505)]
abbrev o12v11:=W (g2.append (g3.append (g6.append (g8.append (g11.append (g13.append (g15.append (g18.append (g21.append (g24.append (g27.append g30)))))))))))
abbrev o232v5:Obj:=⟨(.type "type"),none,Data.cls {name:=Str.ofString "House",bases:=[Value.type "object"],mro:=[Value.ref 232,Value.type "object"],ns:=231,qualname:=Str.ofString "House",subclasses:=[Value.ref 260,Value.ref 284,Value.ref 408,Value.ref 457,Value.ref 483]}, #[none,none,some m6,some m5,some (.builtin "object.__new__"),some (.bool true)]⟩
abbrev o460:=T [(R 232)]
abbrev o461:=bf "type.__prepare__" (.type "type")
abbrev o462(P:Params):=D ([E P "__module__" 797 m10,E P "__qualname__" 799 (V "Other" 798),E P "__firstlineno__" 801 (.int 278 800),E P "__init__" 809 (R 473),E P "rank" 818 (R 480),E P "__static_attributes__" 822 (R 481)]) 6
abbrev o464:=W [(I 280),(I 4),(R 472),(I 286),(I 4),(R 479)]
abbrev o465:=C1 "Other" 792 278 0 0 463 false .none .none .none 795
abbrev o466:=fr 465 462 m10
abbrev o469:=T [(V "self" 805),(V "house" 806)]
abbrev o471:=ff "__init__" "Other.__init__" s_Other___init__
abbrev o472:=C "__init__" "Other.__init__" 802 280 2 3 467 true (R 469) (R 470) (R 471) 807
abbrev o473:=fk "__init__" "Other.__init__" s_Other___init__ m10 472
abbrev o476:=T [(V "self" 813),(V "s" 814),(V "outside" 815)]
abbrev o478:=ff "rank" "Other.rank" s_Other_rank
abbrev o479:=C "rank" "Other.rank" 810 286 2 3 474 true (R 476) (R 477) (R 478) 816
abbrev o480:=fk "rank" "Other.rank" s_Other_rank m10 479
abbrev o481:=T [(V "full" 819),(V "full_rank" 820),(V "house" 821)]
abbrev o482(P:Params):=D ([E P "__module__" 797 m10,E P "__firstlineno__" 801 (.int 278 800),E P "__init__" 809 (R 473),E P "rank" 818 (R 480),E P "__static_attributes__" 822 (R 481),E P "__doc__" 823 .none]) 2
abbrev o483:Obj:=⟨(.type "type"),none,Data.cls {name:=Str.ofString "Other",bases:=[Value.ref 232],mro:=[Value.ref 483,Value.ref 232,Value.type "object"],ns:=482,qualname:=Str.ofString "Other"}, #[some (R 460),none,some (V "Other" 790),some (V "Other" 798),some (.builtin "object.__new__"),some (.bool true)]⟩
abbrev o484:Obj:=⟨(.type "super"),none, .fields ⟨[(R 483),(R 483),(R 483)]⟩, #[]⟩
abbrev o485:=bf "object.__init_subclass__" (R 483)
abbrev o488:=T [(V "_law_found" 831)]
abbrev o490:=f1 "_law_whole" s__law_whole
abbrev o491:=C1 "_law_whole" 828 290 1 3 486 true (R 488) (R 489) (R 490) 832
abbrev o492:=f2 "_law_whole" s__law_whole m12 491
abbrev o495:=T [(V "_law_s" 838),(V "_law_many" 839)]
abbrev o497:=f1 "_law_size" s__law_size
abbrev o498:=C1 "_law_size" 835 292 1 3 493 true (R 495) (R 496) (R 497) 840
abbrev o499:=f2 "_law_size" s__law_size m12 498
abbrev o502:=T [(V "_law_found" 846),(V "_law_due" 847),(V "_law_k" 848)]
abbrev o504:=f1 "_law_list" s__law_list
abbrev o505:=C1 "_law_list" 843 298 2 3 500 true (R 502) (R 503) (R 504) 849
abbrev o506:=f2 "_law_list" s__law_list m12 505
abbrev g31(P:Params):List DictEntry:=[E P "_law_far" 857 (R 511),E P "_law_ranks" 863 (R 516),E P "_law_rings" 875 (R 523),E P "_law_flats" 887 (R 530),E P "_law_pieces" 893 (R 535),E P "_law_two" 903 (R 542),E P "_law_three" 914 (R 549),E P "_law_some" 922 (R 556),E P "_law_free" 928 (R 561),E P "_law_table_ranks" 934 (R 566),E P "_law_number" 944 (R 573),E P "_law_net" 950 (R 578),E P "_law_table" 956 (R 583)]
abbrev o3v12(P:Params):=D ((g28 P).append ((g1 P).append ((g5 P).append ((g7 P).append ((g10 P).append ((g12 P).append ((g14 P).append ((g17 P).append ((g20 P).append ((g23 P).append ((g26 P).append ((g29 P).append (g31 P))))))))))))) 78
abbrev g32:List Value:=[(I 305),(I 0),(R 510),(I 315),(I 0),(R 515),(I 327),(I 0),(R 522),(I 338),(I 0),(R 529),(I 348),(I 0),(R 534),(I 356),(I 0),(R 541),(I 358),(I 0),(R 548),(I 363),(I 0),(R 555),(I 367),(I 0),(R 560),(I 379),(I 0),(R 565),(I 390),(I 0),(R 572),(I 395),(I 0),(R 577),(I 403),(I 0),(R 582)]
abbrev o12v12:=W (g2.append (g3.append (g6.append (g8.append (g11.append (g13.append (g15.append (g18.append (g21.append (g24.append (g27.append (g30.append g32))))))))))))
abbrev o509:=f1 "_law_far" s__law_far
abbrev o510:=C1 "_law_far" 852 305 3 3 507 true .none .none (R 509) 855
abbrev o511:=f2 "_law_far" s__law_far m12 510
abbrev o514:=f1 "_law_ranks" s__law_ranks
abbrev o515:=C1 "_law_ranks" 858 315 2 3 512 true .none .none (R 514) 861
abbrev o516:=f2 "_law_ranks" s__law_ranks m12 515
abbrev o519:=T [(V "_law_many" 867),(V "_law_levels" 868),(V "_law_found" 869),(V "_law_s" 870),(V "_law_free_here" 871),(V "_law_k" 872)]
abbrev o521:=f1 "_law_rings" s__law_rings
abbrev o522:=C1 "_law_rings" 864 327 2 3 517 true (R 519) (R 520) (R 521) 873
abbrev o523:=f2 "_law_rings" s__law_rings m12 522
abbrev o526:=T [(V "_law_many" 879),(V "_law_levels" 880),(V "_law_found" 881),(V "_law_s" 882),(V "_law_flat" 883),(V "_law_k" 884)]
abbrev o528:=f1 "_law_flats" s__law_flats
abbrev o529:=C1 "_law_flats" 876 338 2 3 524 true (R 526) (R 527) (R 528) 885
abbrev o530:=f2 "_law_flats" s__law_flats m12 529
abbrev o533:=f1 "_law_pieces" s__law_pieces
abbrev o534:=C1 "_law_pieces" 888 348 3 3 531 true .none .none (R 533) 891
abbrev o535:=f2 "_law_pieces" s__law_pieces m12 534
abbrev o538:=T [(V "_law_a" 897),(V "_law_b" 898),(V "_law_j" 899),(V "_law_k" 900)]
abbrev o540:=f1 "_law_two" s__law_two
abbrev o541:=C1 "_law_two" 894 356 4 3 536 true (R 538) (R 539) (R 540) 901
abbrev o542:=f2 "_law_two" s__law_two m12 541
abbrev o545:=T [(V "_law_rows" 907),(V "_law_i" 908),(V "_law_j" 909),(V "_law_k" 910),(V "_law_number_here" 911)]
abbrev o547:=f1 "_law_three" s__law_three
abbrev o548:=C1 "_law_three" 904 358 4 3 543 true (R 545) (R 546) (R 547) 912
abbrev o549:=f2 "_law_three" s__law_three m12 548
abbrev o552:=T [(V "_law_number_here" 918),(V "_law_prime" 919)]
abbrev o554:=f1 "_law_some" s__law_some
abbrev o555:=C1 "_law_some" 915 363 2 3 550 true (R 552) (R 553) (R 554) 920
abbrev o556:=f2 "_law_some" s__law_some m12 555
abbrev o559:=f1 "_law_free" s__law_free
abbrev o560:=C1 "_law_free" 923 367 3 3 557 true .none .none (R 559) 926
abbrev o561:=f2 "_law_free" s__law_free m12 560
abbrev o564:=f1 "_law_table_ranks" s__law_table_ranks
abbrev o565:=C1 "_law_table_ranks" 929 379 3 3 562 true .none .none (R 564) 932
abbrev o566:=f2 "_law_table_ranks" s__law_table_ranks m12 565
abbrev o569:=T [(V "_law_cell" 938),(V "_law_k" 939),(V "_law_way" 940),(V "_law_mixed" 941)]
abbrev o571:=f1 "_law_number" s__law_number
abbrev o572:=C1 "_law_number" 935 390 3 3 567 true (R 569) (R 570) (R 571) 942
abbrev o573:=f2 "_law_number" s__law_number m12 572
abbrev o576:=f1 "_law_net" s__law_net
abbrev o577:=C1 "_law_net" 945 395 2 3 574 true .none .none (R 576) 948
abbrev o578:=f2 "_law_net" s__law_net m12 577
abbrev o581:=f1 "_law_table" s__law_table
abbrev o582:=C1 "_law_table" 951 403 2 3 579 true .none .none (R 581) 954
abbrev o583:=f2 "_law_table" s__law_table m12 582
abbrev g33(P:Params):List DictEntry:=[E P "_law_house" 962 (R 588),E P "law" 968 (R 593)]
abbrev o3v13(P:Params):=D ((g28 P).append ((g1 P).append ((g5 P).append ((g7 P).append ((g10 P).append ((g12 P).append ((g14 P).append ((g17 P).append ((g20 P).append ((g23 P).append ((g26 P).append ((g29 P).append ((g31 P).append (g33 P)))))))))))))) 80
abbrev g34:List Value:=[(I 409),(I 0),(R 587),(I 419),(I 0),(R 592)]
abbrev o12v13:=W (g2.append (g3.append (g6.append (g8.append (g11.append (g13.append (g15.append (g18.append (g21.append (g24.append (g27.append (g30.append (g32.append g34)))))))))))))
abbrev o586:=f1 "_law_house" s__law_house
abbrev o587:=C1 "_law_house" 957 409 3 3 584 true .none .none (R 586) 960
abbrev o588:=f2 "_law_house" s__law_house m12 587
abbrev o591:=f1 "law" s_law
abbrev o592:=C1 "law" 963 419 1 3 589 true .none .none (R 591) 966
abbrev o593:=f2 "law" s_law m12 592
abbrev ub(x:Obj)(P:Params):List Obj:=[boot_o_0 P,boot_o_1 P,boot_o_2 P,x,boot_o_4 P,boot_o_5 P,boot_o_6 P,boot_o_7 P,boot_o_8 P,boot_o_9 P,boot_o_10 P,Y]
abbrev u0(P:Params):List Obj:=ub (boot_o_3 P) P
abbrev u1(P:Params):List Obj:=[Z,o13,o14]
abbrev u2(P:Params):List Obj:=ub (o3v1 P) P
abbrev u3(P:Params):List Obj:=[o12v1,o13,o14,Y,Z,o17,Y,o19,o20,o21,Y,Z]
abbrev u4(P:Params):List Obj:=[o24,o25,o26,Y,Z,o29,Y,o31,o32,o33,Y,Z]
abbrev u5(P:Params):List Obj:=[o36,Y,o38,o39,o40,Y,Z,o43,o44,o45,Y,Z]
abbrev u6(P:Params):List Obj:=[o48,Y,o50,o51,o52,Y,Z,o55,Y,o57,o58,o59]
abbrev u7(P:Params):List Obj:=[Y,Z,o62,o63,o64,Y,Z,o67,Y,o69,o70,o71]
abbrev u8(P:Params):List Obj:=[Y,Z,o74,Y,o76,o77,o78,Y,Z,o81,Y,o83]
abbrev u9(P:Params):List Obj:=[o84,o85,Y,Z,o88,Y,o90,o91,o92]
abbrev u10(P:Params):List Obj:=ub (o3v2 P) P
abbrev u11(P:Params):List Obj:=[o12v2,o13,o14,Y,Z,o17,Y,o19,o20,o21,Y,Z]
abbrev u12(P:Params):List Obj:=[o84,o85,Y,Z,o88,Y,o90,o91,o92,Y,Z,o95]
abbrev u13(P:Params):List Obj:=[Y,o97,o98,o99,Y,Z,o102,Y,o104,o105,o106,Y]
abbrev u14(P:Params):List Obj:=[Z,o109,Y,o111,o112,o113,Y,Z,o116,Y,o118,o119]
abbrev u15(P:Params):List Obj:=[o120,Y,Z,o123,Y,o125,o126,o127,Y,Z,o130,Y]
abbrev u16(P:Params):List Obj:=[o132,o133,o134,Y,Z,o137,Y,o139,o140,o141,Y,Z]
abbrev u17(P:Params):List Obj:=[o144,Y,o146,o147,o148,Y,Z,o151,Y,o153,o154,o155]
abbrev u18(P:Params):List Obj:=[Y,Z,o158,Y,o160,o161,o162,Y,Z,o165,Y,o167]
abbrev u19(P:Params):List Obj:=[o168,o169]
abbrev u20(P:Params):List Obj:=ub (o3v3 P) P
abbrev u21(P:Params):List Obj:=[o12v3,o13,o14,Y,Z,o17,Y,o19,o20,o21,Y,Z]
abbrev u22(P:Params):List Obj:=[o168,o169,o170,o171,o172 P,Y,Z,o175,o176,Y,o178 P,o179]
abbrev u23(P:Params):List Obj:=[o180,o181,o182]
abbrev u24(P:Params):List Obj:=ub (o3v4 P) P
abbrev u25(P:Params):List Obj:=[o12v4,o13,o14,Y,Z,o17,Y,o19,o20,o21,Y,Z]
abbrev u26(P:Params):List Obj:=[o168,o169,o170,o171,o172 P,Y,Z,o175,o176,Y,o178 P,o179v1]
abbrev u27(P:Params):List Obj:=[o180,o181,o182,o183,o184,o185 P,Y,o187,o188,o189,Y,Z]
abbrev u28(P:Params):List Obj:=[o192,Y,o194,o195,o196,o197,o198 P,o199,o200,o201]
abbrev u29(P:Params):List Obj:=ub (o3v5 P) P
abbrev u30(P:Params):List Obj:=[o12v5,o13,o14,Y,Z,o17,Y,o19,o20,o21,Y,Z]
abbrev u31(P:Params):List Obj:=[o192,Y,o194,o195,o196,o197,o198 P,o199,o200,o201,Y,o203]
abbrev u32(P:Params):List Obj:=[o204 P,Y,o206,o207,o208,Y,Z,o211,Y,o213,o214,o215]
abbrev u33(P:Params):List Obj:=[Y,Z,o218,Y,o220,o221,o222,Y,Z,o225,Y,o227]
abbrev u34(P:Params):List Obj:=[o228,o229,o230,o231 P,o232,o233,o234,o235,o236]
abbrev u35(P:Params):List Obj:=ub (o3v6 P) P
abbrev u36(P:Params):List Obj:=[o12v6,o13,o14,Y,Z,o17,Y,o19,o20,o21,Y,Z]
abbrev u37(P:Params):List Obj:=[o228,o229,o230,o231 P,o232v1,o233,o234,o235,o236,o237,o238,o239 P]
abbrev u38(P:Params):List Obj:=[Y,o241,o242,o243,Y,Z,o246,Y,o248,o249,o250,Y]
abbrev u39(P:Params):List Obj:=[Z,o253,Y,o255,o256,o257,o258,o259 P,o260,o261,o262]
abbrev u40(P:Params):List Obj:=ub (o3v7 P) P
abbrev u41(P:Params):List Obj:=[o12v7,o13,o14,Y,Z,o17,Y,o19,o20,o21,Y,Z]
abbrev u42(P:Params):List Obj:=[o228,o229,o230,o231 P,o232v2,o233,o234,o235,o236,o237,o238,o239 P]
abbrev u43(P:Params):List Obj:=[Z,o253,Y,o255,o256,o257,o258,o259 P,o260,o261,o262,o263]
abbrev u44(P:Params):List Obj:=[o264,o265 P,Y,o267,o268,o269,Y,Z,o272,Y,o274,o275]
abbrev u45(P:Params):List Obj:=[o276,Y,Z,o279,o280,o281,o282,o283 P,o284,o285,o286,Y]
abbrev u46(P:Params):List Obj:=[Z,o289,Y,o291,o292,o293,Y,Z,o296,o297,o298,Y]
abbrev u47(P:Params):List Obj:=[Z,o301,o302,o303,Y,Z,o306,o307,o308]
abbrev u48(P:Params):List Obj:=ub (o3v8 P) P
abbrev u49(P:Params):List Obj:=[o12v8,o13,o14,Y,Z,o17,Y,o19,o20,o21,Y,Z]
abbrev u50(P:Params):List Obj:=[Z,o301,o302,o303,Y,Z,o306,o307,o308,Y,Z,o311]
abbrev u51(P:Params):List Obj:=[o312,o313,Y,Z,o316,o317,o318,Y,Z,o321,o322,o323]
abbrev u52(P:Params):List Obj:=[Y,Z,o326,o327,o328,Y,Z,o331,Y,o333,o334,o335]
abbrev u53(P:Params):List Obj:=[Y,Z,o338,Y,o340,o341,o342,Y,Z,o345,o346,o347]
abbrev u54(P:Params):List Obj:=[Y,Z,o350,Y,o352,o353,o354,Y,Z,o357,o358,o359]
abbrev u55(P:Params):List Obj:=[Y,Z,o362,o363,o364,Y,Z,o367,o368,o369,Y,Z]
abbrev u56(P:Params):List Obj:=[o372,o373,o374,Y,Z,o377,o378,o379]
abbrev u57(P:Params):List Obj:=ub (o3v9 P) P
abbrev u58(P:Params):List Obj:=[o12v9,o13,o14,Y,Z,o17,Y,o19,o20,o21,Y,Z]
abbrev u59(P:Params):List Obj:=[o228,o229,o230,o231 P,o232v3,o233,o234,o235,o236,o237,o238,o239 P]
abbrev u60(P:Params):List Obj:=[o372,o373,o374,Y,Z,o377,o378,o379,o380,o381,o382 P,Y]
abbrev u61(P:Params):List Obj:=[o384,o385,o386,Y,Z,o389,o390,o391,Y,Z,o394,Y]
abbrev u62(P:Params):List Obj:=[o396,o397,o398,Y,Z,o401,Y,o403,o404,o405,o406,o407 P]
abbrev u63(P:Params):List Obj:=[o408,o409,o410,Y,Z,o413,o414,o415,Y,Z,o418,Y]
abbrev u64(P:Params):List Obj:=[o420,o421,o422]
abbrev u65(P:Params):List Obj:=ub (o3v10 P) P
abbrev u66(P:Params):List Obj:=[o12v10,o13,o14,Y,Z,o17,Y,o19,o20,o21,Y,Z]
abbrev u67(P:Params):List Obj:=[o228,o229,o230,o231 P,o232v4,o233,o234,o235,o236,o237,o238,o239 P]
abbrev u68(P:Params):List Obj:=[o420,o421,o422,Y,Z,o425,o426,o427,Y,Z,o430,o431]
abbrev u69(P:Params):List Obj:=[o432,Y,Z,o435,o436,o437,o438,o439,o440 P,Y,o442,o443]
abbrev u70(P:Params):List Obj:=[o444,Y,Z,o447,o448,o449,Y,Z,o452,o453,o454,o455]
abbrev u71(P:Params):List Obj:=[o456 P,o457,o458,o459]
abbrev u72(P:Params):List Obj:=ub (o3v11 P) P
abbrev u73(P:Params):List Obj:=[o12v11,o13,o14,Y,Z,o17,Y,o19,o20,o21,Y,Z]
abbrev u74(P:Params):List Obj:=[o228,o229,o230,o231 P,o232v5,o233,o234,o235,o236,o237,o238,o239 P]
abbrev u75(P:Params):List Obj:=[o456 P,o457,o458,o459,o460,o461,o462 P,Y,o464,o465,o466,Y]
abbrev u76(P:Params):List Obj:=[Z,o469,Y,o471,o472,o473,Y,Z,o476,Y,o478,o479]
abbrev u77(P:Params):List Obj:=[o480,o481,o482 P,o483,o484,o485,Y,Z,o488,Y,o490,o491]
abbrev u78(P:Params):List Obj:=[o492,Y,Z,o495,Y,o497,o498,o499,Y,Z,o502,Y]
abbrev u79(P:Params):List Obj:=[o504,o505,o506]
abbrev u80(P:Params):List Obj:=ub (o3v12 P) P
abbrev u81(P:Params):List Obj:=[o12v12,o13,o14,Y,Z,o17,Y,o19,o20,o21,Y,Z]
abbrev u82(P:Params):List Obj:=[o504,o505,o506,Y,Z,o509,o510,o511,Y,Z,o514,o515]
abbrev u83(P:Params):List Obj:=[o516,Y,Z,o519,Y,o521,o522,o523,Y,Z,o526,Y]
abbrev u84(P:Params):List Obj:=[o528,o529,o530,Y,Z,o533,o534,o535,Y,Z,o538,Y]
abbrev u85(P:Params):List Obj:=[o540,o541,o542,Y,Z,o545,Y,o547,o548,o549,Y,Z]
abbrev u86(P:Params):List Obj:=[o552,Y,o554,o555,o556,Y,Z,o559,o560,o561,Y,Z]
abbrev u87(P:Params):List Obj:=[o564,o565,o566,Y,Z,o569,Y,o571,o572,o573,Y,Z]
abbrev u88(P:Params):List Obj:=[o576,o577,o578,Y,Z,o581,o582,o583]
abbrev u89(P:Params):List Obj:=ub (o3v13 P) P
abbrev u90(P:Params):List Obj:=[o12v13,o13,o14,Y,Z,o17,Y,o19,o20,o21,Y,Z]
abbrev u91(P:Params):List Obj:=[o576,o577,o578,Y,Z,o581,o582,o583,Y,Z,o586,o587]
abbrev u92(P:Params):List Obj:=[o588,Y,Z,o591,o592,o593]
theorem yu0:([u0,u1,u2,u3,u4,u5,u6,u7,u8,u9,u10,u11,u12,u13,u14,u15,u16,u17,u18,u19,u20,u21,u22,u23,u24,u25,u26,u27,u28,u29]:List (Params->List Obj)).all (λ_=>true)=true:=by k_qdec
theorem yu30:([u30,u31,u32,u33,u34,u35,u36,u37,u38,u39,u40,u41,u42,u43,u44,u45,u46,u47,u48,u49,u50,u51,u52,u53,u54,u55,u56,u57,u58,u59]:List (Params->List Obj)).all (λ_=>true)=true:=by k_qdec
theorem yu60:([u60,u61,u62,u63,u64,u65,u66,u67,u68,u69,u70,u71,u72,u73,u74,u75,u76,u77,u78,u79,u80,u81,u82,u83,u84,u85,u86,u87,u88,u89]:List (Params->List Obj)).all (λ_=>true)=true:=by k_qdec
theorem yu90:([u90,u91,u92]:List (Params->List Obj)).all (λ_=>true)=true:=by k_qdec
abbrev spl(l:List Obj):List Obj×List Obj:= @List.rec Obj (λ_=>List Obj×List Obj) ([],[]) (λx _ ih=>(x::ih.2,ih.1)) l
abbrev mkT(n:Nat):List Obj->BT:= @Nat.rec (λ_=>List Obj->BT) (λ_=> .nil) (λ_ ih l=> @List.rec Obj (λ_=>BT) .nil (λx r _=> .node x (ih (spl r).1) (ih (spl r).2)) l) n
theorem qh{α:Sort u}{a b c d:α}(h:a=b)(k:d=c)(e:b=c):a=d:=h.trans (e.trans k.symm)
abbrev l0(P:Params):List Obj:=(tw13894225608423057668 P).append (tw17531079430653816501 P)
abbrev p0(P:Params):List Obj:=(tw1912701158020654693 P).append ((tw2188347355606102534 P).append ((tw16368670287772101220 P).append ((tw14842115654739255404 P).append (tw4717311838995323452 P))))
abbrev l2(P:Params):List Obj:=(tw13809737476558091540 P).append ((tw2367299412457286945 P).append ((p0 P).append (tw594758545415977400 P)))
abbrev p1(P:Params):List Obj:=(p0 P).append ((tw10009084784789568687 P).append ((tw5084553986333570498 P).append ((tw16641277437810104112 P).append ((tw11875653558476324687 P).append ((tw1672153094372761355 P).append ((tw4580522010931877059 P).append (tw15163288008780518816 P)))))))
abbrev l3(P:Params):List Obj:=(tw10895325593200808953 P).append ((tw10037743213843438893 P).append ((p1 P).append (tw2560371371167247513 P)))
abbrev p2(P:Params):List Obj:=(p1 P).append (tw17755462387555777923 P)
abbrev l4(P:Params):List Obj:=(tw13463505119322665063 P).append ((tw18077194039007663117 P).append ((p2 P).append (tw6492967895434240573 P)))
abbrev p3(P:Params):List Obj:=(p1 P).append ((tw12708430989920435073 P).append (tw3132545959879029114 P))
abbrev l5(P:Params):List Obj:=(tw537001028611820367 P).append ((tw9833210585337712870 P).append ((p3 P).append (tw15893686080707579532 P)))
abbrev p4(P:Params):List Obj:=(p3 P).append ((tw9051403873925241803 P).append ((tw9532798600492905429 P).append (tw13540884194310252285 P)))
abbrev l6(P:Params):List Obj:=(tw12419440788177488941 P).append ((tw13144694907161067814 P).append ((p4 P).append (tw7924019476267374970 P)))
abbrev p5(P:Params):List Obj:=(p4 P).append ((tw13403271955525184085 P).append (tw9008512798899243008 P))
abbrev l7(P:Params):List Obj:=(tw4163898066171597766 P).append ((tw108614505241798827 P).append ((p5 P).append (tw5233117687303994960 P)))
abbrev p6(P:Params):List Obj:=(p4 P).append ((tw3498231505995959436 P).append ((tw9008512798899243008 P).append ((tw11379478403280837710 P).append ((tw1829372832393830862 P).append ((tw15315517357904613441 P).append (tw464002682377336327 P))))))
abbrev l8(P:Params):List Obj:=(tw15952828016916965751 P).append ((tw15380438544845262330 P).append ((p6 P).append (tw9818214866579459264 P)))
abbrev p7(P:Params):List Obj:=(p6 P).append ((tw14515330622082756866 P).append ((tw14785798428834493632 P).append ((tw18201935550050738069 P).append ((tw10454839870730503995 P).append ((tw5571871322767964819 P).append (tw15018400351400277463 P))))))
abbrev l9(P:Params):List Obj:=(tw12500792342951176350 P).append ((tw13796877066481274120 P).append ((p7 P).append (tw11561923852052835483 P)))
abbrev p8(P:Params):List Obj:=(p4 P).append ((tw4093087934762282484 P).append ((tw9008512798899243008 P).append ((tw11379478403280837710 P).append ((tw1829372832393830862 P).append ((tw15315517357904613441 P).append ((tw464002682377336327 P).append ((tw14515330622082756866 P).append ((tw14785798428834493632 P).append ((tw18201935550050738069 P).append ((tw10454839870730503995 P).append ((tw5571871322767964819 P).append ((tw15018400351400277463 P).append ((tw17158561351216856475 P).append ((tw9474750161309284266 P).append ((tw3358886378142609072 P).append (tw8941747231313380785 P))))))))))))))))
abbrev l10(P:Params):List Obj:=(tw6372914150048047727 P).append ((tw5599453077622544939 P).append ((p8 P).append (tw16960971988522890112 P)))
abbrev p9(P:Params):List Obj:=(p4 P).append ((tw9060986387787648095 P).append ((tw9008512798899243008 P).append ((tw11379478403280837710 P).append ((tw1829372832393830862 P).append ((tw15315517357904613441 P).append ((tw464002682377336327 P).append ((tw14515330622082756866 P).append ((tw14785798428834493632 P).append ((tw18201935550050738069 P).append ((tw10454839870730503995 P).append ((tw5571871322767964819 P).append ((tw15018400351400277463 P).append ((tw17158561351216856475 P).append ((tw9474750161309284266 P).append ((tw3358886378142609072 P).append ((tw8941747231313380785 P).append ((tw10640993332368450643 P).append ((tw2076947277569861509 P).append (tw16153011758492227516 P)))))))))))))))))))
abbrev l11(P:Params):List Obj:=(tw9734856250973436408 P).append ((tw13209480288670547452 P).append ((p9 P).append (tw8033849128084160129 P)))
abbrev p10(P:Params):List Obj:=(p4 P).append ((tw6965762709701770725 P).append ((tw9008512798899243008 P).append ((tw11379478403280837710 P).append ((tw1829372832393830862 P).append ((tw15315517357904613441 P).append ((tw464002682377336327 P).append ((tw14515330622082756866 P).append ((tw14785798428834493632 P).append ((tw18201935550050738069 P).append ((tw10454839870730503995 P).append ((tw5571871322767964819 P).append ((tw15018400351400277463 P).append ((tw17158561351216856475 P).append ((tw9474750161309284266 P).append ((tw3358886378142609072 P).append ((tw8941747231313380785 P).append ((tw10640993332368450643 P).append ((tw2076947277569861509 P).append ((tw16153011758492227516 P).append ((tw16016346169568949699 P).append ((tw14270126000233499356 P).append ((tw10363545484314680584 P).append (tw2820700192391282317 P)))))))))))))))))))))))
abbrev l12(P:Params):List Obj:=(tw4717618129690560777 P).append ((tw5142918000809617091 P).append ((p10 P).append (tw4921466790895433167 P)))
abbrev p11(P:Params):List Obj:=(p10 P).append ((tw11567404525853645757 P).append ((tw5384759930327262064 P).append ((tw17778575395298230677 P).append ((tw8315970326015147211 P).append ((tw13628990760043787106 P).append (tw13714916238449827989 P))))))
abbrev l13(P:Params):List Obj:=(tw6844448032589968640 P).append ((tw5329898735092892688 P).append ((p11 P).append (tw16201271678488439504 P)))
abbrev l14(P:Params):List Obj:=(tw10902408512176258811 P).append ((tw8870508327045946271 P).append ((tw1912701158020654693 P).append ((tw2188347355606102534 P).append ((tw16368670287772101220 P).append ((tw14842115654739255404 P).append ((tw4717311838995323452 P).append ((tw10009084784789568687 P).append ((tw5084553986333570498 P).append ((tw16641277437810104112 P).append ((tw11875653558476324687 P).append ((tw1672153094372761355 P).append ((tw4580522010931877059 P).append ((tw15163288008780518816 P).append ((tw12708430989920435073 P).append ((tw3132545959879029114 P).append ((tw9051403873925241803 P).append ((tw9532798600492905429 P).append ((tw13540884194310252285 P).append ((tw6965762709701770725 P).append ((tw9008512798899243008 P).append ((tw11379478403280837710 P).append ((tw1829372832393830862 P).append ((tw15315517357904613441 P).append ((tw464002682377336327 P).append ((tw14515330622082756866 P).append ((tw14785798428834493632 P).append ((tw18201935550050738069 P).append ((tw10454839870730503995 P).append ((tw5571871322767964819 P).append ((tw15018400351400277463 P).append ((tw17158561351216856475 P).append ((tw9474750161309284266 P).append ((tw3358886378142609072 P).append ((tw8941747231313380785 P).append ((tw10640993332368450643 P).append ((tw2076947277569861509 P).append ((tw16153011758492227516 P).append ((tw16016346169568949699 P).append ((tw14270126000233499356 P).append ((tw10363545484314680584 P).append ((tw2820700192391282317 P).append ((tw11567404525853645757 P).append ((tw5384759930327262064 P).append ((tw17778575395298230677 P).append ((tw8315970326015147211 P).append ((tw13628990760043787106 P).append ((tw13714916238449827989 P).append ((tw10616901400630677076 P).append (tw13664659617275481330 P)))))))))))))))))))))))))))))))))))))))))))))))))
abbrev env:Env:={scope:=(pw_basehouse_k25_whole_there_and_back).main.scope,locals:=mainNs,globals:=mainNs,cells:=[],code:=Value.ref 13,frame:=some 14}
abbrev G0:List Stmt:=[top 0,top 1,top 2,top 3,top 4,top 5,top 6,top 7,top 8,top 9,top 10,top 11,top 12,top 13]
abbrev G1:List Stmt:=[top 14,top 15,top 16,top 17,top 18,top 19,top 20,top 21,top 22,top 23,top 24,top 25]
abbrev G2:List Stmt:=[top 26]
abbrev G3:List Stmt:=[top 27,top 28]
abbrev G4:List Stmt:=[top 29]
abbrev G5:List Stmt:=[top 30]
abbrev G6:List Stmt:=[top 31,top 32,top 33,top 34,top 35,top 36]
abbrev G7:List Stmt:=[top 37,top 38,top 39,top 40,top 41,top 42,top 43,top 44,top 45,top 46,top 47,top 48,top 49,top 50]
abbrev G8:List Stmt:=[top 51,top 52,top 53,top 54]
abbrev G9:List Stmt:=[top 55,top 56,top 57,top 58,top 59,top 60]
abbrev G10:List Stmt:=[top 61,top 62,top 63,top 64,top 65]
abbrev G11:List Stmt:=[top 66,top 67,top 68,top 69,top 70,top 71,top 72,top 73,top 74,top 75,top 76,top 77,top 78]
abbrev G12:List Stmt:=[top 79,top 80]
abbrev B0:List Stmt:=G0++(G1++(G2++(G3++(G4++(G5++(G6++(G7++(G8++(G9++(G10++(G11++(G12++([])))))))))))))
abbrev c0:Code:= .body B0 env
abbrev f0:List Frame:=[topFrame ⟨0,0,0,0⟩]
def L0:World->OsState->Option (Shared×Thread):=λw os=>topGo treeTable pw_basehouse_k25_whole_there_and_back w 11 (some (Value.ref 6)) 12 ⟨boot_heap w.params,⟨[]⟩,boot_drawn,boot_toks,os⟩ (topStub pw_basehouse_k25_whole_there_and_back)
def M0:World->OsState->Option (Shared×Thread):=λw os=>some (⟨⟨⟨l0 w.params⟩,{}⟩,⟨[]⟩,{},187,os⟩,⟨denote treeTable c0,c0,⟨0,0,0,0⟩,f0⟩)
theorem yL0:((λ_=>true) L0&&(λ_=>true) M0)=true:=by k_qdec
theorem qL0:L0=M0:=qh te4453942571644881324 te7285866895703208684 (by kernel_rfl)
def L1:World->OsState->Option (Flow×Shared×Code×Pos):=λw os=>segRun treeTable pw_basehouse_k25_whole_there_and_back w 11 (some (Value.ref 6)) 1 1 ⟨⟨⟨l0 w.params⟩,{}⟩,⟨[]⟩,{},187,os⟩ (blockOf B0 env c0 ⟨0,0,0,0⟩ f0)
def M1:World->OsState->Option (Flow×Shared×Code×Pos):=λw os=>some (.next,(SharedT.mk (mkT 12 (l0 w.params)) 15 {} ⟨[]⟩ {} 187 os).abs,c0,⟨0,0,0,0⟩)
theorem yL1:((λ_=>true) L1&&(λ_=>true) M1)=true:=by k_qdec
theorem qL1:L1=M1:=qh te6387051279210280424 te10385057629971820802 (by kernel_rfl)
def L2:World->OsState->Option (Flow×SharedT×Code×Pos):=λw os=>segRunT treeTable pw_basehouse_k25_whole_there_and_back w 11 (some (Value.ref 6)) 1 374 (SharedT.mk (mkT 12 (l0 w.params)) 15 {} ⟨[]⟩ {} 187 os) (piecesOf G0 env c0 ⟨0,0,0,0⟩ f0)
def M2:World->OsState->Option (Flow×SharedT×Code×Pos):=λw os=>some (.next,(SharedT.mk (mkT 12 (l2 w.params)) 93 {} ⟨[]⟩ {} 288 os),c0,⟨39,0,43,16⟩)
theorem yL2:((λ_=>true) L2&&(λ_=>true) M2)=true:=by k_qdec
theorem qL2:L2=M2:=qh te9171306275460833034 te1760210624324108040 (by kernel_rfl)
def L3:World->OsState->Option (Flow×SharedT×Code×Pos):=λw os=>segRunT treeTable pw_basehouse_k25_whole_there_and_back w 11 (some (Value.ref 6)) 1 366 (SharedT.mk (mkT 12 (l2 w.params)) 93 {} ⟨[]⟩ {} 288 os) (piecesOf G1 env c0 ⟨39,0,43,16⟩ f0)
def M3:World->OsState->Option (Flow×SharedT×Code×Pos):=λw os=>some (.next,(SharedT.mk (mkT 12 (l3 w.params)) 170 {} ⟨[]⟩ {} 404 os),c0,⟨124,0,124,8⟩)
theorem yL3:((λ_=>true) L3&&(λ_=>true) M3)=true:=by k_qdec
theorem qL3:L3=M3:=qh te6196771281854559479 te2789812635788466785 (by kernel_rfl)
def L4:World->OsState->Option (Flow×SharedT×Code×Pos):=λw os=>segRunT treeTable pw_basehouse_k25_whole_there_and_back w 11 (some (Value.ref 6)) 1 187 (SharedT.mk (mkT 12 (l3 w.params)) 170 {} ⟨[]⟩ {} 404 os) (piecesOf G2 env c0 ⟨124,0,124,8⟩ f0)
def M4:World->OsState->Option (Flow×SharedT×Code×Pos):=λw os=>some (.next,(SharedT.mk (mkT 12 (l4 w.params)) 183 {} ⟨[]⟩ {} 422 os),c0,⟨125,0,126,8⟩)
theorem yL4:((λ_=>true) L4&&(λ_=>true) M4)=true:=by k_qdec
theorem qL4:L4=M4:=qh te18063231807419426806 te4793386113839911487 (by kernel_rfl)
def L5:World->OsState->Option (Flow×SharedT×Code×Pos):=λw os=>segRunT treeTable pw_basehouse_k25_whole_there_and_back w 11 (some (Value.ref 6)) 1 259 (SharedT.mk (mkT 12 (l4 w.params)) 183 {} ⟨[]⟩ {} 422 os) (piecesOf G3 env c0 ⟨125,0,126,8⟩ f0)
def M5:World->OsState->Option (Flow×SharedT×Code×Pos):=λw os=>some (.next,(SharedT.mk (mkT 12 (l5 w.params)) 202 {} ⟨[]⟩ {} 453 os),c0,⟨134,0,134,8⟩)
theorem yL5:((λ_=>true) L5&&(λ_=>true) M5)=true:=by k_qdec
theorem qL5:L5=M5:=qh te7289443652863241282 te11685339832826840484 (by kernel_rfl)
def L6:World->OsState->Option (Flow×SharedT×Code×Pos):=λw os=>segRunT treeTable pw_basehouse_k25_whole_there_and_back w 11 (some (Value.ref 6)) 1 286 (SharedT.mk (mkT 12 (l5 w.params)) 202 {} ⟨[]⟩ {} 453 os) (piecesOf G4 env c0 ⟨134,0,134,8⟩ f0)
def M6:World->OsState->Option (Flow×SharedT×Code×Pos):=λw os=>some (.next,(SharedT.mk (mkT 12 (l6 w.params)) 237 {} ⟨[]⟩ {} 497 os),c0,⟨135,0,144,32⟩)
theorem yL6:((λ_=>true) L6&&(λ_=>true) M6)=true:=by k_qdec
theorem qL6:L6=M6:=qh te11518265509499319272 te9035903999391717805 (by kernel_rfl)
def L7:World->OsState->Option (Flow×SharedT×Code×Pos):=λw os=>segRunT treeTable pw_basehouse_k25_whole_there_and_back w 11 (some (Value.ref 6)) 1 279 (SharedT.mk (mkT 12 (l6 w.params)) 237 {} ⟨[]⟩ {} 497 os) (piecesOf G5 env c0 ⟨135,0,144,32⟩ f0)
def M7:World->OsState->Option (Flow×SharedT×Code×Pos):=λw os=>some (.next,(SharedT.mk (mkT 12 (l7 w.params)) 263 {} ⟨[]⟩ {} 531 os),c0,⟨145,0,152,38⟩)
theorem yL7:((λ_=>true) L7&&(λ_=>true) M7)=true:=by k_qdec
theorem qL7:L7=M7:=qh te9490284035958612641 te1675962113473143740 (by kernel_rfl)
def L8:World->OsState->Option (Flow×SharedT×Code×Pos):=λw os=>segRunT treeTable pw_basehouse_k25_whole_there_and_back w 11 (some (Value.ref 6)) 1 391 (SharedT.mk (mkT 12 (l7 w.params)) 263 {} ⟨[]⟩ {} 531 os) (piecesOf G6 env c0 ⟨145,0,152,38⟩ f0)
def M8:World->OsState->Option (Flow×SharedT×Code×Pos):=λw os=>some (.next,(SharedT.mk (mkT 12 (l8 w.params)) 309 {} ⟨[]⟩ {} 590 os),c0,⟨168,0,170,56⟩)
theorem yL8:((λ_=>true) L8&&(λ_=>true) M8)=true:=by k_qdec
theorem qL8:L8=M8:=qh te7116466485190837356 te8127398886225657409 (by kernel_rfl)
def L9:World->OsState->Option (Flow×SharedT×Code×Pos):=λw os=>segRunT treeTable pw_basehouse_k25_whole_there_and_back w 11 (some (Value.ref 6)) 1 362 (SharedT.mk (mkT 12 (l8 w.params)) 309 {} ⟨[]⟩ {} 590 os) (piecesOf G7 env c0 ⟨168,0,170,56⟩ f0)
def M9:World->OsState->Option (Flow×SharedT×Code×Pos):=λw os=>some (.next,(SharedT.mk (mkT 12 (l9 w.params)) 380 {} ⟨[]⟩ {} 678 os),c0,⟨214,0,217,59⟩)
theorem yL9:((λ_=>true) L9&&(λ_=>true) M9)=true:=by k_qdec
theorem qL9:L9=M9:=qh te16134767483146388640 te1028310481701075085 (by kernel_rfl)
def L10:World->OsState->Option (Flow×SharedT×Code×Pos):=λw os=>segRunT treeTable pw_basehouse_k25_whole_there_and_back w 11 (some (Value.ref 6)) 1 376 (SharedT.mk (mkT 12 (l9 w.params)) 380 {} ⟨[]⟩ {} 678 os) (piecesOf G8 env c0 ⟨214,0,217,59⟩ f0)
def M10:World->OsState->Option (Flow×SharedT×Code×Pos):=λw os=>some (.next,(SharedT.mk (mkT 12 (l10 w.params)) 423 {} ⟨[]⟩ {} 738 os),c0,⟨238,0,242,15⟩)
theorem yL10:((λ_=>true) L10&&(λ_=>true) M10)=true:=by k_qdec
theorem qL10:L10=M10:=qh te8817224096938630680 te4223366021984358877 (by kernel_rfl)
def L11:World->OsState->Option (Flow×SharedT×Code×Pos):=λw os=>segRunT treeTable pw_basehouse_k25_whole_there_and_back w 11 (some (Value.ref 6)) 1 367 (SharedT.mk (mkT 12 (l10 w.params)) 423 {} ⟨[]⟩ {} 738 os) (piecesOf G9 env c0 ⟨238,0,242,15⟩ f0)
def M11:World->OsState->Option (Flow×SharedT×Code×Pos):=λw os=>some (.next,(SharedT.mk (mkT 12 (l11 w.params)) 460 {} ⟨[]⟩ {} 790 os),c0,⟨277,0,277,8⟩)
theorem yL11:((λ_=>true) L11&&(λ_=>true) M11)=true:=by k_qdec
theorem qL11:L11=M11:=qh te6997996825916537589 te5514423481259190630 (by kernel_rfl)
def L12:World->OsState->Option (Flow×SharedT×Code×Pos):=λw os=>segRunT treeTable pw_basehouse_k25_whole_there_and_back w 11 (some (Value.ref 6)) 1 380 (SharedT.mk (mkT 12 (l11 w.params)) 460 {} ⟨[]⟩ {} 790 os) (piecesOf G10 env c0 ⟨277,0,277,8⟩ f0)
def M12:World->OsState->Option (Flow×SharedT×Code×Pos):=λw os=>some (.next,(SharedT.mk (mkT 12 (l12 w.params)) 507 {} ⟨[]⟩ {} 852 os),c0,⟨298,0,304,15⟩)
theorem yL12:((λ_=>true) L12&&(λ_=>true) M12)=true:=by k_qdec
theorem qL12:L12=M12:=qh te15962966748412412817 te13323495729323226626 (by kernel_rfl)
def L13:World->OsState->Option (Flow×SharedT×Code×Pos):=λw os=>segRunT treeTable pw_basehouse_k25_whole_there_and_back w 11 (some (Value.ref 6)) 1 378 (SharedT.mk (mkT 12 (l12 w.params)) 507 {} ⟨[]⟩ {} 852 os) (piecesOf G11 env c0 ⟨298,0,304,15⟩ f0)
def M13:World->OsState->Option (Flow×SharedT×Code×Pos):=λw os=>some (.next,(SharedT.mk (mkT 12 (l13 w.params)) 584 {} ⟨[]⟩ {} 957 os),c0,⟨403,0,408,105⟩)
theorem yL13:((λ_=>true) L13&&(λ_=>true) M13)=true:=by k_qdec
theorem qL13:L13=M13:=qh te2890041658171991945 te10998199075917429995 (by kernel_rfl)
def L14:World->OsState->Option (Flow×SharedT×Code×Pos):=λw os=>segRunT treeTable pw_basehouse_k25_whole_there_and_back w 11 (some (Value.ref 6)) 1 53 (SharedT.mk (mkT 12 (l13 w.params)) 584 {} ⟨[]⟩ {} 957 os) (piecesOf G12 env c0 ⟨403,0,408,105⟩ f0)
def M14:World->OsState->Option (Flow×SharedT×Code×Pos):=λw os=>some (.next,(SharedT.mk (mkT 12 (l14 w.params)) 594 {} ⟨[]⟩ {} 969 os),c0,⟨419,0,444,146⟩)
theorem yL14:((λ_=>true) L14&&(λ_=>true) M14)=true:=by k_qdec
theorem qL14:L14=M14:=qh te10746442050511218662 te11908896743509118924 (by kernel_rfl)
def L15:World->OsState->Option Shared:=λw os=>topRun treeTable pw_basehouse_k25_whole_there_and_back w 11 (some (Value.ref 6)) 2 (SharedT.mk (mkT 12 (l14 w.params)) 594 {} ⟨[]⟩ {} 969 os).abs (restOf [] env c0 ⟨419,0,444,146⟩ f0)
def M15:World->OsState->Option Shared:=λw os=>some ⟨⟨⟨l14 w.params⟩,{}⟩,⟨[]⟩,{},969,os⟩
theorem yL15:((λ_=>true) L15&&(λ_=>true) M15)=true:=by k_qdec
theorem qL15:L15=M15:=qh te5489445385611010696 te16133989519156080739 (by kernel_rfl)
abbrev Hf(P:Params):Heap:=⟨⟨l14 P⟩,{}⟩
abbrev Mn:Nat:=12+(1+(374+(366+(187+(259+(286+(279+(391+(362+(376+(367+(380+(378+(53+(2)))))))))))))))
theorem rn(w:World)(os:OsState):topRun treeTable pw_basehouse_k25_whole_there_and_back w 11 (some (Value.ref 6)) Mn ⟨boot_heap w.params,⟨[]⟩,boot_drawn,boot_toks,os⟩ (topStub pw_basehouse_k25_whole_there_and_back)=some ⟨Hf w.params,⟨[]⟩,{},969,os⟩:=go_top (FJ (FJ qL0 w) os) (piece_block (FJ (FJ qL1 w) os) (Hz (HE (FJ (FJ qL2 w) os)) (Hz (HE (FJ (FJ qL3 w) os)) (Hz (HE (FJ (FJ qL4 w) os)) (Hz (HE (FJ (FJ qL5 w) os)) (Hz (HE (FJ (FJ qL6 w) os)) (Hz (HE (FJ (FJ qL7 w) os)) (Hz (HE (FJ (FJ qL8 w) os)) (Hz (HE (FJ (FJ qL9 w) os)) (Hz (HE (FJ (FJ qL10 w) os)) (Hz (HE (FJ (FJ qL11 w) os)) (Hz (HE (FJ (FJ qL12 w) os)) (Hz (HE (FJ (FJ qL13 w) os)) (Hz (HE (FJ (FJ qL14 w) os)) (FJ (FJ qL15 w) os)))))))))))))))
abbrev vw:Program:={(pw_basehouse_k25_whole_there_and_back)with main:={(pw_basehouse_k25_whole_there_and_back).main with body:=[top 1,top 2,top 3,top 4,top 5,top 6,top 7,top 9,top 10,top 11,top 12,top 13,top 14,top 15,top 16,top 17,top 18,top 19,top 20,top 21,top 22,top 23,top 24,top 26,top 27,top 29,top 30,top 31,top 33,top 34,top 35,top 36,top 37,top 38,top 39,top 40,top 41,top 42,top 43,top 44,top 45,top 46,top 47,top 48,top 50,top 51,top 53,top 54,top 55,top 56,top 57,top 59,top 61,top 63,top 64,top 65,top 66,top 67,top 68,top 69,top 70,top 71,top 72,top 73,top 74,top 75,top 76,top 77,top 78,top 79,top 80]}}
abbrev KF:Params->Frag:=λP=>(nat_lit 2,boot_o_2 P)::(nat_lit 3,o3v13 P)::(nat_lit 15,Y)::(nat_lit 17,o17)::(nat_lit 18,Y)::(nat_lit 20,o20)::(nat_lit 21,o21)::(nat_lit 22,Y)::(nat_lit 25,o25)::(nat_lit 26,o26)::(nat_lit 27,Y)::(nat_lit 29,o29)::(nat_lit 30,Y)::(nat_lit 32,o32)::(nat_lit 33,o33)::(nat_lit 34,Y)::(nat_lit 36,o36)::(nat_lit 37,Y)::(nat_lit 39,o39)::(nat_lit 40,o40)::(nat_lit 41,Y)::(nat_lit 44,o44)::(nat_lit 45,o45)::(nat_lit 46,Y)::(nat_lit 48,o48)::(nat_lit 49,Y)::(nat_lit 51,o51)::(nat_lit 52,o52)::(nat_lit 53,Y)::(nat_lit 55,o55)::(nat_lit 56,Y)::(nat_lit 58,o58)::(nat_lit 59,o59)::(nat_lit 60,Y)::(nat_lit 63,o63)::(nat_lit 64,o64)::(nat_lit 65,Y)::(nat_lit 67,o67)::(nat_lit 68,Y)::(nat_lit 70,o70)::(nat_lit 71,o71)::(nat_lit 72,Y)::(nat_lit 74,o74)::(nat_lit 75,Y)::(nat_lit 77,o77)::(nat_lit 78,o78)::(nat_lit 79,Y)::(nat_lit 81,o81)::(nat_lit 82,Y)::(nat_lit 84,o84)::(nat_lit 85,o85)::(nat_lit 86,Y)::(nat_lit 88,o88)::(nat_lit 89,Y)::(nat_lit 91,o91)::(nat_lit 92,o92)::(nat_lit 93,Y)::(nat_lit 95,o95)::(nat_lit 96,Y)::(nat_lit 98,o98)::(nat_lit 99,o99)::(nat_lit 100,Y)::(nat_lit 102,o102)::(nat_lit 103,Y)::(nat_lit 105,o105)::(nat_lit 106,o106)::(nat_lit 107,Y)::(nat_lit 109,o109)::(nat_lit 110,Y)::(nat_lit 112,o112)::(nat_lit 113,o113)::(nat_lit 114,Y)::(nat_lit 116,o116)::(nat_lit 117,Y)::(nat_lit 119,o119)::(nat_lit 120,o120)::(nat_lit 121,Y)::(nat_lit 123,o123)::(nat_lit 124,Y)::(nat_lit 126,o126)::(nat_lit 127,o127)::(nat_lit 128,Y)::(nat_lit 130,o130)::(nat_lit 131,Y)::(nat_lit 133,o133)::(nat_lit 134,o134)::(nat_lit 135,Y)::(nat_lit 137,o137)::(nat_lit 138,Y)::(nat_lit 140,o140)::(nat_lit 141,o141)::(nat_lit 142,Y)::(nat_lit 144,o144)::(nat_lit 145,Y)::(nat_lit 147,o147)::(nat_lit 148,o148)::(nat_lit 149,Y)::(nat_lit 151,o151)::(nat_lit 152,Y)::(nat_lit 154,o154)::(nat_lit 155,o155)::(nat_lit 156,Y)::(nat_lit 158,o158)::(nat_lit 159,Y)::(nat_lit 161,o161)::(nat_lit 162,o162)::(nat_lit 163,Y)::(nat_lit 165,o165)::(nat_lit 166,Y)::(nat_lit 168,o168)::(nat_lit 169,o169)::(nat_lit 170,o170)::(nat_lit 177,Y)::(nat_lit 178,o178 P)::(nat_lit 179,o179v1)::(nat_lit 180,o180)::(nat_lit 183,o183)::(nat_lit 190,Y)::(nat_lit 192,o192)::(nat_lit 193,Y)::(nat_lit 195,o195)::(nat_lit 196,o196)::(nat_lit 197,o197)::(nat_lit 198,o198 P)::(nat_lit 199,o199)::(nat_lit 209,Y)::(nat_lit 211,o211)::(nat_lit 212,Y)::(nat_lit 214,o214)::(nat_lit 215,o215)::(nat_lit 216,Y)::(nat_lit 218,o218)::(nat_lit 219,Y)::(nat_lit 221,o221)::(nat_lit 222,o222)::(nat_lit 223,Y)::(nat_lit 225,o225)::(nat_lit 226,Y)::(nat_lit 228,o228)::(nat_lit 229,o229)::(nat_lit 230,o230)::(nat_lit 231,o231 P)::(nat_lit 232,o232v5)::(nat_lit 233,o233)::(nat_lit 234,o234)::(nat_lit 237,o237)::(nat_lit 244,Y)::(nat_lit 246,o246)::(nat_lit 247,Y)::(nat_lit 249,o249)::(nat_lit 250,o250)::(nat_lit 251,Y)::(nat_lit 253,o253)::(nat_lit 254,Y)::(nat_lit 256,o256)::(nat_lit 257,o257)::(nat_lit 258,o258)::(nat_lit 259,o259 P)::(nat_lit 260,o260)::(nat_lit 263,o263)::(nat_lit 270,Y)::(nat_lit 272,o272)::(nat_lit 273,Y)::(nat_lit 275,o275)::(nat_lit 276,o276)::(nat_lit 277,Y)::(nat_lit 280,o280)::(nat_lit 281,o281)::(nat_lit 282,o282)::(nat_lit 283,o283 P)::(nat_lit 284,o284)::(nat_lit 287,Y)::(nat_lit 289,o289)::(nat_lit 290,Y)::(nat_lit 292,o292)::(nat_lit 293,o293)::(nat_lit 294,Y)::(nat_lit 297,o297)::(nat_lit 298,o298)::(nat_lit 299,Y)::(nat_lit 302,o302)::(nat_lit 303,o303)::(nat_lit 304,Y)::(nat_lit 307,o307)::(nat_lit 308,o308)::(nat_lit 309,Y)::(nat_lit 312,o312)::(nat_lit 313,o313)::(nat_lit 314,Y)::(nat_lit 317,o317)::(nat_lit 318,o318)::(nat_lit 319,Y)::(nat_lit 322,o322)::(nat_lit 323,o323)::(nat_lit 324,Y)::(nat_lit 327,o327)::(nat_lit 328,o328)::(nat_lit 329,Y)::(nat_lit 331,o331)::(nat_lit 332,Y)::(nat_lit 334,o334)::(nat_lit 335,o335)::(nat_lit 336,Y)::(nat_lit 338,o338)::(nat_lit 339,Y)::(nat_lit 341,o341)::(nat_lit 342,o342)::(nat_lit 343,Y)::(nat_lit 346,o346)::(nat_lit 347,o347)::(nat_lit 348,Y)::(nat_lit 350,o350)::(nat_lit 351,Y)::(nat_lit 353,o353)::(nat_lit 354,o354)::(nat_lit 355,Y)::(nat_lit 358,o358)::(nat_lit 359,o359)::(nat_lit 360,Y)::(nat_lit 363,o363)::(nat_lit 364,o364)::(nat_lit 365,Y)::(nat_lit 368,o368)::(nat_lit 369,o369)::(nat_lit 370,Y)::(nat_lit 373,o373)::(nat_lit 374,o374)::(nat_lit 375,Y)::(nat_lit 378,o378)::(nat_lit 379,o379)::(nat_lit 380,o380)::(nat_lit 387,Y)::(nat_lit 390,o390)::(nat_lit 391,o391)::(nat_lit 392,Y)::(nat_lit 394,o394)::(nat_lit 395,Y)::(nat_lit 397,o397)::(nat_lit 398,o398)::(nat_lit 399,Y)::(nat_lit 401,o401)::(nat_lit 402,Y)::(nat_lit 404,o404)::(nat_lit 405,o405)::(nat_lit 406,o406)::(nat_lit 407,o407 P)::(nat_lit 408,o408)::(nat_lit 411,Y)::(nat_lit 414,o414)::(nat_lit 415,o415)::(nat_lit 416,Y)::(nat_lit 418,o418)::(nat_lit 419,Y)::(nat_lit 421,o421)::(nat_lit 422,o422)::(nat_lit 423,Y)::(nat_lit 426,o426)::(nat_lit 427,o427)::(nat_lit 428,Y)::(nat_lit 431,o431)::(nat_lit 432,o432)::(nat_lit 433,Y)::(nat_lit 436,o436)::(nat_lit 437,o437)::(nat_lit 438,o438)::(nat_lit 445,Y)::(nat_lit 448,o448)::(nat_lit 449,o449)::(nat_lit 450,Y)::(nat_lit 453,o453)::(nat_lit 454,o454)::(nat_lit 455,o455)::(nat_lit 456,o456 P)::(nat_lit 457,o457)::(nat_lit 460,o460)::(nat_lit 467,Y)::(nat_lit 469,o469)::(nat_lit 470,Y)::(nat_lit 472,o472)::(nat_lit 473,o473)::(nat_lit 474,Y)::(nat_lit 476,o476)::(nat_lit 477,Y)::(nat_lit 479,o479)::(nat_lit 480,o480)::(nat_lit 481,o481)::(nat_lit 482,o482 P)::(nat_lit 483,o483)::(nat_lit 486,Y)::(nat_lit 488,o488)::(nat_lit 489,Y)::(nat_lit 491,o491)::(nat_lit 492,o492)::(nat_lit 493,Y)::(nat_lit 495,o495)::(nat_lit 496,Y)::(nat_lit 498,o498)::(nat_lit 499,o499)::(nat_lit 500,Y)::(nat_lit 502,o502)::(nat_lit 503,Y)::(nat_lit 505,o505)::(nat_lit 506,o506)::(nat_lit 507,Y)::(nat_lit 510,o510)::(nat_lit 511,o511)::(nat_lit 512,Y)::(nat_lit 515,o515)::(nat_lit 516,o516)::(nat_lit 517,Y)::(nat_lit 519,o519)::(nat_lit 520,Y)::(nat_lit 522,o522)::(nat_lit 523,o523)::(nat_lit 524,Y)::(nat_lit 526,o526)::(nat_lit 527,Y)::(nat_lit 529,o529)::(nat_lit 530,o530)::(nat_lit 531,Y)::(nat_lit 534,o534)::(nat_lit 535,o535)::(nat_lit 536,Y)::(nat_lit 538,o538)::(nat_lit 539,Y)::(nat_lit 541,o541)::(nat_lit 542,o542)::(nat_lit 543,Y)::(nat_lit 545,o545)::(nat_lit 546,Y)::(nat_lit 548,o548)::(nat_lit 549,o549)::(nat_lit 550,Y)::(nat_lit 552,o552)::(nat_lit 553,Y)::(nat_lit 555,o555)::(nat_lit 556,o556)::(nat_lit 557,Y)::(nat_lit 560,o560)::(nat_lit 561,o561)::(nat_lit 562,Y)::(nat_lit 565,o565)::(nat_lit 566,o566)::(nat_lit 567,Y)::(nat_lit 569,o569)::(nat_lit 570,Y)::(nat_lit 572,o572)::(nat_lit 573,o573)::(nat_lit 574,Y)::(nat_lit 577,o577)::(nat_lit 578,o578)::(nat_lit 579,Y)::(nat_lit 582,o582)::(nat_lit 583,o583)::(nat_lit 584,Y)::(nat_lit 587,o587)::(nat_lit 588,o588)::(nat_lit 589,Y)::(nat_lit 592,o592)::(nat_lit 593,o593)::[]
abbrev aL:List Addr:=2::3::15::17::18::20::21::22::25::26::27::29::30::32::33::34::36::37::39::40::41::44::45::46::48::49::51::52::53::55::56::58::59::60::63::64::65::67::68::70::71::72::74::75::77::78::79::81::82::84::85::86::88::89::91::92::93::95::96::98::99::100::102::103::105::106::107::109::110::112::113::114::116::117::119::120::121::123::124::126::127::128::130::131::133::134::135::137::138::140::141::142::144::145::147::148::149::151::152::154::155::156::158::159::161::162::163::165::166::168::169::170::177::178::179::180::183::190::192::193::195::196::197::198::199::209::211::212::214::215::216::218::219::221::222::223::225::226::228::229::230::231::232::233::234::237::244::246::247::249::250::251::253::254::256::257::258::259::260::263::270::272::273::275::276::277::280::281::282::283::284::287::289::290::292::293::294::297::298::299::302::303::304::307::308::309::312::313::314::317::318::319::322::323::324::327::328::329::331::332::334::335::336::338::339::341::342::343::346::347::348::350::351::353::354::355::358::359::360::363::364::365::368::369::370::373::374::375::378::379::380::387::390::391::392::394::395::397::398::399::401::402::404::405::406::407::408::411::414::415::416::418::419::421::422::423::426::427::428::431::432::433::436::437::438::445::448::449::450::453::454::455::456::457::460::467::469::470::472::473::474::476::477::479::480::481::482::483::486::488::489::491::492::493::495::496::498::499::500::502::503::505::506::507::510::511::512::515::516::517::519::520::522::523::524::526::527::529::530::531::534::535::536::538::539::541::542::543::545::546::548::549::550::552::553::555::556::557::560::561::562::565::566::567::569::570::572::573::574::577::578::579::582::583::584::587::588::589::592::593::[]
theorem eK(P:Params):aL=(KF P).map (·.1):=by kernel_rfl
abbrev HK:Hook:=kHook KF aL eK
abbrev lsN:List Str:=[]
abbrev rw0:RowW:=OpenRow.toRowW (OpenLaw.row rw_basehouse_k25_whole_there_and_back)
abbrev Xt(s:Shared):Bool:=xlAt vw [] s&&recOk (RowW.records rw0) s
def Lz:World->OsState->Bool×Nat×Option Value:=λw os=>((boot_heap w.params).isNs mainGlobals&&(⟨[]⟩:Array GenState).size==0,(boot_heap w.params).objs.size,(boot_heap w.params).nsMap mainGlobals "__annotations__")
def Mz:World->OsState->Bool×Nat×Option Value:=λw os=>(true,11,(some (Value.ref 6)))
theorem yLz:((λ_=>true) Lz&&(λ_=>true) Mz)=true:=by k_qdec
theorem qLz:Lz=Mz:=Eq.trans te17831390912981975158 (by kernel_rfl:tw17831390912981975158=Mz)
def Ll:=λ(w:World) (os:OsState)=>((staticsOk (importedModules (pw_basehouse_k25_whole_there_and_back).main.body) (boot_heap w.params) (Hf w.params)&&namesBound pw_basehouse_k25_whole_there_and_back (Hf w.params)&&gensDone ⟨Hf w.params,⟨[]⟩,{},969,os⟩&&laidKept (boot_heap w.params) (Hf w.params)),openSeen vw lsN (importedModules (pw_basehouse_k25_whole_there_and_back).main.body) Xt true ⟨Hf w.params,⟨[]⟩,{},969,os⟩,aL.map (Hf w.params).get?)
def Ml:=λ(w:World) (_:OsState)=>(true,openGood vw lsN,(KF w.params).map λp=>some p.2)
theorem yLl:((λ_=>true) Ll&&(λ_=>true) Ml)=true:=by k_qdec
abbrev tL:=tw17448342430068451512
abbrev tv:=tw7000725165481098050
theorem x0:(λw os=>(tL w os).1)=λw _=>true:=by kernel_rfl
theorem x1:(λw os=>(tL w os).2.1.1)=λw _=>expectedOf tv:=by kernel_rfl
theorem x2:(λw os=>(tL w os).2.1.2.1)=λw _=>bltViewBooted:=by kernel_rfl
theorem x3:(λw os=>(tL w os).2.1.2.2.1)=λw _=>true:=by kernel_rfl
theorem x4:(λw os=>(tL w os).2.1.2.2.2.1)=λw _=>true:=by kernel_rfl
theorem x5:(λw os=>(tL w os).2.1.2.2.2.2.1)=λw _=>pinGoodD (drecsOf tv):=by kernel_rfl
theorem x6:(λw os=>(tL w os).2.1.2.2.2.2.2.1)=λw _=>plainGoodE tv (looseW tv lsN):=by kernel_rfl
theorem x7:(λw os=>(tL w os).2.1.2.2.2.2.2.2.1)=λw _=>plainGoodD tv lsN:=by kernel_rfl
theorem x8:(λw os=>(tL w os).2.1.2.2.2.2.2.2.2.1)=λw _=>wideGood tv:=by kernel_rfl
theorem x9:(λw os=>(tL w os).2.1.2.2.2.2.2.2.2.2)=λw _=>clsGoodW tv lsN:=by kernel_rfl
theorem x10:(λw os=>(tL w os).2.2)=λw _=>(KF w.params).map λp=>some p.2:=by kernel_rfl
theorem xx{A B C D E F G H I J K:Type}{x:A× (B×C×D×E×F×G×H×I×J)×K}{a b c d e f g h i j k}(y0:x.1=a)(y1:x.2.1.1=b)(y2:x.2.1.2.1=c)(y3:x.2.1.2.2.1=d)(y4:x.2.1.2.2.2.1=e)(y5:x.2.1.2.2.2.2.1=f)(y6:x.2.1.2.2.2.2.2.1=g)(y7:x.2.1.2.2.2.2.2.2.1=h)(y8:x.2.1.2.2.2.2.2.2.2.1=i)(y9:x.2.1.2.2.2.2.2.2.2.2=j)(y10:x.2.2=k):x=(a,(b,c,d,e,f,g,h,i,j),k):=by obtain⟨_,⟨_,_,_,_,_,_,_,_,_⟩,_⟩:=x;cases y0;cases y1;cases y2;cases y3;cases y4;cases y5;cases y6;cases y7;cases y8;cases y9;cases y10;rfl
theorem qLl:Ll=Ml:=qh te17448342430068451512 te15266112935050528847 (funext λw=>funext λos=>xx (FJ (FJ x0 w) os) (FJ (FJ x1 w) os) (FJ (FJ x2 w) os) (FJ (FJ x3 w) os) (FJ (FJ x4 w) os) (FJ (FJ x5 w) os) (FJ (FJ x6 w) os) (FJ (FJ x7 w) os) (FJ (FJ x8 w) os) (FJ (FJ x9 w) os) (FJ (FJ x10 w) os))
theorem hl:LeftO pw_basehouse_k25_whole_there_and_back vw lsN Xt HK.obs HK.val 8216:=LeftO.of_pieces (m₀:=11) (ann:=(some (Value.ref 6))) (boot_open (by kernel_rfl) (by decide) (λs=>by kernel_rfl)) (λw=>FJ (FJ qLz w) default) rn (by decide+kernel) (λw=>FJ qLl w)
end
end Hd
open PySem PySem.W PyProof.Rows
set_option maxRecDepth 100000 in
set_option maxHeartbeats 0 in
theorem PySem.Challenge.cw_basehouse_k25_whole_there_and_back_holds : PySem.Challenge.rw_basehouse_k25_whole_there_and_back.Holds := by
 w_on;o_law
 refine holds_open (q:=Hd.vw) (loose:=Hd.lsN) (Xt:=Hd.Xt) (XP:=XL Hd.vw []) (Yf:=Hd.HK.obs) (Ya:=Hd.HK.val) (YP:=(kHook Hd.KF Hd.aL Hd.eK).says) (N:=8216) Hd.hl Hd.HK.of Hd.HK.keeps (λs e=>xl_of s (Bool.and_eq_true_iff.mp e).1) XL.keeps (by rfl) (by rfl) (by rfl) (λs e=>recFacts_of (Bool.and_eq_true_iff.mp e).2) (by rfl) (by first|assumption|decide+kernel) (by decide+kernel) ⟨rfl,rfl,rfl,rfl,rfl,by decide+kernel⟩ ?hw ?hc
 (case hw=>w_witness2)
 k_fill
 refine BhK.walk (l:=PySem.Challenge.rw_basehouse_k25_whole_there_and_back) rfl rfl (λw h Y=>PySem.W.kIn_of Y) ?F
 case F=>
  intro w mg fa h KX G hmg
  refine' BhK.all_mk KX G hmg ?p0 ?p1 ?p2 ?p3 ?p4 ?p5 ?p6 ?p7 ?p8 ?p9 ?p10 ?p11 ?p12 ?p13 ?p14 ?p15 ?p16 ?p17 ?p18 ?p19 ?p20 ?p21 ?p22 ?p23 ?p24 ?p25 ?p26 ?p27 ?p28 ?p29 ?p30 ?p31 ?p32 ?p33 ?p34 ?p35 ?p36 ?p37 ?p38 ?p39 ?p40 ?p41 ?p42 ?p43 ?p44 ?p45 ?p46 ?p47 ?p48 ?p49 ?p50 ?p51 ?p52 ?p53 ?p54 ?p55 ?p56 ?p57 ?p58 ?p59 ?p60 ?p61 ?p62 ?p63 ?p64 ?p65 ?p66 ?p67 ?p68 ?p69 ?p70 ?p71 ?p72 ?p73 ?p74 ?p75 ?p76 ?p77 ?p78 ?p79 ?p80 ?p81 ?p82 ?p83 ?p84 ?p85 ?p86 ?p87 ?p88 ?p89 ?p90 ?p91 ?p92 ?p93 ?p94 ?p95 ?p96 ?p97 ?p98 ?p99 ?p100 ?p101 ?p102 ?p103 ?p104 ?p105 ?p106 ?p107 ?p108 ?p109 ?p110 ?p111 ?p112 ?p113 ?p114 ?p115 ?p116 ?p117 ?p118 ?p119 ?p120 ?p121 ?p122 ?p123 ?p124 ?p125 ?p126 ?p127 ?p128 ?p129 ?p130 ?p131 ?p132 ?p133 ?p134 ?p135 ?p136 ?p137 ?p138 ?p139 ?p140 ?p141 ?p142 ?p143
  (case p0=>refine' BhK.HL.mk ?a0 ?b0 ?c0 ?d0 ?e0 ?f0 ?g0;(case a0=>k_is);all_goals k_is)
  (case p1=>refine' BhK.HL.mk ?a1 ?b1 ?c1 ?d1 ?e1 ?f1 ?g1;(case a1=>k_is);all_goals k_is)
  (case p2=>refine' BhK.HL.mk ?a2 ?b2 ?c2 ?d2 ?e2 ?f2 ?g2;(case a2=>k_is);all_goals k_is)
  (case p3=>refine' BhK.HL.mk ?a3 ?b3 ?c3 ?d3 ?e3 ?f3 ?g3;(case a3=>k_is);all_goals k_is)
  (case p4=>refine' BhK.HL.mk ?a4 ?b4 ?c4 ?d4 ?e4 ?f4 ?g4;(case a4=>k_is);all_goals k_is)
  (case p5=>refine' BhK.HL.mk ?a5 ?b5 ?c5 ?d5 ?e5 ?f5 ?g5;(case a5=>k_is);all_goals k_is)
  (case p6=>refine' BhK.HM.mk ?a6 ?i6 ?l6 ?c6 ?k6;(case a6=>k_is);(case l6=>k_is);all_goals k_is)
  (case p7=>refine' BhK.HM.mk ?a7 ?i7 ?l7 ?c7 ?k7;(case a7=>k_is);(case l7=>k_is);all_goals k_is)
  (case p8=>k_is)
  (case p9=>refine' BhK.HI.mk ?a9 ?b9 ?c9 ?d9;all_goals k_is)
  (case p10=>kit_is)
  (case p11=>refine' BhK.HM.mk ?a11 ?i11 ?l11 ?c11 ?k11;(case a11=>k_is);(case l11=>k_is);all_goals k_is)
  (case p12=>refine' BhK.HM.mk ?a12 ?i12 ?l12 ?c12 ?k12;(case a12=>k_is);(case l12=>k_is);all_goals k_is)
  (case p13=>k_is)
  (case p14=>k_is)
  (case p15=>k_is)
  (case p16=>refine' BhK.HI.mk ?a16 ?b16 ?c16 ?d16;all_goals k_is)
  (case p17=>kit_is)
  (case p18=>refine' BhK.HM.mk ?a18 ?i18 ?l18 ?c18 ?k18;(case a18=>k_is);(case l18=>k_is);all_goals k_is)
  (case p19=>refine' BhK.HM.mk ?a19 ?i19 ?l19 ?c19 ?k19;(case a19=>k_is);(case l19=>k_is);all_goals k_is)
  (case p20=>refine' BhK.HM.mk ?a20 ?i20 ?l20 ?c20 ?k20;(case a20=>k_is);(case l20=>k_is);all_goals k_is)
  (case p21=>k_is)
  (case p22=>k_is)
  (case p23=>k_is)
  (case p24=>k_is)
  (case p25=>refine' BhK.HI.mk ?a25 ?b25 ?c25 ?d25;all_goals k_is)
  (case p26=>kit_is)
  (case p27=>refine' BhK.HM.mk ?a27 ?i27 ?l27 ?c27 ?k27;(case a27=>k_is);(case l27=>k_is);all_goals k_is)
  (case p28=>refine' BhK.HM.mk ?a28 ?i28 ?l28 ?c28 ?k28;(case a28=>k_is);(case l28=>k_is);all_goals k_is)
  (case p29=>k_is)
  (case p30=>k_is)
  (case p31=>k_is)
  (case p32=>k_is)
  (case p33=>refine' BhK.HI.mk ?a33 ?b33 ?c33 ?d33;all_goals k_is)
  (case p34=>kit_is)
  (case p35=>refine' BhK.HM.mk ?a35 ?i35 ?l35 ?c35 ?k35;(case a35=>k_is);(case l35=>k_is);all_goals k_is)
  (case p36=>refine' BhK.HM.mk ?a36 ?i36 ?l36 ?c36 ?k36;(case a36=>k_is);(case l36=>k_is);all_goals k_is)
  (case p37=>k_is)
  (case p38=>k_is)
  (case p39=>k_is)
  (case p40=>refine' BhK.HI.mk ?a40 ?b40 ?c40 ?d40;all_goals k_is)
  (case p41=>kit_is)
  (case p42=>refine' BhK.HM.mk ?a42 ?i42 ?l42 ?c42 ?k42;(case a42=>k_is);(case l42=>k_is);all_goals k_is)
  (case p43=>refine' BhK.HM.mk ?a43 ?i43 ?l43 ?c43 ?k43;(case a43=>k_is);(case l43=>k_is);all_goals k_is)
  (case p44=>k_is)
  (case p45=>k_is)
  (case p46=>k_is)
  (case p47=>k_is)
  (case p48=>k_is)
  (case p49=>refine' BhK.HI.mk ?a49 ?b49 ?c49 ?d49;all_goals k_is)
  (case p50=>kit_is)
  (case p51=>refine' BhK.HD.mk ?a51 ?l51 ?c51 ?k51;(case a51=>k_is);(case l51=>k_is);all_goals k_is)
  (case p52=>refine' BhK.HD.mk ?a52 ?l52 ?c52 ?k52;(case a52=>k_is);(case l52=>k_is);all_goals k_is)
  (case p53=>refine' BhK.HD.mk ?a53 ?l53 ?c53 ?k53;(case a53=>k_is);(case l53=>k_is);all_goals k_is)
  (case p54=>refine' BhK.HD.mk ?a54 ?l54 ?c54 ?k54;(case a54=>k_is);(case l54=>k_is);all_goals k_is)
  (case p55=>refine' BhK.HD.mk ?a55 ?l55 ?c55 ?k55;(case a55=>k_is);(case l55=>k_is);all_goals k_is)
  (case p56=>refine' BhK.HD.mk ?a56 ?l56 ?c56 ?k56;(case a56=>k_is);(case l56=>k_is);all_goals k_is)
  (case p57=>refine' BhK.HD.mk ?a57 ?l57 ?c57 ?k57;(case a57=>k_is);(case l57=>k_is);all_goals k_is)
  (case p58=>refine' BhK.HD.mk ?a58 ?l58 ?c58 ?k58;(case a58=>k_is);(case l58=>k_is);all_goals k_is)
  (case p59=>refine' BhK.HD.mk ?a59 ?l59 ?c59 ?k59;(case a59=>k_is);(case l59=>k_is);all_goals k_is)
  (case p60=>refine' BhK.HD.mk ?a60 ?l60 ?c60 ?k60;(case a60=>k_is);(case l60=>k_is);all_goals k_is)
  (case p61=>refine' BhK.HD.mk ?a61 ?l61 ?c61 ?k61;(case a61=>k_is);(case l61=>k_is);all_goals k_is)
  (case p62=>refine' BhK.HD.mk ?a62 ?l62 ?c62 ?k62;(case a62=>k_is);(case l62=>k_is);all_goals k_is)
  (case p63=>refine' BhK.HD.mk ?a63 ?l63 ?c63 ?k63;(case a63=>k_is);(case l63=>k_is);all_goals k_is)
  (case p64=>refine' BhK.HD.mk ?a64 ?l64 ?c64 ?k64;(case a64=>k_is);(case l64=>k_is);all_goals k_is)
  (case p65=>refine' BhK.HD.mk ?a65 ?l65 ?c65 ?k65;(case a65=>k_is);(case l65=>k_is);all_goals k_is)
  (case p66=>refine' BhK.HD.mk ?a66 ?l66 ?c66 ?k66;(case a66=>k_is);(case l66=>k_is);all_goals k_is)
  (case p67=>refine' BhK.HD.mk ?a67 ?l67 ?c67 ?k67;(case a67=>k_is);(case l67=>k_is);all_goals k_is)
  (case p68=>refine' BhK.HD.mk ?a68 ?l68 ?c68 ?k68;(case a68=>k_is);(case l68=>k_is);all_goals k_is)
  (case p69=>refine' BhK.HD.mk ?a69 ?l69 ?c69 ?k69;(case a69=>k_is);(case l69=>k_is);all_goals k_is)
  (case p70=>refine' BhK.HD.mk ?a70 ?l70 ?c70 ?k70;(case a70=>k_is);(case l70=>k_is);all_goals k_is)
  (case p71=>refine' BhK.HD.mk ?a71 ?l71 ?c71 ?k71;(case a71=>k_is);(case l71=>k_is);all_goals k_is)
  (case p72=>refine' BhK.HD.mk ?a72 ?l72 ?c72 ?k72;(case a72=>k_is);(case l72=>k_is);all_goals k_is)
  (case p73=>refine' BhK.HD.mk ?a73 ?l73 ?c73 ?k73;(case a73=>k_is);(case l73=>k_is);all_goals k_is)
  (case p74=>refine' BhK.HD.mk ?a74 ?l74 ?c74 ?k74;(case a74=>k_is);(case l74=>k_is);all_goals k_is)
  (case p75=>refine' BhK.HD.mk ?a75 ?l75 ?c75 ?k75;(case a75=>k_is);(case l75=>k_is);all_goals k_is)
  (case p76=>refine' BhK.HD.mk ?a76 ?l76 ?c76 ?k76;(case a76=>k_is);(case l76=>k_is);all_goals k_is)
  (case p77=>refine' BhK.HD.mk ?a77 ?l77 ?c77 ?k77;(case a77=>k_is);(case l77=>k_is);all_goals k_is)
  (case p78=>refine' BhK.HD.mk ?a78 ?l78 ?c78 ?k78;(case a78=>k_is);(case l78=>k_is);all_goals k_is)
  (case p79=>refine' BhK.HD.mk ?a79 ?l79 ?c79 ?k79;(case a79=>k_is);(case l79=>k_is);all_goals k_is)
  (case p80=>refine' BhK.HD.mk ?a80 ?l80 ?c80 ?k80;(case a80=>k_is);(case l80=>k_is);all_goals k_is)
  (case p81=>refine' BhK.HD.mk ?a81 ?l81 ?c81 ?k81;(case a81=>k_is);(case l81=>k_is);all_goals k_is)
  (case p82=>refine' BhK.HD.mk ?a82 ?l82 ?c82 ?k82;(case a82=>k_is);(case l82=>k_is);all_goals k_is)
  (case p83=>refine' BhK.HD.mk ?a83 ?l83 ?c83 ?k83;(case a83=>k_is);(case l83=>k_is);all_goals k_is)
  (case p84=>refine' BhK.HD.mk ?a84 ?l84 ?c84 ?k84;(case a84=>k_is);(case l84=>k_is);all_goals k_is)
  (case p85=>refine' BhK.HD.mk ?a85 ?l85 ?c85 ?k85;(case a85=>k_is);(case l85=>k_is);all_goals k_is)
  (case p86=>refine' BhK.HD.mk ?a86 ?l86 ?c86 ?k86;(case a86=>k_is);(case l86=>k_is);all_goals k_is)
  (case p87=>refine' BhK.HD.mk ?a87 ?l87 ?c87 ?k87;(case a87=>k_is);(case l87=>k_is);all_goals k_is)
  (case p88=>refine' BhK.HD.mk ?a88 ?l88 ?c88 ?k88;(case a88=>k_is);(case l88=>k_is);all_goals k_is)
  (case p89=>refine' BhK.HD.mk ?a89 ?l89 ?c89 ?k89;(case a89=>k_is);(case l89=>k_is);all_goals k_is)
  (case p90=>refine' BhK.HD.mk ?a90 ?l90 ?c90 ?k90;(case a90=>k_is);(case l90=>k_is);all_goals k_is)
  (case p91=>refine' BhK.HD.mk ?a91 ?l91 ?c91 ?k91;(case a91=>k_is);(case l91=>k_is);all_goals k_is)
  (case p92=>refine' BhK.HD.mk ?a92 ?l92 ?c92 ?k92;(case a92=>k_is);(case l92=>k_is);all_goals k_is)
  (case p93=>refine' BhK.HD.mk ?a93 ?l93 ?c93 ?k93;(case a93=>k_is);(case l93=>k_is);all_goals k_is)
  (case p94=>refine' BhK.HD.mk ?a94 ?l94 ?c94 ?k94;(case a94=>k_is);(case l94=>k_is);all_goals k_is)
  (case p95=>refine' BhK.HD.mk ?a95 ?l95 ?c95 ?k95;(case a95=>k_is);(case l95=>k_is);all_goals k_is)
  (case p96=>refine' BhK.HD.mk ?a96 ?l96 ?c96 ?k96;(case a96=>k_is);(case l96=>k_is);all_goals k_is)
  (case p97=>refine' BhK.HD.mk ?a97 ?l97 ?c97 ?k97;(case a97=>k_is);(case l97=>k_is);all_goals k_is)
  (case p98=>refine' BhK.HD.mk ?a98 ?l98 ?c98 ?k98;(case a98=>k_is);(case l98=>k_is);all_goals k_is)
  (case p99=>refine' BhK.HD.mk ?a99 ?l99 ?c99 ?k99;(case a99=>k_is);(case l99=>k_is);all_goals k_is)
  (case p100=>refine' BhK.HD.mk ?a100 ?l100 ?c100 ?k100;(case a100=>k_is);(case l100=>k_is);all_goals k_is)
  (case p101=>refine' BhK.HD.mk ?a101 ?l101 ?c101 ?k101;(case a101=>k_is);(case l101=>k_is);all_goals k_is)
  (case p102=>refine' BhK.HD.mk ?a102 ?l102 ?c102 ?k102;(case a102=>k_is);(case l102=>k_is);all_goals k_is)
  (case p103=>refine' BhK.HD.mk ?a103 ?l103 ?c103 ?k103;(case a103=>k_is);(case l103=>k_is);all_goals k_is)
  (case p104=>refine' BhK.HD.mk ?a104 ?l104 ?c104 ?k104;(case a104=>k_is);(case l104=>k_is);all_goals k_is)
  (case p105=>refine' BhK.HD.mk ?a105 ?l105 ?c105 ?k105;(case a105=>k_is);(case l105=>k_is);all_goals k_is)
  (case p106=>refine' BhK.HD.mk ?a106 ?l106 ?c106 ?k106;(case a106=>k_is);(case l106=>k_is);all_goals k_is)
  (case p107=>refine' BhK.HD.mk ?a107 ?l107 ?c107 ?k107;(case a107=>k_is);(case l107=>k_is);all_goals k_is)
  (case p108=>refine' BhK.HD.mk ?a108 ?l108 ?c108 ?k108;(case a108=>k_is);(case l108=>k_is);all_goals k_is)
  (case p109=>refine' BhK.HD.mk ?a109 ?l109 ?c109 ?k109;(case a109=>k_is);(case l109=>k_is);all_goals k_is)
  (case p110=>refine' BhK.HD.mk ?a110 ?l110 ?c110 ?k110;(case a110=>k_is);(case l110=>k_is);all_goals k_is)
  (case p111=>refine' BhK.HD.mk ?a111 ?l111 ?c111 ?k111;(case a111=>k_is);(case l111=>k_is);all_goals k_is)
  (case p112=>refine' BhK.HD.mk ?a112 ?l112 ?c112 ?k112;(case a112=>k_is);(case l112=>k_is);all_goals k_is)
  (case p113=>k_is)
  (case p114=>k_is)
  (case p115=>k_is)
  (case p116=>k_is)
  (case p117=>k_is)
  (case p118=>k_is)
  (case p119=>k_is)
  (case p120=>k_is)
  (case p121=>k_is)
  (case p122=>k_is)
  (case p123=>k_is)
  (case p124=>k_is)
  (case p125=>k_is)
  (case p126=>k_is)
  (case p127=>k_is)
  (case p128=>k_is)
  (case p129=>k_is)
  (case p130=>k_is)
  (case p131=>k_is)
  (case p132=>k_is)
  (case p133=>k_is)
  (case p134=>kit_is)
  (case p135=>kit_is)
  (case p136=>kit_is)
  (case p137=>kit_is)
  (case p138=>k_is)
  (case p139=>k_is)
  (case p140=>k_is)
  (case p141=>decide)
  (case p142=>decide)
  (case p143=>decide)
#print axioms PySem.Challenge.cw_basehouse_k25_whole_there_and_back_holds
