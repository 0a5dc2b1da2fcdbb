import PyProof.Rows.All
import Wide.All
import OpenK.AllK
import Wide.FinOn
import Lean
import PyProof.EqAt
import PyProof.EqKinds
import PyProof.TupleCall
import PyProof.AttrMissHeap
import PySem.Challenge.RW_basehouse_k34_whole_bounds
set_option Elab.async false
set_option linter.all false
set_option maxRecDepth 100000
open PySem.W(instObj methodObj lookIn plainGet hasDictIn findIn isFn plainOver takerIn makesIn emptyDict keepIn specialIn takesIn mroIn kitOne fnOf codeIn nsIn noTabs codeHdIn)
abbrev Di:=@List.length_map
abbrev Dj:=@PySem.wpAny_bind
abbrev Dk:=@Int.toNat_natCast
abbrev Dl:=@Nat.le_refl
abbrev Dm:=@List.getElem?_map
abbrev Dp:=@if_pos
abbrev Dq:=@Nat.lt_of_lt_of_le
abbrev Dr:=@Bool.false_ne_true
abbrev Ds:=@List.getElem?_eq_getElem
abbrev Dt:=@if_neg
abbrev Du:=@Nat.le_trans
abbrev Dv:=@List.mem_of_getElem?
abbrev Dw:=@Nat.lt_of_le_of_lt
abbrev Dx:=@PySem.Heap.get?_push_of_some
abbrev Dy:=@decide_eq_false
abbrev Dz:=@List.mem_cons
abbrev DA:=@PySem.wpAny_pure
abbrev DB:=@List.getElem?_eq_some_iff
abbrev DC:=@List.mem_cons_of_mem
abbrev DE:=@List.mem_cons_self
abbrev DF:=@PySem.Heap.lt_size
abbrev DG:=@decide_eq_true
abbrev DH:=@Nat.testBit_and
abbrev DI:=@List.size_toArray
abbrev DJ:=@Nat.eq_of_testBit_eq
abbrev DK:=@List.length_append
abbrev DL:=@List.mem_map
abbrev DM:=@Nat.pow_le_pow_right
abbrev DN:=@List.mem_singleton
abbrev DO:=@Nat.succ_le_succ
abbrev DP:=@PySem.Heap.get?_push_size
abbrev DQ:=@Nat.ne_of_lt
abbrev DR:=@congrFun
abbrev DS:=@Option.some.inj
abbrev DT:=@List.mem_range
abbrev DU:=@List.length_range
abbrev DV:=@Nat.zero_le
abbrev DW:=@List.mem_append
abbrev DX:=@Nat.testBit_or
abbrev DY:=@of_decide_eq_true
abbrev DZ:=@Nat.pow_pos
abbrev D6:=@List.length_cons
abbrev D7:=@List.mem_append_right
abbrev D8:=@Nat.testBit_lt_two_pow
abbrev D9:=@Nat.lt_succ_self
abbrev Ea:=@Bool.and_eq_true
abbrev Eb:=@Nat.lt_irrefl
abbrev Ec:=@Nat.xor_assoc
abbrev Ed:=@PySem.mem_of_lookup
abbrev Ee:=@List.getD_eq_getElem?_getD
abbrev Ef:=@Nat.le_of_not_lt
abbrev Eg:=@List.getElem?_append_left
abbrev Eh:=@Nat.sub_lt_sub_left
abbrev Ei:=@List.map_append
abbrev Ej:=@List.map_cons
abbrev Ek:=@List.getElem?_append_right
abbrev Em:=@List.length_take
abbrev En:=@Nat.zero_testBit
abbrev Eo:=@List.filter_eq_self
abbrev Ep:=@List.mem_append_left
abbrev Er:=@List.forall_mem_cons
abbrev Es:=@congrArg
abbrev Et:=@Classical.not_forall
abbrev Eu:=@Int.eq_ofNat_of_zero_le
abbrev Ew:=@Nat.le_antisymm
abbrev Ex:=@PySem.W.mg_none_of
abbrev Ey:=@PySem.Heap.get?_update_other
abbrev Ez:=@List.map_map
abbrev EA:=@Int.zero_add
abbrev EB:=@List.take_add_one
abbrev EC:=@Nat.or_lt_two_pow
abbrev ED:=@Int.emod_lt_of_pos
abbrev EE:=@List.filter_cons_of_pos
abbrev EF:=@List.filter_cons_of_neg
abbrev EG:=@List.foldl_cons
abbrev EH:=@Nat.testBit_xor
abbrev EI:=@Int.emod_nonneg
abbrev EJ:=@PySem.wpAny_holding
abbrev EK:=@List.take_of_length_le
abbrev EL:=@Array.length_toList
abbrev EM:=@List.getElem?_range
abbrev EN:=@PySem.F.plainAttrs_list
abbrev EO:=@Nat.xor_self
abbrev ER:=@List.foldl_append
abbrev ES:=@List.range_succ
abbrev ET:=@Bool.or_eq_true
abbrev EU:=@Nat.or_assoc
abbrev EV:=@List.map_congr_left
abbrev EW:=@PySem.F.slot_list_append
abbrev EX:=@PySem.F.type_list_append
abbrev EY:=@PySem.W.kia_one
abbrev EZ:=@Nat.not_lt_zero
abbrev E1:=@PyProof.Rows.callWith_type1
abbrev E2:=@Int.natCast_nonneg
abbrev E3:=@PySem.wpAny_Call_Name_kw
abbrev E4:=@Nat.testBit_two_pow_sub_one
abbrev E5:=@True.intro
abbrev E6:=@List.lookup_cons
abbrev E7:=@List.getElem_mem
abbrev E8:=@Ne.symm
abbrev E9:=@PyProof.Rows.boot_list
abbrev Fb:=@List.mem_filter
abbrev Fc:=@Array.getElem?_eq_getElem
abbrev Fd:=@Classical.byContradiction
abbrev Fe:=@Array.getElem?_toList
abbrev Ff:=@List.length_drop
abbrev Fg:=@List.take_length
abbrev Fh:=@Nat.xor_zero
abbrev Fi:=@List.length_erase_of_mem
abbrev Fj:=@PySem.W.mg_of
abbrev Fl:=@PySem.wpAny_mono
abbrev Fm:=@List.getElem?_of_mem
abbrev Fn:=@PySem.F.slot_dict_keyiterator_next
abbrev Fo:=@PyProof.Rows.boot_isinstance
abbrev Fp:=@Nat.testBit_div_two_pow
abbrev Fq:=@PyProof.Rows.boot_tuple
abbrev Fs:=@PySem.wpAny_truthy_bool
abbrev Ft:=@List.nodup_cons
abbrev Fu:=@PySem.F.plain_min_loop
abbrev Fv:=@PySem.F.plain_max_loop
abbrev Fw:=@Bool.true_and
abbrev Fx:=@List.filter_cons
abbrev Fy:=@PySem.Heap.size_push
abbrev Fz:=@Bool.false_eq_true
abbrev FA:=@List.length_filter_le
abbrev FC:=@Nat.testBit_two_pow_of_ne
abbrev FD:=@PySem.sizeLine_eq
abbrev FE:=@Bool.eq_iff_iff
abbrev FF:=@Nat.lt_trans
abbrev FG:=@List.mem_of_mem_take
abbrev FH:=@Bool.eq_false_iff
abbrev FI:=@Bool.or_false
abbrev FJ:=@PySem.wpAny_typeNameOfWhole_keyiter
abbrev FK:=@beq_eq_false_iff_ne
abbrev FL:=@Nat.testBit_two_pow
abbrev FN:=@PySem.wpAny_tryCatch
abbrev FO:=@Bool.xor_false
abbrev FP:=@Nat.testBit_two_pow_sub_succ
abbrev FQ:=@List.length_pos_of_mem
abbrev FR:=@List.pairwise_cons
abbrev FT:=@PySem.W.piece_app
abbrev FU:=@PySem.W.segRun_of
abbrev FV:=@PySem.wpAny_passesOwn
abbrev FW:=@PyProof.Rows.boot_min
abbrev FX:=@PySem.wpAny_standAt
abbrev FY:=@PySem.plainId_quiet
abbrev FZ:=@Nat.le_of_succ_le
abbrev F4:=@decide_eq_true_eq
abbrev F5:=@PySem.Around.under_plainId
abbrev F6:=@Nat.lt_pow_two_of_testBit
abbrev F7:=@PySem.wpAny_letGo
abbrev F8:=@Nat.le_of_lt
abbrev F9:=@Nat.ne_of_gt
abbrev Ga:=@List.getElem?_take_of_lt
abbrev Gb:=@Nat.le_add_right
abbrev Gd:=@PySem.wpAny_typeNameOf_keyiter
abbrev Ge:=@Nat.xor_comm
abbrev Gf:=@List.filter_append
abbrev Gg:=@List.find?_cons
abbrev Gh:=@PySem.codeAny_builtin
abbrev Gi:=@PySem.wpAny_updateSeq
abbrev Gj:=@of_decide_eq_false
abbrev Gk:=@Nat.le_succ
abbrev Gm:=@if_false
abbrev Gn:=@PyProof.Rows.mirror_perm
abbrev Gp:=@Bool.false_and
abbrev Gq:=@PySem.codeAny_mono
abbrev Gr:=@Array.getD_eq_getD_getElem?
abbrev Gu:=@PyProof.Rows.callWith_builtin_kwB
abbrev Gv:=@Nat.lt_of_not_le
abbrev Gw:=@Nat.pow_lt_pow_right
abbrev Gx:=@List.mem_of_mem_drop
abbrev Gy:=@PySem.Paired.length
abbrev Gz:=@List.any_cons
abbrev GA:=@PySem.W.codeHd_of_K
abbrev GC:=@List.append_nil
abbrev GD:=@PySem.pushCells_keeps
abbrev GF:=@Array.Perm.refl
abbrev GG:=@PyProof.Rows.get?_update_seq
abbrev GH:=@List.getElem?_eq_none_iff
abbrev GI:=@PySem.W.callWith_K
abbrev GJ:=@PySem.wpAny_evalAll_cons
abbrev GK:=@Nat.zero_xor
abbrev GL:=@beq_iff_eq
abbrev GN:=@PySem.wpAny_pyIter_list
abbrev GO:=@Nat.lt_succ_of_lt
abbrev GP:=@PySem.wpAny_newObj_type
abbrev GQ:=@PySem.wpAny_evalAll_nil
abbrev GR:=@List.nodup_append
abbrev GS:=@Int.one_mul
abbrev GU:=@PySem.wpAny_newList
abbrev GV:=@List.not_mem_nil
abbrev GW:=@List.any_eq_true
abbrev GX:=@Nat.testBit_eq_decide_div_mod_eq
abbrev GY:=@List.length_replicate
abbrev GZ:=@PySem.W.methodCall_KW
abbrev Hc:=@List.eraseIdxIfInBounds_toArray
abbrev He:=@PySem.wpAny_execs_nil
abbrev Hg:=@PySem.Around.frames_deeper
abbrev Hh:=@Nat.zero_add
abbrev Hi:=@Array.toArray_toList
abbrev Hk:=@PySem.F.args_dict_keyiterator_next_1
abbrev Hl:=@PyProof.Rows.size_push'
abbrev Hm:=@Nat.and_le_left
abbrev Hn:=@Bool.or_true
abbrev Ho:=@Int.natCast_add
abbrev Hq:=@PySem.F.entry_dict_keyiterator_next
abbrev Hr:=@List.eq_nil_of_length_eq_zero
abbrev Ht:=@List.filterMap_cons
abbrev Hu:=@PySem.W.plainGet_of
abbrev Hv:=@Nat.add_le_add_left
abbrev Hw:=@PySem.wpAny_seqItems
abbrev Hx:=@Int.le_refl
abbrev Hy:=@Nat.or_comm
abbrev Hz:=@List.mem_filterMap
abbrev HE:=@Or.inl
abbrev HF:=@List.getElem?_drop
abbrev HG:=@LawfulBEq.eq_of_beq
abbrev HH:=@List.erase_sublist
abbrev HJ:=@Nat.and_one_is_mod
abbrev HN:=@Int.fdiv_eq_ediv_of_nonneg
abbrev HP:=@PySem.slot_list_getitem
abbrev HQ:=@List.Pairwise.nil
abbrev HR:=@Nat.le_succ_of_le
abbrev HS:=@PySem.wpAny_dictEntries
abbrev HU:=@List.ext_getElem?
abbrev HV:=@List.filter_congr
abbrev HW:=@PySem.wpAny_call
abbrev HY:=@List.mem_of_find?_eq_some
abbrev HZ:=@PySem.wpAny_eqBool_int
abbrev Ic:=@List.map_nil
abbrev Ie:=@List.all_eq_true
abbrev Ig:=@Nat.succ.inj
abbrev Ih:=@PySem.wpAny_call_entry
abbrev Ii:=@List.Nodup.mem_erase_iff
abbrev Ij:=@List.nodup_range
abbrev Ik:=@List.getElem?_replicate
abbrev Il:=@List.getElem?_cons_zero
abbrev Im:=@List.getElem?_cons_succ
abbrev Io:=@List.of_mem_zip
abbrev Ip:=@List.length_set
abbrev Iq:=@Nat.min_eq_left
abbrev Ir:=@PySem.wpAny_dictEpoch
abbrev Iu:=@Nat.zero_or
abbrev Iv:=@if_true
abbrev Iw:=@List.all_cons
namespace L2
open PySem PySem.Spec PyProof.Rows
abbrev Key:=Sum Int Str
def i9:Key->Value->Bool
 | .inl k,v=>Value.isInt k v
 | .inr x,v=>Value.isStrOf x v
def De(w:World):Key->Int
 | .inl k=>hashInt k
 | .inr x=>hashStr w x
theorem bz:∀ {k:Key} {v:Value},i9 k v=true->(∃i t,k=Sum.inl i/\v=Value.int i t)\/(∃x t,k=Sum.inr x/\v=Value.str x t)
 | .inl i,v,h=>by obtain⟨t,e⟩:=Value.isInt_shape (k:=i) (v:=v) h;exact .inl ⟨i,t,rfl,e⟩
 | .inr x,v,h=>by obtain⟨t,e⟩:=Value.isStrOf_shape (x:=x) (v:=v) h;exact .inr ⟨x,t,rfl,e⟩
theorem vM(i:Int)(t:Tok):i9 (.inl i) (.int i t)=true:=by simp[i9,Value.isInt]
theorem vL(x:Str)(t:Tok):i9 (.inr x) (.str x t)=true:=by simp[i9,Value.isStrOf]
theorem rZ(a b:Int):decide ((Sum.inl a:Key)=Sum.inl b)=(a==b):=by
 by_cases e:a=b
 .subst e;simp
 .have h:¬(Sum.inl a:Key)=Sum.inl b:=λq=>e (Sum.inl.inj q);rw[Dy h];exact(FK.mpr e).symm
theorem BS(a b:Str):decide ((Sum.inr a:Key)=Sum.inr b)=decide (a=b):=by
 by_cases e:a=b
 .subst e;simp
 .have h:¬(Sum.inr a:Key)=Sum.inr b:=λq=>e (Sum.inr.inj q);rw[Dy h,Dy e]
theorem BV(a:Int)(b:Str):decide ((Sum.inl a:Key)=Sum.inr b)=false:=Dy (λq=>nomatch q)
theorem BU(a:Str)(b:Int):decide ((Sum.inr a:Key)=Sum.inl b)=false:=Dy (λq=>nomatch q)
def bO(prog:Program)(w:World):PySem.KeyKind prog w Key where
 is:=i9
 hash:=De w
 inj:=λv a b ha hb=>by
  rcases bz ha with ⟨i,t,rfl,rfl⟩|⟨x,t,rfl,rfl⟩
  .rcases bz hb with ⟨j,u,rfl,e⟩|⟨y,u,rfl,e⟩
   .injection e with e1 _;rw[e1]
   .exact nomatch e
  .rcases bz hb with ⟨j,u,rfl,e⟩|⟨y,u,rfl,e⟩
   .exact nomatch e
   .injection e with e1 _;rw[e1]
 byValue:=λk v h=>by rcases bz h with ⟨i,t,rfl,rfl⟩|⟨x,t,rfl,rfl⟩<;>rfl
 pyHash:=λhv h=>by
  rcases bz hv with ⟨i,t,rfl,rfl⟩|⟨x,t,rfl,rfl⟩
  .exact wpAny_pyHash_int h
  .exact wpAny_pyHash_str h
 eqBool:=λhu hv h=>by
  rcases bz hu with ⟨i,t,rfl,rfl⟩|⟨x,t,rfl,rfl⟩
  .rcases bz hv with ⟨j,u,rfl,rfl⟩|⟨y,u,rfl,rfl⟩
   .rw[rZ]at h;exact HZ h
   .rw[BV]at h;exact SeqAt.EqAt.int_str i t y u _ _ _ _ h
  .rcases bz hv with ⟨j,u,rfl,rfl⟩|⟨y,u,rfl,rfl⟩
   .rw[BU]at h;exact SeqAt.EqAt.str_int x t j u _ _ _ _ h
   .rw[BS]at h;exact wpAny_eqBool_str h
 «strs»:=λk x t v h=>by
  rcases bz h with ⟨i,u,rfl,e⟩|⟨y,u,rfl,e⟩
  .exact nomatch e
  .injection e with e1 _
   subst e1;cases v<;>rfl
theorem pD(prog:Program)(w:World)(i:Int)(t:Tok):(bO prog w).is (.inl i) (.int i t)=true:=vM i t
theorem pC(prog:Program)(w:World)(x:Str)(t:Tok):(bO prog w).is (.inr x) (.str x t)=true:=vL x t
end L2
namespace L2
open PySem PySem.Spec PyProof.Rows
inductive V where
 |non|bl (b:Bool)|int (i:Int)|str (x:Str)|byt (b:Array UInt8)|flt (b:UInt64)|ref (a:Addr)|ty (n:String)
 deriving DecidableEq
def aW:V->Value->Prop
 | .non,u=>u=Value.none
 | .bl b,u=>u=Value.bool b
 | .int i,u=>∃t,u=Value.int i t
 | .str x,u=>∃t,u=Value.str x t
 | .byt b,u=>∃t,u=Value.bytes b t
 | .flt b,u=>∃t,u=Value.float b t
 | .ref a,u=>u=Value.ref a
 | .ty n,u=>u=Value.type n
abbrev Vals:List V->List Value->Prop:=Paired aW
theorem Vals.length{xs:List V}{us:List Value}(r:Vals xs us):xs.length=us.length:=Gy r
theorem Vals.get:∀ {xs:List V} {us:List Value} {i:Nat} {x:V},Vals xs us->xs[i]?=some x->∃u,us[i]?=some u/\aW x u
 |_,_,_,_, .nil,e=>by simp at e
 |_,_,0,_, .cons r _,e=>by simp at e;subst e;exact⟨_,rfl,r⟩
 |_,_,i+1,x, .cons _ t,e=>by obtain⟨u,h1,h2⟩:=Vals.get (i:=i) (x:=x) t (by simpa using e);exact⟨u,by simpa using h1,h2⟩
theorem Vals.set(r:aW x u):∀ {xs:List V} {us:List Value} (i:Nat),Vals xs us->Vals (xs.set i x) (us.set i u)
 |_,_,_, .nil=> .nil
 |_,_,0, .cons _ t=> .cons r t
 |_,_,i+1, .cons q t=> .cons q (Vals.set r i t)
theorem Vals.append:∀ {xs ys:List V} {us ws:List Value},Vals xs us->Vals ys ws->Vals (xs++ys) (us++ws)
 |_,_,_,_, .nil,s=>s
 |_,_,_,_, .cons r t,s=> .cons r (Vals.append t s)
theorem Vals.take:∀ {xs:List V} {us:List Value} (n:Nat),Vals xs us->Vals (xs.take n) (us.take n)
 |_,_,0,_=> .nil
 |_,_,_+1, .nil=> .nil
 |_,_,n+1, .cons r t=> .cons r (Vals.take n t)
theorem Vals.drop:∀ {xs:List V} {us:List Value} (n:Nat),Vals xs us->Vals (xs.drop n) (us.drop n)
 |_,_,0,r=>r
 |_,_,_+1, .nil=> .nil
 |_,_,n+1, .cons _ t=>Vals.drop n t
def fC:Option V->Option Value->Prop
 |some v,some u=>aW v u
 |none,none=>True
 |_,_=>False
def KV{κ:Type}:List (κ×V)->List (κ×Value)->Prop:=Paired λ(p:κ×V) (q:κ×Value)=>p.1=q.1/\aW p.2 q.2
def kV:Key->V
 | .inl i=> .int i
 | .inr x=> .str x
inductive HO where
 |lst (xs:List V)
 |tup (xs:List V)
 |dK (kvs:List (Key×V))|dT (kvs:List (List Key×V))
 |set (S:Int->Bool) (n:Nat)
 |ins (C dx:Addr) (fs:List (Str×V))
 |own (x:Addr)
 |xd (fs:List (Str×V))
 |met (f x:Addr)
 |rng (lo hi:Int)
 |frz (o:Obj) (u:HO)
 |tbl (ps:Array Value)
 |ext (φ:Heap->Prop)
abbrev Hp:=Addr->Option HO
def upd(H:Hp)(a:Addr)(o:HO):Hp:=λb=>if b=a then some o else H b
theorem ag:upd H a o a=some o:=by unfold upd;rw[Dp rfl]
theorem aw(h:b≠a):upd H a o b=H b:=by unfold upd;rw[Dt h]
theorem b8:upd (upd H a o) a u=upd H a u:=by funext b;unfold upd;split<;>rfl
theorem c8{H:Hp}(h:H a=some o)(h':H b=some u)(d:o≠u):a≠b:=by intro e;subst e;rw[h]at h';exact d (DS h')
theorem au{H:Hp}(h:H a=some o)(h':H b=none):a≠b:=by intro e;subst e;rw[h]at h';cases h'
section
variable(P:Program)(w:World)
def br(H:Hp)(h:Heap)(a:Addr):HO->Prop
 | .lst xs=>xs.length<=sizeLine/\∃ (its:List Value) (n:Nat),Vals xs its/\h.get? a=some {cls:= .type "list",data:= .seq its.toArray n}
 | .tup xs=>xs.length<=sizeLine/\∃its:List Value,Vals xs its/\IsTup h a its.toArray
 | .dK kvs=>kvs.length<=sizeLine/\(a==sysModules)=false/\∃vs,KV kvs vs/\h.DictOf (bO P w) a vs
 | .dT kvs=>kvs.length<=sizeLine/\(a==sysModules)=false/\∃xs:List (List Key×Addr×Value),
   Paired (λ(p:List Key×V) (q:List Key×Addr×Value)=>p.1=q.1/\H q.2.1=some (.tup (p.1.map kV))/\aW p.2 q.2.2) kvs xs/\
   ∃o es ep,h.get? a=some o/\o.ExactDict/\o.data= .dict es ep/\es.toList=xs.map (entryOfKey (tupleKind (bO P w)))/\(xs.map (·.1)).Nodup
 | .set S n=>h.SetOf (intKind P w) a S n
 | .ins C dx fs=>H dx=some (.own a)/\fs.length<=1000/\dx≠a/\h.get? a=some (instObj C dx)/\
   ∃mA,h.Ns1 dx mA/\(∀f,fC (fs.lookup f) (mA f))/\PySem.Within mA (fs.map (·.1))
 | .own _=>∃o,h.get? a=some o
 | .xd fs=>∃mA,h.Ns1 a mA/\∀f,fC (fs.lookup f) (mA f)
 | .rng lo hi=>∃t u v,h.get? a=some {cls:= .type "range",data:= .fields #[.int lo t, .int hi u, .int 1 v]}
 | .frz o u=>h.get? a=some o/\br H h a u
 | .tbl ps=>h.get? a=some {cls:= .none,data:= .fields ps}
 | .met f x=>h.get? a=some (methodObj (.ref f) (.ref x))
 | .ext φ=>φ h/\(∃o,h.get? a=some o)/\∀h1 h2:Heap,φ h1->(∀o,h1.get? a=some o->h2.get? a=some o)->φ h2
def HOk(H:Hp)(h:Heap):Prop:=∀a o,H a=some o->br P w H h a o
end
section
variable{P:Program}{w:World}{H H':Hp}{h h':Heap}{a:Addr}{o:HO}
theorem br.lt(x:br P w H h a o):a<h.objs.size:=by
 cases o with
 |lst xs=>obtain⟨_,_,_,_,e⟩:=x;exact DF e
 |tup xs=>obtain⟨_,_,_,p⟩:=x;exact p.lt
 |dK kvs=>obtain⟨_,_,_,_,o,_,_,e,_⟩:=x;exact DF e
 |dT kvs=>obtain⟨_,_,_,_,o,_,_,e,_⟩:=x;exact DF e
 |set S n=>obtain⟨o,_,_,_,e,_⟩:=x;exact DF e
 |ins C dx fs=>obtain⟨_,_,_,e,_⟩:=x;exact DF e
 |own y=>obtain⟨_,e⟩:=x;exact DF e
 |xd fs=>obtain⟨_,⟨_,_,_,e,_⟩,_⟩:=x;exact DF e
 |rng lo hi=>obtain⟨_,_,_,e⟩:=x;exact DF e
 |frz ob u=>obtain⟨e,_⟩:=x;exact DF e
 |tbl ps=>exact DF (show h.get? a=some _ from x)
 |met f y=>exact DF (show h.get? a=some _ from x)
 |ext φ=>obtain⟨_,⟨_,e⟩,_⟩:=x;exact DF e
theorem Paired.mapP:∀ {l₁:List α} {l₂:List β},Paired F l₁ l₂->(∀a b,F a b->G a b)->Paired G l₁ l₂
 |_,_, .nil,_=> .nil
 |_,_, .cons r t,f=> .cons (f _ _ r) (Paired.mapP t f)
theorem br.stay(x:br P w H h a o)(k:∀b u,(b=a\/H b=some (.own a))->h.get? b=some u->h'.get? b=some u)
  (ho:∀b,H b=some (.own a)->H' b=some (.own a)) (ht:∀b xs,H b=some (.tup xs)->H' b=some (.tup xs)):br P w H' h' a o:=by
 induction o with
 |lst xs=>obtain⟨z,its,n,r,e⟩:=x;exact⟨z,its,n,r,k _ _ (.inl rfl) e⟩
 |tup xs=>obtain⟨z,its,r,ob,e,c⟩:=x;exact⟨z,its,r,ob,k _ _ (.inl rfl) e,c⟩
 |dK kvs=>obtain⟨z,y,vs,r,ob,es,ep,e,c⟩:=x;exact⟨z,y,vs,r,ob,es,ep,k _ _ (.inl rfl) e,c⟩
 |dT kvs=>
  obtain⟨z,y,xs,r,ob,es,ep,e,c⟩:=x;exact⟨z,y,xs,Paired.mapP r λp q z=>⟨z.1,ht _ _ z.2.1,z.2.2⟩,ob,es,ep,k _ _ (.inl rfl) e,c⟩
 |set S n=>obtain⟨ob,es,ep,t,e,c⟩:=x;exact⟨ob,es,ep,t,k _ _ (.inl rfl) e,c⟩
 |ins C dx fs=>
  obtain⟨d,z,ne,e,mA,⟨od,es,ep,e2,c⟩,r⟩:=x;exact⟨ho _ d,z,ne,k _ _ (.inl rfl) e,mA,⟨od,es,ep,k _ _ (.inr d) e2,c⟩,r⟩
 |own y=>obtain⟨ob,e⟩:=x;exact⟨ob,k _ _ (.inl rfl) e⟩
 |xd fs=>obtain⟨mA,⟨od,es,ep,e,c⟩,r⟩:=x;exact⟨mA,⟨od,es,ep,k _ _ (.inl rfl) e,c⟩,r⟩
 |rng lo hi=>obtain⟨t,u,v,e⟩:=x;exact⟨t,u,v,k _ _ (.inl rfl) e⟩
 |frz ob u ih=>obtain⟨e,q⟩:=x;exact⟨k _ _ (.inl rfl) e,ih q⟩
 |tbl ps=>
  have e:h.get? a=some {cls:= .none,data:= .fields ps}:=x;show h'.get? a=some {cls:= .none,data:= .fields ps};exact k a _ (.inl rfl) e
 |met f y=>
  have e:h.get? a=some (methodObj (.ref f) (.ref y)):=x;show h'.get? a=some (methodObj (.ref f) (.ref y));exact k a _ (.inl rfl) e
 |ext φ=>obtain⟨p,⟨o,e⟩,st⟩:=x;exact⟨st _ _ p λo q=>k _ _ (.inl rfl) q,⟨o,k _ _ (.inl rfl) e⟩,st⟩
theorem HOk.lt(x:HOk P w H h)(e:H a=some o):a<h.objs.size:=(x a o e).lt
theorem HOk.fresh(x:HOk P w H h)(e:h.objs.size<=a):H a=none:=by
 cases q:H a with
 |none=>rfl
 |some u=>exact absurd (Dq (x.lt q) e) (Eb _)
theorem HOk.kept(x:HOk P w H h)(k:∀b u,h.get? b=some u->h'.get? b=some u):HOk P w H h':=λa o e=>
 (x a o e).stay (λb u _ q=>k b u q) (λ_ q=>q) λ_ _ q=>q
theorem HOk.laid(x:HOk P w H h)(k:∀b u,h.get? b=some u->h'.get? b=some u)(hp:h.objs.size<=a)(new:br P w (upd H a o) h' a o):HOk P w (upd H a o) h':=λb u e=>by
 have hn:=x.fresh hp;by_cases hb:b=a
 .subst hb;rw[ag]at e;cases e;exact new
 .rw[aw hb]at e;exact(x b u e).stay (λc v _ q=>k c v q) (λc q=>by rw[aw (au q hn)];exact q) λc xs q=>by rw[aw (au q hn)];exact q
end
def Rd(H:Hp)(a:Addr)(u:HO):Prop:=H a=some u\/∃o,H a=some (.frz o u)
theorem Rd.of(h:H a=some u):Rd H a u:= .inl h
theorem Rd.ok(r:Rd H a u)(x:HOk P w H h):br P w H h a u:=by
 rcases r with r|⟨o,r⟩
 .exact x a u r
 .obtain⟨_,q⟩:=x a _ r;exact q
def Mut:Option HO->Prop
 |some (.lst _)=>True
 |some (.dK _)=>True
 |some (.dT _)=>True
 |some (.set _ _)=>True
 |some (.ins _ _ _)=>True
 |some (.ext _)=>True
 |_=>False
section
variable{P:Program}{w:World}{H:Hp}{h h':Heap}{x e:Addr}{o':HO}
theorem HOk.write(ok:HOk P w H h)(mu:Mut (H x))(he:e=x\/H e=some (.own x))(k:∀b u,b≠e->h.get? b=some u->h'.get? b=some u)(heo:∃u,h'.get? e=some u)
  (new:br P w (upd H x o') h' x o'):HOk P w (upd H x o') h':=λb u q=>by
 have nown:∀c y,H c=some (.own y)->c≠x:=λc y r z=>by subst z;rw[r]at mu;exact mu
 have ntup:∀c xs,H c=some (.tup xs)->c≠x:=λc xs r z=>by subst z;rw[r]at mu;exact mu
 by_cases hb:b=x
 .subst hb;rw[ag]at q;cases q;exact new
 .rw[aw hb]at q;by_cases hbe:b=e
  .have q':H b=some (.own x):=by
    rcases he with z|z
    .exact absurd (hbe.trans z) hb
    .rw[hbe];exact z
   rw[q]at q';cases q';obtain⟨v,hv⟩:=heo;exact⟨v,by rw[hbe];exact hv⟩
  .refine(ok b u q).stay (λc v hc r=>k c v ?_ r) (λc r=>by rw[aw (nown c b r)];exact r) λc xs r=>by rw[aw (ntup c xs r)];exact r
   rcases hc with rfl|hc
   .exact hbe
   .rintro rfl;rcases he with z|z
    .exact nown c b hc z
    .rw[hc]at z;cases z;exact hb rfl
end
structure Un(fs ex:List Addr)(H H':Hp)(h h':Heap):Prop where
 keep:∀b o,h.get? b=some o->H b=none->b∉fs->b∉ex->h'.get? b=some o
 slot:∀b o,h.get? b=some o->H b=none->b∈fs->b∉ex->∃sl,h'.get? b=some {o with slots:=sl}
 free:∀b o,h.get? b=some o->H b=none->b∉ex->H' b=none
 there:∀b o,h.get? b=some o->b∉ex->∃o',h'.get? b=some o'
 tups:∀b xs,H b=some (.tup xs)->H' b=some (.tup xs)
 frzs:∀b o u,H b=some (.frz o u)->H' b=some (.frz o u)
 tbls:∀b ps,H b=some (.tbl ps)->∃more,H' b=some (.tbl (ps++more))
section
variable{fs fs' ex ex':List Addr}{H H1 H2:Hp}{h h1 h2 h':Heap}{a x e:Addr}{o:HO}
theorem Un.any(u:Un fs ex H H1 h h1)(q:h.get? b=some ob)(n:H b=none)(hx:b∉ex):∃sl,h1.get? b=some {ob with slots:=sl}:=by
 by_cases hb:b∈fs
 .exact u.slot b ob q n hb hx
 .exact⟨ob.slots,u.keep b ob q n hb hx⟩
theorem Un.trans(a:Un fs ex H H1 h h1)(b:Un fs ex H1 H2 h1 h2):Un fs ex H H2 h h2 where
 keep:=λc ob q n hc hx=>b.keep c ob (a.keep c ob q n hc hx) (a.free c ob q n hx) hc hx
 slot:=λc ob q n hc hx=>by obtain⟨sl,e1⟩:=a.slot c ob q n hc hx;obtain⟨sl',e2⟩:=b.slot c _ e1 (a.free c ob q n hx) hc hx;exact⟨sl',e2⟩
 free:=λc ob q n hx=>by obtain⟨o',e1⟩:=a.there c ob q hx;exact b.free c o' e1 (a.free c ob q n hx) hx
 there:=λc ob q hx=>by obtain⟨o',e1⟩:=a.there c ob q hx;exact b.there c o' e1 hx
 tups:=λc xs q=>b.tups c xs (a.tups c xs q)
 frzs:=λc ob xs q=>b.frzs c ob xs (a.frzs c ob xs q)
 tbls:=λc ps q=>by obtain⟨m1,e1⟩:=a.tbls c ps q;obtain⟨m2,e2⟩:=b.tbls c _ e1;exact⟨m1++m2,by rw[e2,Array.append_assoc]⟩
theorem Un.kept(k:∀b u,h.get? b=some u->h'.get? b=some u):Un fs ex H H h h':=
 ⟨λb ob q _ _ _=>k b ob q,λb ob q _ _ _=>⟨ob.slots,k b ob q⟩,λ_ _ _ n _=>n,λb ob q _=>⟨ob,k b ob q⟩,λ_ _ q=>q,λ_ _ _ q=>q,λ_ ps q=>⟨#[],by rw[q];simp⟩⟩
theorem Un.refl:Un fs ex H H h h:=Un.kept λ_ _ q=>q
theorem Un.laid(k:∀b u,h.get? b=some u->h'.get? b=some u)(hp:h.objs.size<=a)(hn:H a=none):Un fs ex H (upd H a o) h h' where
 keep:=λb u q _ _ _=>k b u q
 slot:=λb u q _ _ _=>⟨u.slots,k b u q⟩
 free:=λb u q n _=>by rw[aw (DQ (Dq (DF q) hp))];exact n
 there:=λb u q _=>⟨u,k b u q⟩
 tups:=λb xs q=>by rw[aw (au q hn)];exact q
 frzs:=λb u xs q=>by rw[aw (au q hn)];exact q
 tbls:=λb ps q=>⟨#[],by rw[aw (au q hn),q];simp⟩
theorem Un.write(mu:Mut (H x))(he:e=x\/H e=some (.own x))(k:∀b u,b≠e->h.get? b=some u->h'.get? b=some u)(heo:∃u,h'.get? e=some u):Un fs ex H (upd H x o) h h':=by
 have hx:∀b,H b=none->b≠x:=λb n z=>by subst z;rw[n]at mu;exact mu
 have hb:∀b,H b=none->b≠e:=λb n z=>by
  subst z;rcases he with r|r
  .exact hx b n r
  .rw[n]at r;cases r
 have hm:∀b u,H b=some u->¬Mut (some u)->b≠x:=λb u q nm z=>by subst z;rw[q]at mu;exact nm mu
 refine⟨λb u q n _ _=>k b u (hb b n) q,λb u q n _ _=>⟨u.slots,k b u (hb b n) q⟩,λb u q n _=>by rw[aw (hx b n)];exact n,λb u q _=> ?_,
  λb xs q=>by rw[aw (hm b _ q λz=>z)];exact q,λb u xs q=>by rw[aw (hm b _ q λz=>z)];exact q,λb ps q=>⟨#[],by rw[aw (hm b _ q λz=>z),q];simp⟩⟩
 by_cases hbe:b=e
 .subst hbe;exact heo
 .exact⟨u,k b u hbe q⟩
theorem Un.mono(u:Un fs ex H H1 h h1)(hs:∀b∈fs,b∈fs')(hx:∀b∈ex,b∈ex'):Un fs' ex' H H1 h h1:=
 ⟨λb ob q n hb he=>u.keep b ob q n (λz=>hb (hs b z)) λz=>he (hx b z),λ_ _ q n _ he=>u.any q n λz=>he (hx _ z),λb ob q n he=>u.free b ob q n λz=>he (hx b z),λb ob q he=>u.there b ob q λz=>he (hx b z),u.tups,u.frzs,u.tbls⟩
end
def trk(h:Heap)(H:Hp):List Addr:=(List.range h.objs.size).filter λa=>(H a).isSome
def lF(h:Heap)(H:Hp):Heap:=PySem.W.hideAll h (trk h H)
theorem vP(h:Heap)(H:Hp):(lF h H).objs.size=h.objs.size:=PySem.W.hideAll_size _ _
theorem yM{h:Heap}(e:h.get? b=some o)(n:H b=none):(lF h H).get? b=some o:=
 PySem.W.hideAll_get _ e λhm=>by have q:(H b).isSome=true:=(Fb.mp hm).2;rw[n]at q;simp at q
theorem Au{h:Heap}(e:(lF h H).get? b=some o):h.get? b=some o/\H b=none:=by
 have e':h.get? b=some o:=PySem.W.of_hideAll (trk h H) e;refine⟨e',?_⟩;cases q:H b with
 |none=>rfl
 |some x=>
  have hm:b∈trk h H:=Fb.mpr ⟨DT.mpr (DF e'),by simp[q]⟩;have z:(lF h H).get? b=none:=PySem.W.hideAll_none (trk h H) hm;rw[z]at e;cases e
def AO(g h:Heap)(L:Addr):List (Addr×Obj):=(List.range h.objs.size).filterMap λa=>if a=L\/(g.get? a).isSome=true then none else(h.get? a).map λo=>(a,o)
def rest(g h:Heap)(L d:Addr):List (Addr×Obj):=(AO g h L).filter λp=>decide (p.1≠d)
end L2
namespace L2
open PySem PySem.Spec PyProof.Rows
structure Mod(K:PySem.W.Frag)(mg:Str->Option Value)(base:Heap):Prop where
 kin:K.In base
 glob:base.Ns mainGlobals mg
 blt:∃mb,base.Ns builtinsNs mb/\∀x:Str,x≠ "__name__"->mb x=bootBuiltins x
 nolimit:base.NoLimit
structure Cx where
 prog:Program
 w:World
 K:PySem.W.Frag
 mg:Str->Option Value
 base:Heap
 A:Around
 N:List Str
 s₀:Shared
 H₀:Hp
 env:Env
 outer:List Env
 stack:List Env
 ex:List Addr
 fn:Str->Bool
 calm:Bool
 pn:List (Addr×Obj)
 xe:Value->Shared->Prop
def frs(l:List Env):List Addr:=l.filterMap (·.frame)
abbrev Cx.fs(X:Cx):List Addr:=frs X.outer
def Vis(sc:Scope)(x:Str):Prop:=sc.names.lookup x=some .local\/sc.names.lookup x=some .cell\/sc.names.lookup x=some .free
def Loc(sc:Scope)(x:Str):Prop:=sc.names.lookup x=some .local\/sc.names.lookup x=some .cell
def Look(env:Env)(h:Heap)(m:Str->Option Value)(x:Str)(u:Value):Prop:=
 (env.kindOf x=some .local/\m x=some u)\/((env.kindOf x=some .cell\/env.kindOf x=some .free)/\∃c,env.cells.lookup x=some c/\h.IsCell c (some u))
structure Cx.Ok(X:Cx):Prop where
 mod:Mod X.K X.mg X.base
 kind:X.env.scope.kind= .function
 glob:X.env.globals=mainGlobals
 blt:X.env.builtins=builtinsNs
 above:X.s₀.heap.objs.size<=X.env.locals
 inj:∀x y c,X.env.cells.lookup x=some c->X.env.cells.lookup y=some c->x=y
 has:∀x,(X.env.kindOf x=some .cell\/X.env.kindOf x=some .free)->∃c,X.env.cells.lookup x=some c
 cab:∀x c,X.fn x=true->X.env.cells.lookup x=some c->X.s₀.heap.objs.size<=c
 hd:X.calm=true->X.A.handled=none
 frames:X.A.frames=some X.stack
 stk:X.stack=X.outer\/(X.stack=X.env::X.outer/\X.env.frame=some X.env.locals)
 exf:∀b∈X.ex,b≠X.env.locals/\∀x c,X.env.cells.lookup x=some c->c≠b
 bs:∀b o,X.base.get? b=some o->X.s₀.heap.get? b=some o/\X.H₀ b=none
 bsz:X.base.objs.size<=X.s₀.heap.objs.size
 noex:∀b o,X.base.get? b=some o->b∉X.ex
 exfs:∀b∈X.ex,b∉X.fs
 funs:X.s₀.heap.FunFrames X.base X.outer
 frf:∀b∈X.fs,X.H₀ b=none
structure Inv(X:Cx)(pins:List (Addr×Obj))(σ:List (Option V))(H:Hp)(s:Shared):Prop where
 ok:X.Ok
 os:s.os=X.s₀.os
 bare:AllBare s.gens
 base:Un X.fs X.ex X.H₀ H X.s₀.heap s.heap
 loc:∃m,s.heap.Ns X.env.locals m/\∀ (i:Nat) (x:Str) (v:V),X.N[i]?=some x->σ[i]?=some (some v)->Vis X.env.scope x->∃u,aW v u/\Look X.env s.heap m x u
 cell:∀x c,X.env.cells.lookup x=some c->∃v,s.heap.IsCell c v
 free:H X.env.locals=none
 freeC:∀x c,X.env.cells.lookup x=some c->H c=none
 pin:∀p∈X.pn++pins,s.heap.get? p.1=some p.2/\H p.1=none/\p.1≠X.env.locals/\p.1∉X.fs/\∀v,p.2.data≠ .cell v
 hok:HOk X.prog X.w H s.heap
 len:σ.length=X.N.length
section
variable{X:Cx}{pins:List (Addr×Obj)}{σ:List (Option V)}{H H':Hp}{s:Shared}{h':Heap}
theorem Cx.Ok.nofr(ok:X.Ok)(e:X.base.get? b=some o):b∉X.fs:=λhb=>by have:=(ok.funs.mem hb).1;rw[e]at this;cases this
theorem Inv.bs(I:Inv X pins σ H s):∀b o,X.base.get? b=some o->s.heap.get? b=some o/\H b=none:=λb o e=>
 ⟨I.base.keep b o (I.ok.bs b o e).1 (I.ok.bs b o e).2 (I.ok.nofr e) (I.ok.noex b o e),I.base.free b o (I.ok.bs b o e).1 (I.ok.bs b o e).2 (I.ok.noex b o e)⟩
theorem Inv.bk(I:Inv X pins σ H s):∀b o,X.base.get? b=some o->s.heap.get? b=some o:=λb o e=>(I.bs b o e).1
theorem Inv.mod(I:Inv X pins σ H s):Mod X.K X.mg X.base:=I.ok.mod
theorem Inv.kIn(I:Inv X pins σ H s):X.K.In s.heap:=I.ok.mod.kin.keeps I.bk
theorem Inv.nolimit(I:Inv X pins σ H s):s.heap.NoLimit:=I.ok.mod.nolimit.keeps I.bk
theorem Inv.fr(I:Inv X pins σ H s):∃m,Fr X.base X.env.locals s.heap m:=
 let⟨m,hn,_⟩:=I.loc
 ⟨m,hn,I.bk,Du I.ok.bsz I.ok.above⟩
theorem Inv.lt(I:Inv X pins σ H s):X.env.locals<s.heap.objs.size:=let⟨_,hn,_⟩:=I.loc;hn.lt
theorem Inv.sz(I:Inv X pins σ H s):X.s₀.heap.objs.size<=s.heap.objs.size:=Du I.ok.above (F8 I.lt)
theorem Inv.nofs(I:Inv X pins σ H s){a:Addr}(h:s.heap.objs.size<=a):a∉X.fs:=λhb=>by obtain⟨_,o,ho,_⟩:=I.ok.funs.mem hb;exact absurd (Dq (DF ho) (Du I.sz h)) (Eb _)
theorem Inv.cne(I:Inv X pins σ H s):∀x c,X.env.cells.lookup x=some c->c≠X.env.locals:=λx c e z=>by obtain⟨v,o,ho,hd⟩:=I.cell x c e;obtain⟨m,⟨o',es,ep,ho',hd',_⟩,_⟩:=I.loc;rw[z,ho']at ho;cases ho;rw[hd']at hd;cases hd
theorem Inv.funs(I:Inv X pins σ H s):s.heap.FunFrames X.base X.outer:=by
 have all:∀ (l:List Env),(∀b∈frs l,b∈X.fs)->X.s₀.heap.FunFrames X.base l->s.heap.FunFrames X.base l:=by
  intro l
  induction l with
  |nil=>intro _ _;trivial
  |cons env r ih=>
   intro hs hl;obtain⟨hk,⟨L,o,hf,hn,ho,hd⟩,hr⟩:=hl;have hL:L∈X.fs:=hs L (by unfold frs;rw[Ht,hf];exact DE);obtain⟨sl,e⟩:=I.base.slot L o ho (I.ok.frf L hL) hL λz=>I.ok.exfs L z hL;exact⟨hk,⟨L,_,hf,hn,e,hd⟩,ih (λb hb=>hs b (by unfold frs;rw[Ht,hf];exact DC _ hb)) hr⟩
 exact all X.outer (λ_ hb=>hb) I.ok.funs
theorem Inv.stack(I:Inv X pins σ H s):s.heap.FunFrames X.base X.stack:=by
 rcases I.ok.stk with e|⟨e,hf⟩
 .rw[e];exact I.funs
 .rw[e];obtain⟨m,hn,_⟩:=I.loc;refine .cons (by rw[I.ok.kind];decide) hf hn ?_ I.funs;exact Heap.get?_none_of_le (Du I.ok.bsz I.ok.above)
theorem Inv.stkSub(I:Inv X pins σ H s):∀b∈frs X.stack,b∈X.env.locals::X.fs:=λb hb=>by
 rcases I.ok.stk with e|⟨e,hf⟩
 .rw[e]at hb;exact DC _ hb
 .rw[e]at hb;unfold frs at hb;rw[Ht,hf]at hb;exact hb
theorem Inv.stkFree(I:Inv X pins σ H s):∀b∈frs X.stack,H b=none:=λb hb=>by
 rcases Dz.mp (I.stkSub b hb)with e|hb
 .rw[e];exact I.free
 .obtain⟨_,o,ho,_⟩:=I.ok.funs.mem hb;exact I.base.free b o ho (I.ok.frf b hb) λz=>I.ok.exfs b z hb
theorem Inv.step{ch:List Addr}(I:Inv X pins σ H s)
  (hch:∀b∈ch,(b∈X.ex\/X.s₀.heap.objs.size<=b)/\b≠X.env.locals/\(∀x c,X.env.cells.lookup x=some c->c≠b)/\∀p∈X.pn++pins,p.1≠b)
  (keep:∀b o,b≠X.env.locals->b∉X.fs->b∉ch->s.heap.get? b=some o->H b=none->h'.get? b=some o)
  (slot:∀b o,b≠X.env.locals->b∈X.fs->b∉ch->s.heap.get? b=some o->H b=none->∃sl,h'.get? b=some {o with slots:=sl}) (free:∀b o,b∉ch->s.heap.get? b=some o->H b=none->H' b=none)
  (there:∀b o,b∉ch->s.heap.get? b=some o->∃o',h'.get? b=some o')
  (tups:∀b xs,H b=some (.tup xs)->H' b=some (.tup xs)) (frzs:∀b o u,H b=some (.frz o u)->H' b=some (.frz o u)) (tbls:∀b ps,H b=some (.tbl ps)->∃more,H' b=some (.tbl (ps++more)))
  (ns:∀m,s.heap.Ns X.env.locals m->h'.Ns X.env.locals m) (hok:HOk X.prog X.w H' h') (hg:AllBare g'):
  Inv X pins σ H' {s with heap:=h',gens:=g',drawn:=d',toks:=t'}:=by
 have neL:∀b o,X.s₀.heap.get? b=some o->b≠X.env.locals:=λb o e=>DQ (Dq (DF e) I.ok.above);have neC:∀b o,X.s₀.heap.get? b=some o->b∉X.ex->b∉ch:=λb o e hx hb=>by
  rcases(hch b hb).1 with z|z
  .exact hx z
  .exact absurd (Dq (DF e) z) (Eb _)
 have cellK:∀x c,X.env.cells.lookup x=some c->∀v,s.heap.IsCell c v->h'.IsCell c v:=λx c e v ⟨o,ho,hd⟩=>by
  have nch:c∉ch:=λz=>(hch c z).2.2.1 x c e rfl;by_cases hc:c∈X.fs
  .obtain⟨sl,q⟩:=slot c o (I.cne x c e) hc nch ho (I.freeC x c e);exact⟨_,q,hd⟩
  .exact⟨o,keep c o (I.cne x c e) hc nch ho (I.freeC x c e),hd⟩
 refine⟨I.ok,I.os,hg,⟨λb o e n hb hx=> ?_,λb o e n hb hx=> ?_,λb o e n hx=> ?_,λb o e hx=> ?_,λb xs e=>tups b xs (I.base.tups b xs e),λb o xs e=>frzs b o xs (I.base.frzs b o xs e),λb ps e=> ?_⟩,?_,λx c e=> ?_,?_,λx c e=> ?_,λp hp=> ?_,hok,I.len⟩
 .exact keep b o (neL b o e) hb (neC b o e hx) (I.base.keep b o e n hb hx) (I.base.free b o e n hx)
 .obtain⟨sl,e1⟩:=I.base.slot b o e n hb hx;obtain⟨sl',e2⟩:=slot b _ (neL b o e) hb (neC b o e hx) e1 (I.base.free b o e n hx);exact⟨sl',e2⟩
 .obtain⟨o',e1⟩:=I.base.there b o e hx;exact free b o' (neC b o e hx) e1 (I.base.free b o e n hx)
 .obtain⟨o',e1⟩:=I.base.there b o e hx;exact there b o' (neC b o e hx) e1
 .obtain⟨m1,e1⟩:=I.base.tbls b ps e;obtain⟨m2,e2⟩:=tbls b _ e1;exact⟨m1++m2,by rw[e2,Array.append_assoc]⟩
 .obtain⟨m,hn,hl⟩:=I.loc;refine⟨m,ns m hn,λi x v e1 e2 e3=> ?_⟩;obtain⟨u,r,l⟩:=hl i x v e1 e2 e3;refine⟨u,r,?_⟩;rcases l with l|⟨k,c,e,z⟩
  .exact .inl l
  .exact .inr ⟨k,c,e,cellK x c e _ z⟩
 .obtain⟨v,z⟩:=I.cell x c e;exact⟨v,cellK x c e v z⟩
 .obtain⟨m,⟨o,_,_,ho,_⟩,_⟩:=I.loc;exact free _ o (λz=>(hch _ z).2.1 rfl) ho I.free
 .obtain⟨v,o,ho,hd⟩:=I.cell x c e;exact free c o (λz=>(hch c z).2.2.1 x c e rfl) ho (I.freeC x c e)
 .obtain⟨e,n,ne,nf,d⟩:=I.pin p hp;have nch:p.1∉ch:=λz=>(hch p.1 z).2.2.2 p hp rfl;exact⟨keep p.1 p.2 ne nf nch e n,free p.1 p.2 nch e n,ne,nf,d⟩
theorem Inv.un(I:Inv X pins σ H s)(u:Un X.fs [] H H' s.heap h')(hok:HOk X.prog X.w H' h'):Inv X pins σ H' {s with heap:=h',toks:=t'}:=by
 obtain⟨m,⟨o,es,ep,ho,r⟩,_⟩:=id I.loc;obtain⟨sl,hL⟩:=u.any ho I.free (by simp);exact I.step (g':=s.gens) (d':=s.drawn) (ch:=[]) (λ_ z=>nomatch z) (λb o _ hb _ e n=>u.keep b o e n hb (by simp)) (λb o _ hb _ e n=>u.slot b o e n hb (by simp)) (λb o _ e n=>u.free b o e n (by simp)) (λb o _ e=>u.there b o e (by simp)) u.tups u.frzs u.tbls (λm' hm=>by obtain⟨o',es',ep',ho',r'⟩:=hm;rw[ho]at ho';cases ho';exact⟨_,es',ep',hL,r'⟩) hok I.bare
theorem Inv.call(I:Inv X pins σ H s)(u:Un (frs X.stack) ch H H' s.heap h')(hok:HOk X.prog X.w H' h')(hg:AllBare g')
  (hch:∀b∈ch,(b∈X.ex\/X.s₀.heap.objs.size<=b)/\b≠X.env.locals/\(∀x c,X.env.cells.lookup x=some c->c≠b)/\∀p∈X.pn++pins,p.1≠b):
  Inv X pins σ H' {s with heap:=h',gens:=g',drawn:=d',toks:=t'}:=by
 obtain⟨m,⟨o,es,ep,ho,r⟩,_⟩:=id I.loc;obtain⟨sl,hL⟩:=u.any ho I.free λz=>(hch _ z).2.1 rfl;exact I.step (ch:=ch) hch (λb o hL hb hc e n=>u.keep b o e n (λz=>(Dz.mp (I.stkSub b z)).elim hL hb) hc) (λb o _ _ hc e n=>u.any e n hc) (λb o hc e n=>u.free b o e n hc) (λb o hc e=>u.there b o e hc) u.tups u.frzs u.tbls (λm' hm=>by obtain⟨o',es',ep',ho',r'⟩:=hm;rw[ho]at ho';cases ho';exact⟨_,es',ep',hL,r'⟩) hok hg
theorem Inv.turned(I:Inv X pins σ H s)(k:∀b o,b≠it->s.heap.get? b=some o->h'.get? b=some o)(hn:H it=none)(hL:it≠X.env.locals)
  (h1:it∈X.ex\/X.s₀.heap.objs.size<=it) (h2:∀x c,X.env.cells.lookup x=some c->c≠it) (h3:∀p∈X.pn++pins,p.1≠it):Inv X pins σ H {s with heap:=h',toks:=t'}:=by
 have nit:∀b u,H b=some u->b≠it:=λb u e z=>by rw[z,hn]at e;cases e
 refine I.step (g':=s.gens) (d':=s.drawn) (ch:=[it]) (λb hb=> ?_) (λb o _ _ hc e _=>k b o (λz=>hc (by simp[z])) e) (λb o _ _ hc e _=>⟨o.slots,k b o (λz=>hc (by simp[z])) e⟩) (λ_ _ _ _ n=>n)
  (λb o hc e=>⟨o,k b o (λz=>hc (by simp[z])) e⟩) (λ_ _ e=>e) (λ_ _ _ e=>e) (λb ps e=>⟨#[],by rw[e];simp⟩) (λm hm=> ?_) (λb u e=> ?_) I.bare
 .have e:b=it:=by simpa using hb
  subst e;exact⟨h1,hL,h2,h3⟩
 .obtain⟨o,es,ep,ho,r⟩:=hm;exact⟨o,es,ep,k _ o (E8 hL) ho,r⟩
 .refine(I.hok b u e).stay (λc v hc q=>k c v ?_ q) (λ_ q=>q) λ_ _ q=>q;rcases hc with z|z
  .rw[z];exact nit b u e
  .exact nit c _ z
theorem Inv.tok(I:Inv X pins σ H s)(t:Nat):Inv X pins σ H {s with toks:=t}:=I.un (h':=s.heap) (t':=t) Un.refl I.hok
theorem Inv.kept(I:Inv X pins σ H s)(k:∀b u,s.heap.get? b=some u->h'.get? b=some u):Inv X pins σ H {s with heap:=h',toks:=t'}:=I.un (Un.kept k) (I.hok.kept k)
theorem Inv.laid{a:Addr}(I:Inv X pins σ H s)(k:∀b u,s.heap.get? b=some u->h'.get? b=some u)(hp:s.heap.objs.size<=a)(new:br X.prog X.w (upd H a o) h' a o):
  Inv X pins σ (upd H a o) {s with heap:=h',toks:=t'}:=I.un (Un.laid k hp (I.hok.fresh hp)) (I.hok.laid k hp new)
theorem Inv.write(I:Inv X pins σ H s)(mu:Mut (H x))(he:e=x\/H e=some (.own x))(k:∀b u,b≠e->s.heap.get? b=some u->h'.get? b=some u)(heo:∃u,h'.get? e=some u)
  (new:br X.prog X.w (upd H x o) h' x o):Inv X pins σ (upd H x o) {s with heap:=h',toks:=t'}:=I.un (Un.write mu he k heo) (I.hok.write mu he k heo new)
theorem Inv.pins_of(I:Inv X pins σ H s)(h:∀p∈pins',s.heap.get? p.1=some p.2/\H p.1=none/\p.1≠X.env.locals/\p.1∉X.fs/\∀v,p.2.data≠ .cell v):Inv X pins' σ H s:=
 ⟨I.ok,I.os,I.bare,I.base,I.loc,I.cell,I.free,I.freeC,λp hp=>(DW.mp hp).elim (λz=>I.pin p (Ep _ z)) (h p),I.hok,I.len⟩
theorem pq{N:List Str}(hN:N.Nodup){i j:Nat}(a:N[i]?=some x)(b:N[j]?=some x):i=j:=by obtain⟨h1,e1⟩:=DB.mp a;obtain⟨h2,e2⟩:=DB.mp b;exact(List.getElem_inj hN).mp (e1.trans e2.symm)
theorem lQ{M:Model}{A:Around}{E:Value->Shared->Prop}{i:Nat}{x:Str}{v:V}{u:Value}{Q:Unit->Shared->Prop}(I:Inv X pins σ H s)(hN:X.N.Nodup)(hi:X.N[i]?=some x)(hx:Loc X.env.scope x)(r:aW v u)
  (h:∀s',Inv X pins (σ.set i (some v)) H s'->(∃a,Heap.SameBut a s.heap s'.heap/\(a=X.env.locals\/X.env.cells.lookup x=some a))->Q () s') (hf:X.fn x=true\/X.env.scope.names.lookup x=some .local:=by first|exact .inl rfl|exact .inr rfl|assumption):wpAny M A (storeName X.env x u) Q E s:=by
 obtain⟨m,hn,hl⟩:=id I.loc;have hcls:(X.env.scope.kind== .class||(X.env.scope.kind== .module&&X.env.locals !=X.env.globals))=false:=by rw[I.ok.kind];rfl
 have hiσ:i<σ.length:=by rw[I.len];exact(DB.mp hi).1
 have cne:=I.cne;have tracked:∀ {a:Addr} {h':Heap},(∃o,s.heap.get? a=some o/\H a=none)->Heap.SameBut a s.heap h'->HOk X.prog X.w H h':=λ{a h'} ha hs b ob e=>by
  obtain⟨_,_,hfree⟩:=ha;refine(I.hok b ob e).stay (λc w' hc q=>(hs.2 c ?_).trans q) (λ_ q=>q) λ_ _ q=>q;rintro rfl;rcases hc with rfl|hc
  .rw[hfree]at e;cases e
  .rw[hfree]at hc;cases hc
 rcases hx with hk|hk
 .refine wpAny_storeName_local hk hn (λh' hn' hs=> ?_) hcls;obtain⟨oL,_,_,hoL,_⟩:=id hn;refine h _ ⟨I.ok,I.os,I.bare,⟨λb o e n hb hx=> ?_,λb o e n hb hx=> ?_,I.base.free,λb o e hx=> ?_,I.base.tups,I.base.frzs,I.base.tbls⟩,⟨_,hn',λj y v' e1 e2 e3=> ?_⟩,λy c e=> ?_,I.free,I.freeC,λp hp=> ?_,tracked ⟨oL,hoL,I.free⟩ hs,by simpa using I.len⟩ ⟨_,hs, .inl rfl⟩
  .exact(hs.2 b (DQ (Dq (DF e) I.ok.above))).trans (I.base.keep b o e n hb hx)
  .obtain⟨sl,e1⟩:=I.base.slot b o e n hb hx;exact⟨sl,(hs.2 b (DQ (Dq (DF e) I.ok.above))).trans e1⟩
  .obtain⟨o',e1⟩:=I.base.there b o e hx;exact⟨o',(hs.2 b (DQ (Dq (DF e) I.ok.above))).trans e1⟩
  .by_cases hj:j=i
   .subst hj;rw[hi]at e1;cases e1;rw[List.getElem?_set_self hiσ]at e2;cases e2;exact⟨u,r, .inl ⟨hk,by simp⟩⟩
   .rw[List.getElem?_set_ne (E8 hj)]at e2;obtain⟨u',r',q⟩:=hl j y v' e1 e2 e3;refine⟨u',r',?_⟩;rcases q with ⟨k,e⟩|⟨k,c,e,z⟩
    .refine .inl ⟨k,?_⟩;have:y≠x:=λe=>hj (pq hN e1 (e▸hi));simp[this,e]
    .exact .inr ⟨k,c,e,z.sameBut hs (cne y c e)⟩
  .obtain⟨w',z⟩:=I.cell y c e;exact⟨w',z.sameBut hs (cne y c e)⟩
  .obtain⟨e,n,ne,nf,d⟩:=I.pin p hp;exact⟨(hs.2 p.1 ne).trans e,n,ne,nf,d⟩
 .have hfn:X.fn x=true:=by
   rcases hf with z|z
   .exact z
   .rw[z]at hk;cases hk
  obtain⟨c,hc⟩:=I.ok.has x (.inl hk);obtain⟨w',z⟩:=I.cell x c hc;refine wpAny_storeName_cell I.ok.kind hk hc z (λh' hc' hs=> ?_);obtain⟨oc,hoc,hocd⟩:=id z;refine h {s with heap:=h'} ⟨I.ok,I.os,I.bare,⟨λb o e n hb hx=> ?_,λb o e n hb hx=> ?_,I.base.free,λb o e hx=> ?_,I.base.tups,I.base.frzs,I.base.tbls⟩,⟨m,hn.sameBut hs (E8 (cne x c hc)),λj y v' e1 e2 e3=> ?_⟩,λy c' e=> ?_,I.free,I.freeC,λp hp=> ?_,tracked ⟨oc,hoc,I.freeC x c hc⟩ hs,by simpa using I.len⟩ ⟨c,hs, .inr hc⟩
  .exact(hs.2 b (DQ (Dq (DF e) (I.ok.cab x c hfn hc)))).trans (I.base.keep b o e n hb hx)
  .obtain⟨sl,e1⟩:=I.base.slot b o e n hb hx;exact⟨sl,(hs.2 b (DQ (Dq (DF e) (I.ok.cab x c hfn hc)))).trans e1⟩
  .obtain⟨o',e1⟩:=I.base.there b o e hx;exact⟨o',(hs.2 b (DQ (Dq (DF e) (I.ok.cab x c hfn hc)))).trans e1⟩
  .by_cases hj:j=i
   .subst hj;rw[hi]at e1;cases e1;rw[List.getElem?_set_self hiσ]at e2;cases e2;exact⟨u,r, .inr ⟨.inl hk,c,hc,hc'⟩⟩
   .rw[List.getElem?_set_ne (E8 hj)]at e2;obtain⟨u',r',q⟩:=hl j y v' e1 e2 e3;refine⟨u',r',?_⟩;rcases q with q|⟨k,c',e,z'⟩
    .exact .inl q
    .refine .inr ⟨k,c',e,z'.sameBut hs ?_⟩;rintro rfl;exact hj (pq hN e1 (I.ok.inj _ _ _ e hc▸hi))
  .by_cases hcc:c'=c
   .subst hcc;exact⟨_,hc'⟩
   .obtain⟨w2,z2⟩:=I.cell y c' e;exact⟨w2,z2.sameBut hs hcc⟩
  .obtain⟨e,n,ne,nf,d⟩:=I.pin p hp;refine⟨(hs.2 p.1 ?_).trans e,n,ne,nf,d⟩;intro q;rw[q,hoc]at e;have q':oc=p.2:=DS e;exact d w' (by rw[<-q'];exact hocd)
theorem oG{M:Model}{A:Around}{E:Value->Shared->Prop}{i:Nat}{x:Str}{v:V}{u:Value}{Q:Unit->Shared->Prop}(I:Inv X pins σ H s)(hN:X.N.Nodup)(hi:X.N[i]?=some x)(hx:Loc X.env.scope x)(r:aW v u)
  (h:∀s',Inv X pins (σ.set i (some v)) H s'->Q () s') (hf:X.fn x=true\/X.env.scope.names.lookup x=some .local:=by first|exact .inl rfl|exact .inr rfl|assumption):wpAny M A (storeName X.env x u) Q E s:=
 lQ I hN hi hx r (λs' I' _=>h s' I') hf
theorem Inv.call'{s':Shared}(I:Inv X pins σ H s)(ho:s'.os=s.os)(u:Un (frs X.stack) ch H H' s.heap s'.heap)(hok:HOk X.prog X.w H' s'.heap)(hg:AllBare s'.gens)
  (hch:∀b∈ch,(b∈X.ex\/X.s₀.heap.objs.size<=b)/\b≠X.env.locals/\(∀x c,X.env.cells.lookup x=some c->c≠b)/\∀p∈X.pn++pins,p.1≠b):Inv X pins σ H' s':=by
 obtain⟨h',g',d',t',o'⟩:=s';have e:o'=s.os:=ho;subst e;exact I.call (g':=g') (t':=t') (d':=d') u hok hg hch
end
abbrev XK:=Value->Option Addr->Hp->Prop
abbrev St:=List (Option V)
abbrev VK:=V->Hp->Prop
abbrev TE:=St->Hp->VK->Prop
abbrev TT:=St->Hp->(Bool->Hp->Prop)->Prop
abbrev TA:=St->Hp->(List V->Hp->Prop)->Prop
structure Ends where
 nx:St->Hp->Prop
 rt:VK
 bk:St->Hp->Prop:=λ_ _=>False
 ct:St->Hp->Prop:=λ_ _=>False
abbrev TS:=Ends->St->Hp->Prop
def EP(X:Cx)(pins:List (Addr×Obj))(σ:St)(Q:VK)(u:Value)(s':Shared):Prop:=∃v H',Inv X pins σ H' s'/\aW v u/\Q v H'
def TP(X:Cx)(pins:List (Addr×Obj))(σ:St)(Q:Bool->Hp->Prop)(b:Bool)(s':Shared):Prop:=∃H',Inv X pins σ H' s'/\Q b H'
def AP(X:Cx)(pins:List (Addr×Obj))(σ:St)(Q:List V->Hp->Prop)(us:List Value)(s':Shared):Prop:=∃vs H',Inv X pins σ H' s'/\Vals vs us/\Q vs H'
def SP(X:Cx)(pins:List (Addr×Obj))(D:Ends)(f:Flow)(s':Shared):Prop:=
 match f with
 | .next=>∃σ' H',Inv X pins σ' H' s'/\D.nx σ' H'
 | .brk=>∃σ' H',Inv X pins σ' H' s'/\D.bk σ' H'
 | .cont=>∃σ' H',Inv X pins σ' H' s'/\D.ct σ' H'
 | .ret u=>∃v σ' H',Inv X pins σ' H' s'/\aW v u/\D.rt v H'
def PE(X:Cx)(e:Expr)(t:TE):Prop:=
 ∀ (pins:List (Addr×Obj)) (s:Shared) (σ:St) (H:Hp) (Q:VK),Inv X pins σ H s->t σ H Q->wpAny (model X.prog X.w) X.A (eval e X.env) (EP X pins σ Q) X.xe s
def PT(X:Cx)(e:Expr)(t:TT):Prop:=
 ∀ (pins:List (Addr×Obj)) (s:Shared) (σ:St) (H:Hp) (Q:Bool->Hp->Prop),Inv X pins σ H s->t σ H Q->wpAny (model X.prog X.w) X.A (isTrue e X.env (eval e X.env)) (TP X pins σ Q) X.xe s
def PW(X:Cx)(e:Expr)(t:TT):Prop:=
 ∀ (whole:Sem Value) (pins:List (Addr×Obj)) (s:Shared) (σ:St) (H:Hp) (Q:Bool->Hp->Prop),Inv X pins σ H s->t σ H Q->wpAny (model X.prog X.w) X.A (isTrue e X.env whole) (TP X pins σ Q) X.xe s
theorem PW.pt(h:PW X e t):PT X e t:=h _
def PA(X:Cx)(es:List Expr)(t:TA):Prop:=
 ∀ (pos:Pos) (pins:List (Addr×Obj)) (s:Shared) (σ:St) (H:Hp) (Q:List V->Hp->Prop),Inv X pins σ H s->t σ H Q->wpAny (model X.prog X.w) X.A (spliced (backTo pos (starEach es X.env))) (AP X pins σ Q) X.xe s
def PS(X:Cx)(st:Stmt)(t:TS):Prop:=
 ∀ (pins:List (Addr×Obj)) (s:Shared) (σ:St) (H:Hp) (D:Ends),Inv X pins σ H s->t D σ H->wpAny (model X.prog X.w) X.A (exec st X.env) (SP X pins D) X.xe s
def PSs(X:Cx)(st:List Stmt)(t:TS):Prop:=
 ∀ (pins:List (Addr×Obj)) (s:Shared) (σ:St) (H:Hp) (D:Ends),Inv X pins σ H s->t D σ H->wpAny (model X.prog X.w) X.A (execs st X.env) (SP X pins D) X.xe s
theorem thn(h:wpAny M A t Q E s)(hQ:∀a s,Q a s->Q' a s):wpAny M A t Q' E s:=Fl h hQ λ_ _ x=>x
end L2
namespace L2
open PySem PySem.Spec PyProof.Rows
section
variable{X:Cx}
inductive RdV(o:Option (Option V))(H:Hp)(Q:VK):Prop
 |mk (v:V) (e:o=some (some v)) (q:Q v H):RdV o H Q
def Bc(i:Nat):TE:=λσ H Q=>RdV σ[i]? H Q
def tC(v:V):TE:=λ_ H Q=>Q v H
theorem By{i:Nat}{x:Str}{pos:Pos}(hN:X.N[i]?=some x)(hv:Vis X.env.scope x)(hd:(x==("__debug__":Str))=false:=by decide)(hcd:(x==("__classdict__":Str))=false:=by decide):PE X (.Name x pos) (Bc i):=by
 intro pins s σ H Q I h;obtain⟨v,e,h⟩:=h;obtain⟨m,hn,hl⟩:=I.loc;obtain⟨u,r,l⟩:=hl i x v hN e hv;have fin:EP X pins σ Q u s:=⟨v,H,I,r,h⟩;rcases l with ⟨hk,hm⟩|⟨hk,c,hc,hcell⟩
 .exact wpAny_Name (wpAny_loadName_local I.ok.kind hk hn hm fin) hd
 .rcases hk with hk|hk
  .exact wpAny_Name (wpAny_loadName_cell I.ok.kind hk hc hcell fin) hd
  .exact wpAny_Name (wpAny_loadName_free I.ok.kind hk hc hcell fin hcd) hd
theorem ai{i j pos}:PE X (.Constant (.int i) j pos) (tC (.int i)):=λ_ _ _ H _ I h=>wpAny_Constant_int ⟨.int i,H,I.tok _,⟨_,rfl⟩,h⟩
theorem fK{b j pos}:PE X (.Constant (.bool b) j pos) (tC (.bl b)):=λ_ _ _ H _ I h=>Constant_bool ⟨.bl b,H,I,rfl,h⟩
theorem xA{j pos}:PE X (.Constant .none j pos) (tC .non):=λ_ _ _ H _ I h=>Constant_none ⟨.non,H,I,rfl,h⟩
def Gl(X:Cx)(x:Str):Prop:=X.env.kindOf x=some .globalImplicit
theorem jy{E:Value->Shared->Prop}{pins:List (Addr×Obj)}{s:Shared}{σ:St}{H:Hp}{x:Str}{u:Value}{pos:Pos}{Q:Value->Shared->Prop}(I:Inv X pins σ H s)(hg:Gl X x)(hm:X.mg x=some u)(h:Q u s)
  (hd:(x==("__debug__":Str))=false:=by decide):wpAny (model X.prog X.w) X.A (eval (.Name x pos) X.env) Q E s:=
 Calls.Name_function_global I.ok.kind hg (Calls.loadGlobal_global (by rw[I.ok.glob];exact I.mod.glob.keeps I.bk) hm h) hd
theorem dz{E:Value->Shared->Prop}{pins:List (Addr×Obj)}{s:Shared}{σ:St}{H:Hp}{x:Str}{u:Value}{pos:Pos}{Q:Value->Shared->Prop}(I:Inv X pins σ H s)(hg:Gl X x)(hm:X.mg x=none)(hv:bootBuiltins x=some u)(h:Q u s)
  (hn:x≠ "__name__":=by decide) (hd:(x==("__debug__":Str))=false:=by decide):wpAny (model X.prog X.w) X.A (eval (.Name x pos) X.env) Q E s:=by
 obtain⟨mb,h1,h2⟩:=I.mod.blt;exact Calls.Name_function_global I.ok.kind hg (Calls.loadGlobal_builtin (by rw[I.ok.glob];exact I.mod.glob.keeps I.bk) hm (by rw[I.ok.blt];exact h1.keeps I.bk) ((h2 x hn).trans hv) h) hd
theorem e9{x:Str}{v:V}{u:Value}{pos:Pos}(hg:Gl X x)(hm:X.mg x=some u)(r:aW v u)(hd:(x==("__debug__":Str))=false:=by decide):PE X (.Name x pos) (tC v):=
 λ_ _ _ H _ I h=>jy I hg hm ⟨v,H,I,r,h⟩ hd
theorem gO{x:Str}{v:V}{u:Value}{pos:Pos}(hg:Gl X x)(hm:X.mg x=none)(hv:bootBuiltins x=some u)(r:aW v u)(hn:x≠ "__name__":=by decide)(hd:(x==("__debug__":Str))=false:=by decide):PE X (.Name x pos) (tC v):=
 λ_ _ _ H _ I h=>dz I hg hm hv ⟨v,H,I,r,h⟩ hn hd
variable{a b:Expr}{ta tb:TE}{pos:Pos}
inductive RdB(Q:Bool->Hp->Prop)(x:V)(H:Hp):Prop
 |mk (k:Bool) (e:x= .bl k) (q:Q k H):RdB Q x H
def tB(t:TE):TT:=λσ H Q=>t σ H (RdB Q)
theorem dQ{e:Expr}{t:TE}(h:PE X e t)(he:∀whole,isTrue e X.env whole=(do let v<-whole;standAt e.pos;holding [v] (truthy v)):=by intro _;rfl):PT X e (tB t):=by intro pins s σ H Q I hw;refine isTrue_plain (thn (h pins s σ H _ I hw) λv s1 ⟨x,H1,I1,r1,q1⟩=> ?_) (he _);obtain⟨d,rfl,q⟩:=q1;cases r1;exact Fs ⟨H1,I1,q⟩
variable{tA tB':TT}{rest:List Expr}
def C9(t u:TT):TT:=λσ H Q=>t σ H λc H1=>if c=true then u σ H1 Q else Q false H1
def tOr(t u:TT):TT:=λσ H Q=>t σ H λc H1=>if c=true then Q true H1 else u σ H1 Q
def C7(t:TT):TT:=λσ H Q=>t σ H λc H1=>Q (!c) H1
theorem jq(ha:PT X a tA):PW X (.BoolOp .And [a] pos) tA:=by
 intro wh pins s σ H Q I h;refine isTrue_and (thn (ha pins s σ H Q I h) λc s1 e=> ?_);cases c with
 |true=>exact isTrue_and_nil e
 |false=>exact e
theorem fI(ha:PT X a tA):PW X (.BoolOp .Or [a] pos) tA:=by
 intro wh pins s σ H Q I h;refine isTrue_or (thn (ha pins s σ H Q I h) λc s1 e=> ?_);cases c with
 |false=>exact isTrue_or_nil e
 |true=>exact e
theorem nB(ha:PT X a tA)(hb:PW X (.BoolOp .And (b::rest) pos) tB'):PW X (.BoolOp .And (a::b::rest) pos) (C9 tA tB'):=by
 intro wh pins s σ H Q I h;refine isTrue_and (thn (ha pins s σ H _ I h) λc s1 ⟨H1,I1,q1⟩=> ?_);cases c with
 |true=>exact hb wh pins s1 σ H1 Q I1 q1
 |false=>exact⟨H1,I1,q1⟩
theorem fJ(ha:PT X a tA)(hb:PW X (.BoolOp .Or (b::rest) pos) tB'):PW X (.BoolOp .Or (a::b::rest) pos) (tOr tA tB'):=by
 intro wh pins s σ H Q I h;refine isTrue_or (thn (ha pins s σ H _ I h) λc s1 ⟨H1,I1,q1⟩=> ?_);cases c with
 |true=>exact⟨H1,I1,q1⟩
 |false=>exact hb wh pins s1 σ H1 Q I1 q1
theorem e7(ha:PT X a tA):PT X (.UnaryOp .Not a pos) (C7 tA):=by intro pins s σ H Q I h;exact isTrue_not (ha pins s σ H (λc H1=>Q (!c) H1) I h)
def Ct(ta tb:TE):TE:=λσ H Q=>ta σ H (RdB λc H1=>if c=true then tb σ H1 Q else Q (.bl false) H1)
def Ci(ta:TE):TE:=λσ H Q=>ta σ H (RdB λc H1=>Q (.bl (!c)) H1)
theorem xy{op}(h:PE X a t):PE X (.BoolOp op [a] pos) t:=λpins s σ H Q I hw=>BoolOp_one (h pins s σ H Q I hw)
theorem xE(ha:PE X a ta)(hb:PE X (.BoolOp .And (b::rest) pos) tb):PE X (.BoolOp .And (a::b::rest) pos) (Ct ta tb):=by
 intro pins s σ H Q I h;refine BoolOp_and (thn (ha pins s σ H _ I h) λv s1 ⟨x,H1,I1,r1,q1⟩=> ?_);obtain⟨c,rfl,q1⟩:=q1;cases r1;refine Fs ?_;cases c with
 |true=>exact hb pins s1 σ H1 Q I1 q1
 |false=>exact⟨.bl false,H1,I1,rfl,q1⟩
theorem Bz(ha:PE X a ta):PE X (.UnaryOp .Not a pos) (Ci ta):=by intro pins s σ H Q I h;refine UnaryOp_ (thn (ha pins s σ H _ I h) λv s1 ⟨x,H1,I1,r1,q1⟩=> ?_);obtain⟨c,rfl,q1⟩:=q1;cases r1;exact not_of (Fs ⟨.bl (!c),H1,I1,rfl,q1⟩)
def tIf(t:TT)(ta tb:TE):TE:=λσ H Q=>t σ H λc H1=>if c=true then ta σ H1 Q else tb σ H1 Q
theorem xC(hc:PT X c tA)(ha:PE X a ta)(hb:PE X b tb):PE X (.IfExp c a b pos) (tIf tA ta tb):=by
 intro pins s σ H Q I h;refine wpAny_IfExp (thn (hc pins s σ H _ I h) λd s1 ⟨H1,I1,q1⟩=> ?_);cases d with
 |true=>exact ha pins s1 σ H1 Q I1 q1
 |false=>exact hb pins s1 σ H1 Q I1 q1
end
end L2
namespace L2
open PySem PySem.Spec PyProof.Rows
def SqL(K:PySem.W.Frag)(H:Hp)(a:Addr)(xs:List V):Prop:=
 Rd H a (.lst xs)\/
  ∃ (o:Obj) (its:Array Value) (n:Nat),K.lookup a=some o/\o.cls= .type "list"/\o.dict=none/\o.data= .seq its n/\its.size<=sizeLine/\Vals xs its.toList
def SqT(K:PySem.W.Frag)(H:Hp)(a:Addr)(xs:List V):Prop:=
 Rd H a (.tup xs)\/
  ∃ (o:Obj) (its:Array Value) (n:Nat),K.lookup a=some o/\o.cls= .type "tuple"/\o.data= .seq its n/\its.size<=sizeLine/\Vals xs its.toList
def Dh:Value->Option V
 | .none=>some .non
 | .bool b=>some (.bl b)
 | .int i _=>some (.int i)
 | .str x _=>some (.str x)
 | .bytes b _=>some (.byt b)
 | .float b _=>some (.flt b)
 | .ref a=>some (.ref a)
 | .type n=>some (.ty n)
 |_=>none
theorem aW.abs(r:aW x u):Dh u=some x:=by
 cases x with
 |non=>cases r;rfl
 |bl _=>cases r;rfl
 |int _=>obtain⟨t,rfl⟩:=r;rfl
 |str _=>obtain⟨t,rfl⟩:=r;rfl
 |byt _=>obtain⟨t,rfl⟩:=r;rfl
 |flt _=>obtain⟨t,rfl⟩:=r;rfl
 |ref _=>cases r;rfl
 |ty _=>cases r;rfl
theorem aW.inj(r:aW x u)(q:aW y u):x=y:=DS (r.abs.symm.trans q.abs)
theorem Vals.inj:∀ {xs ys:List V} {us:List Value},Vals xs us->Vals ys us->xs=ys
 |_,_,_, .nil, .nil=>rfl
 |_,_,_, .cons r t, .cons r' t'=>by rw[r.inj r',Vals.inj t t']
section
variable{X:Cx}{pins:List (Addr×Obj)}{σ:St}{H:Hp}{s:Shared}{a:Addr}{xs ys:List V}
theorem SqL.of{K:PySem.W.Frag}(h:H a=some (.lst xs)):SqL K H a xs:= .inl (.inl h)
theorem SqT.of{K:PySem.W.Frag}(h:H a=some (.tup xs)):SqT K H a xs:= .inl (.inl h)
theorem Inv.list(I:Inv X pins σ H s)(h:SqL X.K H a xs):∃its:List Value,Vals xs its/\PlainL s.heap a its.toArray/\xs.length<=sizeLine:=by
 rcases h with h|⟨o,its,n,hk,hc,hd,hs,hz,r⟩
 .obtain⟨z,its,n,r,e⟩:=h.ok I.hok;exact⟨its,r,⟨_,n,e,rfl,rfl,rfl⟩,z⟩
 .refine⟨its.toList,r,⟨o,n,I.kIn a o hk,hc,hd,by simpa using hs⟩,?_⟩;have e:=r.length;simp only[EL]at e;lia
theorem Inv.tuple(I:Inv X pins σ H s)(h:SqT X.K H a xs):∃its:List Value,Vals xs its/\IsTup s.heap a its.toArray/\xs.length<=sizeLine:=by
 rcases h with h|⟨o,its,n,hk,hc,hs,hz,r⟩
 .obtain⟨z,its,r,p⟩:=h.ok I.hok;exact⟨its,r,p,z⟩
 .refine⟨its.toList,r,⟨o,I.kIn a o hk,hc,n,by simpa using hs⟩,?_⟩;have e:=r.length;simp only[EL]at e;lia
theorem Inv.list_inj(I:Inv X pins σ H s)(h:SqL X.K H a xs)(h':SqL X.K H a ys):xs=ys:=by
 obtain⟨its,r,⟨o,n,e,_,_,d⟩,_⟩:=I.list h;obtain⟨its',r',⟨o',n',e',_,_,d'⟩,_⟩:=I.list h';rw[e]at e';cases e';rw[d]at d';injection d' with d1 _
 have:its=its':=by simpa using Es Array.toList d1
 subst this;exact r.inj r'
theorem Inv.tuple_inj(I:Inv X pins σ H s)(h:SqT X.K H a xs)(h':SqT X.K H a ys):xs=ys:=by
 obtain⟨its,r,⟨o,e,_,n,d⟩,_⟩:=I.tuple h;obtain⟨its',r',⟨o',e',_,n',d'⟩,_⟩:=I.tuple h';rw[e]at e';cases e';rw[d]at d';injection d' with d1 _
 have:its=its':=by simpa using Es Array.toList d1
 subst this;exact r.inj r'
end
abbrev Cx.wish(X:Cx)(E:Value->Shared->Prop):Cx:={X with xe:=E}
abbrev Cx.nox(X:Cx):Cx:=X.wish λ_ _=>False
theorem Cx.Ok.wish{X:Cx}(ok:X.Ok)(E:Value->Shared->Prop):(X.wish E).Ok:=
 ⟨ok.mod,ok.kind,ok.glob,ok.blt,ok.above,ok.inj,ok.has,ok.cab,ok.hd,ok.frames,ok.stk,ok.exf,ok.bs,ok.bsz,ok.noex,ok.exfs,ok.funs,ok.frf⟩
theorem Cx.Ok.unwish{X:Cx}(ok:(X.wish E).Ok):X.Ok:=
 ⟨ok.mod,ok.kind,ok.glob,ok.blt,ok.above,ok.inj,ok.has,ok.cab,ok.hd,ok.frames,ok.stk,ok.exf,ok.bs,ok.bsz,ok.noex,ok.exfs,ok.funs,ok.frf⟩
section
variable{X:Cx}{pins:List (Addr×Obj)}{σ:St}{H:Hp}{s:Shared}{E:Value->Shared->Prop}
theorem Inv.wish(I:Inv X pins σ H s)(E:Value->Shared->Prop):Inv (X.wish E) pins σ H s:=⟨I.ok.wish E,I.os,I.bare,I.base,I.loc,I.cell,I.free,I.freeC,I.pin,I.hok,I.len⟩
theorem Inv.unwish(I:Inv (X.wish E) pins σ H s):Inv X pins σ H s:=⟨I.ok.unwish,I.os,I.bare,I.base,I.loc,I.cell,I.free,I.freeC,I.pin,I.hok,I.len⟩
theorem SP.unwish(h:SP (X.wish E) pins D f s'):SP X pins D f s':=by
 cases f with
 |next=>obtain⟨σ',H',I,q⟩:=h;exact⟨σ',H',I.unwish,q⟩
 |brk=>obtain⟨σ',H',I,q⟩:=h;exact⟨σ',H',I.unwish,q⟩
 |cont=>obtain⟨σ',H',I,q⟩:=h;exact⟨σ',H',I.unwish,q⟩
 |ret u=>obtain⟨v,σ',H',I,r,q⟩:=h;exact⟨v,σ',H',I.unwish,r,q⟩
theorem PE.nox(h:PE X.nox e t):PE X e t:=λpins s σ H Q I hw=>
 Fl (h pins s σ H Q (I.wish _) hw) (λ_ _ ⟨v,H',I',r,q⟩=>⟨v,H',I'.unwish,r,q⟩) λ_ _ z=>False.elim z
theorem PT.nox(h:PT X.nox e t):PT X e t:=λpins s σ H Q I hw=>
 Fl (h pins s σ H Q (I.wish _) hw) (λ_ _ ⟨H',I',q⟩=>⟨H',I'.unwish,q⟩) λ_ _ z=>False.elim z
theorem PSs.nox{st:List Stmt}(h:PSs X.nox st t):PSs X st t:=λpins s σ H D I hw=>
 Fl (h pins s σ H D (I.wish _) hw) (λ_ _ q=>q.unwish) λ_ _ z=>False.elim z
end
section
variable{X:Cx}{st:Stmt}{rest:List Stmt}{t u:TS}{e:Expr}{te:TE}{pos:Pos}
def Cj:TS:=λD σ H=>D.nx σ H
def zI(t u:TS):TS:=λD σ H=>t {D with nx:=u D} σ H
theorem aN:PSs X [] Cj:=λ_ _ σ H _ I h=>He ⟨σ,H,I,h⟩
theorem ab(h1:PS X st t)(h2:PSs X rest u):PSs X (st::rest) (zI t u):=by
 intro pins s σ H D I h;refine wpAny_execs_cons (thn (h1 pins s σ H {D with nx:=u D} I h) λf s1 q=> ?_);cases f with
 |next=>
  obtain⟨σ',H',I',q⟩:=q;exact h2 pins s1 σ' H' D I' q
 |ret v=>exact q
 |brk=>exact q
 |cont=>exact q
theorem aq(h1:PS X st t):PSs X [st] t:=by
 intro pins s σ H D I h;refine wpAny_execs_cons (thn (h1 pins s σ H D I h) λf s1 q=> ?_);cases f with
 |next=>exact He q
 |ret v=>exact q
 |brk=>exact q
 |cont=>exact q
theorem Inv.quiet{σ:St}(I:Inv X pins σ H s):interactive X.env=false:=by simp[interactive,I.ok.kind]
def Cn(te:TE):TS:=λD σ H=>te σ H λ_ H1=>D.nx σ H1
theorem bU(he:PE X e te)(hs:swapsWith e none pos.line X.env=pure false:=by rfl):PS X (.Expr e pos) (Cn te):=by intro pins s σ H D I h;exact wpAny_Expr_any (thn (he pins s σ H _ I h) λv s1 ⟨x,H1,I1,r1,q1⟩=>⟨σ,H1,I1,q1⟩) I.quiet hs
def C6(te:TE):TS:=λD σ H=>te σ H D.rt
theorem aE(he:PE X e te):PS X (.Return (some e) pos) (C6 te):=by intro pins s σ H D I h;exact wpAny_Return_some (thn (he pins s σ H _ I h) λv s1 ⟨x,H1,I1,r1,q1⟩=>⟨x,σ,H1,I1,r1,q1⟩)
def C8(c:TT)(t u:TS):TS:=λD σ H=>c σ H λb H1=>if b=true then t D σ H1 else u D σ H1
theorem bA(hc:PT X c tc)(ha:PSs X a t)(hb:PSs X b u):PS X (.If c a b pos) (C8 tc t u):=by
 intro pins s σ H D I h;refine wpAny_If (thn (hc pins s σ H _ I h) λd s1 ⟨H1,I1,q1⟩=> ?_);cases d with
 |true=>exact ha pins s1 σ H1 D I1 q1
 |false=>exact hb pins s1 σ H1 D I1 q1
end
abbrev TG:=V->St->Hp->(St->Hp->Prop)->Prop
abbrev TGs:=List V->St->Hp->(St->Hp->Prop)->Prop
def PG(X:Cx)(target:Expr)(t:TG):Prop:=
 ∀ (pins:List (Addr×Obj)) (s:Shared) (σ:St) (H:Hp) (v:V) (u:Value) (Q:St->Hp->Prop),Inv X pins σ H s->aW v u->t v σ H Q->
  wpAny (model X.prog X.w) X.A (assign target X.env u) (λ_ s'=>∃σ' H',Inv X pins σ' H' s'/\Q σ' H') X.xe s
def PGs(X:Cx)(ts:List Expr)(t:TGs):Prop:=
 ∀ (pins:List (Addr×Obj)) (s:Shared) (σ:St) (H:Hp) (vs:List V) (us:List Value) (Q:St->Hp->Prop),Inv X pins σ H s->Vals vs us->t vs σ H Q->
  wpAny (model X.prog X.w) X.A (assignInOrder ((assignEach ts X.env).map (·.2)) us) (λ_ s'=>∃σ' H',Inv X pins σ' H' s'/\Q σ' H') X.xe s
abbrev B8:=V->V->V->Hp->(Hp->Prop)->Prop
def CU(X:Cx)(t:B8):Prop:=
 ∀ (pins:List (Addr×Obj)) (s:Shared) (σ:St) (H:Hp) (o i v:V) (ov iv u:Value) (Q:Hp->Prop),Inv X pins σ H s->aW o ov->aW i iv->aW v u->t o i v H Q->
  wpAny (model X.prog X.w) X.A (setItem ov iv u) (λ_ s'=>∃H',Inv X pins σ H' s'/\Q H') X.xe s
section
variable{X:Cx}{pos:Pos}
def a8(i:Nat):TG:=λv σ H Q=>Q (σ.set i (some v)) H
theorem tW{i:Nat}{x:Str}(hN:X.N.Nodup)(hi:X.N[i]?=some x)(hx:Loc X.env.scope x)(hf:X.fn x=true\/X.env.scope.names.lookup x=some .local:=by first|exact .inl rfl|exact .inr rfl|assumption):PG X (.Name x pos) (a8 i):=by intro pins s σ H v u Q I r h;exact wpAny_assign_Name (oG I hN hi hx r (λs' I'=>⟨_,H,I',h⟩) hf)
def Dg:TGs:=λvs σ H Q=>vs=[]/\Q σ H
inductive RdC(t:TG)(u:TGs)(vs:List V)(σ:St)(H:Hp)(Q:St->Hp->Prop):Prop
 |mk (v:V) (r:List V) (e:vs=v::r) (q:t v σ H λσ' H'=>u r σ' H' Q):RdC t u vs σ H Q
def CO(t:TG)(u:TGs):TGs:=λvs σ H Q=>RdC t u vs σ H Q
theorem cx:PGs X [] Dg:=by intro pins s σ H vs us Q I r h;obtain⟨e,h⟩:=h;subst e;cases r;exact assignInOrder_nil ⟨σ,H,I,h⟩
theorem aQ{e:Expr}{es:List Expr}{t:TG}{u:TGs}(h1:PG X e t)(h2:PGs X es u)
  (hs:(assignEach (e::es) X.env).map (·.2)=assign e X.env::(assignEach es X.env).map (·.2):=by rfl):PGs X (e::es) (CO t u):=by
 intro pins s σ H vs us Q I r h;obtain⟨v,vr,e1,h⟩:=h;subst e1;cases r with
 |cons r rr=>
  rw[hs];refine assignInOrder_cons (thn (h1 pins s σ H _ _ _ I r h) λ_ s1 ⟨σ1,H1,I1,q1⟩=> ?_);exact h2 pins s1 σ1 H1 _ _ Q I1 rr q1
inductive RdT(K:PySem.W.Frag)(n:Nat)(t:TGs)(v:V)(σ:St)(H:Hp)(Q:St->Hp->Prop):Prop
 |mk (a:Addr) (xs:List V) (e:v= .ref a) (s:SqT K H a xs) (l:xs.length=n) (q:t xs σ H Q):RdT K n t v σ H Q
def CM(K:PySem.W.Frag)(n:Nat)(t:TGs):TG:=λv σ H Q=>RdT K n t v σ H Q
theorem Bw{es:List Expr}{k:Nat}{t:TGs}{n:Nat}(hc:X.calm=true)(h:PGs X es t)
  (hn:(assignEach es X.env).length=n:=by rfl) (hst:(assignEach es X.env).findIdx? (·.1)=none:=by rfl):PG X (.Tuple es k pos) (CM X.K n t):=by
 intro pins s σ H v u Q I r hw;obtain⟨a,xs,e1,hq,hl,hw⟩:=hw;subst e1;cases r;obtain⟨its,rv,ht,hz⟩:=I.tuple hq;refine assign_Tuple_tuple (I.ok.hd hc) ht (by simp[hn,<-hl,rv.length]) hst λh' hx=> ?_;have I1:Inv X pins σ H {s with heap:=h'}:=I.kept (t':=s.toks) λb o e=>hx b o (DQ (DF e)) e;exact h pins _ σ H xs _ Q I1 (by simpa using rv) hw
def Df(to ti:TE)(t:B8):TG:=λv σ H Q=>to σ H λo H1=>ti σ H1 λi H2=>t o i v H2 λH3=>Q σ H3
theorem rp{o i:Expr}{to ti:TE}{t:B8}(ho:PE X o to)(hi:PE X i ti)(hs:CU X t)
  (ha:∀v,assign (.Subscript o i pos) X.env v=(do
   let ov<-holding [v] (eval o X.env)
   let iv<-holding [v,ov] (eval i X.env)
   standAt pos
   holding [v,ov,iv] (setItem ov iv v)
   release [v,ov,iv] []):=by intro _;rfl):PG X (.Subscript o i pos) (Df to ti t):=by
 intro pins s σ H v u Q I r h;rw[ha];refine Dj (EJ (thn (ho pins s σ H _ I h) λov s1 ⟨x,H1,I1,r1,q1⟩=> ?_));refine Dj (EJ (thn (hi pins s1 σ H1 _ I1 q1) λiv s2 ⟨y,H2,I2,r2,q2⟩=> ?_));refine Dj (FX (Dj (EJ (thn (hs pins s2 σ H2 x y v ov iv u _ I2 r1 r2 r q2) λ_ s3 ⟨H3,I3,q3⟩=> ?_))));exact wpAny_release ⟨σ,H3,I3,q3⟩
def uM(te:TE)(g:TG):TS:=λD σ H=>te σ H λx H1=>g x σ H1 D.nx
theorem eB{tg e:Expr}{te:TE}{g:TG}(he:PE X e te)(hg:PG X tg g)(hs:swapsWithSole [tg] e pos.line X.env=pure false:=by rfl)(hw:swappedStores [tg] e X.env=pure none:=by rfl)
  (h1:(assignEach [tg] X.env).map (·.2)=[assign tg X.env]:=by rfl):PS X (.Assign [tg] e pos) (uM te g):=by
 intro pins s σ H D I h;refine wpAny_Assign_stores (thn (he pins s σ H _ I h) λv s1 ⟨x,H1,I1,r1,q1⟩=> ?_) hs hw;rw[h1];exact thn (hg pins s1 σ H1 x v _ I1 r1 q1) λ_ s2 q=>q
theorem xp{i:Nat}{x:Str}{e:Expr}{te:TE}{pos':Pos}(hN:X.N.Nodup)(hi:X.N[i]?=some x)(hx:Loc X.env.scope x)(he:PE X e te)(hs:swapsWith e (some (.Name x pos')) pos.line X.env=pure false:=by rfl)(hf:X.fn x=true\/X.env.scope.names.lookup x=some .local:=by first|exact .inl rfl|exact .inr rfl|assumption):
  PS X (.Assign [.Name x pos'] e pos) (uM te (a8 i)):=by
 intro pins s σ H D I h;refine wpAny_Assign_Name (thn (he pins s σ H _ I h) λv s1 ⟨y,H1,I1,r1,q1⟩=> ?_) hs;exact oG I1 hN hi hx r1 (λs2 I2=>⟨_,H1,I2,q1⟩) hf
end
section
variable{X:Cx}{pos:Pos}
def wO(c:TT)(tb:TS):TS:=λD σ H=>∃W:Nat->St->Hp->Prop,(∃m,W m σ H)/\∀m σ H,W m σ H->
 c σ H λb H1=>if b=true then∃N:St->Hp->Prop,(∀σ' H',N σ' H'->∃m',m'<m/\W m' σ' H')/\tb {D with nx:=N,ct:=N,bk:=D.nx} σ H1 else D.nx σ H1
theorem xo(hp:PassesOwn (model X.prog X.w) X.A X.env X.xe)(hc:PT X c tc)(hb:PSs X body tb):PS X (.While c body [] pos) (wO tc tb):=by
 intro pins s σ H D I h;obtain⟨W,⟨m0,w0⟩,turn⟩:=h;refine wpAny_While (codeAny_whileLoop (λn s'=>∃σ' H',Inv X pins σ' H' s'/\W n σ' H') ?_ m0 ⟨σ,H,I,w0⟩);rintro n s1 ⟨σ1,H1,I1,w1⟩;refine FV hp (thn (hc pins s1 σ1 H1 _ I1 (turn n σ1 H1 w1)) λb s2 ⟨H2,I2,q2⟩=> ?_);cases b with
 |true=>
  obtain⟨N,hN,q2⟩:=q2;rw[Dp rfl];refine FV hp (thn (hb pins s2 σ1 H2 _ I2 q2) λf s3 q3=> ?_);cases f with
  |next=>
   obtain⟨σ3,H3,I3,n3⟩:=q3;obtain⟨m',hm,w3⟩:=hN σ3 H3 n3;exact⟨m',hm,σ3,H3,I3,w3⟩
  |cont=>
   obtain⟨σ3,H3,I3,n3⟩:=q3;obtain⟨m',hm,w3⟩:=hN σ3 H3 n3;exact⟨m',hm,σ3,H3,I3,w3⟩
  |brk=>exact q3
  |ret v=>exact q3
 |false=>
  rw[Dt Dr];exact He ⟨σ1,H2,I2,q2⟩
end
structure It where
 go:Nat->Hp->Prop
 yld:Nat->Hp->V->Hp->Prop
 stop:Nat->Hp->Prop
def oA(X:Cx)(pins:List (Addr×Obj))(H:Hp)(b:Addr):Prop:=
 H b=none/\b≠X.env.locals/\b∉X.fs/\(b∈X.ex\/X.s₀.heap.objs.size<=b)/\(∀x c,X.env.cells.lookup x=some c->c≠b)/\∀p∈X.pn++pins,p.1≠b
theorem Inv.fpOk{σ:St}{s:Shared}{b:Addr}(I:Inv X pins σ H s)(hb:s.heap.objs.size<=b)(hn:H' b=none):oA X pins H' b:=by
 refine⟨hn,F9 (Dq I.lt hb),I.nofs hb, .inr (Du I.sz hb),λx c e z=> ?_,λp hp z=> ?_⟩
 .obtain⟨v,q⟩:=I.cell x c e;exact absurd (Dq q.lt (by rw[z];exact hb)) (Eb _)
 .exact absurd (Dq (DF (I.pin p hp).1) (by rw[z];exact hb)) (Eb _)
structure Turn(P:Program)(w:World)(K:PySem.W.Frag)(tg:Expr)(J:It)(fp:List Addr)(it:Addr)(tn:Nat->Heap->Prop):Prop where
 mem:it∈fp
 obj:∀i h,tn i h->∀b∈fp,∃o,h.get? b=some o/\∀v,o.data≠ .cell v
 keep:∀i h h',tn i h->(∀b∈fp,∀o,h.get? b=some o->h'.get? b=some o)->tn i h'
 item:∀ (X:Cx),X.prog=P->X.w=w->X.K=K->X.calm=true->∀ (i:Nat) (pins:List (Addr×Obj)) (s:Shared) (σ:St) (H:Hp) (E:Value->Shared->Prop),Inv X pins σ H s->(∀b∈fp,oA X pins H b)->tn i s.heap->J.go i H->
  wpAny (model P w) X.A (pyNext (.ref it)) (λr s1=>∃u,r=some u/\
   wpAny (model P w) X.A (letOwnedTupleGo tg (.ref it) u) (λ_ s2=>∃x H',Inv X pins σ H' s2/\aW x u/\J.yld i H x H'/\tn (i+1) s2.heap/\∀b∈fp,H' b=none) E s1) E s
 done:∀ (X:Cx),X.prog=P->X.w=w->X.K=K->X.calm=true->∀ (i:Nat) (pins:List (Addr×Obj)) (s:Shared) (σ:St) (H:Hp) (E:Value->Shared->Prop),Inv X pins σ H s->(∀b∈fp,oA X pins H b)->tn i s.heap->J.stop i H->
  wpAny (model P w) X.A (pyNext (.ref it)) (λr s1=>r=none/\Inv X pins σ H s1) E s
 self:∀ (A:Around) (i:Nat) (s:Shared) (Q:Value->Shared->Prop) (E:Value->Shared->Prop),tn i s.heap->Q (.ref it) s->wpAny (model P w) A (pyIter (.ref it)) Q E s
abbrev TI:=St->Hp->(It->Hp->Prop)->Prop
def PIE(X:Cx)(pins:List (Addr×Obj))(σ:St)(tg:Expr)(R:It->Hp->Prop)(itv:Value)(s2:Shared):Prop:=
 ∃ (it:Addr) (fp:List Addr) (tn:Nat->Heap->Prop) (J:It) (H':Hp),itv= .ref it/\Inv X pins σ H' s2/\Turn X.prog X.w X.K tg J fp it tn/\tn 0 s2.heap/\(∀b∈fp,oA X pins H' b)/\R J H'
def PI(X:Cx)(tg iter:Expr)(wi:TI):Prop:=
 ∀ (pins:List (Addr×Obj)) (s:Shared) (σ:St) (H:Hp) (R:It->Hp->Prop),Inv X pins σ H s->wi σ H R->
  wpAny (model X.prog X.w) X.A (eval iter X.env) (λv s1=>wpAny (model X.prog X.w) X.A (pyIter v) (PIE X pins σ tg R) X.xe s1) X.xe s
theorem uh{s:Shared}{o:Obj}(ho:s.heap.get? it=some o)(hc:o.cls= .type n)(hd:o.data= .fields vs)
  (hn:["enumerate","zip","dict_itemiterator","dict_reverseitemiterator","odict_iterator","itertools.zip_longest","itertools.pairwise"].contains n=false) (hQ:Q () s):wpAny M A (letOwnedTupleGo tg (.ref it) u) Q E s:=by
 unfold letOwnedTupleGo;cases tg<;>first
  |exact DA hQ
  |(cases u<;>first
    |exact DA hQ
    |(refine Dj (wpAny_load ho ?_)
      rw[hc,hd];show wpAny M A (if(["enumerate","zip","dict_itemiterator","dict_reverseitemiterator","odict_iterator","itertools.zip_longest","itertools.pairwise"].contains n&&vs[0]?==some (rawInt _))=true then _ else _) Q E s;rw[Dt (by intro h;rw[hn,Gp]at h;cases h)];exact DA hQ))
def Itl(K:PySem.W.Frag)(a:Addr):It:=
 ⟨λi H=>∃xs x,SqL K H a xs/\xs[i]?=some x,λi H x H'=>H'=H/\∀xs,SqL K H a xs->xs[i]?=some x,λi H=>∃xs,SqL K H a xs/\xs.length<=i⟩
def Itt(K:PySem.W.Frag)(a:Addr):It:=
 ⟨λi H=>∃xs x,SqT K H a xs/\xs[i]?=some x,λi H x H'=>H'=H/\∀xs,SqT K H a xs->xs[i]?=some x,λi H=>∃xs,SqT K H a xs/\xs.length<=i⟩
def Itr(lo:Int)(n:Nat):It:=⟨λi _=>i<n,λi H x H'=>H'=H/\x= .int (lo+i),λi _=>n<=i⟩
theorem uF{P:Program}{w:World}{K:PySem.W.Frag}{tg:Expr}(a it:Addr):Turn P w K tg (Itl K a) [it] it (λi h=>h.IsListIter it a i) where
 mem:=by simp
 obj:=λi h st b hb=>by
  have e:b=it:=by simpa using hb
  subst e;obtain⟨o,e,c,d⟩:=st;exact⟨o,e,λv z=>by rw[d]at z;cases z⟩
 keep:=λi h h' st k=>st.at λo e=>k it (by simp) o e
 item:=by intro X hP hw hK hc i pins s σ H E I hf st hg;subst hP hw hK;obtain⟨xs,x,hq,hx⟩:=hg;obtain⟨its,rv,p,hz⟩:=I.list hq;obtain⟨u,hu,ru⟩:=rv.get hx;obtain⟨f0,f1,f2,f3,f4,f5⟩:=hf it (by simp);refine wpAny_pyNext_list_item st p.isList (x:=u) (by simpa using hu) λh' st' sb=> ?_;have I1:Inv X pins σ H {s with heap:=h'}:=I.turned (t':=s.toks) (λb o hb e=>(sb.2 b hb).trans e) f0 f1 f3 f4 f5;obtain⟨o,e,c,d⟩:=id st';exact⟨u,rfl,uh (s:={s with heap:=h'}) e c d (by decide) ⟨x,H,I1,ru,⟨rfl,λys hy=>by rw[I.list_inj hy hq];exact hx⟩,st',λb hb=>(hf b hb).1⟩⟩
 done:=by intro X hP hw hK hc i pins s σ H E I hf st hg;subst hP hw hK;obtain⟨xs,hq,hx⟩:=hg;obtain⟨its,rv,p,hz⟩:=I.list hq;obtain⟨f0,f1,f2,f3,f4,f5⟩:=hf it (by simp);have hl:=rv.length;exact wpAny_pyNext_list_end (I.ok.hd hc) st p.isList (by simp;lia) λh' eb=>⟨rfl,I.turned (t':=s.toks) (λb o hb e=>eb b o hb e) f0 f1 f3 f4 f5⟩
 self:=λ_ _ _ _ _ st h=>wpAny_pyIter_listiter st h
theorem qR{P:Program}{w:World}{K:PySem.W.Frag}{tg:Expr}(a it:Addr):Turn P w K tg (Itt K a) [it] it (λi h=>h.IsTupleIter it a i) where
 mem:=by simp
 obj:=λi h st b hb=>by
  have e:b=it:=by simpa using hb
  subst e;obtain⟨o,e,c,d⟩:=st;exact⟨o,e,λv z=>by rw[d]at z;cases z⟩
 keep:=λi h h' st k=>st.at λo e=>k it (by simp) o e
 item:=by intro X hP hw hK hc i pins s σ H E I hf st hg;subst hP hw hK;obtain⟨xs,x,hq,hx⟩:=hg;obtain⟨its,rv,p,hz⟩:=I.tuple hq;obtain⟨u,hu,ru⟩:=rv.get hx;obtain⟨f0,f1,f2,f3,f4,f5⟩:=hf it (by simp);refine wpAny_pyNext_tuple_item st (show s.heap.IsTuple a its.toArray from p) (x:=u) (by simpa using hu) λh' st' sb=> ?_;have I1:Inv X pins σ H {s with heap:=h'}:=I.turned (t':=s.toks) (λb o hb e=>(sb.2 b hb).trans e) f0 f1 f3 f4 f5;obtain⟨o,e,c,d⟩:=id st';exact⟨u,rfl,uh (s:={s with heap:=h'}) e c d (by decide) ⟨x,H,I1,ru,⟨rfl,λys hy=>by rw[I.tuple_inj hy hq];exact hx⟩,st',λb hb=>(hf b hb).1⟩⟩
 done:=by intro X hP hw hK hc i pins s σ H E I hf st hg;subst hP hw hK;obtain⟨xs,hq,hx⟩:=hg;obtain⟨its,rv,p,hz⟩:=I.tuple hq;obtain⟨f0,f1,f2,f3,f4,f5⟩:=hf it (by simp);have hl:=rv.length;exact wpAny_pyNext_tuple_end (I.ok.hd hc) st (show s.heap.IsTuple a its.toArray from p) (by simp;lia) λh' eb=>⟨rfl,I.turned (t':=s.toks) (λb o hb e=>eb b o hb e) f0 f1 f3 f4 f5⟩
 self:=λ_ _ _ _ _ st h=>wpAny_pyIter_tupleiter st h
theorem qS{P:Program}{w:World}{K:PySem.W.Frag}{tg:Expr}(it:Addr)(lo:Int)(n:Nat):Turn P w K tg (Itr lo n) [it] it (λi h=>IsRangeIter h it (lo+(i:Nat)*1) ((n:Int) - (i:Nat)) 1) where
 mem:=by simp
 obj:=λi h st b hb=>by
  have e:b=it:=by simpa using hb
  subst e;exact⟨_,st,λv z=>by have z':Data.fields _=Data.cell v:=z;cases z'⟩
 keep:=λi h h' st k=>k it (by simp) _ st
 item:=by intro X hP hw hK hc i pins s σ H E I hf st hg;subst hP hw hK;obtain⟨f0,f1,f2,f3,f4,f5⟩:=hf it (by simp);have W:=Walks.range (prog:=X.prog) (w:=X.w) (I.ok.hd hc) it lo 1 n;refine W.item i s _ _ hg st λv h' tk hv st' kk=> ?_;obtain⟨t,rfl⟩:=hv;have I1:Inv X pins σ H {s with heap:=h',toks:=tk}:=I.turned (λb o hb e=>kk b o (by simpa using hb) e) f0 f1 f3 f4 f5;refine⟨_,rfl,uh (s:={s with heap:=h',toks:=tk}) (n:= "range_iterator") st' rfl rfl (by decide) ⟨.int (lo+i),H,I1,⟨t,?_⟩,⟨rfl,rfl⟩,st',λb hb=>(hf b hb).1⟩⟩;rw[Int.mul_one]
 done:=by intro X hP hw hK hc i pins s σ H E I hf st hg;subst hP hw hK;obtain⟨f0,f1,f2,f3,f4,f5⟩:=hf it (by simp);exact wpAny_pyNext_range_end (I.ok.hd hc) st (by have:n<=i:=hg;lia) λh' eb=>⟨rfl,I.turned (t':=s.toks) (λb o hb e=>eb b o hb e) f0 f1 f3 f4 f5⟩
 self:=λ_ _ _ _ _ st h=>wpAny_pyIter_rangeiter st h
end L2
namespace L2
open PySem PySem.Spec PyProof.Rows
section
variable{X:Cx}{tg:Expr}
inductive RdL(K:PySem.W.Frag)(R:It->Hp->Prop)(x:V)(H:Hp):Prop
 |mk (a:Addr) (e:x= .ref a) (s:∃xs,SqL K H a xs) (q:R (Itl K a) H):RdL K R x H
def yJ(K:PySem.W.Frag)(tl:TE):TI:=λσ H R=>tl σ H (RdL K R)
def BX(K:PySem.W.Frag)(tl:TE):TI:=λσ H R=>tl σ H λx H1=>∃a,x= .ref a/\(∃xs,SqT K H1 a xs)/\R (Itt K a) H1
theorem Ag(hl:PE X l tl):PI X tg l (yJ X.K tl):=by
 intro pins s σ H R I h;refine thn (hl pins s σ H _ I h) λv s1 ⟨x,H1,I1,r1,q1⟩=> ?_;obtain⟨a,e,⟨xs,hq⟩,q⟩:=q1;subst e;cases r1;obtain⟨its,rv,p,hz⟩:=I1.list hq;refine GN p.isList ?_;refine⟨s1.heap.objs.size,[s1.heap.objs.size],_,_,H1,rfl,I1.kept (t':=s1.toks) λb o e=>Dx _ e,uF a _,⟨_,DP _ rfl,rfl,rfl⟩,λb hb=> ?_,q⟩;have e:b=s1.heap.objs.size:=by simpa using hb
 subst e;exact I1.fpOk (Dl _) (I1.hok.fresh (Dl _))
theorem Bv(hl:PE X l tl):PI X tg l (BX X.K tl):=by
 intro pins s σ H R I h;refine thn (hl pins s σ H _ I h) λv s1 ⟨x,H1,I1,r1,q1⟩=> ?_;obtain⟨a,e,⟨xs,hq⟩,q⟩:=q1;subst e;cases r1;obtain⟨its,rv,p,hz⟩:=I1.tuple hq;refine wpAny_pyIter_tuple (show s1.heap.IsTuple a its.toArray from p) ?_;refine⟨s1.heap.objs.size,[s1.heap.objs.size],_,_,H1,rfl,I1.kept (t':=s1.toks) λb o e=>Dx _ e,qR a _,⟨_,DP _ rfl,rfl,rfl⟩,λb hb=> ?_,q⟩;have e:b=s1.heap.objs.size:=by simpa using hb
 subst e;exact I1.fpOk (Dl _) (I1.hok.fresh (Dl _))
theorem o3{σ:St}{s:Shared}{lo hi:Int}(I:Inv X pins σ H s)(h1: -(2^62)<=lo)(h2:lo<2^62)(h3: -(2^62)<=hi)(h4:hi<2^62)
  (q:R (Itr lo (hi-lo).toNat) H):wpAny (model X.prog X.w) X.A (pyIter (.ref s.heap.objs.size)) (PIE X pins σ tg R) E {s with heap:=s.heap.push {cls:= .type "range",data:= .fields #[.int lo t, .int hi u, .int 1 v]},toks:=tk}:=by
 refine wpAny_pyIter_range (IsRange.new ..) (small_one h1 h2 h3 h4) ?_;have I1:Inv X pins σ H {s with heap:=s.heap.push {cls:= .type "range",data:= .fields #[.int lo t, .int hi u, .int 1 v]},toks:=tk}:=I.kept λb o e=>Dx _ e;refine⟨(s.heap.push {cls:= .type "range",data:= .fields #[.int lo t, .int hi u, .int 1 v]}).objs.size,[(s.heap.push {cls:= .type "range",data:= .fields #[.int lo t, .int hi u, .int 1 v]}).objs.size],_,_,H,rfl,
  I1.kept (t':=tk) λb o e=>Dx _ e,qS _ lo (hi-lo).toNat,?_,λb hb=> ?_,q⟩
 .have e1:lo+((0:Nat):Int)*1=lo:=by simp
  have e2:(((hi-lo).toNat:Nat):Int) - ((0:Nat):Int)=Builtin.Range.rangeSize lo hi 1:=by rw[rangeSize_one];split<;>lia
  show IsRangeIter _ _ (lo+((0:Nat):Int)*1) ((((hi-lo).toNat:Nat):Int) - ((0:Nat):Int)) 1;rw[e1,e2];exact DP _ rfl
 .have e:b=(s.heap.push {cls:= .type "range",data:= .fields #[.int lo t, .int hi u, .int 1 v]}).objs.size:=by simpa using hb
  subst e;exact I1.fpOk (Dl _) (I1.hok.fresh (Dl _))
def A2(ta:TA):TI:=λσ H R=>ta σ H λvs H1=>∃j:Int,vs=[.int j]/\ -(2^62)<=j/\j<2^62/\R (Itr 0 j.toNat) H1
def CL(ta:TA):TI:=λσ H R=>ta σ H λvs H1=>∃i j:Int,vs=[.int i, .int j]/\(-(2^62)<=i/\i<2^62/\ -(2^62)<=j/\j<2^62)/\R (Itr i (j-i).toNat) H1
theorem uY{a:Expr}{ta:TA}{p pos:Pos}(hg:Gl X "range")(hm:X.mg "range"=none)(ha:PA X [a] ta)(hs:starEach [a] X.env=[(false,eval a X.env)]:=by rfl):PI X tg (.Call (.Name "range" p) [a] [] pos) (A2 ta):=by
 intro pins s σ H R I h;refine Call_ (dz I hg hm boot_range (E1 (thn (ha pos pins s σ H _ I h) λus s1 ⟨vs,H1,I1,r1,q1⟩=> ?_) hs rfl));obtain⟨j,e,q1,q2,q⟩:=q1;subst e;cases r1 with
 |cons r rr=>
  cases rr;obtain⟨t,rfl⟩:=r;exact call_range_1 (o3 I1 (by lia) (by lia) q1 q2 (by simpa using q))
theorem uX{a b:Expr}{ta:TA}{p pos:Pos}(hg:Gl X "range")(hm:X.mg "range"=none)(ha:PA X [a,b] ta)(hs:starEach [a,b] X.env=[(false,eval a X.env),(false,eval b X.env)]:=by rfl)(hs2:starEach [b] X.env=[(false,eval b X.env)]:=by rfl):
  PI X tg (.Call (.Name "range" p) [a,b] [] pos) (CL ta):=by
 intro pins s σ H R I h;refine Call_ (dz I hg hm boot_range (E1 (thn (ha pos pins s σ H _ I h) λus s1 ⟨vs,H1,I1,r1,q1⟩=> ?_) (by rw[hs,hs2]) (by rw[hs2];rfl)));obtain⟨i,j,e,⟨q1,q2,q3,q4⟩,q⟩:=q1;subst e;cases r1 with
 |cons r rr=>
  cases rr with
  |cons r' rr=>
   cases rr;obtain⟨t,rfl⟩:=r;obtain⟨t',rfl⟩:=r';exact call_range_2 (o3 I1 q1 q2 q3 q4 q)
def Cm(wi:TI)(g:TG)(tb:TS):TS:=λD σ H=>wi σ H λJ H1=>∃W:Nat->Nat->St->Hp->Prop,(∃m,W 0 m σ H1)/\∀i m σ H,W i m σ H->
 (J.stop i H/\D.nx σ H)\/(J.go i H/\∃N:St->Hp->Prop,(∀σ' H',N σ' H'->∃m',m'<m/\W (i+1) m' σ' H')/\∀x H',J.yld i H x H'->g x σ H' λσ2 H2=>tb {D with nx:=N,ct:=N,bk:=D.nx} σ2 H2)
def jU(fp:List Addr)(h:Heap):List (Addr×Obj):=fp.filterMap λb=>(h.get? b).map λo=>(b,o)
theorem fi{h:Heap}(hb:b∈fp)(e:h.get? b=some o):(b,o)∈jU fp h:=Hz.mpr ⟨b,hb,by rw[e];rfl⟩
theorem vk{h:Heap}(hp:p∈jU fp h):p.1∈fp/\h.get? p.1=some p.2:=by
 obtain⟨b,hb,e⟩:=Hz.mp hp;cases q:h.get? b with
 |none=>rw[q]at e;cases e
 |some o=>
  rw[q]at e;have e':(b,o)=p:=DS e;subst e';exact⟨hb,q⟩
theorem Inv.pinned{σ:St}{s:Shared}(I:Inv X pins σ H s)(hf:∀b∈fp,oA X pins H b)(ho:∀b∈fp,∃o,s.heap.get? b=some o/\∀v,o.data≠ .cell v):Inv X (pins++jU fp s.heap) σ H s:=
 I.pins_of λp hp=>(DW.mp hp).elim (λz=>I.pin p (D7 _ z)) λz=>by obtain⟨hb,e⟩:=vk z;obtain⟨f0,f1,f2,_⟩:=hf p.1 hb;obtain⟨o,e',d⟩:=ho p.1 hb;rw[e]at e';cases e';exact⟨e,f0,f1,f2,d⟩
theorem Inv.unpinned{σ:St}(I:Inv X (pins++pl) σ H s):Inv X pins σ H s:=I.pins_of λp hp=>I.pin p (D7 _ (Ep _ hp))
theorem Bs{iter:Expr}{body:List Stmt}{wi:TI}{g:TG}{tb:TS}{pos:Pos}(hp:PassesOwn (model X.prog X.w) X.A X.env X.xe)(hc:X.calm=true)(hi:PI X tg iter wi)(hg:PG X tg g)(hb:PSs X body tb)
  (hs:∀x,foldedSetIterable iter X.env x=pure x:=by intro _;rfl):PS X (.For tg iter body [] pos) (Cm wi g tb):=by
 intro pins s σ H D I h;refine wpAny_For (thn (hi pins s σ H _ I h) λv s1 h1=>thn h1 λitv s2 h2=> ?_) hs;obtain⟨it,fp,tn,J,H2,e,I2,T,st2,f2,W,⟨m0,w0⟩,turn⟩:=h2;subst e;have stat:∀ {H':Hp},(∀b∈fp,H' b=none)->∀b∈fp,oA X pins H' b:=λhn b hb=>⟨hn b hb,(f2 b hb).2⟩;refine codeAny_forLoop_any (λn s'=>∃i σ' H',Inv X pins σ' H' s'/\tn i s'.heap/\(∀b∈fp,H' b=none)/\W i n σ' H') ?_ m0 ⟨0,σ,H2,I2,st2,λb hb=>(f2 b hb).1,w0⟩;rintro n s3 ⟨i,σ3,H3,I3,st3,fr3,w3⟩;rcases turn i n σ3 H3 w3 with ⟨stop,qn⟩|⟨go,N,hN,step⟩
 .refine FV hp (thn (T.done X rfl rfl rfl hc i pins s3 σ3 H3 X.xe I3 (stat fr3) st3 stop) λr s4 ⟨hr,I4⟩=> ?_);subst hr;exact He ⟨σ3,H3,I4,qn⟩
 .refine FV hp (thn (T.item X rfl rfl rfl hc i pins s3 σ3 H3 X.xe I3 (stat fr3) st3 go) λr s4 ⟨u,hr,h4⟩=> ?_);subst hr;refine FV hp (thn h4 λ_ s5 ⟨x,H5,I5,r5,y5,st5,fr5⟩=> ?_);have I5':=I5.pinned (stat fr5) (T.obj _ _ st5);refine FV hp (thn (hg _ s5 σ3 H5 x u _ I5' r5 (step x H5 y5)) λ_ s6 ⟨σ6,H6,I6,q6⟩=> ?_);refine FV hp (thn (hb _ s6 σ6 H6 _ I6 q6) λf s7 q7=> ?_);have again:∀ {σ7:St} {H7:Hp},Inv X (pins++jU fp s5.heap) σ7 H7 s7->N σ7 H7->∃m,m<n/\∃i σ' H',Inv X pins σ' H' s7/\tn i s7.heap/\(∀b∈fp,H' b=none)/\W i m σ' H':=λ{σ7 H7} I7 n7=>by obtain⟨m',hm,w7⟩:=hN σ7 H7 n7;refine⟨m',hm,i+1,σ7,H7,I7.unpinned,T.keep _ _ _ st5 λb hb o e=>(I7.pin (b,o) (D7 _ (D7 _ (fi hb e)))).1,λb hb=> ?_,w7⟩;obtain⟨o,e,d⟩:=T.obj _ _ st5 b hb;exact(I7.pin (b,o) (D7 _ (D7 _ (fi hb e)))).2.1
  cases f with
  |next=>obtain⟨σ7,H7,I7,n7⟩:=q7;exact again I7 n7
  |cont=>obtain⟨σ7,H7,I7,n7⟩:=q7;exact again I7 n7
  |brk=>obtain⟨σ7,H7,I7,q7⟩:=q7;exact⟨σ7,H7,I7.unpinned,q7⟩
  |ret v=>obtain⟨x7,σ7,H7,I7,r7,q7⟩:=q7;exact⟨x7,σ7,H7,I7.unpinned,r7,q7⟩
end
theorem bT{K:PySem.W.Frag}{xs:List V}{g:TG}{tb:TS}{D:Ends}(Pv:Nat->St->Hp->Prop)(h0:Pv 0 σ H)(hl:∀i σ H,i<=xs.length->Pv i σ H->SqL K H a xs)
  (hs:∀i x σ H,xs[i]?=some x->Pv i σ H->g x σ H λσ2 H2=>tb {D with nx:=Pv (i+1),ct:=Pv (i+1),bk:=D.nx} σ2 H2) (hd:∀σ H,Pv xs.length σ H->D.nx σ H):
  ∃W:Nat->Nat->St->Hp->Prop,(∃m,W 0 m σ H)/\∀i m σ H,W i m σ H->
   ((Itl K a).stop i H/\D.nx σ H)\/((Itl K a).go i H/\∃N:St->Hp->Prop,(∀σ' H',N σ' H'->∃m',m'<m/\W (i+1) m' σ' H')/\∀x H',(Itl K a).yld i H x H'->g x σ H' λσ2 H2=>tb {D with nx:=N,ct:=N,bk:=D.nx} σ2 H2):=by
 refine⟨λi m σ H=>m=xs.length-i/\i<=xs.length/\Pv i σ H,⟨xs.length,by simp,DV _,h0⟩,?_⟩;rintro i m σ H ⟨rfl,hi,p⟩;have q:=hl i σ H hi p;by_cases hlt:i<xs.length
 .refine .inr ⟨⟨xs,xs[i],q,by simp[hlt]⟩,Pv (i+1),λσ' H' p'=>⟨xs.length- (i+1),Eh hlt (D9 _),rfl,hlt,p'⟩,λx H' y=> ?_⟩;obtain⟨e,y⟩:=y;subst e;exact hs i x σ _ (y xs q) p
 .have e:i=xs.length:=Ew hi (Ef hlt);subst e;exact .inl ⟨⟨xs,q,Dl _⟩,hd σ H p⟩
theorem AK{K:PySem.W.Frag}{xs:List V}{g:TG}{tb:TS}{D:Ends}(Pv:Nat->St->Hp->Prop)(h0:Pv 0 σ H)(hl:∀i σ H,i<=xs.length->Pv i σ H->SqT K H a xs)
  (hs:∀i x σ H,xs[i]?=some x->Pv i σ H->g x σ H λσ2 H2=>tb {D with nx:=Pv (i+1),ct:=Pv (i+1),bk:=D.nx} σ2 H2) (hd:∀σ H,Pv xs.length σ H->D.nx σ H):
  ∃W:Nat->Nat->St->Hp->Prop,(∃m,W 0 m σ H)/\∀i m σ H,W i m σ H->
   ((Itt K a).stop i H/\D.nx σ H)\/((Itt K a).go i H/\∃N:St->Hp->Prop,(∀σ' H',N σ' H'->∃m',m'<m/\W (i+1) m' σ' H')/\∀x H',(Itt K a).yld i H x H'->g x σ H' λσ2 H2=>tb {D with nx:=N,ct:=N,bk:=D.nx} σ2 H2):=by
 refine⟨λi m σ H=>m=xs.length-i/\i<=xs.length/\Pv i σ H,⟨xs.length,by simp,DV _,h0⟩,?_⟩;rintro i m σ H ⟨rfl,hi,p⟩;have q:=hl i σ H hi p;by_cases hlt:i<xs.length
 .refine .inr ⟨⟨xs,xs[i],q,by simp[hlt]⟩,Pv (i+1),λσ' H' p'=>⟨xs.length- (i+1),Eh hlt (D9 _),rfl,hlt,p'⟩,λx H' y=> ?_⟩;obtain⟨e,y⟩:=y;subst e;exact hs i x σ _ (y xs q) p
 .have e:i=xs.length:=Ew hi (Ef hlt);subst e;exact .inl ⟨⟨xs,q,Dl _⟩,hd σ H p⟩
theorem cz{lo:Int}{g:TG}{tb:TS}{D:Ends}(Pv:Nat->St->Hp->Prop)(h0:Pv 0 σ H)
  (hs:∀i σ H,i<n->Pv i σ H->g (.int (lo+i)) σ H λσ2 H2=>tb {D with nx:=Pv (i+1),ct:=Pv (i+1),bk:=D.nx} σ2 H2) (hd:∀σ H,Pv n σ H->D.nx σ H):
  ∃W:Nat->Nat->St->Hp->Prop,(∃m,W 0 m σ H)/\∀i m σ H,W i m σ H->
   ((Itr lo n).stop i H/\D.nx σ H)\/((Itr lo n).go i H/\∃N:St->Hp->Prop,(∀σ' H',N σ' H'->∃m',m'<m/\W (i+1) m' σ' H')/\∀x H',(Itr lo n).yld i H x H'->g x σ H' λσ2 H2=>tb {D with nx:=N,ct:=N,bk:=D.nx} σ2 H2):=by
 refine⟨λi m σ H=>m=n-i/\i<=n/\Pv i σ H,⟨n,by simp,DV _,h0⟩,?_⟩;rintro i m σ H ⟨rfl,hi,p⟩;by_cases hlt:i<n
 .refine .inr ⟨hlt,Pv (i+1),λσ' H' p'=>⟨n- (i+1),Eh hlt (D9 _),rfl,hlt,p'⟩,λx H' y=> ?_⟩;obtain⟨e,y⟩:=y;subst e y;exact hs i σ _ hlt p
 .have e:i=n:=Ew hi (Ef hlt);subst e;exact .inl ⟨Dl _,hd σ H p⟩
theorem wC{D:Ends}(Pv:St->Hp->Prop)(μ:St->Hp->Nat)(h0:Pv σ H)
  (hs:∀σ H,Pv σ H->c σ H λb H1=>if b=true then tb {D with nx:=λσ' H'=>Pv σ' H'/\μ σ' H'<μ σ H,ct:=λσ' H'=>Pv σ' H'/\μ σ' H'<μ σ H,bk:=D.nx} σ H1 else D.nx σ H1)
  (mono:∀σ H Q Q',(∀b H1,Q b H1->Q' b H1)->c σ H Q->c σ H Q'):wO c tb D σ H:=by
 refine⟨λm σ H=>m=μ σ H/\Pv σ H,⟨_,rfl,h0⟩,?_⟩;rintro m σ H ⟨rfl,p⟩;refine mono σ H _ _ (λb H1 q=> ?_) (hs σ H p);cases b with
 |true=>exact⟨_,λσ' H' ⟨p',l⟩=>⟨_,l,rfl,p'⟩,q⟩
 |false=>exact q
end L2
namespace L2
open PySem PySem.Spec PyProof.Rows
abbrev R2:=V->V->Hp->VK->Prop
def OpR(X:Cx)(f:Value->Value->Sem Value)(r:R2):Prop:=
 ∀ (pins:List (Addr×Obj)) (s:Shared) (σ:St) (H:Hp) (x y:V) (v u:Value) (Q:VK),Inv X pins σ H s->aW x v->aW y u->r x y H Q->
  wpAny (model X.prog X.w) X.A (f v u) (EP X pins σ Q) X.xe s
def UnR(X:Cx)(f:Value->Sem Value)(r:V->Hp->VK->Prop):Prop:=
 ∀ (pins:List (Addr×Obj)) (s:Shared) (σ:St) (H:Hp) (x:V) (v:Value) (Q:VK),Inv X pins σ H s->aW x v->r x H Q->
  wpAny (model X.prog X.w) X.A (f v) (EP X pins σ Q) X.xe s
def bX(X:Cx)(f:Value)(r:List V->Hp->VK->Prop):Prop:=
 ∀ (pins:List (Addr×Obj)) (s:Shared) (σ:St) (H:Hp) (xs:List V) (us:List Value) (Q:VK),Inv X pins σ H s->Vals xs us->r xs H Q->
  wpAny (model X.prog X.w) X.A (call f us) (EP X pins σ Q) X.xe s
def tOp(r:R2)(ta tb:TE):TE:=λσ H Q=>ta σ H λx H1=>tb σ H1 λy H2=>r x y H2 Q
def tUn(r:V->Hp->VK->Prop)(ta:TE):TE:=λσ H Q=>ta σ H λx H1=>r x H1 Q
inductive RdI(C:Int->Int->Prop)(g:Int->Int->V)(x y:V)(H:Hp)(Q:VK):Prop
 |mk (i j:Int) (e1:x= .int i) (e2:y= .int j) (c:C i j) (q:Q (g i j) H):RdI C g x y H Q
def rI(C:Int->Int->Prop)(g:Int->Int->V):R2:=λx y H Q=>RdI C g x y H Q
inductive CT(g:Int->Int->V)(x y:V)(H:Hp)(Q:VK):Prop
 |mk (i j:Int) (e1:x= .int i) (e2:y= .int j) (q:Q (g i j) H):CT g x y H Q
def rI0(g:Int->Int->V):R2:=λx y H Q=>CT g x y H Q
def rU(g:Int->V):V->Hp->VK->Prop:=λx H Q=>∃i,x= .int i/\Q (g i) H
section
variable{X:Cx}{a b c:Expr}{ta tb tc:TE}{pos:Pos}
theorem B6(ha:PE X a ta)(hb:PE X b tb){σ:St}{R:V->V->Hp->Prop}(I:Inv X pins σ H s)
  (h:ta σ H λx H1=>tb σ H1 λy H2=>R x y H2)  {f:Value->Value->Sem Value}
  (hf:∀v u s2 x y H2,Inv X pins σ H2 s2->aW x v->aW y u->R x y H2->wpAny (model X.prog X.w) X.A (f v u) Q X.xe s2):
  wpAny (model X.prog X.w) X.A (eval a X.env) (λv s₁=>wpAny (model X.prog X.w) X.A (eval b X.env) (λu s₂=>wpAny (model X.prog X.w) X.A (f v u) Q X.xe s₂) X.xe s₁) X.xe s:=by
 refine thn (ha pins s σ H _ I h) λv s1 ⟨x,H1,I1,r1,q1⟩=> ?_;refine thn (hb pins s1 σ H1 _ I1 q1) λu s2 ⟨y,H2,I2,r2,q2⟩=> ?_;exact hf v u s2 x y H2 I2 r1 r2 q2
theorem av(ho:OpR X (binaryOp op) r)(ha:PE X a ta)(hb:PE X b tb):PE X (.BinOp a op b pos) (tOp r ta tb):=by intro pins s σ H Q I h;exact wpAny_BinOp (B6 ha hb I h λv u s2 x y H2 I2 rx ry q=>ho pins s2 σ H2 x y v u Q I2 rx ry q)
theorem AZ(ho:UnR X (unaryOp op) r)(ha:PE X a ta):PE X (.UnaryOp op a pos) (tUn r ta):=by intro pins s σ H Q I h;exact UnaryOp_ (thn (ha pins s σ H _ I h) λv s1 ⟨x,H1,I1,r1,q1⟩=>ho pins s1 σ H1 x v Q I1 r1 q1)
theorem opI{g:Int->Int->Int}
  (rule:∀ (i j:Int) (t u:Tok) (s:Shared) (Q:Value->Shared->Prop) (E:Value->Shared->Prop),C i j->Q (.int (g i j) s.toks) {s with toks:=s.toks+1}->wpAny (model X.prog X.w) X.A (f (.int i t) (.int j u)) Q E s):
  OpR X f (rI C λi j=> .int (g i j)):=by
 intro pins s σ H x y v u Q I rx ry h;obtain⟨i,j,rfl,rfl,hc,q⟩:=h;obtain⟨t,rfl⟩:=rx;obtain⟨t',rfl⟩:=ry;exact rule i j t t' s _ _ hc ⟨.int (g i j),H,I.tok _,⟨_,rfl⟩,q⟩
theorem xP{f:Value->Value->Sem Value}{g:Int->Int->Int}
  (rule:∀ (i j:Int) (t u:Tok) (s:Shared) (Q:Value->Shared->Prop) (E:Value->Shared->Prop),Q (.int (g i j) s.toks) {s with toks:=s.toks+1}->wpAny (model X.prog X.w) X.A (f (.int i t) (.int j u)) Q E s):
  OpR X f (rI0 λi j=> .int (g i j)):=by
 intro pins s σ H x y v u Q I rx ry h;obtain⟨i,j,rfl,rfl,q⟩:=h;obtain⟨t,rfl⟩:=rx;obtain⟨t',rfl⟩:=ry;exact rule i j t t' s _ _ ⟨.int (g i j),H,I.tok _,⟨_,rfl⟩,q⟩
theorem BI{f:Value->Value->Sem Value}{g:Int->Int->Bool}
  (rule:∀ (i j:Int) (t u:Tok) (s:Shared) (Q:Value->Shared->Prop) (E:Value->Shared->Prop),Q (.bool (g i j)) s->wpAny (model X.prog X.w) X.A (f (.int i t) (.int j u)) Q E s):
  OpR X f (rI0 λi j=> .bl (g i j)):=by
 intro pins s σ H x y v u Q I rx ry h;obtain⟨i,j,rfl,rfl,q⟩:=h;obtain⟨t,rfl⟩:=rx;obtain⟨t',rfl⟩:=ry;exact rule i j t t' s _ _ ⟨.bl (g i j),H,I,rfl,q⟩
def CZ(i j:Int):Prop:=0<j/\j<1073741824
def CY(i j:Int):Prop:=0<=j/\j<=1000000/\i.natAbs<2^64
def Ce(i j:Int):Prop:=(-(2^64)<i/\i<2^64)\/(-(2^64)<j/\j<2^64)
theorem Ce.ok(h:Ce i j):IntMulOk i j:=by
 rcases h with ⟨h1,h2⟩|⟨h1,h2⟩
 .exact .of_left (intBits_le_64 h1 h2)
 .exact .of_right (intBits_le_64 h1 h2)
theorem gw(k:Nat):(0:Int)<=2^k:=by rw[two_pow_cast];exact E2 _
theorem bh:OpR X (binaryOp .Add) (rI0 λi j=> .int (i+j)):=xP λ_ _ _ _ _ _ _ q=>add_int q
theorem bJ:OpR X (binaryOp .Sub) (rI0 λi j=> .int (i-j)):=xP λ_ _ _ _ _ _ _ q=>sub_int q
theorem da:OpR X (binaryOp .Mult) (rI Ce λi j=> .int (i*j)):=opI λ_ _ _ _ _ _ _ hc q=>mul_int q hc.ok
theorem cf:OpR X (binaryOp .FloorDiv) (rI CZ λi j=> .int (i/j)):=opI λi j _ _ _ _ _ hc q=>by have h1:(0:Int)<j:=hc.1;have h2:j<1073741824:=hc.2;exact floordiv_int (by lia) (by rw[HN i (by lia)];exact q) (.inl (PyProof.noPylong_small (by lia)))
theorem aP:OpR X (binaryOp .Mod) (rI (λ_ j=>0<j) λi j=> .int (i % j)):=opI λi j _ _ _ _ _ hc q=>by have h1:(0:Int)<j:=hc;exact mod_int' (by lia) (by rw[Int.fmod_eq_emod_of_nonneg i (by lia)];exact q)
theorem rE:OpR X (binaryOp .Pow) (rI CY λi j=> .int (i^j.toNat)):=opI λ_ _ _ _ _ _ _ hc q=>pow_int_small hc.1 hc.2.1 hc.2.2 q
theorem cF:OpR X (binaryOp .LShift) (rI CY λi j=> .int (i*2^j.toNat)):=opI λ_ _ _ _ _ _ _ hc q=>lshift_int_small hc.1 hc.2.1 hc.2.2 q
theorem j7:OpR X (binaryOp .RShift) (rI (λ_ j=>0<=j) λi j=> .int (i/2^j.toNat)):=opI λi j _ _ _ _ _ hc q=>
 rshift_int hc (by rw[HN i (gw _)];exact q)
theorem eC:OpR X (binaryOp .BitAnd) (rI0 λi j=> .int (Builtin.bitAnd i j)):=xP λ_ _ _ _ _ _ _ q=>and_int q
theorem fL:OpR X (binaryOp .BitOr) (rI0 λi j=> .int (Builtin.bitOr i j)):=xP λ_ _ _ _ _ _ _ q=>or_int q
theorem rD:OpR X (binaryOp .BitXor) (rI0 λi j=> .int (Builtin.bitXor i j)):=xP λ_ _ _ _ _ _ _ q=>xor_int q
theorem unI{f:Value->Sem Value}{g:Int->Int}
  (rule:∀ (i:Int) (t:Tok) (s:Shared) (Q:Value->Shared->Prop) (E:Value->Shared->Prop),Q (.int (g i) s.toks) {s with toks:=s.toks+1}->wpAny (model X.prog X.w) X.A (f (.int i t)) Q E s):
  UnR X f (rU λi=> .int (g i)):=by
 intro pins s σ H x v Q I rx h;obtain⟨i,rfl,q⟩:=h;obtain⟨t,rfl⟩:=rx;exact rule i t s _ _ ⟨.int (g i),H,I.tok _,⟨_,rfl⟩,q⟩
theorem wG:UnR X (unaryOp .USub) (rU λi=> .int (-i)):=unI λ_ _ _ _ _ q=>neg_int q
end
def scal:V->V->Bool
 | .non, .non=>true| .non, .int _=>true| .int _, .non=>true| .non, .bl _=>true| .bl _, .non=>true| .non, .str _=>true| .str _, .non=>true
 | .int _, .int _=>true| .bl _, .bl _=>true| .str _, .str _=>true| .byt _, .byt _=>true
 | .int _, .str _=>true| .str _, .int _=>true| .bl _, .str _=>true| .str _, .bl _=>true
 |_,_=>false
def rEq:R2:=λx y H Q=>scal x y=true/\Q (.bl (decide (x=y))) H
def rNe:R2:=λx y H Q=>scal x y=true/\Q (.bl (!decide (x=y))) H
theorem cK:decide (V.int i=V.int j)=(i==j):=by rw[FE];simp
theorem za:decide (V.bl i=V.bl j)=(i==j):=by rw[FE];simp
theorem uj:decide (V.str i=V.str j)=(i==j):=by rw[FE];simp
theorem uk{i j:Array UInt8}:decide (V.byt i=V.byt j)=(i.toList==j.toList):=by rw[FE];cases i;cases j;simp
section
variable{X:Cx}{a b c:Expr}{ta tb tc:TE}{pos:Pos}
theorem a7{pins:List (Addr×Obj)}{σ:St}{H:Hp}{s:Shared}{Q:VK}{k k':Bool}(I:Inv X pins σ H s)(q:Q (.bl k) H)(e:k=k'):EP X pins σ Q (.bool k') s:=by subst e;exact⟨.bl k,H,I,rfl,q⟩
theorem bP:OpR X (compareOp .Eq) rEq:=by
 intro pins s σ H x y v u Q I rx ry h;obtain⟨hs,q⟩:=h;cases x with
 |non=>
  cases rx;cases y with
  |non=>cases ry;exact PySem.EqNone.eq_none_none (a7 I q (by simp))
  |bl j=>cases ry;exact PySem.EqNone.eq_none_bool (a7 I q (by simp))
  |int j=>obtain⟨t',rfl⟩:=ry;exact PySem.EqNone.eq_none_int (a7 I q (by simp))
  |str j=>obtain⟨t',rfl⟩:=ry;exact PySem.EqNone.eq_none_str (a7 I q (by simp))
  |_=>exact absurd (show false=true from hs) Dr
 |bl i=>
  cases rx;cases y with
  |non=>cases ry;exact PySem.EqNone.eq_bool_none (a7 I q (by simp))
  |bl j=>cases ry;exact eq_bool (a7 I q za)
  |str j=>obtain⟨t',rfl⟩:=ry;exact PySem.EqMixed.eq_bool_str (a7 I q (by simp))
  |_=>exact absurd (show false=true from hs) Dr
 |int i=>
  obtain⟨t,rfl⟩:=rx;cases y with
  |non=>cases ry;exact PySem.EqNone.eq_int_none (a7 I q (by simp))
  |int j=>obtain⟨t',rfl⟩:=ry;exact eq_int (a7 I q cK)
  |str j=>obtain⟨t',rfl⟩:=ry;exact PySem.EqMixed.eq_int_str (a7 I q (by simp))
  |_=>exact absurd (show false=true from hs) Dr
 |str i=>
  obtain⟨t,rfl⟩:=rx;cases y with
  |non=>cases ry;exact PySem.EqNone.eq_str_none (a7 I q (by simp))
  |bl j=>cases ry;exact PySem.EqMixed.eq_str_bool (a7 I q (by simp))
  |int j=>obtain⟨t',rfl⟩:=ry;exact PySem.EqMixed.eq_str_int (a7 I q (by simp))
  |str j=>obtain⟨t',rfl⟩:=ry;exact eq_str (a7 I q uj)
  |_=>exact absurd (show false=true from hs) Dr
 |byt i=>
  obtain⟨t,rfl⟩:=rx;cases y with
  |byt j=>obtain⟨t',rfl⟩:=ry;exact PySem.W.eq_bytes (a7 I q uk)
  |_=>exact absurd (show false=true from hs) Dr
 |_=>cases y<;>exact absurd (show false=true from hs) Dr
theorem i6:OpR X (compareOp .NotEq) rNe:=by
 intro pins s σ H x y v u Q I rx ry h;obtain⟨hs,q⟩:=h;cases x with
 |non=>
  cases rx;cases y with
  |non=>cases ry;exact PySem.EqNone.ne_none_none (a7 I q (by simp))
  |bl j=>cases ry;exact PySem.EqNone.ne_none_bool (a7 I q (by simp))
  |int j=>obtain⟨t',rfl⟩:=ry;exact PySem.EqNone.ne_none_int (a7 I q (by simp))
  |str j=>obtain⟨t',rfl⟩:=ry;exact PySem.EqNone.ne_none_str (a7 I q (by simp))
  |_=>exact absurd (show false=true from hs) Dr
 |bl i=>
  cases rx;cases y with
  |non=>cases ry;exact PySem.EqNone.ne_bool_none (a7 I q (by simp))
  |bl j=>cases ry;exact ne_bool (a7 I q (Es not za))
  |str j=>obtain⟨t',rfl⟩:=ry;exact PySem.EqMixed.ne_bool_str (a7 I q (by simp))
  |_=>exact absurd (show false=true from hs) Dr
 |int i=>
  obtain⟨t,rfl⟩:=rx;cases y with
  |non=>cases ry;exact PySem.EqNone.ne_int_none (a7 I q (by simp))
  |int j=>obtain⟨t',rfl⟩:=ry;exact ne_int (a7 I q (Es not cK))
  |str j=>obtain⟨t',rfl⟩:=ry;exact PySem.EqMixed.ne_int_str (a7 I q (by simp))
  |_=>exact absurd (show false=true from hs) Dr
 |str i=>
  obtain⟨t,rfl⟩:=rx;cases y with
  |non=>cases ry;exact PySem.EqNone.ne_str_none (a7 I q (by simp))
  |bl j=>cases ry;exact PySem.EqMixed.ne_str_bool (a7 I q (by simp))
  |int j=>obtain⟨t',rfl⟩:=ry;exact PySem.EqMixed.ne_str_int (a7 I q (by simp))
  |str j=>obtain⟨t',rfl⟩:=ry;exact ne_str (a7 I q (Es not uj))
  |_=>exact absurd (show false=true from hs) Dr
 |byt i=>
  obtain⟨t,rfl⟩:=rx;cases y with
  |byt j=>obtain⟨t',rfl⟩:=ry;exact PySem.W.ne_bytes (a7 I q (Es not uk))
  |_=>exact absurd (show false=true from hs) Dr
 |_=>cases y<;>exact absurd (show false=true from hs) Dr
theorem ma:OpR X (compareOp .Lt) (rI0 λi j=> .bl (decide (i<j))):=BI λ_ _ _ _ _ _ _ q=>lt_int q
theorem gb:OpR X (compareOp .Gt) (rI0 λi j=> .bl (decide (j<i))):=BI λ_ _ _ _ _ _ _ q=>gt_int q
theorem A0:OpR X (compareOp .GtE) (rI0 λi j=> .bl (decide (j<=i))):=BI λ_ _ _ _ _ _ _ q=>ge_int q
theorem Ao:OpR X (compareOp .IsNot) (λx y H Q=>y= .non/\Q (.bl (!decide (x= .non))) H):=by
 intro pins s σ H x y v u Q I rx ry h;obtain⟨rfl,q⟩:=h;cases ry;refine isnot_none_gen (a7 I q ?_);cases x<;>first
  |(cases rx;rfl)
  |(obtain⟨t,rfl⟩:=rx;rfl)
theorem OpR.or(h:OpR X f r)(h':OpR X f r'):OpR X f (λx y H Q=>r x y H Q\/r' x y H Q):=by
 intro pins s σ H x y v u Q I rx ry q;rcases q with q|q
 .exact h pins s σ H x y v u Q I rx ry q
 .exact h' pins s σ H x y v u Q I rx ry q
theorem nomark(b:Expr){op:CmpOp}(h:op≠ .In:=by decide)(h2:op≠ .NotIn:=by decide):behindInMarks op b=false:=by
 have e1:(op==CmpOp.In)=false:=by cases op<;>first|rfl|exact absurd rfl h
 have e2:(op==CmpOp.NotIn)=false:=by cases op<;>first|rfl|exact absurd rfl h2
 cases b<;>simp[behindInMarks,e1,e2]
theorem tY(ho:OpR X (compareOp op) r)(ha:PE X a ta)(hb:PE X b tb)(hm:behindInMarks op b=false):PE X (.Compare a [op] [b] pos) (tOp r ta tb):=by intro pins s σ H Q I h;exact wpAny_Compare1 (B6 ha hb I h λv u s2 x y H2 I2 rx ry q=>ho pins s2 σ H2 x y v u Q I2 rx ry q) hm
def wQ(t:TE):TT:=λσ H Q=>t σ H (RdB Q)
theorem z9(ho:OpR X (compareOp op) r)(ha:PE X a ta)(hb:PE X b tb)(hm:behindInMarks op b=false):PT X (.Compare a [op] [b] pos) (wQ (tOp r ta tb)):=by
 intro pins s σ H Q I h;refine wpAny_isTrue_Compare1 (thn (ha pins s σ H _ I h) λv s1 ⟨x,H1,I1,r1,q1⟩=>thn (hb pins s1 σ H1 _ I1 q1) λu s2 ⟨y,H2,I2,r2,q2⟩=>
  thn (ho pins s2 σ H2 x y v u _ I2 r1 r2 q2) λc s3 ⟨z,H3,I3,r3,k,e,q3⟩=> ?_) hm
 subst e;cases r3;exact Fs ⟨H3,I3,q3⟩
def Bf(r r':R2)(ta tb tc:TE):TE:=λσ H Q=>ta σ H λx H1=>tb σ H1 λy H2=>r x y H2 λz H3=>∃k,z= .bl k/\
 (if k=true then tc σ H3 λw' H4=>r' y w' H4 Q else Q (.bl false) H3)
theorem xn{op op':CmpOp}{r r':R2}(ho:OpR X (compareOp op) r)(ho':OpR X (compareOp op') r')(ha:PE X a ta)(hb:PE X b tb)(hc:PE X c tc)
  (hm:lastMarks [op,op'] [b,c]=false:=by with_unfolding_all rfl):PT X (.Compare a [op,op'] [b,c] pos) (wQ (Bf r r' ta tb tc)):=by
 intro pins s σ H Q I h;refine isTrue_chain (thn (ha pins s σ H _ I h) λv s1 ⟨x,H1,I1,r1,q1⟩=>test_link (thn (hb pins s1 σ H1 _ I1 q1) λu s2 ⟨y,H2,I2,r2,q2⟩=>
  thn (ho pins s2 σ H2 x y v u _ I2 r1 r2 q2) λd s3 ⟨z,H3,I3,r3,k,e,q3⟩=> ?_)) hm
 subst e;cases r3;refine Fs ?_;cases k with
 |false=>
  obtain⟨k',e',q'⟩:=q3;cases e';exact ite_ff ⟨H3,I3,q'⟩
 |true=>
  refine ite_tt (test_last (thn (hc pins s3 σ H3 _ I3 q3) λw' s4 ⟨z',H4,I4,r4,q4⟩=>thn (ho' pins s4 σ H4 y z' u w' _ I4 r2 r4 q4) λd' s5 ⟨z2,H5,I5,r5,k2,e2,q5⟩=> ?_));subst e2;cases r5;exact Fs ⟨H5,I5,q5⟩
theorem nV:(sizeLine:Nat)<2^63:=by rw[FD];decide
theorem eD(r:Vals [x] us):∃u,us=[u]/\aW x u:=by
 cases r with
 |cons r1 r2=>cases r2;exact⟨_,rfl,r1⟩
theorem AQ(r:Vals [x,y] us):∃u w',us=[u,w']/\aW x u/\aW y w':=by
 cases r with
 |cons r1 r2=>
  cases r2 with
  |cons r3 r4=>cases r4;exact⟨_,_,rfl,r1,r3⟩
theorem iT(hc:X.calm=true):bX X (.builtin "min") (λxs H Q=>∃i j,xs=[.int i, .int j]/\Q (.int (if j<i then j else i)) H):=by
 intro pins s σ H xs us Q I r h;obtain⟨i,j,rfl,q⟩:=h;obtain⟨u,w',rfl,⟨t,rfl⟩,⟨t',rfl⟩⟩:=AQ r;refine min_two_ints (I.ok.hd hc) λh' tk k=>⟨_,H,I.kept k,?_,q⟩;by_cases hj:j<i
 .rw[Dp hj,Dp hj];exact⟨_,rfl⟩
 .rw[Dt hj,Dt hj];exact⟨_,rfl⟩
theorem wq:bX X (.type "int") (λxs H Q=>(∃i,xs=[.int i]/\Q (.int i) H)\/∃k,xs=[.bl k]/\Q (.int (if k then 1 else 0)) H):=by
 intro pins s σ H xs us Q I r h;rcases h with ⟨i,rfl,q⟩|⟨k,rfl,q⟩
 .obtain⟨u,rfl,t,rfl⟩:=eD r;exact call_int_int ⟨.int i,H,I,⟨_,rfl⟩,q⟩
 .obtain⟨u,rfl,r1⟩:=eD r;cases r1;exact call_int_bool ⟨.int (if k then 1 else 0),H,I.tok _,⟨_,rfl⟩,q⟩
end
end L2
namespace L2
open PySem PySem.Spec PyProof.Rows
structure sA(h:Heap)(x dx C:Addr)(mA:Str->Option Value):Prop where
 obj:h.get? x=some (instObj C dx)
 ns:h.Ns1 dx mA
 ne:dx≠x
theorem vD{h:Heap}(n:h.Ns1 dx mA):∃od,h.get? dx=some od/\∀name,lookIn name od=some (mA name):=by
 obtain⟨o,es,ep,ho,hd,hk,_,hm⟩:=n;refine⟨o,ho,λname=> ?_⟩;have e:=hm name;unfold nsFind findBy at e;rw[<-Array.find?_toList]at e;unfold lookIn;rw[hd];dsimp only;split
 .rename_i y q;rw[q]at e;exact Es some e
 .rename_i q;rw[q]at e;have a:es.toList.any (·.refKey)=false:=by rw[List.any_eq_false];intro y hy;obtain⟨z,t,hkey⟩:=hk y (Array.mem_toList_iff.mp hy);simp[DictEntry.refKey,hkey]
  have a':¬es.toList.any (·.refKey)=true:=by rw[a];exact Dr
  rw[Dt a'];exact Es some e
theorem sA.look(I:sA h x dx C mA):∃od,PySem.W.InstAt h x (instObj C dx) C (some od)/\∀name,lookIn name od=some (mA name):=
 let⟨od,ho,hl⟩:=vD I.ns
 ⟨od,⟨I.obj,rfl,rfl,ho⟩,hl⟩
section
variable{prog:Program}{w:World}{A:Around}{E:Value->Shared->Prop}{s:Shared}{K:PySem.W.Frag}{x dx C f:Addr}{mA:Str->Option Value}{name:Str}{v:Value}
theorem AJ(X:K.In s.heap)(I:sA s.heap x dx C mA)(hg:plainGet K C name=true)(hh:hasDictIn K C=true)
  (ha:findIn K (.ref C) name=some none) (hv:mA name=some v) (hv':PySem.W.handedIn v=true) (h:Q v {s with toks:=s.toks+1}):
  wpAny (model prog w) A (getAttr (.ref x) name expr) Q E s:=by
 obtain⟨od,J,hl⟩:=I.look;exact PySem.W.get_value X J (Hu hg).1 (PySem.W.findObj_own hh ha rfl (by rw[hl,hv])) hv' h
theorem yN(X:K.In s.heap)(I:sA s.heap x dx C mA)(hg:plainGet K C name=true)
  (hf:findIn K (.ref C) name=some (some (.ref f))) (ht:isFn K (.ref f)=true) (hv:mA name=none) (h:Q (.ref f,[.ref x]) s):
  wpAny (model prog w) A (getMethod (.ref x) name pl) Q E s:=by
 obtain⟨od,J,hl⟩:=I.look;exact PySem.W.method_fn X J (Hu hg).1 (Hu hg).2 hf (GL.mp ht) (by show(lookIn name od).map (·.isSome)=some false;rw[hl,hv];rfl) h
theorem zQ{ns:List Str}(X:K.In s.heap)(I:sA s.heap x dx C mA)
  (hs:findIn K (.ref C) "__setattr__"=some (some (.builtin "object.__setattr__"))) (hp:plainOver K C=true) (ht:takerIn K C name=some none) (hh:hasDictIn K C=true)
  (hw:PySem.Within mA ns) (hsz:ns.length<=sizeLine)
  (h:∀h',sA h' x dx C (λy=>if y=name then some v else mA y)->Heap.SameBut dx s.heap h'->Q () {s with heap:=h',toks:=s.toks+2}):
  wpAny (model prog w) A (setAttr (.ref x) name v) Q E s:=by
 obtain⟨od,J,hl⟩:=I.look;refine PySem.W.set_plain X J hs (PySem.W.osa_open (s:={s with toks:=s.toks+1}) (r:=none) X J hp ht λb=> ?_);obtain⟨cd,hc,hd'⟩:=PySem.W.any_some hh;have hx:s.heap.get? x=some ⟨.ref C,some dx, .plain, #[]⟩:=I.obj;refine Dj (DA (Dj (Dj (wpAny_loadPart hx (Dj (PySem.W.Looks.here (s:={s with toks:=s.toks+1}) (PySem.W.looks_clsIn X hc) ?_))))));rw[hd'];refine DA (a:=some dx) (Dj (DA (Dj ?_)));refine wpAny_nsSet1 (s:={s with toks:=s.toks+1}) I.ns λh' hn2 hs2=> ?_;obtain⟨oD,esD,epD,hoD,hdD,hcD⟩:=hn2.count (PySem.Within.cons name v hw);refine Dj (wpAny_lookBehind hoD (by rw[hdD];exact pastItsLine_dict (Du hcD (by rw[D6];lia))) ?_);exact DA (h _ ⟨(hs2.2 _ (E8 I.ne)).trans I.obj,hn2,I.ne⟩ hs2)
theorem yj(X:K.In s.heap)(hm:makesIn K C=true)
  (hi:findIn K (.ref C) "__init__"=some (some (.ref f))) (hf:PySem.W.typeIn K (.ref f)=some (.type "function"))
  (h:codeAny (model prog w) (A.under (.builtin "type.__call__" ⟨.ref C::vs,kw⟩)) (.call (.ref f) ⟨.ref (s.heap.objs.size+1)::vs,kw⟩) (PySem.W.InitBack (s.heap.objs.size+1) R)
   {s with heap:=(s.heap.push emptyDict).push (instObj C s.heap.objs.size)}):
  codeAny (model prog w) A (.call (.ref C) ⟨vs,kw⟩) R s:=by
 obtain⟨hh,g,d,t,os⟩:=s;exact PySem.W.make_core (PySem.W.makes_of X hm) (PySem.W.looks_findIn X hi) (λself=>PySem.W.bind_fn X self hf) (.inl rfl) h
end
def aJ(f:Str)(v:V):List (Str×V)->List (Str×V)
 | []=>[(f,v)]
 |(g,x)::r=>if g=f then(g,v)::r else(g,x)::aJ f v r
theorem d9(f g:Str)(v:V):∀fs:List (Str×V),(aJ f v fs).lookup g=if g=f then some v else fs.lookup g
 | []=>by
  show List.lookup g [(f,v)]=_;by_cases h:g=f
  .have hb:(g==f)=true:=GL.mpr h;simp only[List.lookup,hb,Dp h]
  .have hb:(g==f)=false:=FK.mpr h;simp only[List.lookup,hb,Dt h]
 |(k,x)::r=>by
  have ih:=d9 f g v r;rw[show aJ f v ((k,x)::r)=(if k=f then(k,v)::r else(k,x)::aJ f v r)from rfl];by_cases hk:k=f
  .rw[Dp hk];by_cases h:g=k
   .have hb:(g==k)=true:=GL.mpr h;simp only[List.lookup,hb,Dp (h.trans hk)]
   .have hb:(g==k)=false:=FK.mpr h;simp only[List.lookup,hb,Dt (λe:g=f=>h (e.trans hk.symm))]
  .rw[Dt hk];by_cases h:g=k
   .have hb:(g==k)=true:=GL.mpr h;simp only[List.lookup,hb,Dt (λe:g=f=>hk (h.symm.trans e))]
   .have hb:(g==k)=false:=FK.mpr h;simp only[List.lookup,hb];exact ih
theorem iK(f:Str)(v:V):∀fs:List (Str×V),f∈(aJ f v fs).map (·.1)/\∀g,g∈fs.map (·.1)->g∈(aJ f v fs).map (·.1)
 | []=>⟨by simp[aJ],λg h=>by simp at h⟩
 |(k,x)::r=>by
  obtain⟨i1,i2⟩:=iK f v r;rw[show aJ f v ((k,x)::r)=(if k=f then(k,v)::r else(k,x)::aJ f v r)from rfl];by_cases hk:k=f
  .rw[Dp hk];subst hk;exact⟨by simp,λg h=>by simpa using h⟩
  .rw[Dt hk];refine⟨?_,λg h=> ?_⟩
   .rw[Ej];exact DC _ i1
   .rw[Ej]at h⊢;rcases Dz.mp h with e|e
    .exact Dz.mpr (.inl e)
    .exact DC _ (i2 g e)
theorem aC(f:Str)(v:V):∀fs:List (Str×V),(aJ f v fs).length<=fs.length+1
 | []=>by simp[aJ]
 |(k,x)::r=>by
  have ih:=aC f v r;rw[show aJ f v ((k,x)::r)=(if k=f then(k,v)::r else(k,x)::aJ f v r)from rfl];by_cases hk:k=f
  .rw[Dp hk,D6,D6];lia
  .rw[Dt hk,D6,D6];lia
theorem fC.some_of(r:fC (some v) o):∃u,o=some u/\aW v u:=by
 cases o with
 |none=>exact(show False from r).elim
 |some u=>exact⟨u,rfl,r⟩
theorem fC.none_of(r:fC none o):o=none:=by
 cases o with
 |none=>rfl
 |some u=>exact(show False from r).elim
theorem vQ(r:aW v u):PySem.W.handedIn u=true:=by
 cases v with
 |non=>cases (show u=Value.none from r);rfl
 |bl b=>cases (show u=Value.bool b from r);rfl
 |int i=>obtain⟨t,e⟩:=(show∃t,u=Value.int i t from r);cases e;rfl
 |str x=>obtain⟨t,e⟩:=(show∃t,u=Value.str x t from r);cases e;rfl
 |byt b=>obtain⟨t,e⟩:=(show∃t,u=Value.bytes b t from r);cases e;rfl
 |flt b=>obtain⟨t,e⟩:=(show∃t,u=Value.float b t from r);cases e;rfl
 |ref a=>cases (show u=Value.ref a from r);rfl
 |ty n=>cases (show u=Value.type n from r);rfl
section
variable{P:Program}{w:World}{H H':Hp}{h h':Heap}{a C dx:Addr}{fs fs':List (Str×V)}
theorem jC(hok:HOk P w H h)(e:H a=some (.ins C dx fs)):∃mA,sA h a dx C mA/\(∀f,fC (fs.lookup f) (mA f))/\PySem.Within mA (fs.map (·.1))/\fs.length<=1000/\H dx=some (.own a):=by obtain⟨d,z,ne,ob,mA,n,r,q⟩:=(show br P w H h a (.ins C dx fs)from hok a _ e);exact⟨mA,⟨ob,n,ne⟩,r,q,z,d⟩
end
structure Cls(K:PySem.W.Frag)(C:Addr):Prop where
 pg:plainGet K C Str.empty=true
 hd:hasDictIn K C=true
 po:plainOver K C=true
 sa:findIn K (.ref C) "__setattr__"=some (some (.builtin "object.__setattr__"))
theorem Cls.get{K:PySem.W.Frag}{C:Addr}(c:Cls K C)(f:Str):plainGet K C f=true:=c.pg
def aH(K:PySem.W.Frag)(C:Addr)(f:Str):Prop:=findIn K (.ref C) f=some none
theorem aH.taker{K:PySem.W.Frag}{C:Addr}{f:Str}(n:aH K C f):takerIn K C f=some none:=by unfold takerIn;rw[show findIn K (.ref C) f=some none from n];rfl
structure Meth(K:PySem.W.Frag)(C:Addr)(m:Str)(f:Addr):Prop where
 at_:findIn K (.ref C) m=some (some (.ref f))
 fn:isFn K (.ref f)=true
 kp:keepIn K (.ref f)=true
section
variable{X:Cx}{pins:List (Addr×Obj)}{σ:St}{H:Hp}{s:Shared}{a C dx:Addr}{fs:List (Str×V)}{f:Str}{v:V}{A:Around}{E:Value->Shared->Prop}
theorem r8(I:Inv X pins σ H s)(e:H a=some (.ins C dx fs))(c:Cls X.K C)(n:aH X.K C f)(l:fs.lookup f=some v)
  (h:∀u s',Inv X pins σ H s'->aW v u->Q u s'):wpAny (model X.prog X.w) A (getAttr (.ref a) f b) Q E s:=by
 obtain⟨mA,O,r,_,_,_⟩:=jC I.hok e;obtain⟨u,hu,ru⟩:=fC.some_of (v:=v) (o:=mA f) (by rw[<-l];exact r f);exact AJ I.kIn O (c.get f) c.hd n hu (vQ ru) (h u _ (I.tok _) ru)
theorem kE(I:Inv X pins σ H s)(e:H a=some (.ins C dx fs))(c:Cls X.K C)(k:Meth X.K C m g)(l:fs.lookup m=none)
  (h:Q (.ref g,[.ref a]) s):wpAny (model X.prog X.w) A (getMethod (.ref a) m pl) Q E s:=by
 obtain⟨mA,O,r,_,_,_⟩:=jC I.hok e;have hn:mA m=none:=fC.none_of (by rw[<-l];exact r m);exact yN I.kIn O (c.get m) k.at_ k.fn hn h
theorem rf(I:Inv X pins σ H s)(e:H a=some (.ins C dx fs))(c:Cls X.K C)(n:aH X.K C f)(hl:fs.length<1000)(ry:aW y u)
  (h:∀s',Inv X pins σ (upd H a (.ins C dx (aJ f y fs))) s'->Q () s'):wpAny (model X.prog X.w) A (setAttr (.ref a) f u) Q E s:=by
 obtain⟨mA,O,r,wi,_,ho⟩:=jC I.hok e;have hz:(fs.map (·.1)).length<=sizeLine:=by rw[Di,FD];lia
 refine zQ I.kIn O c.sa c.po n.taker c.hd wi hz λh' O' sb=>h _ ?_;have hd:∃o,h'.get? dx=some o:=let⟨o,_,_,e',_⟩:=O'.ns;⟨o,e'⟩;refine I.write (x:=a) (e:=dx) (by rw[e];exact E5) (.inr ho) (λb q hb z=>(sb.2 b hb).trans z) hd ?_;refine⟨by rw[aw O.ne];exact ho,?_,O.ne,O'.obj,_,O'.ns,λg=> ?_,λg hg=> ?_⟩
 .have:=aC f y fs;lia
 .show fC ((aJ f y fs).lookup g) (if g=f then some u else mA g);rw[d9];by_cases q:g=f
  .rw[Dp q,Dp q];exact ry
  .rw[Dt q,Dt q];exact r g
 .by_cases q:g=f
  .rw[q];exact(iK f y fs).1
  .refine(iK f y fs).2 g (wi g λz=>hg ?_);show(if g=f then some u else mA g)=none;rw[Dt q];exact z
theorem Inv.made(I:Inv X pins σ H s):Inv X pins σ (upd (upd H s.heap.objs.size (.own (s.heap.objs.size+1))) (s.heap.objs.size+1) (.ins C s.heap.objs.size []))
  {s with heap:=(s.heap.push emptyDict).push (instObj C s.heap.objs.size)}:=by
 have e1:(s.heap.push emptyDict).get? s.heap.objs.size=some emptyDict:=DP s.heap rfl;have e2:((s.heap.push emptyDict).push (instObj C s.heap.objs.size)).get? (s.heap.objs.size+1)=some (instObj C s.heap.objs.size):=by
  have:=DP (s.heap.push emptyDict) (o:=instObj C s.heap.objs.size) rfl
  rwa [Fy]at this
 have e3:(s.heap.push emptyDict).Ns s.heap.objs.size (λ_=>none):=⟨emptyDict, #[],_,e1,rfl,(λe he=>absurd he (by simp)),λ_=>rfl⟩;have I1:=I.laid (a:=s.heap.objs.size) (o:= .own (s.heap.objs.size+1)) (h':=s.heap.push emptyDict) (t':=s.toks) (λb u q=>Dx _ q) (Dl _) ⟨_,e1⟩;refine I1.laid (a:=s.heap.objs.size+1) (o:= .ins C s.heap.objs.size []) (t':=s.toks) (λb u q=>Dx _ q) (Nat.le_of_eq (Fy _ _)) ?_;have ne:s.heap.objs.size≠s.heap.objs.size+1:=DQ (D9 _);refine⟨by rw[aw ne,ag],DV _,ne,e2,λ_=>none,(Heap.Ns1.of_empty e3).at λo q=>Dx _ q,λ_=>E5,λy hy=>absurd rfl hy⟩
theorem AN(hb:attributeBase e f env (eval e env)=eval e env)
  (h:wpAny (model prog w) A (eval e env) (λo s₁=>wpAny (model prog w) A (getAttr o f true) Q E s₁) E s):wpAny (model prog w) A (eval (.Attribute e f pos) env) Q E s:=
 Attribute_any_ h (by rw[arm_eval_Attribute,hb])
end
inductive RdF(K:PySem.W.Frag)(f:Str)(Q:VK)(x:V)(H:Hp):Prop
 |mk (a C dx:Addr) (fs:List (Str×V)) (v:V) (e1:x= .ref a) (e2:H a=some (.ins C dx fs)) (c:Cls K C) (n:aH K C f) (l:fs.lookup f=some v) (q:Q v H):RdF K f Q x H
def Bd(K:PySem.W.Frag)(ta:TE)(f:Str):TE:=λσ H Q=>ta σ H (RdF K f Q)
def Bl(K:PySem.W.Frag)(ta tv:TE)(f:Str):TS:=λD σ H=>tv σ H λy H1=>ta σ H1 λx H2=>∃a C dx fs,x= .ref a/\H2 a=some (.ins C dx fs)/\Cls K C/\aH K C f/\fs.length<1000/\
 D.nx σ (upd H2 a (.ins C dx (aJ f y fs)))
section
variable{X:Cx}{o e value:Expr}{f:Str}{pos pos' tpos:Pos}{ta tv:TE}
theorem BC(he:PE X e ta)(hb:attributeBase e f X.env (eval e X.env)=eval e X.env):PE X (.Attribute e f pos) (Bd X.K ta f):=by intro pins s σ H Q I h;refine AN hb (thn (he pins s σ H _ I h) λu s1 hq_=> ?_);obtain⟨x,H1,I1,rx,a,C,dx,fs,v,ex,ea,c,n,l,q⟩:=hq_;subst ex;obtain rfl:u=Value.ref a:=rx;exact r8 I1 ea c n l λu' s2 I2 ru=>⟨v,H1,I2,ru,q⟩
theorem Bt(ha:PE X o ta)(hv:PE X value tv)(hs:swapsWith value (some (.Attribute o f pos')) pos.line X.env=pure false):PS X (.Assign [.Attribute o f pos'] value pos) (Bl X.K ta tv f):=by intro pins s σ H D I h;refine plainObj_wpAny_Assign_Attribute (thn (hv pins s σ H _ I h) λu s1 ⟨y,H1,I1,ry,q⟩=>thn (ha pins s1 σ H1 _ I1 q) λov s2 hq_=> ?_) hs;obtain⟨x,H2,I2,rx,a,C,dx,fs,ex,ea,c,n,l,q2⟩:=hq_;subst ex;obtain rfl:ov=Value.ref a:=rx;exact rf I2 ea c n l ry λs3 I3=>⟨σ,_,I3,q2⟩
end
section
variable{X:Cx}{pins:List (Addr×Obj)}{σ:St}{H:Hp}{s:Shared}{A:Around}{E:Value->Shared->Prop}{Q:Value->Shared->Prop}{c:Value}{b:Bool}
inductive ij(K:PySem.W.Frag)(H:Hp):V->Value->Prop where
 |non:ij K H .non (.type "NoneType")
 |bl (x:Bool):ij K H (.bl x) (.type "bool")
 |int (i:Int):ij K H (.int i) (.type "int")
 |str (x:Str):ij K H (.str x) (.type "str")
 |flt (x:UInt64):ij K H (.flt x) (.type "float")
 |lst {a:Addr} {xs:List V} (e:H a=some (.lst xs)):ij K H (.ref a) (.type "list")
 |frz {a:Addr} {o:Obj} {xs:List V} (e:H a=some (.frz o (.lst xs))):ij K H (.ref a) (.type "list")
 |tup {a:Addr} {xs:List V} (e:H a=some (.tup xs)):ij K H (.ref a) (.type "tuple")
 |dK {a:Addr} {kvs:List (Key×V)} (e:H a=some (.dK kvs)):ij K H (.ref a) (.type "dict")
 |dT {a:Addr} {kvs:List (List Key×V)} (e:H a=some (.dT kvs)):ij K H (.ref a) (.type "dict")
 |ins {a C dx:Addr} {fs:List (Str×V)} (e:H a=some (.ins C dx fs)) (cl:Cls K C) (ha:findIn K (.ref C) "__class__"=some (some (.builtin "object.__class__")))
   (hn:specialIn K (.builtin "object.__class__") "__get__"=some (some (.builtin "getset_descriptor.__get__"))) (htk:takesIn K (.builtin "object.__class__")=some true)
   (hm:mroIn K C (.type "object")=some true):ij K H (.ref a) (.ref C)
theorem vN(I:Inv X pins σ H s)(rx:aW x u)(ty:ij X.K H x t)(e:kitOne X.K t c=some b)(h:∀tk,Q (.bool b) {s with toks:=tk}):
  wpAny (model X.prog X.w) A (call (.builtin "isinstance") [u,c]) Q E s:=by
 cases ty with
 |non=>cases (show u=Value.none from rx);exact EY PySem.W.kitx_none I.kIn E5 e (λz=>nomatch z) h
 |bl y=>cases (show u=Value.bool y from rx);exact EY PySem.W.kitx_bool I.kIn E5 e (λz=>nomatch z) h
 |int i=>obtain⟨t,q⟩:=(show∃t,u=Value.int i t from rx);cases q;exact EY PySem.W.kitx_int I.kIn E5 e (λz=>nomatch z) h
 |str y=>obtain⟨t,q⟩:=(show∃t,u=Value.str y t from rx);cases q;exact EY PySem.W.kitx_str I.kIn E5 e (λz=>nomatch z) h
 |flt y=>obtain⟨t,q⟩:=(show∃t,u=Value.float y t from rx);cases q;exact EY PySem.W.kitx_float I.kIn E5 e (λz=>nomatch z) h
 | @lst a xs ea=>
  cases (show u=Value.ref a from rx);obtain⟨_,_,n,_,h1⟩:=(show br X.prog X.w H s.heap a (.lst xs)from I.hok a _ ea);exact EY PySem.W.kitx_list I.kIn ⟨_,h1,rfl⟩ e (λz=>nomatch z) h
 | @frz a ob xs ea=>
  cases (show u=Value.ref a from rx);obtain⟨_,_,_,n,_,h1⟩:=(show br X.prog X.w H s.heap a (.frz ob (.lst xs))from I.hok a _ ea);exact EY PySem.W.kitx_list I.kIn ⟨_,h1,rfl⟩ e (λz=>nomatch z) h
 | @tup a xs ea=>
  cases (show u=Value.ref a from rx);obtain⟨_,_,_,p⟩:=(show br X.prog X.w H s.heap a (.tup xs)from I.hok a _ ea);obtain⟨o,h1,h2,_⟩:=p;exact EY PySem.W.kitx_tuple I.kIn ⟨o,h1,h2⟩ e (λz=>nomatch z) h
 | @dK a kvs ea=>
  cases (show u=Value.ref a from rx);obtain⟨_,_,vs,_,p⟩:=(show br X.prog X.w H s.heap a (.dK kvs)from I.hok a _ ea);obtain⟨o,es,ep,h1,h2,_⟩:=p;exact EY PySem.W.kitx_dict I.kIn ⟨o,h1,h2.1⟩ e (λz=>nomatch z) h
 | @dT a kvs ea=>
  cases (show u=Value.ref a from rx);obtain⟨_,_,xs,_,o,es,ep,h1,h2,_⟩:=(show br X.prog X.w H s.heap a (.dT kvs)from I.hok a _ ea);exact EY PySem.W.kitx_dict I.kIn ⟨o,h1,h2.1⟩ e (λz=>nomatch z) h
 | @ins a C dx fs ea cl ha hn htk hm=>
  cases (show u=Value.ref a from rx);obtain⟨mA,O,_⟩:=jC I.hok ea;obtain⟨od,J,_⟩:=O.look;exact EY (PySem.W.kitx_own (cl.get _) cl.hd ha hn htk hm) I.kIn J e (λz=>nomatch z) h
end
end L2
namespace L2
open PySem PySem.Spec PyProof.Rows
structure Room(k:Nat)(A:Around):Prop where
 hd:A.handled=none
 dp:A.depth+3*k+5<recursionLimit
 un:A.units+16*k+200<cLine
theorem Room.mono(r:Room k A)(h:j<=k):Room j A:=⟨r.hd,by have:=r.dp;lia,by have:=r.un;lia⟩
theorem Room.deeper{A:Around}(r:Room (k+1) A)(env:Env):Room k (A.deeper env):=
 ⟨r.hd,by have:=r.dp;show A.depth+1+3*k+5<_;lia,by have:=r.un;show A.units+3+16*k+200<_;lia⟩
theorem Room.in1{A:Around}(r:Room (k+1) A):Room k A.in1:=
 ⟨r.hd,by have:=r.dp;show A.depth+3*k+5<_;lia,by have:=r.un;show A.units+1+16*k+200<_;lia⟩
theorem rT{A:Around}:(A.under (.builtin "type.__call__" ⟨.ref C::us,kw⟩)).depth=A.depth+1:=by
 first|rfl|simp[Around.under,Code.weight,Code.isCreation,Code.isGuard,Code.isCaller,Code.frames,Code.isFrame,guardIds]
theorem rS{A:Around}:(A.under (.builtin "type.__call__" ⟨.ref C::us,kw⟩)).units=A.units+1:=by
 first|rfl|simp[Around.under,Code.cUnits,Code.frames,Code.isFrame]
theorem Room.make{A:Around}(r:Room (k+1) A)(C:Addr)(us:List Value)(kw:List (Str×Value)):Room k (A.under (.builtin "type.__call__" ⟨.ref C::us,kw⟩)):=
 ⟨r.hd,by have:=r.dp;rw[rT];lia,by have:=r.un;rw[rS];lia⟩
theorem Room.depth{A:Around}(r:Room k A):A.depth<recursionLimit:=by have:=r.dp;lia
theorem Room.units{A:Around}(r:Room k A):A.units+64<cLine:=by have:=r.un;lia
def zK:TA:=λ_ H Q=>Q [] H
def wV(ta:TE)(tr:TA):TA:=λσ H Q=>ta σ H λx H1=>tr σ H1 λxs H2=>Q (x::xs) H2
section
variable{X:Cx}{e:Expr}{es:List Expr}{te:TE}{t:TA}{pos:Pos}
theorem ah:PA X [] zK:=λ_ _ _ _ H Q I h=>Calls.spliced_nil ⟨[],H,I, .nil,h⟩
theorem aa(ha:PE X e te)(hr:PA X es t)(hs:starEach (e::es) X.env=(false,eval e X.env)::starEach es X.env:=by rfl):PA X (e::es) (wV te t):=by intro pos pins s σ H Q I h;rw[hs];show wpAny _ _ (spliced ((false,eval e X.env)::backTo pos (starEach es X.env))) _ _ s;refine Calls.spliced_cons (thn (ha pins s σ H _ I h) λu s1 ⟨x,H1,I1,r1,q1⟩=> ?_);exact thn (hr pos pins s1 σ H1 _ I1 q1) λus s2 ⟨xs,H2,I2,r2,q2⟩=>⟨x::xs,H2,I2, .cons r1 r2,q2⟩
def C3(t:TA):TE:=λσ H Q=>t σ H λxs H1=>xs.length<=sizeLine/\∀p,H1 p=none->Q (.ref p) (upd H1 p (.tup xs))
def Ck(t:TA):TE:=λσ H Q=>t σ H λxs H1=>xs.length<=sizeLine/\∀p,H1 p=none->Q (.ref p) (upd H1 p (.lst xs))
theorem cD{x1}(h:PA X es t):PE X (.Tuple es x1 pos) (C3 t):=by intro pins s σ H Q I hq;refine wpAny_Tuple_spliced (thn (h pos pins s σ H _ I hq) λus s1 ⟨xs,H1,I1,r,z,q⟩=>⟨by rw[<-r.length];exact z,?_⟩);have hf:H1 s1.heap.objs.size=none:=I1.hok.fresh (Dl _);refine⟨.ref s1.heap.objs.size,upd H1 s1.heap.objs.size (.tup xs),I1.laid (t':=s1.toks) (λb u e=>Dx _ e) (Dl _) ?_,rfl,q _ hf⟩;exact⟨z,us,r,⟨_,DP _ rfl,rfl,_,rfl⟩⟩
theorem c9(h:PA X es t):PE X (.List es pos) (Ck t):=by intro pins s σ H Q I hq;refine wpAny_List_spliced (thn (h pos pins s σ H _ I hq) λus s1 ⟨xs,H1,I1,r,z,q⟩=>⟨by rw[<-r.length];exact z,?_⟩);have hf:H1 s1.heap.objs.size=none:=I1.hok.fresh (Dl _);refine⟨.ref s1.heap.objs.size,upd H1 s1.heap.objs.size (.lst xs),I1.laid (t':=s1.toks) (λb u e=>Dx _ e) (Dl _) ?_,rfl,q _ hf⟩;exact⟨z,us,0,r,DP _ rfl⟩
end
abbrev Sp:=List V->Hp->VK->XK->Prop
abbrev CXT:=List Env->Hp->Shared->XK->Value->Shared->Prop
structure lL(P:Program)(w:World)(K:PySem.W.Frag)(mg:Str->Option Value)(base:Heap)(A:Around)(outer:List Env)(s:Shared)(H:Hp):Prop where
 frames:A.frames=some outer
 mod:Mod K mg base
 bs:∀b o,base.get? b=some o->s.heap.get? b=some o/\H b=none
 bsz:base.objs.size<=s.heap.objs.size
 funs:s.heap.FunFrames base outer
 frf:∀b∈frs outer,H b=none
 hok:HOk P w H s.heap
 bare:AllBare s.gens
def CE(outer:List Env)(P:Program)(w:World)(H:Hp)(s:Shared)(Q:VK)(u:Value)(s':Shared):Prop:=
 ∃v H',s'.os=s.os/\AllBare s'.gens/\Un (frs outer) [] H H' s.heap s'.heap/\HOk P w H' s'.heap/\aW v u/\Q v H'
def CR(CX:CXT)(outer:List Env)(P:Program)(w:World)(H:Hp)(s:Shared)(Q:VK)(E:XK)(r:Result)(s':Shared):Prop:=
 match r with
 | .ok (.ret u)=>CE outer P w H s Q u s'
 | .ok _=>False
 | .error e=>CX outer H s E e s'
structure fq(P:Program)(w:World)(K:PySem.W.Frag)(mg:Str->Option Value)(base:Heap)(CX:CXT)(k:Nat)(f:Addr)(fd:FuncData)(ps:List Str)(sp:Sp):Prop where
 len:∀vs H Q E,sp vs H Q E->vs.length=ps.length
 run:∀ (A:Around) (outer:List Env) (s:Shared) (H:Hp) (args:Args) (us:List Value) (vs:List V) (Q:VK) (E:XK),Room k A->lL P w K mg base A outer s H->BindsTo s fd args (ps.zip us)->Vals vs us->sp vs H Q E->
  codeAny (model P w) A (.call (.ref f) args) (CR CX outer P w H s Q E) s
theorem fq.mono{P:Program}{w:World}{K:PySem.W.Frag}{mg:Str->Option Value}{base:Heap}{CX:CXT}{j k:Nat}{f:Addr}{fd:FuncData}{ps:List Str}{sp:Sp}(F:fq P w K mg base CX j f fd ps sp)(h:j<=k):
  fq P w K mg base CX k f fd ps sp:=⟨F.len,λA outer s H args us vs Q E hr=>F.run A outer s H args us vs Q E (hr.mono h)⟩
theorem fq.imp{P:Program}{w:World}{K:PySem.W.Frag}{mg:Str->Option Value}{base:Heap}{CX:CXT}{k:Nat}{f:Addr}{fd:FuncData}{ps:List Str}{sp sp':Sp}(F:fq P w K mg base CX k f fd ps sp)
  (h:∀vs H Q E,sp' vs H Q E->sp vs H Q E):fq P w K mg base CX k f fd ps sp':=
 ⟨λvs H Q E q=>F.len vs H Q E (h _ _ _ _ q),λA outer s H args us vs Q E hr he hb hv hs=>F.run A outer s H args us vs Q E hr he hb hv (h _ _ _ _ hs)⟩
theorem lL.make{P:Program}{w:World}{K:PySem.W.Frag}{mg:Str->Option Value}{base:Heap}{A:Around}{outer:List Env}{s:Shared}{H:Hp}(e:lL P w K mg base A outer s H)(C:Addr)(us:List Value)(kw:List (Str×Value)):
  lL P w K mg base (A.under (.builtin "type.__call__" ⟨.ref C::us,kw⟩)) outer s H:=⟨by first|exact e.frames|(simpa [Around.under,Code.envs,Code.isFrame,pushEnvs]using e.frames),e.mod,e.bs,e.bsz,e.funs,e.frf,e.hok,e.bare⟩
theorem lL.in1{P:Program}{w:World}{K:PySem.W.Frag}{mg:Str->Option Value}{base:Heap}{A:Around}{outer:List Env}{s:Shared}{H:Hp}(e:lL P w K mg base A outer s H):
  lL P w K mg base A.in1 outer s H:=⟨e.frames,e.mod,e.bs,e.bsz,e.funs,e.frf,e.hok,e.bare⟩
section
variable{X:Cx}{pins:List (Addr×Obj)}{σ:St}{H:Hp}{s s':Shared}
theorem Inv.env0(I:Inv X pins σ H s):lL X.prog X.w X.K X.mg X.base X.A X.stack s H:=
 ⟨I.ok.frames,I.ok.mod,I.bs,Du I.ok.bsz I.sz,I.stack,I.stkFree,I.hok,I.bare⟩
theorem Inv.after(I:Inv X pins σ H s)(h:CE X.stack X.prog X.w H s Q u s'):EP X pins σ Q u s':=by obtain⟨v,H',os,bare,un,hok,r,q⟩:=h;obtain⟨hh,g,d,t,os'⟩:=s';obtain rfl:os'=s.os:=os;exact⟨v,H',I.call (h':=hh) (g':=g) (d':=d) (t':=t) (ch:=[]) un hok bare (λb z=>absurd z (by simp)),r,q⟩
end
def wW(sp:Sp)(dvs:List V)(E:XK)(t:TA):TE:=λσ H Q=>t σ H λvs H1=>sp (vs++dvs) H1 Q E
def AR(C:Addr)(sp:Sp)(dvs:List V)(E:XK)(t:TA):TE:=λσ H Q=>t σ H λvs H1=>∀x dx,H1 x=none->H1 dx=none->dx≠x->
 sp (.ref x::(vs++dvs)) (upd (upd H1 dx (.own x)) x (.ins C dx [])) (λv H2=>v= .non/\Q (.ref x) H2) E
def fv(K:PySem.W.Frag)(fd:FuncData)(ps:List Str)(ds:List Value):Prop:=
 ∀ (s:Shared) (us:List Value),K.In s.heap->(us++ds).length=ps.length->BindsTo s fd ⟨us,[]⟩ (ps.zip (us++ds))
theorem fv.all{K:PySem.W.Frag}{fd:FuncData}{ps:List Str}(h:∀us:List Value,us.length=ps.length->bindArgs fd ⟨us,[]⟩=pure (ps.zip us)):fv K fd ps []:=λs us _ hl=>by rw[GC]at hl⊢;exact .of_eq (h us hl)
def kU(CX:CXT)(X:Cx)(E:XK):Prop:=∀ (pins:List (Addr×Obj)) (σ:St) (H:Hp) (s:Shared) (e:Value) (s':Shared),Inv X pins σ H s->CX X.stack H s E e s'->X.xe e s'
section
variable{X:Cx}{CX:CXT}{k:Nat}{f C:Addr}{fd:FuncData}{ps:List Str}{sp:Sp}{dvs:List V}{ds:List Value}{E:XK}{x m:Str}{p pos apos:Pos}{e o:Expr}{es:List Expr}{ta:TE}{t:TA}
theorem ny{pins:List (Addr×Obj)}{σ:St}{H:Hp}{s:Shared}{Q:VK}{us:List Value}{vs:List V}(F:fq X.prog X.w X.K X.mg X.base CX k f fd ps sp)(hr:Room k X.A)(hb:fv X.K fd ps ds)(hd:Vals dvs ds)(hx:kU CX X E)
  (I:Inv X pins σ H s) (r:Vals vs us) (h:sp (vs++dvs) H Q E):wpAny (model X.prog X.w) X.A (call (.ref f) us) (EP X pins σ Q) X.xe s:=by
 have r2:Vals (vs++dvs) (us++ds):=r.append hd;have hl:(us++ds).length=ps.length:=by rw[<-r2.length];exact F.len _ _ _ _ h
 refine HW (Gq (F.run X.A X.stack s H ⟨us,[]⟩ (us++ds) (vs++dvs) Q E hr I.env0 (hb s us I.kIn hl) r2 h) λr s' hq=> ?_);cases r with
 |error e=>exact hx pins σ H s e s' I hq
 |ok fl=>
  cases fl with
  |ret u=>exact I.after hq
  |next=>exact False.elim hq
  |brk=>exact False.elim hq
  |cont=>exact False.elim hq
theorem Am(F:fq X.prog X.w X.K X.mg X.base CX k f fd ps sp)(hr:Room k X.A)(hg:Gl X x)(hm:X.mg x=some (.ref f))(hk:keepIn X.K (.ref f)=true)(hb:fv X.K fd ps ds)(hd:Vals dvs ds)(hx:kU CX X E)
  (ha:PA X (e::es) t) (hdb:(x==("__debug__":Str))=false:=by decide) (he:starEach (e::es) X.env=(false,eval e X.env)::starEach es X.env:=by rfl) (hpl:(backTo pos (starEach es X.env)).any (·.1)=false:=by rfl):
  PE X (.Call (.Name x p) (e::es) [] pos) (wW sp dvs E t):=by
 intro pins s σ H Q I h;refine E3 (jy I hg hm ?_ hdb);refine GI (h₀:=X.base) I.ok.mod.kin hk (thn (ha pos pins s σ H _ I h) λus s1 ⟨vs,H1,I1,r,q⟩=>⟨I1.kIn,?_⟩) he hpl;exact ny F hr hb hd hx I1 r q
structure Mk(K:PySem.W.Frag)(C f:Addr):Prop where
 makes:makesIn K C=true
 init:findIn K (.ref C) "__init__"=some (some (.ref f))
 fn:isFn K (.ref f)=true
 kp:keepIn K (.ref C)=true
theorem xi{pins:List (Addr×Obj)}{σ:St}{H:Hp}{s:Shared}{Q:VK}{us:List Value}{vs:List V}(M:Mk X.K C f)(F:fq X.prog X.w X.K X.mg X.base CX k f fd ps sp)(hr:Room (k+1) X.A)(hb:fv X.K fd ps ds)(hd:Vals dvs ds)
  (hx:kU CX X E) (I:Inv X pins σ H s) (r:Vals vs us)
  (h:∀x dx,H x=none->H dx=none->dx≠x->sp (.ref x::(vs++dvs)) (upd (upd H dx (.own x)) x (.ins C dx [])) (λv H2=>v= .non/\Q (.ref x) H2) E):
  wpAny (model X.prog X.w) X.A (call (.ref C) us) (EP X pins σ Q) X.xe s:=by
 have hq:=h (s.heap.objs.size+1) s.heap.objs.size (I.hok.fresh (Gk _)) (I.hok.fresh (Dl _)) (DQ (D9 _));have I2:=Inv.made (C:=C) I;have r2:Vals (V.ref (s.heap.objs.size+1)::(vs++dvs)) (Value.ref (s.heap.objs.size+1)::(us++ds)):= .cons rfl (r.append hd);have hl:(Value.ref (s.heap.objs.size+1)::us++ds).length=ps.length:=by have e:=r2.length;rw[F.len _ _ _ _ hq]at e;exact e.symm
 refine HW (yj (f:=f) I.kIn M.makes M.init (GL.mp M.fn) (Gq (F.run _ X.stack _ _ ⟨Value.ref (s.heap.objs.size+1)::us,[]⟩ (Value.ref (s.heap.objs.size+1)::(us++ds)) _ _ E (hr.make C us [])
  (I2.env0.make C us []) (hb _ (Value.ref (s.heap.objs.size+1)::us) I2.kIn hl) r2 hq) λr s' hq'=> ?_))
 cases r with
 |error e=>exact hx pins σ _ _ e s' I2 hq'
 |ok fl=>
  cases fl with
  |ret u=>
   obtain⟨v,H',I3,rv,ev,q3⟩:=I2.after hq';subst ev;exact⟨rv,⟨V.ref (s.heap.objs.size+1),H',I3,rfl,q3⟩⟩
  |next=>exact False.elim hq'
  |brk=>exact False.elim hq'
  |cont=>exact False.elim hq'
theorem Aj(M:Mk X.K C f)(F:fq X.prog X.w X.K X.mg X.base CX k f fd ps sp)(hr:Room (k+1) X.A)(hg:Gl X x)(hm:X.mg x=some (.ref C))(hb:fv X.K fd ps ds)(hd:Vals dvs ds)(hx:kU CX X E)
  (ha:PA X (e::es) t) (hdb:(x==("__debug__":Str))=false:=by decide) (he:starEach (e::es) X.env=(false,eval e X.env)::starEach es X.env:=by rfl) (hpl:(backTo pos (starEach es X.env)).any (·.1)=false:=by rfl):
  PE X (.Call (.Name x p) (e::es) [] pos) (AR C sp dvs E t):=by
 intro pins s σ H Q I h;refine E3 (jy I hg hm ?_ hdb);refine GI (h₀:=X.base) I.ok.mod.kin M.kp (thn (ha pos pins s σ H _ I h) λus s1 ⟨vs,H1,I1,r,q⟩=>⟨I1.kIn,?_⟩) he hpl;exact xi M F hr hb hd hx I1 r q
end
section
variable{X:Cx}{CX:CXT}{k:Nat}{f C:Addr}{fd:FuncData}{ps ks:List Str}{sp:Sp}{E:XK}{x m:Str}{p pos apos kpos:Pos}{e o:Expr}{es:List Expr}{kws:List Keyword}{te ta:TE}{t tk:TA}{nm:Option Str}
variable{g:List Value->List Value->List Value}{gV:List V->List V->List V}
end
structure aB(N P:List Str)(sc:Scope):Prop where
 kind:sc.kind= .function
 co:sc.isCoroutine=false
 gen:sc.isGenerator=false
 nd:N.Nodup
 pre:N.take P.length=P
 par:∀x∈P,sc.names.lookup x=some .local\/sc.names.lookup x=some .cell
 nofree:∀y∈sc.names,y.2≠ .free
theorem mD{kindOf:Str->Option NameKind}{x:Str}:∀ {binds:List (Str×Value)} {m:Str->Option Value},(∀v,(x,v)∉binds)->bindL kindOf binds m x=m x
 | [],_,_=>rfl
 |(n,v)::r,m,h=>by
  unfold bindL;rw[mD λw hw=>h w (DC _ hw)];split
  .have:x≠n:=by rintro rfl;exact h v DE
   simp[this]
  .rfl
theorem mF{kindOf:Str->Option NameKind}{x:Str}:∀ {binds:List (Str×Value)} {m:Str->Option Value},(∀v,(x,v)∉binds)->bindC kindOf binds m x=m x
 | [],_,_=>rfl
 |(n,v)::r,m,h=>by
  unfold bindC;rw[mF λw hw=>h w (DC _ hw)];split
  .rfl
  .have:x≠n:=by rintro rfl;exact h v DE
   simp[this]
theorem mE{kindOf:Str->Option NameKind}{x:Str}{v:Value}:∀ {P:List Str} {vs:List Value} {i:Nat} {m:Str->Option Value},P.Nodup->P[i]?=some x->vs[i]?=some v->kindOf x=some .local->
  bindL kindOf (P.zip vs) m x=some v
 | [],_,_,_,_,h,_,_=>by simp at h
 |_::_,[],_,_,_,_,h,_=>by simp at h
 |p::P,w::vs,0,m,nd,h1,h2,hk=>by simp at h1 h2;subst h1;subst h2;show bindL kindOf ((p,w)::P.zip vs) m p=_;unfold bindL;rw[mD λv hv=>(Ft.mp nd).1 (Io hv).1,Dp hk];simp
 |p::P,w::vs,i+1,m,nd,h1,h2,hk=>by show bindL kindOf ((p,w)::P.zip vs) m x=_;unfold bindL;exact mE (i:=i) (Ft.mp nd).2 (by simpa using h1) (by simpa using h2) hk
theorem mG{kindOf:Str->Option NameKind}{x:Str}{v:Value}:∀ {P:List Str} {vs:List Value} {i:Nat} {m:Str->Option Value},P.Nodup->P[i]?=some x->vs[i]?=some v->kindOf x≠some .local->
  bindC kindOf (P.zip vs) m x=some v
 | [],_,_,_,_,h,_,_=>by simp at h
 |_::_,[],_,_,_,_,h,_=>by simp at h
 |p::P,w::vs,0,m,nd,h1,h2,hk=>by simp at h1 h2;subst h1;subst h2;show bindC kindOf ((p,w)::P.zip vs) m p=_;unfold bindC;rw[mF λv hv=>(Ft.mp nd).1 (Io hv).1,Dt hk];simp
 |p::P,w::vs,i+1,m,nd,h1,h2,hk=>by show bindC kindOf ((p,w)::P.zip vs) m x=_;unfold bindC;exact mG (i:=i) (Ft.mp nd).2 (by simpa using h1) (by simpa using h2) hk
def start(N:List Str)(vs:List V):St:=vs.map some++List.replicate (N.length-vs.length) none
def iP(CX:CXT)(P:Program)(w:World)(K:PySem.W.Frag)(mg:Str->Option Value)(base:Heap)(N:List Str)(qual:Str)(scope:Scope)(f:Addr)(cd:Value)(A:Around)(outer:List Env)(s:Shared)(H:Hp)(E:XK):Cx where
 prog:=P
 w:=w
 K:=K
 mg:=mg
 base:=base
 A:=A.deeper (envOfC qual scope s.heap.objs.size f cd)
 N:=N
 s₀:=s
 H₀:=H
 env:=envOfC qual scope s.heap.objs.size f cd
 outer:=outer
 stack:=envOfC qual scope s.heap.objs.size f cd::outer
 ex:=[]
 calm:=true
 fn:=λ_=>true
 pn:=[]
 xe:=λe s'=>wpAny (model P w) (A.deeper (envOfC qual scope s.heap.objs.size f cd)) (leaving (envOfC qual scope s.heap.objs.size f cd) e) (λ_ s''=>CX outer H s E e s'') (λe' s''=>CX outer H s E e' s'') s'
theorem qc{sc:Scope}(h:sc.names.lookup x=some .cell):∃c,(cellsFrom n sc.names []).lookup x=some c:=by have q:=PySem.W.cellsFrom_some sc.names n [] (.inl h);exact Option.isSome_iff_exists.mp q
theorem vO{CX:CXT}{P:Program}{w:World}{K:PySem.W.Frag}{mg:Str->Option Value}{base:Heap}{N ps:List Str}{qual:Str}{scope:Scope}{f:Addr}{cd:Value}{A:Around}{outer:List Env}{s s1:Shared}{H:Hp}{E:XK}{us:List Value}{vs:List V}
  (S:aB N ps scope) (hd:A.handled=none) (e0:lL P w K mg base A outer s H) (hl:vs.length=ps.length) (r:Vals vs us)
  (x:InCallC s s.heap.objs.size (bindL (envOfC qual scope s.heap.objs.size f cd).kindOf (ps.zip us) λ_=>none) (cellsFrom (s.heap.objs.size+1) scope.names []) (bindC (envOfC qual scope s.heap.objs.size f cd).kindOf (ps.zip us) λ_=>none) s1):
  Inv (iP CX P w K mg base N qual scope f cd A outer s H E) [] (start N vs) H s1:=by
 have hpl:ps.length<=N.length:=by have:=Es List.length S.pre;rw[Em]at this;lia
 obtain⟨h1,tk,rfl,hk⟩:=x.done;have noA:∀b:Addr,b∉ (iP CX P w K mg base N qual scope f cd A outer s H E).ex:=λb z=>absurd (show b∈([]:List Addr)from z) (by simp);refine⟨⟨e0.mod,S.kind,rfl,rfl,Dl _,λy z c h1 h2=> ?_,λy hy=> ?_,λy c _ h=> ?_,λ_=>hd,Hg e0.frames, .inr ⟨rfl,rfl⟩,λb z=>absurd z (noA b),e0.bs,e0.bsz,λb _ _=>noA b,λb z=>absurd z (noA b),e0.funs,e0.frf⟩,
  rfl,e0.bare,Un.kept hk,⟨_,x.toInCall.ns,λi y v h1 h2 h3=> ?_⟩,λy c h=>⟨_,x.cell y c h⟩,e0.hok.fresh (Dl _),λy c h=> ?_,λp hp=>absurd (show p∈([]:List (Addr×Obj))from hp) (by simp),e0.hok.kept hk,?_⟩
 .exact name_of_addr x.apart (Ed h1) (Ed h2)
 .have hy:scope.names.lookup y=some .cell\/scope.names.lookup y=some .free:=hy;rcases hy with hy|hy
  .exact qc hy
  .exact absurd rfl (S.nofree _ (Ed hy))
 .exact F8 (x.above y c (Ed h))
 .have hi:i<vs.length:=by
   unfold start at h2;by_cases hi:i<vs.length
   .exact hi
   .rw[Ek (by simpa using hi)]at h2;rw[Ik]at h2;split at h2<;>cases h2
  have ha:vs[i]?=some v:=by
   unfold start at h2;rw[Eg (by simpa using hi),Dm]at h2;cases e:vs[i]? with
   |none=>rw[e]at h2;cases h2
   |some a=>rw[e]at h2;cases h2;rfl
  obtain⟨u,hu,rv⟩:=r.get ha;have hp:ps[i]?=some y:=by rw[<-S.pre,Ga (by lia)];exact h1
  have ndP:ps.Nodup:=by rw[<-S.pre];exact S.nd.sublist (List.take_sublist _ _)
  refine⟨u,rv,?_⟩;rcases S.par y (Dv hp)with k|k
  .exact .inl ⟨k,mE ndP hp hu k⟩
  .obtain⟨c,e⟩:=qc (n:=s.heap.objs.size+1) k;refine .inr ⟨.inl k,c,e,?_⟩;have q:=x.cell y c e;rw[mG ndP hp hu (by show scope.names.lookup y≠_;rw[k];decide)]at q;exact q
 .exact e0.hok.fresh (F8 (x.above y c (Ed h)))
 .unfold start;show _=N.length;rw[DK,Di,GY];lia
theorem A5{CX:CXT}{P:Program}{w:World}{K:PySem.W.Frag}{mg:Str->Option Value}{base:Heap}{k:Nat}{f:Addr}{name qual:Str}{params:Arguments}{body:List Stmt}{scope:Scope}{dV kV doc pm cdv ct oc:Value}{an od:Option Addr}
  {osl:Array (Option Value)} {N ps:List Str} {sp:Sp} (lk:K.lookup f=some ⟨oc,od, .func (fnOf name qual params body scope dV kV doc pm an cdv ct),osl⟩) (hcd:codeIn K cdv qual=true) (S:aB N ps scope)
  (len:∀vs H Q E,sp vs H Q E->vs.length=ps.length)
  (hbody:∀ (A:Around) (outer:List Env) (s:Shared) (H:Hp) (vs:List V) (Q:VK) (E:XK),Room k (A.deeper (envOfC qual scope s.heap.objs.size f cdv))->sp vs H Q E->
   ∃t,PSs (iP CX P w K mg base N qual scope f cdv A outer s H E) body t/\t {nx:=λ_ H'=>Q .non H',rt:=Q} (start N vs) H):
  fq P w K mg base CX (k+1) f (fnOf name qual params body scope dV kV doc pm an cdv ct) ps sp:=by
 refine⟨len,λA outer s H args us vs Q E hr e0 hb r hsp=> ?_⟩;have hl:=len _ _ _ _ hsp;have KX:K.In s.heap:=e0.mod.kin.keeps λb o e=>(e0.bs b o e).1;have lim:s.heap.NoLimit:=e0.mod.nolimit.keeps λb o e=>(e0.bs b o e).1;have hkind:∀y∈ps.zip us,scope.names.lookup y.1=some .local\/(scope.names.lookup y.1=some .cell/\((cellsFrom (s.heap.objs.size+1) scope.names []).lookup y.1).isSome=true):=λ⟨n,v⟩ hy=>by
  rcases S.par n (Io hy).1 with q|q
  .exact .inl q
  .exact .inr ⟨q,PySem.W.cellsFrom_some _ _ _ (.inl q)⟩
 refine codeAny_call_function hr.depth (KX _ _ lk) rfl S.co S.gen rfl (PySem.W.codeRec_of KX hcd) (hb _ _ _ _ ?_);refine wpAny_newFunctionEnv_cells S.kind hkind λenv he s1 x=> ?_;subst he;refine⟨lim.keeps x.toInCall.keep,codeAny_func ?_⟩;obtain⟨t,ht,hq⟩:=hbody A outer s H vs Q E (hr.deeper _) hsp;have I:Inv (iP CX P w K mg base N qual scope f cdv A outer s H E) [] (start N vs) H s1:=vO S hr.hd e0 hl r x;refine Fl (ht [] s1 (start N vs) H _ I hq) (λfl s' hs=> ?_) λe s' hs=>hs;have fin:∀ {σ':St} {H':Hp} {v:V} {u:Value},Inv (iP CX P w K mg base N qual scope f cdv A outer s H E) [] σ' H' s'->aW v u->Q v H'->CE outer P w H s Q u s':=
  λ{σ' H' v u} J rv q=>⟨v,H',J.os,J.bare,J.base,J.hok,rv,q⟩
 cases fl with
 |ret u=>
  obtain⟨v,σ',H',J,rv,q⟩:=hs;exact fin J rv q
 |next=>
  obtain⟨σ',H',J,q⟩:=hs;exact fin (v:=V.non) (u:=Value.none) J rfl q
 |brk=>
  obtain⟨_,_,_,q⟩:=hs;exact False.elim q
 |cont=>
  obtain⟨_,_,_,q⟩:=hs;exact False.elim q
end L2
namespace L2
open PySem PySem.Spec PyProof.Rows
section
variable{X:Cx}{x:Str}{p pos:Pos}{e:Expr}{es:List Expr}{t:TA}{id T:String}{r:List V->Hp->VK->Prop}
def tCB(r:List V->Hp->VK->Prop)(t:TA):TE:=λσ H Q=>t σ H λvs H1=>r vs H1 Q
theorem bW(hc:bX X (.builtin id) r)(hg:Gl X x)(hm:X.mg x=none)(hv:bootBuiltins x=some (.builtin id))(ha:PA X (e::es) t)(hn:x≠ "__name__":=by decide)(hdb:(x==("__debug__":Str))=false:=by decide)
  (he:starEach (e::es) X.env=(false,eval e X.env)::starEach es X.env:=by rfl) (hpl:(backTo pos (starEach es X.env)).any (·.1)=false:=by rfl):PE X (.Call (.Name x p) (e::es) [] pos) (tCB r t):=by
 intro pins s σ H Q I h;refine E3 (dz I hg hm hv ?_ hn hdb);exact PyProof.Rows.callWith_builtin1 (thn (ha pos pins s σ H _ I h) λus s1 ⟨vs,H1,I1,r1,q1⟩=>hc pins s1 σ H1 vs us Q I1 r1 q1) he hpl
theorem bM(hc:bX X (.type T) r)(hg:Gl X x)(hm:X.mg x=none)(hv:bootBuiltins x=some (.type T))(ha:PA X (e::es) t)(hn:x≠ "__name__":=by decide)(hdb:(x==("__debug__":Str))=false:=by decide)
  (he:starEach (e::es) X.env=(false,eval e X.env)::starEach es X.env:=by rfl) (hpl:(backTo pos (starEach es X.env)).any (·.1)=false:=by rfl):PE X (.Call (.Name x p) (e::es) [] pos) (tCB r t):=by
 intro pins s σ H Q I h;refine E3 (dz I hg hm hv ?_ hn hdb);exact E1 (thn (ha pos pins s σ H _ I h) λus s1 ⟨vs,H1,I1,r1,q1⟩=>hc pins s1 σ H1 vs us Q I1 r1 q1) he hpl
end
end L2
namespace HT
open PySem PyProof.Rows
section
open PySem.SeqAt
open PySem.AutoSeq1 (wpAny_loadPart')
open PySem.MeetsSeq PySem.MeetsSeq2 PySem.MeetsSeq3
end
section
variable{prog:Program}{w:World}{A:Around}{E:Value->Shared->Prop}{s:Shared}
def sIx(n d:Nat):Option Int->Nat
 |none=>d
 |some v=>if v<0 then(v+(n:Int)).toNat else min v.toNat n
theorem oV(n d:Nat):sIx n d none=d:=rfl
theorem tR(n d k:Nat):sIx n d (some (k:Int))=min k n:=by show(if(k:Int)<0 then((k:Int)+(n:Int)).toNat else min (k:Int).toNat n)=min k n;rw[Dt (by lia),Dk]
end
end HT
namespace L2
open PySem PySem.Spec PyProof.Rows
abbrev TO:=St->Hp->(Option Int->Hp->Prop)->Prop
def PO(X:Cx)(e:Option Expr)(t:TO):Prop:=
 ∀ (pins:List (Addr×Obj)) (s:Shared) (σ:St) (H:Hp) (Q:Option Int->Hp->Prop),Inv X pins σ H s->t σ H Q->
  wpAny (model X.prog X.w) X.A (evalPart e X.env) (λu s'=>∃o H',Inv X pins σ H' s'/\IsPart u o/\Q o H') X.xe s
def zJ:TO:=λ_ H Q=>Q none H
def Cg(t:TE):TO:=λσ H Q=>t σ H λx H1=>∃i,x= .int i/\Q (some i) H1
theorem dY{ns:List Int}:∀ {us:List Value},Vals (ns.map V.int) us->IntsAre us ns:=by
 induction ns with
 |nil=>intro us r;rw[Ic]at r;cases r;exact .nil
 |cons n ns ih=>
  intro us r;rw[Ej]at r;cases r with
  |cons r1 r2=>
   obtain⟨t,e⟩:=r1;subst e;exact .cons n t (ih r2)
section
variable{X:Cx}{e:Expr}{te:TE}{lo hi:Option Expr}{tl th:TO}{pos p2:Pos}
theorem cW:PO X none zJ:=by intro pins s σ H Q I h;rw[evalPart_none];exact DA ⟨none,H,I, .none,h⟩
theorem bV(h:PE X e te):PO X (some e) (Cg te):=by intro pins s σ H Q I hw;rw[evalPart_some];refine thn (h pins s σ H _ I hw) λu s1 ⟨x,H1,I1,r1,q1⟩=> ?_;obtain⟨i,rfl,q⟩:=q1;obtain⟨t,rfl⟩:=r1;exact⟨some i,H1,I1, .int i t,q⟩
def SlR(X:Cx)(r:V->Option Int->Option Int->Hp->VK->Prop):Prop:=
 ∀ (pins:List (Addr×Obj)) (s:Shared) (σ:St) (H:Hp) (x:V) (v vl vu:Value) (lo hi:Option Int) (sl:Addr) (Q:VK),Inv X pins σ H s->aW x v->s.heap.IsSliceOf sl vl vu .none->IsPart vl lo->IsPart vu hi->r x lo hi H Q->
  ∃T id,typeLookup (.type T) "__getitem__"=pure (some (.builtin id))/\s.TypeIs v T/\wpAny (model X.prog X.w) X.A (getItem v (.ref sl)) (EP X pins σ Q) X.xe s
theorem SlR.or(h:SlR X r)(h':SlR X r'):SlR X (λx lo hi H Q=>r x lo hi H Q\/r' x lo hi H Q):=by
 intro pins s σ H x v vl vu lo hi sl Q I rx hs pl pu q;rcases q with q|q
 .exact h pins s σ H x v vl vu lo hi sl Q I rx hs pl pu q
 .exact h' pins s σ H x v vl vu lo hi sl Q I rx hs pl pu q
def tSl(r:V->Option Int->Option Int->Hp->VK->Prop)(te:TE)(tl th:TO):TE:=λσ H Q=>te σ H λx H1=>tl σ H1 λl H2=>th σ H2 λu H3=>r x l u H3 Q
theorem dR(hr:SlR X r)(he:PE X e te)(hl:PO X lo tl)(hu:PO X hi th):PE X (.Subscript e (.Slice lo hi none p2) pos) (tSl r te tl th):=by intro pins s σ H Q I h;refine Subscript_ (thn (he pins s σ H _ I h) λv s1 ⟨x,H1,I1,r1,q1⟩=> ?_);refine wpAny_Slice (thn (hl pins s1 σ H1 _ I1 q1) λvl s2 ⟨l,H2,I2,pl,q2⟩=>thn (hu pins s2 σ H2 _ I2 q2) λvu s3 ⟨u,H3,I3,pu,q3⟩=> ?_);rw[evalPart_none];refine DA ?_;have I4:Inv X pins σ H3 {s3 with heap:=s3.heap.push {cls:= .type "slice",data:= .fields #[vl,vu, .none]}}:=I3.kept (t':=s3.toks) λb ob q=>Dx _ q;obtain⟨T,id,hT,ht,hg⟩:=hr pins {s3 with heap:=s3.heap.push {cls:= .type "slice",data:= .fields #[vl,vu, .none]}} σ H3 x v vl vu l u s3.heap.objs.size Q I4 r1 (Heap.IsSliceOf.new ..) pl pu q3;show wpAny (model X.prog X.w) X.A (subscriptTail e (.Slice lo hi none p2) v (.ref s3.heap.objs.size)) (EP X pins σ Q) X.xe {s3 with heap:=s3.heap.push {cls:= .type "slice",data:= .fields #[vl,vu, .none]}};exact tail_any (ops:=[.ref s3.heap.objs.size,v]) ht hT hg (by with_unfolding_all rfl)
def lG(xs:List V)(lo hi:Option Int):List V:=(xs.drop (HT.sIx xs.length 0 lo)).take (HT.sIx xs.length xs.length hi-HT.sIx xs.length 0 lo)
theorem qa(xs:List V)(lo hi:Option Int):(lG xs lo hi).length<=xs.length:=by unfold lG;rw[Em,Ff];exact Du (Nat.min_le_right _ _) (Nat.sub_le _ _)
end
end L2
namespace L2
open PySem PySem.Spec PyProof.Rows
def ixN(n:Nat)(i:Int):Option Nat:=if 0<=i then(if i<n then some i.toNat else none)else if-(n:Int)<=i then some (i+n).toNat else none
def atI{α:Type}(xs:List α)(i:Int):Option α:=(ixN xs.length i).bind λj=>xs[j]?
theorem uf(h:ixN n i=some j):seqIndex? i n=some j/\j<n/\ -(n:Int)<=i/\i<n:=by
 unfold ixN at h;by_cases h0:0<=i
 .rw[Dp h0]at h;by_cases h1:i<n
  .rw[Dp h1]at h;have e:i.toNat=j:=DS h;exact⟨by rw[seqIndex_of h0 h1,e],by lia,by lia,h1⟩
  .rw[Dt h1]at h;cases h
 .rw[Dt h0]at h;by_cases h1: -(n:Int)<=i
  .rw[Dp h1]at h;have e:(i+n).toNat=j:=DS h;exact⟨by rw[seqIndex_neg (by lia) h1,e],by lia,h1,by lia⟩
  .rw[Dt h1]at h;cases h
theorem uq{xs:List α}(h:atI xs i=some v):∃j,seqIndex? i xs.length=some j/\xs[j]?=some v/\j<xs.length/\ -(xs.length:Int)<=i/\i<xs.length:=by
 unfold atI at h;cases e:ixN xs.length i with
 |none=>rw[e]at h;cases h
 |some j=>
  rw[e]at h;obtain⟨h1,h2,h3,h4⟩:=uf e;exact⟨j,h1,h,h2,h3,h4⟩
theorem aK{α:Type}{xs:List α}{j:Nat}{v:α}(h:xs[j]?=some v):atI xs (j:Int)=some v:=by
 have hj:j<xs.length:=(DB.mp h).1;have e:ixN xs.length (j:Int)=some j:=by unfold ixN;rw[Dp (by lia),Dp (by lia)];simp
 unfold atI;rw[e];exact h
def ow(b:Expr):Prop:=∀o i,subscripted b false o i=operate [o,i] (getItem o i)
def IxR(X:Cx)(r:R2):Prop:=
 ∀ (value slice:Expr) (pins:List (Addr×Obj)) (s:Shared) (σ:St) (H:Hp) (x y:V) (v u:Value) (Q:VK),Inv X pins σ H s->aW x v->aW y u->r x y H Q->
  subscripted slice false v u=operate [v,u] (getItem v u)->wpAny (model X.prog X.w) X.A (subscriptTail value slice v u) (EP X pins σ Q) X.xe s
def MtR(X:Cx)(id:String)(r:V->List V->Hp->VK->Prop):Prop:=
 ∀ (pins:List (Addr×Obj)) (s:Shared) (σ:St) (H:Hp) (x:V) (xs:List V) (v:Value) (us:List Value) (Q:VK),Inv X pins σ H s->aW x v->Vals xs us->r x xs H Q->
  wpAny (model X.prog X.w) X.A (call (.builtin id) (v::us)) (EP X pins σ Q) X.xe s
section
variable{X:Cx}{a b:Expr}{ta tb:TE}{pos:Pos}
theorem IxR.or(h:IxR X r)(h':IxR X r'):IxR X (λx y H Q=>r x y H Q\/r' x y H Q):=by
 intro value slice pins s σ H x y v u Q I rx ry q hs;rcases q with q|q
 .exact h value slice pins s σ H x y v u Q I rx ry q hs
 .exact h' value slice pins s σ H x y v u Q I rx ry q hs
theorem MtR.or{id:String}{r r':V->List V->Hp->VK->Prop}(h:MtR X id r)(h':MtR X id r'):MtR X id (λx xs H Q=>r x xs H Q\/r' x xs H Q):=by
 intro pins s σ H x xs v us Q I rx rs q;rcases q with q|q
 .exact h pins s σ H x xs v us Q I rx rs q
 .exact h' pins s σ H x xs v us Q I rx rs q
theorem xB(hr:IxR X r)(ha:PE X a ta)(hb:PE X b tb)(hs:ow b):PE X (.Subscript a b pos) (tOp r ta tb):=by intro pins s σ H Q I h;exact Subscript_ (B6 ha hb I h λv u s2 x y H2 I2 rx ry q=>hr a b pins s2 σ H2 x y v u Q I2 rx ry q (hs _ _))
inductive RdX(K:PySem.W.Frag)(x y:V)(H:Hp)(Q:VK):Prop
 |mk (p:Addr) (xs:List V) (i:Int) (v:V) (e1:x= .ref p) (e2:y= .int i) (s:SqL K H p xs) (a:atI xs i=some v) (q:Q v H):RdX K x y H Q
def z6(K:PySem.W.Frag):R2:=λx y H Q=>RdX K x y H Q
def Bq(K:PySem.W.Frag):R2:=λx y H Q=>∃p xs i v,x= .ref p/\y= .int i/\SqT K H p xs/\atI xs i=some v/\Q v H
theorem AH:IxR X (z6 X.K):=by
 intro value slice pins s σ H x y v u Q I rx ry h hs;obtain⟨p,xs,i,z,rfl,rfl,hq,he,q⟩:=h;cases rx;obtain⟨t,rfl⟩:=ry;obtain⟨its,r,pl,hz⟩:=I.list hq;obtain⟨j,h1,h2,h3,h4,h5⟩:=uq he;obtain⟨w,ew,rw'⟩:=r.get h2;have hl:=r.length;have hn:=nV;have fin:EP X pins σ Q w s:=⟨z,H,I,rw',q⟩;by_cases h0:0<=i
 .have hj:i.toNat=j:=by rw[seqIndex_of h0 h5]at h1;exact DS h1
  exact item_listR pl.isList h0 (by lia) (by rw[hj];simpa using ew) fin hs
 .have hj:(i+(its.toArray.size:Int)).toNat=j:=by rw[seqIndex_neg (by lia) h4]at h1;rw[DI,<-hl];exact DS h1
  exact subscriptTail_builtinR (x:=w) pl.isList.typeIs HP.lookup
   (wpAny_getItem_list_neg (Q:=λr s'=>r=w/\EP X pins σ Q r s') pl.isList (by lia) (by rw[DI]<;>lia) (by lia) (by rw[hj];simpa using ew) ⟨rfl,fin⟩) hs
theorem BW:IxR X (Bq X.K):=by
 intro value slice pins s σ H x y v u Q I rx ry h hs;obtain⟨p,xs,i,z,rfl,rfl,hq,he,q⟩:=h;cases rx;obtain⟨t,rfl⟩:=ry;obtain⟨its,r,pl,hz⟩:=I.tuple hq;obtain⟨j,h1,h2,h3,h4,h5⟩:=uq he;obtain⟨w,ew,rw'⟩:=r.get h2;have hl:=r.length;have hn:=nV;have fin:EP X pins σ Q w s:=⟨z,H,I,rw',q⟩;exact subscriptTail_builtinR (x:=w) pl.typeIs slot_tuple_getitem.lookup
  (getItem_tuple (j:=j) (Q:=λr s'=>r=w/\EP X pins σ Q r s') pl (by lia) (by lia) (by rw[DI,<-hl];exact h1) (by simpa using ew) ⟨rfl,fin⟩) hs
theorem rQ(its:List Value)(n j:Nat)(u:Value):Obj.mapSeq (·.setIfInBounds j u) {cls:= .type "list",data:= .seq its.toArray n}={cls:= .type "list",data:= .seq (its.set j u).toArray n}:=by simp[Obj.mapSeq]
theorem Inv.lst{pins:List (Addr×Obj)}{σ:St}{H:Hp}{s:Shared}{p:Addr}{xs:List V}(I:Inv X pins σ H s)(h:H p=some (.lst xs)):
  ∃ (its:List Value) (n:Nat),Vals xs its/\s.heap.get? p=some {cls:= .type "list",data:= .seq its.toArray n}/\xs.length<=sizeLine:=by
 obtain⟨z,its,n,r,e⟩:=I.hok p _ h;exact⟨its,n,r,e,z⟩
theorem Inv.lstUpd{pins:List (Addr×Obj)}{σ:St}{H:Hp}{s:Shared}{p:Addr}{xs ys:List V}{its its':List Value}{n n':Nat}{f:Obj->Obj}(I:Inv X pins σ H s)(h:H p=some (.lst xs))
  (ho:s.heap.get? p=some {cls:= .type "list",data:= .seq its.toArray n}) (hf:f {cls:= .type "list",data:= .seq its.toArray n}={cls:= .type "list",data:= .seq its'.toArray n'}) (r:Vals ys its') (hz:ys.length<=sizeLine) (t:Nat):
  Inv X pins σ (upd H p (.lst ys)) {s with heap:=s.heap.update p f,toks:=t}:=by
 have e:(s.heap.update p f).get? p=some {cls:= .type "list",data:= .seq its'.toArray n'}:=by rw[Heap.get?_update_self f ho (by rw[hf]<;>rfl),hf]
 refine I.write (x:=p) (e:=p) (by rw[h];trivial) (.inl rfl) (λb u hb q=>(Ey _ _ (E8 hb)).trans q) ⟨_,e⟩ ?_;exact⟨hz,its',n',r,e⟩
def Cz:V->V->V->Hp->(Hp->Prop)->Prop:=λo i v H Q=>∃p xs k j,o= .ref p/\i= .int k/\H p=some (.lst xs)/\ixN xs.length k=some j/\Q (upd H p (.lst (xs.set j v)))
theorem jR:CU X Cz:=by
 intro pins s σ H o i v ov iv u Q I ro ri rv h;obtain⟨p,xs,k,j,rfl,rfl,hp,hj,q⟩:=h;cases ro;obtain⟨t,rfl⟩:=ri;obtain⟨its,n,r,ho,hz⟩:=I.lst hp;obtain⟨h1,h2,h3,h4⟩:=uf hj;have hl:=r.length;have hn:=nV;have I':Inv X pins σ (upd H p (.lst (xs.set j v))) {s with heap:=s.heap.update p (Obj.mapSeq (·.setIfInBounds j u))}:=
  I.lstUpd hp ho (rQ its n j u) (r.set rv j) (by rw[Ip];exact hz) s.toks
 by_cases h0:0<=k
 .have hk:k.toNat=j:=by rw[seqIndex_of h0 h4]at h1;exact DS h1
  exact PySem.W.ki_setAt ho h0 (by lia) (by rw[DI,<-hl];exact h4) (by rw[hk];exact⟨_,I',q⟩)
 .have hk:(k+(its.toArray.size:Int)).toNat=j:=by rw[seqIndex_neg (by lia) h3]at h1;rw[DI,<-hl];exact DS h1
  exact PySem.W.ki_setBack ho (by lia) (by rw[DI,<-hl];exact h3) (by lia) (by rw[hk];exact⟨_,I',q⟩)
theorem nu(lo hi:Option Int)(n:Nat):(sliceBounds lo hi none n).1=((HT.sIx n 0 lo:Nat):Int)/\(sliceBounds lo hi none n).2.1=((HT.sIx n n hi:Nat):Int)/\(sliceBounds lo hi none n).2.2=1:=by
 refine⟨?_,?_,rfl⟩
 .cases lo with
  |none=>simp[sliceBounds,HT.sIx]
  |some i=>
   simp only[sliceBounds,HT.sIx,Option.getD_none,show(1:Int)>0 by decide,Iv];by_cases h:i<0
   .simp only[h,Iv]<;>lia
   .simp only[h,Gm]<;>lia
 .cases hi with
  |none=>simp[sliceBounds,HT.sIx]
  |some i=>
   simp only[sliceBounds,HT.sIx,Option.getD_none,show(1:Int)>0 by decide,Iv];by_cases h:i<0
   .simp only[h,Iv]<;>lia
   .simp only[h,Gm]<;>lia
theorem k9(its:List Value)(lo hi:Option Int):slicePick its.toArray lo hi none=((its.drop (HT.sIx its.length 0 lo)).take (HT.sIx its.length its.length hi-HT.sIx its.length 0 lo)).toArray:=by obtain⟨h1,h2,h3⟩:=nu lo hi its.toArray.size;unfold slicePick;rw[h1,h2,h3];simp only[sliceRange_one,pick_run,DI]<;>rfl
def Cy(K:PySem.W.Frag):V->Option Int->Option Int->Hp->VK->Prop:=λx lo hi H Q=>∃a xs,x= .ref a/\SqL K H a xs/\∀p,H p=none->Q (.ref p) (upd H p (.lst (lG xs lo hi)))
theorem zO:SlR X (Cy X.K):=by intro pins s σ H x v vl vu lo hi sl Q I rx hs pl pu h;obtain⟨a,xs,rfl,hx,q⟩:=h;cases rx;obtain⟨its,r,ht,hz⟩:=I.list hx;have hlen:=r.length;refine⟨"list",_,HP.lookup,ht.isList.typeIs,?_⟩;refine wpAny_getItem_list_slice ht.isList hs pl pu .none (by simp) ?_ (by rw[DI]<;>lia);rw[k9,<-hlen];refine⟨.ref s.heap.objs.size,_,I.laid (t':=s.toks) (o:= .lst (lG xs lo hi)) (λb ob q=>Dx _ q) (Dl _) ?_,rfl,q _ (I.hok.fresh (Dl _))⟩;exact⟨Du (qa xs lo hi) hz,_,0,(r.drop (HT.sIx xs.length 0 lo)).take (HT.sIx xs.length xs.length hi-HT.sIx xs.length 0 lo),DP _ rfl⟩
def hV:V->Bool
 | .non=>true
 | .bl _=>true
 | .int _=>true
 | .str _=>true
 |_=>false
def eqV:V->V->Bool
 | .non, .non=>true
 | .bl a, .bl b=>a==b
 | .bl a, .int b=>(if a then 1 else 0)==b
 | .int a, .bl b=>a==(if b then 1 else 0)
 | .int a, .int b=>a==b
 | .str a, .str b=>a==b
 |_,_=>false
theorem B1(ry:aW y u)(rx:aW x v)(fy:hV y=true)(fx:hV x=true):SeqAt.EqAt A s u v (eqV y x):=by
 cases y with
 |non=>
  cases ry;cases x with
  |non=>cases rx;exact SeqAt.EqAt.same _
  |bl b=>cases rx;exact SeqAt.EqAt.none_bool b
  |int b=>obtain⟨t,rfl⟩:=rx;exact SeqAt.EqAt.none_int b t
  |str b=>obtain⟨t,rfl⟩:=rx;exact SeqAt.EqAt.none_str b t
  |_=>exact absurd (show false=true from fx) Dr
 |bl a=>
  cases ry;cases x with
  |non=>cases rx;exact SeqAt.EqAt.bool_none a
  |bl b=>cases rx;exact SeqAt.EqAt.bool_bool a b
  |int b=>obtain⟨t,rfl⟩:=rx;exact SeqAt.EqAt.bool_int a b t
  |str b=>obtain⟨t,rfl⟩:=rx;exact SeqAt.EqAt.bool_str a b t
  |_=>exact absurd (show false=true from fx) Dr
 |int a=>
  obtain⟨t',rfl⟩:=ry;cases x with
  |non=>cases rx;exact SeqAt.EqAt.int_none a t'
  |bl b=>cases rx;exact SeqAt.EqAt.int_bool a t' b
  |int b=>obtain⟨t,rfl⟩:=rx;exact SeqAt.EqAt.int_int a t' b t
  |str b=>obtain⟨t,rfl⟩:=rx;exact SeqAt.EqAt.int_str a t' b t
  |_=>exact absurd (show false=true from fx) Dr
 |str a=>
  obtain⟨t',rfl⟩:=ry;cases x with
  |non=>cases rx;exact SeqAt.EqAt.str_none a t'
  |bl b=>cases rx;exact SeqAt.EqAt.str_bool a t' b
  |int b=>obtain⟨t,rfl⟩:=rx;exact SeqAt.EqAt.str_int a t' b t
  |str b=>obtain⟨t,rfl⟩:=rx;exact SeqAt.EqAt.str_str a t' b t
  |_=>exact absurd (show false=true from fx) Dr
 |_=>exact absurd (show false=true from fy) Dr
def eqU(x:V)(u:Value):Bool:=match u with
 | .none=>eqV .non x
 | .bool b=>eqV (.bl b) x
 | .int i _=>eqV (.int i) x
 | .str z _=>eqV (.str z) x
 |_=>false
theorem yV(r:aW y u)(f:hV y=true):eqU x u=eqV y x:=by
 cases y with
 |non=>cases r;rfl
 |bl b=>cases r;rfl
 |int i=>obtain⟨t,rfl⟩:=r;rfl
 |str z=>obtain⟨t,rfl⟩:=r;rfl
 |_=>exact absurd (show false=true from f) Dr
theorem oq:∀ {xs:List V} {us:List Value},Vals xs us->xs.all hV=true->us.any (eqU x)=xs.any λy=>eqV y x
 |_,_, .nil,_=>rfl
 |y::xs,u::us, .cons r t,f=>by rw[Iw,Ea]at f;rw[Gz,Gz,yV r f.1,oq t f.2]
theorem km(rx:aW x v)(fx:hV x=true):∀ {xs:List V} {us:List Value},Vals xs us->xs.all hV=true->∀u∈us,SeqAt.EqAt A s u v (eqU x u)
 |_,_, .nil,_=>λu hu=>by cases hu
 |y::xs,u::us, .cons r t,f=>λu' hu=>by
  rw[Iw,Ea]at f;rcases Dz.mp hu with rfl|hu
  .rw[yV r f.1];exact B1 r rx f.1 fx
  .exact km rx fx t f.2 u' hu
def inV(x:V)(xs:List V):Bool:=xs.any λy=>eqV y x
def rIn(K:PySem.W.Frag)(neg:Bool):R2:=λx y H Q=>∃p xs,y= .ref p/\(SqL K H p xs\/SqT K H p xs)/\hV x=true/\xs.all hV=true/\Q (.bl (if neg then !inV x xs else inV x xs)) H
theorem ve:OpR X (compareOp .In) (rIn X.K false):=by
 intro pins s σ H x y v u Q I rx ry h;obtain⟨p,xs,rfl,hq,fx,fs,q⟩:=h;cases ry;rcases hq with hq|hq
 .obtain⟨its,r,pl,hz⟩:=I.list hq;refine SeqAt.in_listAt (eqU x) pl.isList (λw hw=>km rx fx r fs w (by simpa using hw)) ⟨.bl _,H,I,rfl,?_⟩;rw[show its.toArray.any (eqU x)=its.any (eqU x) by simp,oq r fs];exact q
 .obtain⟨its,r,pl,hz⟩:=I.tuple hq;refine SeqAt.in_tupleAt (eqU x) pl (λw hw=>km rx fx r fs w (by simpa using hw)) ⟨.bl _,H,I,rfl,?_⟩;rw[show its.toArray.any (eqU x)=its.any (eqU x) by simp,oq r fs];exact q
theorem oh:bX X (.builtin "len") (λxs H Q=>∃p ys,xs=[.ref p]/\(SqL X.K H p ys\/SqT X.K H p ys)/\Q (.int ys.length) H):=by
 intro pins s σ H xs us Q I r h;obtain⟨p,ys,rfl,hq,q⟩:=h;obtain⟨u,rfl,rx⟩:=eD r;cases rx;have hn:=nV;rcases hq with hq|hq
 .obtain⟨its,r',pl,hz⟩:=I.list hq;have hlen:=r'.length;exact Calls.call_len_list pl.isList (by simp only[DI]<;>lia) ⟨.int ys.length,H,I.tok _,⟨s.toks+1,by rw[DI,hlen]⟩,q⟩
 .obtain⟨its,r',pl,hz⟩:=I.tuple hq;have hlen:=r'.length;exact len_tuple pl (by simp only[DI]<;>lia) ⟨.int ys.length,H,I.tok _,⟨s.toks+1,by rw[DI,hlen]⟩,q⟩
theorem bX.or(h:bX X f r)(h':bX X f r'):bX X f (λxs H Q=>r xs H Q\/r' xs H Q):=by
 intro pins s σ H xs us Q I rs q;rcases q with q|q
 .exact h pins s σ H xs us Q I rs q
 .exact h' pins s σ H xs us Q I rs q
theorem og:bX X (.type "list") (λxs H Q=>∃p ys,xs=[.ref p]/\(SqL X.K H p ys\/SqT X.K H p ys)/\∀l,H l=none->Q (.ref l) (upd H l (.lst ys))):=by
 intro pins s σ H xs us Q I r h;obtain⟨p,ys,rfl,hq,q⟩:=h;obtain⟨u,rfl,rx⟩:=eD r;cases rx;have fin:∀ (its:List Value),Vals ys its->ys.length<=sizeLine->∀ (h':Heap) (c':Nat),(∀b o',s.heap.get? b=some o'->h'.get? b=some o')->
   h'.get? s.heap.objs.size=some {cls:= .type "list",dict:=none,data:= .seq its.toArray c',slots:= #[]}->EP X pins σ Q (.ref s.heap.objs.size) {s with heap:=h'}:=λits r' hz h' c' kp e=>
  ⟨.ref s.heap.objs.size,_,I.laid (t':=s.toks) kp (Dl _) (show br X.prog X.w _ h' _ (.lst ys)from⟨hz,its,c',r',e⟩),rfl,q _ (I.hok.fresh (Dl _))⟩
 rcases hq with hq|hq
 .obtain⟨its,r',pl,hz⟩:=I.list hq;have hlen:=r'.length;obtain⟨o,ho,hc,n,hd⟩:=pl.isList;exact call_list_seq p (.inl rfl) ho hc hd (λh' c' kp e=>fin its r' hz h' c' kp e) (by simp only[DI]<;>lia)
 .obtain⟨its,r',pl,hz⟩:=I.tuple hq;have hlen:=r'.length;obtain⟨o,ho,hc,n,hd⟩:=pl;exact call_list_seq p (.inr rfl) ho hc hd (λh' c' kp e=>fin its r' hz h' c' kp e) (by simp only[DI]<;>lia)
theorem lJ:bX X (.type "tuple") (λxs H Q=>∃p ys,xs=[.ref p]/\((SqL X.K H p ys/\∀l,H l=none->Q (.ref l) (upd H l (.tup ys)))\/(SqT X.K H p ys/\Q (.ref p) H))):=by
 intro pins s σ H xs us Q I r h;obtain⟨p,ys,rfl,h⟩:=h;obtain⟨u,rfl,rx⟩:=eD r;cases rx;rcases h with ⟨hq,q⟩|⟨hq,q⟩
 .obtain⟨its,r',pl,hz⟩:=I.list hq;have hlen:=r'.length;refine call_tuple_list pl.isList (λh' kp=> ?_) (by simp only[DI]<;>lia);have I1:Inv X pins σ H {s with heap:=h'}:=I.kept (t':=s.toks) kp;have I2:Inv X pins σ (upd H h'.objs.size (.tup ys)) {s with heap:=h'.push {cls:= .type "tuple",data:= .seq its.toArray}}:=
   I1.laid (t':=s.toks) (λb o e=>Dx _ e) (Dl _) (show br X.prog X.w _ _ _ (.tup ys)from⟨hz,its,r',IsTup.new _ _⟩)
  exact⟨.ref h'.objs.size,_,I2,rfl,q _ (I1.hok.fresh (Dl _))⟩
 .obtain⟨its,r',pl,hz⟩:=I.tuple hq;exact call_tuple_same pl ⟨.ref p,H,I,rfl,q⟩
def tyV(K:PySem.W.Frag)(T:String)(x:V)(H:Hp):Prop:=match x with
 | .str _=>T= "str"
 | .int _=>T= "int"
 | .ref p=>(T= "list"/\∃xs,SqL K H p xs)\/(T= "tuple"/\∃o,K.lookup p=some o/\o.cls= .type "tuple"/\o.dict=none)\/
   (T= "dict"/\((∃kvs,H p=some (.dK kvs))\/∃kvs,H p=some (.dT kvs)))\/(T= "set"/\∃S n,H p=some (.set S n))
 |_=>False
theorem wH{pins:List (Addr×Obj)}{σ:St}{H:Hp}{s:Shared}{T:String}{x:V}{v:Value}(I:Inv X pins σ H s)(r:aW x v)(ty:tyV X.K T x H):
  s.TypeIs v T/\∀a,v= .ref a->∃ob,s.heap.get? a=some ob/\ob.dict=none:=by
 cases x with
 |str z=>
  obtain⟨t,rfl⟩:=r;cases (show T= "str" from ty);exact⟨typeIs_str s z t,λ_ e=>nomatch e⟩
 |int i=>
  obtain⟨t,rfl⟩:=r;cases (show T= "int" from ty);exact⟨typeIs_int s i t,λ_ e=>nomatch e⟩
 |ref p=>
  cases r;rcases ty with ⟨rfl,xs,hq⟩|⟨rfl,o,hk,hc,hd⟩|⟨rfl,hk⟩|⟨rfl,S,n,hk⟩
  .obtain⟨its,_,pl,_⟩:=I.list hq;refine⟨pl.isList.typeIs,λa e=> ?_⟩;cases e;obtain⟨o,n,e,c,hd,_⟩:=pl;exact⟨o,e,hd⟩
  .refine⟨⟨o,I.kIn p o hk,hc⟩,λa e=> ?_⟩;cases e;exact⟨o,I.kIn _ o hk,hd⟩
  .have z:∃o,s.heap.get? p=some o/\o.ExactDict:=by
    rcases hk with ⟨kvs,hk⟩|⟨kvs,hk⟩
    .obtain⟨_,_,_,_,o,_,_,e,ex,_⟩:=I.hok p _ hk;exact⟨o,e,ex⟩
    .obtain⟨_,_,_,_,o,_,_,e,ex,_⟩:=I.hok p _ hk;exact⟨o,e,ex⟩
   obtain⟨o,e,ex⟩:=z;refine⟨⟨o,e,ex.1⟩,λa e2=> ?_⟩;cases e2;exact⟨o,e,ex.2.1⟩
  .obtain⟨o,_,_,_,e,ex,_⟩:=I.hok p _ hk;refine⟨⟨o,e,ex.1⟩,λa e2=> ?_⟩;cases e2;exact⟨o,e,ex.2.1⟩
 |_=>exact False.elim ty
def Cr(K:PySem.W.Frag)(T:String)(r:V->List V->Hp->VK->Prop)(to:TE):TE:=λσ H Q=>to σ H λx H1=>tyV K T x H1/\r x [] H1 Q
def tBM(K:PySem.W.Frag)(T:String)(r:V->List V->Hp->VK->Prop)(to:TE)(t:TA):TE:=λσ H Q=>to σ H λx H1=>tyV K T x H1/\t σ H1 λxs H2=>r x xs H2 Q
variable{o e:Expr}{es:List Expr}{to:TE}{t:TA}{name:Str}{apos cpos:Pos}{T id:String}{r:V->List V->Hp->VK->Prop}
theorem BE(pa:PlainAttrs T)(slot:Slot T name id)(hty:typeOf (.builtin id)=pure (.type "method_descriptor"))(hm:MtR X id r)(ho:PE X o to)
  (hbase:attributeBase o name X.env (eval o X.env)=eval o X.env:=by rfl) (hline:(apos.endLine==cpos.line)=true:=by rfl):PE X (.Call (.Attribute o name apos) [] [] cpos) (Cr X.K T r to):=by
 intro pins s σ H Q I h;refine wpAny_Call_method0_late hbase hline (thn (ho pins s σ H _ I h) λv s1 ⟨x,H1,I1,r1,ty,q1⟩=> ?_);obtain⟨h1,h2⟩:=wH I1 r1 ty;exact⟨T,id,pa,slot,hty,h1,h2,Calls.callWith_builtin rfl (PySem.evalArgs_none (hm pins s1 σ H1 x [] v [] Q I1 r1 .nil q1))⟩
theorem CD(pa:PlainAttrs T)(slot:Slot T name id)(hty:typeOf (.builtin id)=pure (.type "method_descriptor"))(hm:MtR X id r)(ho:PE X o to)(ha:PA X (e::es) t)
  (hbase:attributeBase o name X.env (eval o X.env)=eval o X.env:=by rfl)
  (hfew:((backTo cpos (starEach (e::es) X.env)).all (λx=> !x.1)&&(backToKw cpos (keywordEach [] X.env)).all (λx=>x.1.isSome)
   &&decide ((e::es).length+([]:List Keyword).length+(if([]:List Keyword).isEmpty then 0 else 1)<30))=true:=by rfl)
  (hline:(apos.endLine==cpos.line)=true:=by rfl) (hs:starEach (e::es) X.env=(false,eval e X.env)::starEach es X.env:=by rfl) (hplain:(backTo cpos (starEach es X.env)).any (·.1)=false:=by rfl):
  PE X (.Call (.Attribute o name apos) (e::es) [] cpos) (tBM X.K T r to t):=by
 intro pins s σ H Q I h;refine wpAny_Call_method_late hbase hfew hline rfl (thn (ho pins s σ H _ I h) λv s1 ⟨x,H1,I1,r1,ty,q1⟩=> ?_);obtain⟨h1,h2⟩:=wH I1 r1 ty;refine⟨T,id,pa,slot,hty,h1,h2,?_⟩;have hA:=ha cpos pins s1 σ H1 _ I1 q1;rw[hs]at hA⊢;refine Calls.callWith_builtin (by show(false||(backTo cpos (starEach es X.env)).any (·.1))=false;rw[hplain]<;>rfl) (Calls.evalArgs_plain ?_);exact thn hA λus s2 ⟨vs,H2,I2,r2,q2⟩=>hm pins s2 σ H2 x vs v us Q I2 r1 r2 q2
end
end L2
namespace L2
open PySem PySem.Spec PyProof.Rows
def MtM(X:Cx)(id:String)(r:V->List V->Hp->VK->Prop):Prop:=
 ∀ (pins:List (Addr×Obj)) (s:Shared) (σ:St) (H:Hp) (x:V) (xs:List V) (v:Value) (us:List Value) (Q:VK),Inv X pins σ H s->aW x v->Vals xs us->r x xs H Q->
  wpAny (model X.prog X.w) X.A (call (.builtin id) (v::us)) (EP X pins σ Q) X.xe s
theorem Vals.one(h:Vals [x] us):∃u,us=[u]/\aW x u:=by
 cases h with
 |cons r q=>cases q;exact⟨_,rfl,r⟩
theorem Vals.two(h:Vals [x,y] us):∃u v,us=[u,v]/\aW x u/\aW y v:=by
 cases h with
 |cons r q=>obtain⟨v,rfl,q2⟩:=Vals.one q;exact⟨_,_,rfl,r,q2⟩
theorem Vals.zero:∀ {us:List Value},Vals [] us->us=[]
 |_, .nil=>rfl
theorem Vals.eraseIdx:∀ {xs:List V} {us:List Value} (i:Nat),Vals xs us->Vals (xs.eraseIdx i) (us.eraseIdx i)
 |_,_,_, .nil=> .nil
 |_,_,0, .cons _ t=>t
 |_,_,i+1, .cons r t=> .cons r (Vals.eraseIdx i t)
theorem mj{α:Type}:∀ (l:List α) (i:Nat),(l.eraseIdx i).length<=l.length
 | [],_=>Dl _
 |_::_,0=>Gk _
 |_::r,i+1=>DO (mj r i)
section
variable{X:Cx}{pins:List (Addr×Obj)}{σ:St}{H:Hp}{s:Shared}{l b:Addr}{xs ys zs:List V}
theorem Inv.lset{its its':List Value}(I:Inv X pins σ H s)(hH:H l=some (.lst xs))
  (e:s.heap.get? l=some {cls:= .type "list",data:= .seq its.toArray n}) (hf:f its.toArray=its'.toArray) (hv:Vals ys its') (hz:ys.length<=sizeLine):
  Inv X pins σ (upd H l (.lst ys)) {s with heap:=s.heap.update l (Obj.mapSeq f),toks:=t'}:=by
 have q:=PySem.IsL.update e f;rw[hf]at q;refine I.write (x:=l) (e:=l) (by rw[hH];exact trivial) (.inl rfl) (λb' u hb hu=>(Ey s.heap (Obj.mapSeq f) (E8 hb)).trans hu) ⟨_,q⟩ ?_;exact⟨hz,its',_,hv,q⟩
theorem Inv.lnew{its:List Value}(I:Inv X pins σ H s)(hv:Vals ys its)(hz:ys.length<=sizeLine):
  Inv X pins σ (upd H s.heap.objs.size (.lst ys)) {s with heap:=s.heap.push {cls:= .type "list",data:= .seq its.toArray},toks:=t'}:=
 I.laid (λ_ _ q=>Dx _ q) (Dl _) ⟨hz,its,0,hv,DP _ rfl⟩
theorem Inv.fresh(I:Inv X pins σ H s):H s.heap.objs.size=none:=I.hok.fresh (Dl _)
theorem Inv.lstM(I:Inv X pins σ H s)(hH:H l=some (.lst xs)):xs.length<=sizeLine/\∃ (its:List Value) (n:Nat),Vals xs its/\xs.length=its.length/\s.heap.get? l=some {cls:= .type "list",data:= .seq its.toArray n}:=by obtain⟨z,its,n,r,e⟩:=I.hok l _ hH;exact⟨z,its,n,r,r.length,e⟩
end
section
variable{X:Cx}
inductive RdA(x:V)(vs:List V)(H:Hp)(Q:VK):Prop
 |mk (l:Addr) (xs:List V) (y:V) (e1:x= .ref l) (e2:vs=[y]) (h:H l=some (.lst xs)) (n:xs.length<sizeLine) (q:Q .non (upd H l (.lst (xs++[y])))):RdA x vs H Q
def z7:V->List V->Hp->VK->Prop:=λx vs H Q=>RdA x vs H Q
theorem cQ:MtM X "list.append" z7:=by intro pins s σ H x vs v us Q I rx rv h;obtain⟨l,xs,y,rfl,rfl,hH,hz,q⟩:=h;cases rx;obtain⟨u,rfl,ru⟩:=rv.one;obtain⟨z,its,n,r,hl,e⟩:=I.lstM hH;refine call_meets F.slot_list_append ⟨_,e,rfl⟩ F.entry_list_append (F.args_list_append_2 _ _) (PySem.list_append l its.toArray n u (by rw[DI];lia)) ⟨e,?_⟩;refine⟨.non,_,I.lset (its':=its++[u]) hH e (by simp) (r.append (.cons ru .nil)) ?_,rfl,q⟩;rw[DK,List.length_singleton];lia
def Bn:V->List V->Hp->VK->Prop:=λx vs H Q=>∃l xs i k y,x= .ref l/\vs=[.int i]/\H l=some (.lst xs)/\ -(2^63)<=i/\i<2^63/\seqIndex? i xs.length=some k/\xs[k]?=some y/\Q y (upd H l (.lst (xs.eraseIdx k)))
theorem ya:MtM X "list.pop" Bn:=by
 intro pins s σ H x vs v us Q I rx rv h;obtain⟨l,xs,i,k,y,rfl,rfl,hH,h1,h2,hk,hy,q⟩:=h;cases rx;obtain⟨u,rfl,ru⟩:=rv.one;obtain⟨t,rfl⟩:=ru;obtain⟨z,its,n,r,hl,e⟩:=I.lstM hH;obtain⟨w,hw,rw'⟩:=r.get hy;refine call_meets F.slot_list_pop ⟨_,e,rfl⟩ F.entry_list_pop (F.args_list_pop_2 _ _)
  (MeetsSeq.list_pop_at l its.toArray n i t k w (fitsIndex_both h1 h2) (by rw[DI,<-hl];exact hk) (by rw[<-Fe];exact hw) (by rw[DI];lia)) ⟨e,?_⟩
 refine⟨y,_,I.lset (its':=its.eraseIdx k) hH e ?_ (r.eraseIdx k) ?_,rw',q⟩
 .show its.toArray.eraseIdxIfInBounds k=(its.eraseIdx k).toArray;rw[Hc]
 .have:=mj xs k;lia
def Dc:R2:=λx y H Q=>∃l b xs zs,x= .ref l/\y= .ref b/\H l=some (.lst xs)/\H b=some (.lst zs)/\xs.length+zs.length<=sizeLine/\∀p,H p=none->Q (.ref p) (upd H p (.lst (xs++zs)))
theorem iE:OpR X (binaryOp .Add) Dc:=by
 intro pins s σ H x y v u Q I rx ry h;obtain⟨l,b,xs,zs,rfl,rfl,hH,hB,hz,q⟩:=h;cases rx;cases ry;obtain⟨z,its,n,r,hl,e⟩:=I.lstM hH;obtain⟨z2,its2,n2,r2,hl2,e2⟩:=I.lstM hB;refine PySem.P.add_list e e2 ?_ (by rw[DI,DI];lia);have ea:its.toArray++its2.toArray=(its++its2).toArray:=by simp
 rw[ea];exact⟨.ref _,_,I.lnew (t':=s.toks) (r.append r2) (by rw[DK];lia),rfl,q _ I.fresh⟩
end
section
variable{prog:Program}{w:World}{A:Around}{E:Value->Shared->Prop}{s:Shared}
end
section
variable{X:Cx}
end
end L2
namespace Att
open PySem PySem.W PySem.Calls PyProof.Rows
theorem jk:∀ (ns:List Int) (vs:List Value),WellAll P h vs (ns.map WData.int)->IntsAre vs ns:=by
 intro ns
 induction ns with
 |nil=>
  intro vs w;rw[Ic]at w;cases w;exact .nil
 |cons n ns ih=>
  intro vs w;rw[Ej]at w;cases w with
  |cons a b=>
   cases a;exact .cons _ _ (ih _ b)
theorem uU{l:OpenLaw}(hn:l.most=some n){h:Heap}
  (hpre:l.row.toRowW.claim.pre args=true) (hwl:WellAll P h vals args):
  ∃a vs ns,vals=[Value.ref a]/\args=[WData.list (ns.map WData.int)]/\h.get? a=some {cls:= .type "list",data:= .seq vs.toArray}/\IntsAre vs ns/\ns.length<=n:=by
 have hsh:WShape.hasAll [] args [.list .int]=true:=(pre_splitW hpre).1;have hc:l.pre.holds [] {args:=args}=true:=(pre_splitW hpre).2;obtain⟨d,r,rfl,h1,h2⟩:=hasAllW_cons hsh;obtain rfl:=hasAllW_nil h2;obtain⟨xs,rfl,h3⟩:=hasW_list h1;obtain⟨ns,rfl⟩:=items_int h3;have hlen:ns.length<=n:=by
  unfold OpenLaw.pre at hc;have h4:(WTm.not (.lt (.lit (.int (n:Int))) (.len (.arg 0)))).holds [] {args:=[.list (ns.map .int)]}=true:=by have h4:=(holds_andW hc).1;rw[hn]at h4;exact h4
  have h5:=condW_of h4 (w_not (w_lt w_lit (w_len_list (w_arg rfl))));rw[Di]at h5;refine Ef λq=> ?_;have q':(n:Int)<((ns.length:Nat):Int):=by lia
  first
   |(rw[DG q']at h5;exact absurd h5 (by decide))
   |(simp at h5;lia)
 cases hwl with
 |cons w1 w2=>
  cases w2;cases w1 with
  |list ho hall=>exact⟨_,_,ns,rfl,rfl,ho,jk ns _ hall,hlen⟩
theorem uW(l:OpenLaw)(args:List WData):l.row.toRowW.claim.post args (.bool true) args=true:=
 postW_of (r:=l.row.toRowW) (X:=(true==true))
  (show WShape.has [] (.bool true) .bool=true by first|rfl|decide|simp[WShape.has,WShape.arms,WShape.armsAll])
  (show(WTm.eq .res (.lit (.bool true))).value [] {args:=args,res:=some (.bool true),after:=args}=some (.bool (true==true))from w_eq_bool (w_res rfl) w_lit) rfl
theorem qg{l:OpenLaw}{d:DefRec}
  (hn:l.most=some n) (hdf:d.params.defaults=[])
  (call:∀ (w:World) (s₀ s₁:Shared) (mg mb:Str->Option Value) (fa:Addr) (o:Obj) (pm cd doc:Value) (a:Addr) (vs:List Value) (ns:List Int),
   Ground q loose [] XP w s₀ mg mb s₁.heap->YP w s₁.heap->
   s₁.heap.get? fa=some o->o.data= .func (docDef d.name d.params d.body d.scope pm cd doc)->s₁.heap.CodeRec cd d.name->mg d.name=some (.ref fa)->
   s₁.heap.get? a=some {cls:= .type "list",data:= .seq vs.toArray}->IntsAre vs ns->ns.length<=n->s₁.gens= #[]->
   codeAny (model l.prog w) callerA (.call (.ref fa) ⟨[.ref a],[]⟩) (λr s'=>r= .ok (.ret (.bool true))/\OldK s₁.heap s'.heap/\s'.os=s₁.os/\AllBare s'.gens) s₁):
  WalkO q loose XP YP l.row.toRowW d [] (λf vs=>PySem.call f vs):=by
 intro w s₀ s₁ mg mb G Y fa o pm cd doc dV kV ho hd hcd hD hmg hg args vals as hpre hlay hrd hwl hlo;obtain rfl:dV= .none:=Dflts.none hD hdf;obtain rfl:kV= .none:=Dflts.noKw hD;obtain⟨a,vs,ns,rfl,rfl,hobj,hints,hlen⟩:=uU hn hpre hwl;refine enter_call (Gq (call w s₀ s₁ mg mb fa o pm cd doc a vs ns G Y ho (fd_plain hd) hcd hmg hobj hints hlen hg) λr s' hq=> ?_);obtain⟨rfl,h2,h3,h4⟩:=hq;exact⟨.inl ⟨.bool true, .bool true,[],rfl,λ_=>rfl, .bool true,uW l _,λ_=>⟨HQ,λ_ hm=>(nomatch hm)⟩⟩,h2,h3,h4⟩
section
variable{prog:Program}{w:World}{A:Around}{E:Value->Shared->Prop}{s:Shared}{K:Frag}
def ledger(h:Heap)(L d:Addr):List (Addr×Obj):=(List.range h.objs.size).filterMap λa=>if a=L\/a=d then none else(h.get? a).map λo=>(a,o)
end
end Att
namespace L2
open PySem PySem.Spec PyProof.Rows
theorem lN:∀ {vs:List Value} {ns:List Int},IntsAre vs ns->Vals (ns.map V.int) vs
 |_,_, .nil=> .nil
 |_,_, .cons n t h=> .cons ⟨t,rfl⟩ (lN h)
end L2
namespace L2
open PySem PySem.Spec PyProof.Rows
abbrev KOf{K:PySem.W.Frag}{h:Heap}(_:K.In h):PySem.W.Frag:=K
end L2
namespace L2
open PySem PySem.Spec PyProof.Rows
def bI(s:Stmt)(j:Nat):Stmt:=match s with
 | .ClassDef _ _ _ body _ _ _ _ _ _ _=>body.getD j (.Pass ⟨0,0,0,0⟩)
 |_=> .Pass ⟨0,0,0,0⟩
def a6(s:Stmt):Arguments:=match s with
 | .FunctionDef _ a _ _ _ _ _ _ _ _=>a
 |_=>{posonlyargs:=[],args:=[],vararg:=none,kwonlyargs:=[],kw_defaults:=[],kwarg:=none,defaults:=[]}
def aF(s:Stmt):List Stmt:=match s with
 | .FunctionDef _ _ b _ _ _ _ _ _ _=>b
 |_=>[]
def ao(s:Stmt):Scope:=match s with
 | .FunctionDef _ _ _ _ _ _ sc _ _ _=>sc
 |_=>{kind:= .function,names:=[],isGenerator:=false,isCoroutine:=false}
abbrev CX0:CXT:=λ_ _ _ _ _ _=>False
abbrev E0:XK:=λ_ _ _=>False
theorem o8:kU CX0 X E0:=λ_ _ _ _ _ _ _ h=>h.elim
structure Fun(K:PySem.W.Frag)(x qual:Str)(st:Stmt)(f:Addr)(fd:FuncData):Prop where
 ex:∃ (oc:Value) (od:Option Addr) (kV doc pm:Value) (an:Option Addr) (cdv ct:Value) (osl:Array (Option Value)),
  fd=fnOf x qual (a6 st) (aF st) (ao st) .none kV doc pm an cdv ct/\K.lookup f=some ⟨oc,od, .func fd,osl⟩/\codeIn K cdv qual=true
 kp:keepIn K (.ref f)=true
section
variable{P:Program}{w:World}{K:PySem.W.Frag}{mg:Str->Option Value}{base:Heap}
theorem Fun.ok{x qual:Str}{st:Stmt}{f:Addr}{fd:FuncData}{N ps:List Str}{k:Nat}{sp:Sp}(F:Fun K x qual st f fd)(S:aB N ps (ao st))(len:∀vs H Q E,sp vs H Q E->vs.length=ps.length)
  (hbody:∀ (cdv:Value) (A:Around) (outer:List Env) (s:Shared) (H:Hp) (vs:List V) (Q:VK) (E:XK),Room k (A.deeper (envOfC qual (ao st) s.heap.objs.size f cdv))->sp vs H Q E->
   ∃t,PSs (iP CX0 P w K mg base N qual (ao st) f cdv A outer s H E).nox (aF st) t/\t {nx:=λ_ H'=>Q .non H',rt:=Q} (start N vs) H):fq P w K mg base CX0 (k+1) f fd ps sp:=by
 obtain⟨oc,od,kV,doc,pm,an,cdv,ct,osl,rfl,lk,hcd⟩:=F.ex;refine A5 lk hcd S len λA outer s H vs Q E hr hsp=> ?_;obtain⟨t,h,q⟩:=hbody cdv A outer s H vs Q E hr hsp;exact⟨t,h.nox,q⟩
theorem Fun.binds{x qual:Str}{st:Stmt}{f:Addr}{fd:FuncData}{ps:List Str}(F:Fun K x qual st f fd)
  (h:∀ (kV doc pm:Value) (an:Option Addr) (cdv ct:Value) (us:List Value),us.length=ps.length->bindArgs (fnOf x qual (a6 st) (aF st) (ao st) .none kV doc pm an cdv ct) ⟨us,[]⟩=pure (ps.zip us)):fv K fd ps []:=by
 obtain⟨oc,od,kV,doc,pm,an,cdv,ct,osl,rfl,lk,hcd⟩:=F.ex;exact .all (h kV doc pm an cdv ct)
theorem iM{x qual:Str}{st:Stmt}{f:Addr}{oc:Value}{od an:Option Addr}{osl:Array (Option Value)}{kV doc pm cdv ct:Value}(l:K.lookup f=some ⟨oc,od, .func (fnOf x qual (a6 st) (aF st) (ao st) .none kV doc pm an cdv ct),osl⟩)
  (c:codeIn K cdv qual=true) (k:keepIn K (.ref f)=true):Fun K x qual st f (fnOf x qual (a6 st) (aF st) (ao st) .none kV doc pm an cdv ct):=⟨⟨oc,od,kV,doc,pm,an,cdv,ct,osl,rfl,l,c⟩,k⟩
end
section
variable{X:Cx}
theorem pv(i:Nat){x:Str}{pos:Pos}(hN:X.N[i]?=some x:=by rfl)(hv:Vis X.env.scope x:=by first|exact HE rfl|exact Or.inr (HE rfl)|exact Or.inr (Or.inr rfl))(hd:(x==("__debug__":Str))=false:=by decide)
  (hcd:(x==("__classdict__":Str))=false:=by decide):PE X (.Name x pos) (Bc i):=By hN hv hd hcd
end
theorem cL{A B:Prop}(h:B):if false=true then A else B:=by rw[Dt Dr];exact h
theorem yG{A B:Prop}(h:A):if true=true then A else B:=by rw[Dp rfl];exact h
theorem dE{c A B:Prop}[Decidable c](h1:c->A)(h2:¬c->B):if c then A else B:=by
 by_cases h:c
 .rw[Dp h];exact h1 h
 .rw[Dt h];exact h2 h
theorem yH{c A B:Prop}[Decidable c](hc:c)(h:B):if(!decide c)=true then A else B:=by rw[DG hc];exact cL h
def Same(H H':Hp):Prop:=∀b o,H b=some o->H' b=some o
theorem Same.refl(H:Hp):Same H H:=λ_ _ h=>h
theorem Same.trans(a:Same H H1)(b:Same H1 H2):Same H H2:=λc o h=>b c o (a c o h)
theorem Same.free(e:Same H H')(h:H' l=Option.none):H l=Option.none:=by
 cases q:H l with
 |none=>rfl
 |some o=>
  rw[e l o q]at h;cases h
theorem Same.seq{K:PySem.W.Frag}{H H':Hp}{a:Addr}{xs:List V}(e:Same H H')(h:SqL K H a xs):SqL K H' a xs:=by
 rcases h with (h|⟨o,h⟩)|h
 .exact .inl (.inl (e _ _ h))
 .exact .inl (.inr ⟨o,e _ _ h⟩)
 .exact .inr h
end L2
namespace L2
open PySem PySem.Spec PyProof.Rows
theorem iN{α β:Type}{f:α->β->Sem (ForInStep β)}(g:β->α->β):∀ (l:List α) (c:β),(∀x∈l,∀c,f x c=pure (.yield (g c x)))->forIn l c f=pure (l.foldl g c):=by
 intro l
 induction l with
 |nil=>intro c _;rfl
 |cons x l ih=>
  intro c h;rw[List.forIn_cons,h x DE,pure_bind];exact ih _ λy hy=>h y (DC _ hy)
def dA(env:Env)(cs:List (Str×Addr))(y:Str×NameKind):List (Str×Addr):=if(y.2==NameKind.free)=true then(y.1,(env.cells.lookup y.1).getD 0)::cs else cs
def fj(env:Env)(names:List (Str×NameKind)):List (Str×Addr):=names.foldl (dA env) []
theorem gn{env:Env}{sc:Scope}(h:∀y∈sc.names,y.2= .free->∃c,env.cells.lookup y.1=some c):closureFor sc env=pure (fj env sc.names):=by
 simp only[closureFor];rw[iN (dA env) sc.names [] (λx hx c=>by
  obtain⟨n,kind⟩:=x;by_cases hk:kind= .free
  .subst hk;obtain⟨a,ha⟩:=h _ hx rfl;have ha':env.cells.lookup n=some a:=ha;have e:cellOf env n=pure a:=by simp only[cellOf,ha']
   simp only[dA,e,ha',beq_self_eq_true,Iv,pure_bind,Option.getD_some]
  .have:(kind==NameKind.free)=false:=by simpa using hk
   simp only[dA,this,Fz,Gm])]
 rfl
theorem wg(env:Env):∀ (names:List (Str×NameKind)) (acc:List (Str×Addr)),(∀y∈names,y.2= .free->∃c,env.cells.lookup y.1=some c)->(∀x c,acc.lookup x=some c->env.cells.lookup x=some c)->
  ∀x c,(names.foldl (dA env) acc).lookup x=some c->env.cells.lookup x=some c:=by
 intro names
 induction names with
 |nil=>intro acc _ ha x c e;exact ha x c e
 |cons y r ih=>
  intro acc h ha;refine ih _ (λz hz=>h z (DC _ hz)) λx c e=> ?_;unfold dA at e;split at e
  .rename_i hk;obtain⟨a,ey⟩:=h y DE (by simpa using hk);rw[E6]at e;cases hx:x==y.1 with
   |true=>
    rw[hx]at e;have hxy:x=y.1:=by simpa using hx
    rw[ey]at e;rw[hxy,ey];exact e
   |false=>rw[hx]at e;exact ha x c e
  .exact ha x c e
theorem wj(env:Env):∀ (names:List (Str×NameKind)) (acc:List (Str×Addr)) (x:Str),((∃y∈names,y.1=x/\y.2= .free)\/∃c,acc.lookup x=some c)->∃c,(names.foldl (dA env) acc).lookup x=some c:=by
 intro names
 induction names with
 |nil=>
  intro acc x h;rcases h with ⟨y,hy,_⟩|h
  .cases hy
  .exact h
 |cons y r ih=>
  intro acc x h;refine ih _ x ?_;have lk:∀c,acc.lookup x=some c->∃c,(dA env acc y).lookup x=some c:=λc e=>by
   unfold dA;split
   .rw[E6];cases hx:x==y.1 with
    |true=>exact⟨_,rfl⟩
    |false=>exact⟨c,e⟩
   .exact⟨c,e⟩
  rcases h with ⟨z,hz,hzx,hzk⟩|⟨c,e⟩
  .rcases Dz.mp hz with e|hr
   .subst e;refine .inr ?_;unfold dA;rw[hzk,Dp (by rfl),E6,hzx];simp
   .exact .inl ⟨z,hr,hzx,hzk⟩
  .exact .inr (lk c e)
theorem B4{env:Env}(h:∀y∈names,y.2= .free->∃c,env.cells.lookup y.1=some c)(e:(fj env names).lookup x=some c):env.cells.lookup x=some c:=
 wg env names [] h (λ_ _ z=>by simp at z) x c e
theorem zf(h:∃y∈names,y.1=x/\y.2= .free):∃c,(fj env names).lookup x=some c:=wj env names [] x (.inl h)
def inner(nv:Nat)(fr:List Nat)(σ:St):St:=List.replicate nv none++fr.map λj=>(σ[j]?).join
def jm(X:Cx)(sc:Scope):List Nat->List Str->Prop
 | [],[]=>True
 |j::js,x::xs=>(X.N[j]?=some x/\(X.env.kindOf x=some .cell\/X.env.kindOf x=some .free)/\((relabel sc X.env).names.lookup x=some .cell\/(relabel sc X.env).names.lookup x=some .free))/\jm X sc js xs
 |_,_=>False
theorem jm.get{X:Cx}:∀ {fr:List Nat} {names:List Str} {k j:Nat},jm X sc fr names->fr[k]?=some j->
  ∃x,names[k]?=some x/\X.N[j]?=some x/\(X.env.kindOf x=some .cell\/X.env.kindOf x=some .free)/\((relabel sc X.env).names.lookup x=some .cell\/(relabel sc X.env).names.lookup x=some .free)
 | [],[],_,_,_,e=>by simp at e
 | [],_::_,_,_,h,_=>h.elim
 |_::_,[],_,_,h,_=>h.elim
 |j::js,x::xs,0,i,h,e=>by
  have e':j=i:=by simpa using e
  subst e';exact⟨x,rfl,h.1⟩
 |j::js,x::xs,k+1,i,h,e=>by obtain⟨y,h1,h2⟩:=jm.get (k:=k) (j:=i) h.2 (by simpa using e);exact⟨y,by simpa using h1,h2⟩
theorem jm.len:∀ {fr:List Nat} {names:List Str},jm X sc fr names->fr.length=names.length
 | [],[],_=>rfl
 | [],_::_,h=>h.elim
 |_::_,[],h=>h.elim
 |_::_,_::_,h=>by rw[D6,D6,jm.len h.2]
def PTs(X:Cx)(ifs:List Expr)(t:TT):Prop:=
 ∀ (pins:List (Addr×Obj)) (s:Shared) (σ:St) (H:Hp) (Q:Bool->Hp->Prop),Inv X pins σ H s->t σ H Q->
  wpAny (model X.prog X.w) X.A (forIn ifs true λc r=>if r=true then do let ok<-isTrue c X.env (eval c X.env);pure (ForInStep.yield ok)else pure (ForInStep.yield r)) (TP X pins σ Q) X.xe s
def cm:TT:=λ_ H Q=>Q true H
theorem aM:PTs X [] cm:=λ_ _ _ H _ I h=>wpAny_tests_nil ⟨H,I,h⟩
theorem dD(h:PT X c t):PTs X [c] t:=λpins s σ H Q I q=>wpAny_tests_one (h pins s σ H Q I q)
def LCW(J:It)(g:TG)(tc:TT)(te:TE)(nv:Nat)(fr:List Nat)(σ:St)(H1:Hp)(Q:VK):Prop:=∀D,H1 D=none->
 ∃W:Nat->Nat->St->Hp->Prop,(∃m,W 0 m (inner nv fr σ) (upd H1 D (.lst [])))/\∀i m σ' H',W i m σ' H'->
  (J.stop i H'/\Q (.ref D) H')\/(J.go i H'/\∃N:St->Hp->Prop,(∀σ'' H'',N σ'' H''->∃m',m'<m/\W (i+1) m' σ'' H'')/\
   ∀x H2,J.yld i H' x H2->g x σ' H2 λσ2 H3=>tc σ2 H3 λb H4=>if b=true then te σ2 H4 λy H5=>∃xs,H5 D=some (.lst xs)/\xs.length<sizeLine/\N σ2 (upd H5 D (.lst (xs++[y])))else N σ2 H4)
def tLC(wi:TI)(g:TG)(tc:TT)(te:TE)(nv:Nat)(fr:List Nat):TE:=λσ H Q=>wi σ H λJ H1=>LCW J g tc te nv fr σ H1 Q
section
variable{X:Cx}{elt target iter:Expr}{ifs:List Expr}{sc:Scope}{pos:Pos}{wi:TI}{g:TG}{tc:TT}{te:TE}{vars frn:List Str}{fr:List Nat}
def zF(X:Cx)(pins:List (Addr×Obj))(σ:St)(Q:VK)(D C:Addr)(s':Shared):Prop:=
 ∃H',Inv X pins σ H' s'/\Q (.ref D) H'/\(∃m,s'.heap.Ns C m)/\H' C=none/\C≠X.env.locals/\X.s₀.heap.objs.size<=C/\(∀x c,X.env.cells.lookup x=some c->c≠C)/\∀p∈X.pn++pins,p.1≠C
theorem A6{env:Env}(h:sc.names.all (λy=> !(y.2== .free)||(env.kindOf y.1==some .cell||env.kindOf y.1==some .free))=true):∀y∈sc.names,y.2= .free->env.kindOf y.1=some .cell\/env.kindOf y.1=some .free:=λy hy hk=>by have:=Ie.mp h y hy;rw[hk]at this;simpa using this
theorem A1(h:sc.names.all (λy=> !(y.2== .local)||(sc.names.lookup y.1==some .local))=true):∀y∈sc.names,y.2= .local->sc.names.lookup y.1=some .local:=λy hy hk=>by have:=Ie.mp h y hy;rw[hk]at this;simpa using this
end
end L2
namespace L2
open PySem PySem.Spec PyProof.Rows
section
variable{X:Cx}{e st:Expr}{te ts:TE}{pos p2:Pos}
def CC:V->List V->Hp->VK->Prop:=λx vs H Q=>∃i,x= .int i/\vs=[]/\Q (.int (Builtin.Int.intBits i:Nat)) H
theorem Av:MtR X "int.bit_length" CC:=by intro pins s σ H x vs v us Q I rx rv h;obtain⟨i,rfl,rfl,q⟩:=h;obtain⟨t,rfl⟩:=rx;cases rv.zero;exact call_gives F.slot_int_bit_length (typeIs_int s i t) F.entry_int_bit_length (F.args_int_bit_length_1 _) (PySem.AutoIntG2.int_bit_length_int_0 i t) ⟨.int (Builtin.Int.intBits i:Nat),H,I.tok _,⟨_,rfl⟩,q⟩
def CA(K:PySem.W.Frag):List V->Hp->VK->Prop:=λxs H Q=>∃x n t b,xs=[x, .ty n]/\ij K H x t/\kitOne K t (.type n)=some b/\Q (.bl b) H
theorem qe:bX X (.builtin "isinstance") (CA X.K):=by intro pins s σ H vs us Q I rv h;obtain⟨x,n,t,b,rfl,ty,e,q⟩:=h;obtain⟨u,w,rfl,ru,rw'⟩:=rv.two;cases (show w=Value.type n from rw');exact vN I ru ty e λtk=>⟨.bl b,H,I.tok tk,rfl,q⟩
def CB(K:PySem.W.Frag):R2:=λx y H Q=>∃ (a b:Addr) (ns ms:List Int),x= .ref a/\y= .ref b/\SqL K H a (ns.map V.int)/\SqL K H b (ms.map V.int)/\Q (.bl (decide (ns=ms))) H
theorem BH(hu:X.A.units+64<cLine):OpR X (compareOp .Eq) (CB X.K):=by intro pins s σ H x y v u Q I rx ry h;obtain⟨a,b,ns,ms,rfl,rfl,ha,hb,q⟩:=h;cases rx;cases ry;obtain⟨is,r1,p1,_⟩:=I.list ha;obtain⟨js,r2,p2,_⟩:=I.list hb;exact PySem.W.eq_intsK p1.isList (dY r1) p2.isList (dY r2) hu ⟨.bl (decide (ns=ms)),H,I,rfl,q⟩
def Cw(K:PySem.W.Frag):List V->Hp->VK->Prop:=λxs H Q=>∃ (a:Addr) (ns:List Int),xs=[.ref a]/\SqL K H a (ns.map V.int)/\Q (.int ns.sum) H
theorem zh(hc:X.calm=true):bX X (.builtin "sum") (Cw X.K):=by
 intro pins s σ H vs us Q I rv h;obtain⟨a,ns,rfl,ha,q⟩:=h;obtain⟨u,rfl,ru⟩:=rv.one;cases ru;obtain⟨is,r1,p1,_⟩:=I.list ha;have hi:=dY r1;obtain⟨xs,ex⟩:=hi.allInts.items;have hl:=p1.isList;rw[ex]at hl;have en:numsOf (intItems xs).toList=ns:=by rw[<-ex];exact hi.numsOf
 rw[nums_intItems]at en;refine sum_intListG (I.ok.hd hc) hl λh' tk t' hk=> ?_;refine⟨.int ns.sum,H,I.kept hk,⟨t',?_⟩,q⟩;rw[preSum_eq,EK (by simp),en]
end
def Ite(K:PySem.W.Frag)(a:Addr):It:=
 ⟨λi H=>∃xs x,SqL K H a xs/\xs[i]?=some x,
  λi H x H'=>∃t,x= .ref t/\H t=none/\∃v,(∀xs,SqL K H a xs->xs[i]?=some v)/\H'=upd H t (.tup [.int (i:Nat),v]),
  λi H=>∃xs,SqL K H a xs/\xs.length<=i⟩
theorem Inv.own{X:Cx}{pins:List (Addr×Obj)}{s:Shared}{σ:St}{H:Hp}{h₂:Heap}{t':Nat}(ch:List Addr)(I:Inv X pins σ H s)(hf:∀b∈ch,oA X pins H b)
  (kk:∀b o,b∉ch->s.heap.get? b=some o->h₂.get? b=some o):Inv X pins σ H {s with heap:=h₂,gens:=s.gens,drawn:=s.drawn,toks:=t'}:=by
 have hok:HOk X.prog X.w H h₂:=λb v e=>(I.hok b v e).stay (λc o hc q=>kk c o (λhm=>by
   have n:=(hf c hm).1;rcases hc with z|z
   .rw[z,e]at n;cases n
   .rw[z]at n;cases n) q) (λ_ q=>q) λ_ _ q=>q
 have hL:∀m,s.heap.Ns X.env.locals m->h₂.Ns X.env.locals m:=λm hm=>by obtain⟨o,es,ep,ho,r⟩:=hm;exact⟨o,es,ep,kk _ o (λhm=>(hf _ hm).2.1 rfl) ho,r⟩
 exact I.step (h':=h₂) (g':=s.gens) (d':=s.drawn) (t':=t') (ch:=ch) (λb hb=>⟨(hf b hb).2.2.2.1,(hf b hb).2.1,(hf b hb).2.2.2.2.1,(hf b hb).2.2.2.2.2⟩) (λb o _ _ hc e _=>kk b o hc e)
  (λb o _ _ hc e _=>⟨o.slots,kk b o hc e⟩) (λ_ _ _ _ n=>n) (λb o hc e=>⟨o,kk b o hc e⟩) (λ_ _ e=>e) (λ_ _ _ e=>e) (λb ps e=>⟨#[],by rw[e];simp⟩) hL hok I.bare
theorem Inv.pairIn{X:Cx}{pins:List (Addr×Obj)}{s s1:Shared}{σ:St}{H:Hp}{x y:V}{u v:Value}(I:Inv X pins σ H s)(I1:Inv X pins σ H s1)(ru:aW x u)(rv:aW y v)
  (ht:s1.heap.get? s.heap.objs.size=some {cls:= .type "tuple",data:= .seq #[u,v]}):Inv X pins σ (upd H s.heap.objs.size (.tup [x,y])) s1:=by
 have hfr:H s.heap.objs.size=none:=I.fresh;refine⟨I1.ok,I1.os,I1.bare,⟨λb o e n hb hx=>I1.base.keep b o e n hb hx,λb o e n hb hx=>I1.base.slot b o e n hb hx,λb o e n hx=> ?_,I1.base.there,λb ys e=> ?_,λb o u e=> ?_,λb ps e=> ?_⟩,I1.loc,I1.cell,?_,λy c e=> ?_,λp hp=> ?_,?_,I1.len⟩
 .have hb:b≠s.heap.objs.size:=DQ (Dq (DF e) I.sz);rw[aw hb];exact I1.base.free b o e n hx
 .have h1:=I1.base.tups b ys e;rw[aw (au h1 hfr)];exact h1
 .have h1:=I1.base.frzs b o u e;rw[aw (au h1 hfr)];exact h1
 .obtain⟨more,h1⟩:=I1.base.tbls b ps e;exact⟨more,by rw[aw (au h1 hfr)];exact h1⟩
 .rw[aw (DQ I.lt)];exact I1.free
 .obtain⟨v,q⟩:=I.cell y c e;rw[aw (DQ q.lt)];exact I1.freeC y c e
 .obtain⟨q1,q2,q3,q4,q5⟩:=I1.pin p hp;have hb:p.1≠s.heap.objs.size:=DQ (DF (I.pin p hp).1);exact⟨q1,by rw[aw hb];exact q2,q3,q4,q5⟩
 .intro b o e;by_cases hb:b=s.heap.objs.size
  .subst hb;rw[ag]at e;cases e;exact⟨by show 2<=sizeLine;decide,[u,v], .cons ru (.cons rv .nil),⟨_,ht,rfl,_,rfl⟩⟩
  .rw[aw hb]at e;refine(I1.hok b o e).stay (λ_ _ _ q=>q) (λc q=> ?_) λc ys q=> ?_
   .rw[aw (au q hfr)];exact q
   .rw[aw (au q hfr)];exact q
theorem uG{P:Program}{w:World}{K:PySem.W.Frag}{elts:List Expr}{x1:Nat}{tp:Pos}(a it en:Addr)(hne:en≠it):
  Turn P w K (.Tuple elts x1 tp) (Ite K a) [en,it] en (λi h=>(∃old,IsEnum h en it ((i:Nat):Int) old)/\h.IsListIter it a i) where
 mem:=by simp
 obj:=λi h st b hb=>by
  obtain⟨⟨old,he⟩,hi⟩:=st;rcases Dz.mp hb with e|e
  .subst e;exact⟨_,he,λv z=>by have z':Data.fields _=Data.cell v:=z;cases z'⟩
  .have e:b=it:=by simpa using e
   subst e;obtain⟨o,e,c,d⟩:=hi;exact⟨o,e,λv z=>by rw[d]at z;cases z⟩
 keep:=λi h h' st k=>⟨let⟨old,he⟩:=st.1;⟨old,k en (by simp) _ he⟩,st.2.at λo e=>k it (by simp) o e⟩
 item:=by
  intro X hP hw hK hc i pins s σ H E I hf st hg;subst hP hw hK;obtain⟨xs,x,hq,hx⟩:=hg;obtain⟨⟨old,he⟩,hit⟩:=st;obtain⟨its,rv,p,hz⟩:=I.list hq;obtain⟨u,hu,ru⟩:=rv.get hx;obtain⟨f0,f1,f2,f3,f4,f5⟩:=hf en (by simp);obtain⟨g0,g1,g2,g3,g4,g5⟩:=hf it (by simp);refine wpAny_pyNext_enum_item he hit p.isList (x:=u) (by simpa using hu) hne λh₁ heo hit₁ ht₁ hz₁ hk₁=> ?_;refine⟨_,rfl,wpAny_letOwnedTupleGo_enum heo λh₂ he₂ hs₂=> ?_⟩;replace hs₂:Heap.SameBut en h₁ h₂:=hs₂;have hen:en<s.heap.objs.size:=DF he;obtain⟨oi,hoi,hoc,hod⟩:=id hit;have hitl:it<s.heap.objs.size:=DF hoi;have hfr:H s.heap.objs.size=none:=I.fresh;have ht₂:h₂.get? s.heap.objs.size=some {cls:= .type "tuple",data:= .seq #[.int i s.toks,u]}:=(hs₂.2 _ (F9 hen)).trans ht₁;have kk:∀b o,b≠en->b≠it->s.heap.get? b=some o->h₂.get? b=some o:=λb o h1 h2 e=>(hs₂.2 b h1).trans (hk₁ b o h1 h2 e);have I1:Inv X pins σ H {s with heap:=h₂,gens:=s.gens,drawn:=s.drawn,toks:=s.toks+1}:=I.own [en,it] hf λb o hb e=>kk b o (λz=>hb (by simp[z])) (λz=>hb (by simp[z])) e;have hsz2:h₂.objs.size=s.heap.objs.size+1:=hs₂.1.trans hz₁;have I2:Inv X pins σ (upd H s.heap.objs.size (.tup [.int (i:Nat),x])) {s with heap:=h₂,toks:=s.toks+1}:=I.pairIn I1 ⟨_,rfl⟩ ru ht₂;refine⟨.ref s.heap.objs.size,_,I2,rfl,⟨_,rfl,hfr,x,λys hy=>by rw[I.list_inj hy hq];exact hx,rfl⟩,⟨⟨u,?_⟩,?_⟩,λb hb=> ?_⟩
  .have:((i+1:Nat):Int)=(i:Int)+1:=by lia
   rw[this];exact he₂
  .obtain⟨o,e,c,d⟩:=hit₁;exact⟨o,(hs₂.2 it (E8 hne)).trans e,c,d⟩
  .rcases Dz.mp hb with e|e
   .rw[e,aw (DQ hen)];exact f0
   .have e:b=it:=by simpa using e
    rw[e,aw (DQ hitl)];exact g0
 done:=by intro X hP hw hK hc i pins s σ H E I hf st hg;subst hP hw hK;obtain⟨xs,hq,hx⟩:=hg;obtain⟨⟨old,he⟩,hit⟩:=st;obtain⟨its,rv,p,hz⟩:=I.list hq;obtain⟨g0,g1,g2,g3,g4,g5⟩:=hf it (by simp);have hl:=rv.length;exact wpAny_pyNext_enum_end (I.ok.hd hc) he hit p.isList (by simp;lia) λh' eb=>⟨rfl,I.turned (t':=s.toks) (λb o hb e=>eb b o hb e) g0 g1 g3 g4 g5⟩
 self:=λ_ _ _ _ _ st h=>let⟨_,he⟩:=st.1;wpAny_pyIter_enum he h
section
variable{X:Cx}{elts:List Expr}{x1:Nat}{tp:Pos}
def A3(K:PySem.W.Frag)(ta:TA):TI:=λσ H R=>ta σ H λvs H1=>∃a,vs=[.ref a]/\(∃xs,H1 a=some (.lst xs))/\R (Ite K a) H1
theorem Ah{a:Expr}{ta:TA}{p pos:Pos}(hg:Gl X "enumerate")(hm:X.mg "enumerate"=none)(ha:PA X [a] ta)(hs:starEach [a] X.env=[(false,eval a X.env)]:=by rfl):PI X (.Tuple elts x1 tp) (.Call (.Name "enumerate" p) [a] [] pos) (A3 X.K ta):=by
 intro pins s σ H R I h;refine Call_ (dz I hg hm boot_enumerate (E1 (thn (ha pos pins s σ H _ I h) λus s1 ⟨vs,H1,I1,r1,q1⟩=> ?_) hs rfl));obtain⟨l,e,⟨xs,hx⟩,q⟩:=q1;subst e;obtain⟨u,rfl,ru⟩:=r1.one;cases ru;obtain⟨z,its,n,r,hl,e⟩:=I1.lstM hx;refine call_enumerate_1 e λh' he hi hsz hk=> ?_;refine wpAny_pyIter_enum he ⟨s1.heap.objs.size+1,[s1.heap.objs.size+1,s1.heap.objs.size],_,Ite X.K l,H1,rfl,I1.kept (t':=s1.toks) hk,uG l _ _ (Nat.succ_ne_self _),⟨⟨_,he⟩,hi⟩,λb hb=> ?_,q⟩;have hb':s1.heap.objs.size<=b:=by
  rcases Dz.mp hb with e|e
  .rw[e];exact Gk _
  .have e:b=s1.heap.objs.size:=by simpa using e
   rw[e];exact Dl _
 exact I1.fpOk hb' (I1.hok.fresh hb')
end
structure Cal(P:Program)(w:World)(K:PySem.W.Frag)(mg:Str->Option Value)(base:Heap)(k:Nat)(x:Str)(ps:List Str)(sp:Sp):Prop where
 ex:∃ (f:Addr) (fd:FuncData),fq P w K mg base CX0 k f fd ps sp/\mg x=some (.ref f)/\keepIn K (.ref f)=true/\fv K fd ps []
structure aY(K:PySem.W.Frag)(mg:Str->Option Value)(x:Str)(st:Stmt)(ps:List Str):Prop where
 ex:∃ (f:Addr) (fd:FuncData),Fun K x x st f fd/\fv K fd ps []/\mg x=some (.ref f)
theorem B2{K:PySem.W.Frag}{h:Heap}{mg:Str->Option Value}{x:Str}{st:Stmt}{ps:List Str}{f:Addr}{oc:Value}{od an:Option Addr}{osl:Array (Option Value)}{kV doc pm cdv ct:Value}(X:K.In h)(G:h.Ns mainGlobals mg)
  (a:nsIn K mainGlobals x=some (some (.ref f))) (l:K.lookup f=some ⟨oc,od, .func (fnOf x x (a6 st) (aF st) (ao st) .none kV doc pm an cdv ct),osl⟩)
  (c:codeIn K cdv x=true) (k:keepIn K (.ref f)=true)
  (b:∀ (kV doc pm:Value) (an:Option Addr) (cdv ct:Value) (us:List Value),us.length=ps.length->bindArgs (fnOf x x (a6 st) (aF st) (ao st) .none kV doc pm an cdv ct) ⟨us,[]⟩=pure (ps.zip us)):aY K mg x st ps:=
 ⟨f,_,iM (st:=st) l c k,(iM (st:=st) l c k).binds b,Fj X G a⟩
section
variable{P:Program}{w:World}{K:PySem.W.Frag}{mg:Str->Option Value}{base:Heap}
theorem aY.cal{x:Str}{st:Stmt}{N ps:List Str}{k:Nat}{sp:Sp}(D:aY K mg x st ps)(S:aB N ps (ao st))(len:∀vs H Q E,sp vs H Q E->vs.length=ps.length)
  (hbody:∀ (f:Addr) (cdv:Value) (A:Around) (outer:List Env) (s:Shared) (H:Hp) (vs:List V) (Q:VK) (E:XK),Room k (A.deeper (envOfC x (ao st) s.heap.objs.size f cdv))->sp vs H Q E->
   ∃t,PSs (iP CX0 P w K mg base N x (ao st) f cdv A outer s H E).nox (aF st) t/\t {nx:=λ_ H'=>Q .non H',rt:=Q} (start N vs) H):Cal P w K mg base (k+1) x ps sp:=by
 obtain⟨f,fd,F,b,m⟩:=D.ex;exact⟨f,fd,F.ok S len λcdv A outer s H vs Q E hr hsp=>hbody f cdv A outer s H vs Q E hr hsp,m,F.kp,b⟩
theorem Cal.mono(C:Cal P w K mg base j x ps sp)(h:j<=k):Cal P w K mg base k x ps sp:=by obtain⟨f,fd,F,m,kp,b⟩:=C.ex;exact⟨f,fd,F.mono h,m,kp,b⟩
end
section
variable{X:Cx}{x:Str}{ps:List Str}{j k:Nat}{sp:Sp}{e:Expr}{es:List Expr}{t:TA}{p pos:Pos}
theorem BD(C:Cal X.prog X.w X.K X.mg X.base j x ps sp)(hr:Room k X.A)(hjk:j<=k)(hg:Gl X x)(ha:PA X (e::es) t)(hdb:(x==("__debug__":Str))=false:=by decide)
  (he:starEach (e::es) X.env=(false,eval e X.env)::starEach es X.env:=by rfl) (hpl:(backTo pos (starEach es X.env)).any (·.1)=false:=by rfl):PE X (.Call (.Name x p) (e::es) [] pos) (wW sp [] E0 t):=by
 obtain⟨f,fd,F,m,kp,b⟩:=C.ex;exact Am F (hr.mono hjk) hg m kp b .nil o8 ha hdb he hpl
end
end L2
namespace L2
open PySem PySem.Spec PyProof.Rows
theorem Same.upd{H H1:Hp}{l:Addr}{o:HO}(e:Same H H1)(h:H l=none):Same H (upd H1 l o):=λb u q=>by rw[aw (au q h)];exact e b u q
theorem Same.new(h:H l=none):Same H (L2.upd H l o):=(Same.refl H).upd h
theorem Same.at(e:Same H H1)(h:H l=some o):H1 l=some o:=e l o h
def b9(p:Nat->Bool)(f:Nat->V)(i:Nat):List V:=((List.range i).filter p).map f
theorem rB(p:Nat->Bool)(f:Nat->V)(i:Nat):b9 p f (i+1)=if p i=true then b9 p f i++[f i]else b9 p f i:=by unfold b9;rw[ES,Gf,Ei];cases hp:p i<;>simp[hp]
theorem vc(p:Nat->Bool)(f:Nat->V)(i:Nat):(b9 p f i).length<=i:=by unfold b9;rw[Di];exact Du (FA _ _) (by simp)
theorem bQ{lo:Int}{n:Nat}{g:TG}{tc:TT}{te:TE}{nv:Nat}{fr:List Nat}{σ:St}{H:Hp}{Q:VK}(p:Nat->Bool)(f:Nat->V)(hn:n<=sizeLine)
  (hs:∀ (i:Nat) (vs:St) (H':Hp) (R:V->St->Hp->Prop) (S:St->Hp->Prop),i<n->vs.length=nv->Same H H'->
   (∀vs' H'',vs'.length=nv->Same H' H''->if p i=true then R (f i) (vs'++fr.map λj=>(σ[j]?).join) H'' else S (vs'++fr.map λj=>(σ[j]?).join) H'')->
   g (.int (lo+i)) (vs++fr.map λj=>(σ[j]?).join) H' λσ2 H3=>tc σ2 H3 λb H4=>if b=true then te σ2 H4 λy H5=>R y σ2 H5 else S σ2 H4)
  (hd:∀D H',H D=none->Same H H'->H' D=some (.lst (b9 p f n))->Q (.ref D) H'):LCW (Itr lo n) g tc te nv fr σ H Q:=by
 intro D hD;refine⟨λi m σ' H'=>m=n-i/\i<=n/\∃vs:St,vs.length=nv/\σ'=vs++(fr.map λj=>(σ[j]?).join)/\Same H H'/\H' D=some (.lst (b9 p f i)),⟨n,by simp,DV _,List.replicate nv none,by simp,rfl,Same.new hD,ag⟩,?_⟩;rintro i m σ' H' ⟨rfl,hi,vs,hv,rfl,sm,hD'⟩;by_cases hlt:i<n
 .refine .inr ⟨hlt,λσ'' H''=>∃vs:St,vs.length=nv/\σ''=vs++(fr.map λj=>(σ[j]?).join)/\Same H H''/\H'' D=some (.lst (b9 p f (i+1))),λσ'' H'' q=>⟨n- (i+1),Eh hlt (D9 _),rfl,hlt,q⟩,λx H2 y=> ?_⟩;obtain⟨e1,e2⟩:=y;subst e1 e2;refine hs i vs _ (λy σ2 H5=>∃xs,H5 D=some (.lst xs)/\xs.length<sizeLine/\∃vs:St,vs.length=nv/\σ2=vs++(fr.map λj=>(σ[j]?).join)/\Same H (upd H5 D (.lst (xs++[y])))/\upd H5 D (.lst (xs++[y])) D=some (.lst (b9 p f (i+1)))) _ hlt hv sm λvs' H'' hv' sm'=> ?_;have e:=rB p f i;cases hp:p i with
  |true=>
   rw[hp,Dp rfl]at e;rw[Dp rfl];exact⟨_,sm' D _ hD',Dw (vc p f i) (Dq hlt hn),vs',hv',rfl,(sm.trans sm').upd hD,by rw[ag,e]⟩
  |false=>
   rw[hp,Dt Dr]at e;rw[Dt Dr];exact⟨vs',hv',rfl,sm.trans sm',by rw[e];exact sm' D _ hD'⟩
 .have e:i=n:=Ew hi (Ef hlt);subst e;exact .inl ⟨Dl _,hd D H' hD sm hD'⟩
def dn(p:V->Bool)(f:V->V)(xs:List V):List V:=(xs.filter p).map f
theorem jY(p:V->Bool)(f:V->V)(xs:List V)(i:Nat)(x:V)(h:xs[i]?=some x):dn p f (xs.take (i+1))=if p x=true then dn p f (xs.take i)++[f x]else dn p f (xs.take i):=by unfold dn;rw[EB,h,Gf,Ei];cases hp:p x<;>simp[hp]
theorem lY(p:V->Bool)(f:V->V)(xs:List V):(dn p f xs).length<=xs.length:=by unfold dn;rw[Di];exact FA _ _
theorem bR{K:PySem.W.Frag}{a:Addr}{xs:List V}{g:TG}{tc:TT}{te:TE}{nv:Nat}{fr:List Nat}{σ:St}{H:Hp}{Q:VK}(p:V->Bool)(f:V->V)(ha:SqL K H a xs)(hn:xs.length<=sizeLine)
  (hs:∀ (i:Nat) (x:V) (vs:St) (H':Hp) (R:V->St->Hp->Prop) (S:St->Hp->Prop),xs[i]?=some x->vs.length=nv->Same H H'->
   (∀vs' H'',vs'.length=nv->Same H' H''->if p x=true then R (f x) (vs'++fr.map λj=>(σ[j]?).join) H'' else S (vs'++fr.map λj=>(σ[j]?).join) H'')->
   g x (vs++fr.map λj=>(σ[j]?).join) H' λσ2 H3=>tc σ2 H3 λb H4=>if b=true then te σ2 H4 λy H5=>R y σ2 H5 else S σ2 H4)
  (hd:∀D H',H D=none->Same H H'->H' D=some (.lst (dn p f xs))->Q (.ref D) H'):LCW (Itl K a) g tc te nv fr σ H Q:=by
 intro D hD;refine⟨λi m σ' H'=>m=xs.length-i/\i<=xs.length/\∃vs:St,vs.length=nv/\σ'=vs++(fr.map λj=>(σ[j]?).join)/\Same H H'/\H' D=some (.lst (dn p f (xs.take i))),⟨xs.length,by simp,DV _,List.replicate nv none,by simp,rfl,Same.new hD,ag⟩,?_⟩;rintro i m σ' H' ⟨rfl,hi,vs,hv,rfl,sm,hD'⟩;have ha':=sm.seq ha;by_cases hlt:i<xs.length
 .refine .inr ⟨⟨xs,xs[i],ha',by simp[hlt]⟩,λσ'' H''=>∃vs:St,vs.length=nv/\σ''=vs++(fr.map λj=>(σ[j]?).join)/\Same H H''/\H'' D=some (.lst (dn p f (xs.take (i+1)))),λσ'' H'' q=>⟨xs.length- (i+1),Eh hlt (D9 _),rfl,hlt,q⟩,λx H2 y=> ?_⟩;obtain⟨e1,e2⟩:=y;subst e1;have hx:=e2 xs ha';refine hs i x vs _ (λy σ2 H5=>∃xs',H5 D=some (.lst xs')/\xs'.length<sizeLine/\∃vs:St,vs.length=nv/\σ2=vs++(fr.map λj=>(σ[j]?).join)/\Same H (upd H5 D (.lst (xs'++[y])))/\upd H5 D (.lst (xs'++[y])) D=some (.lst (dn p f (xs.take (i+1))))) _ hx hv sm λvs' H'' hv' sm'=> ?_;have e:=jY p f xs i x hx;cases hp:p x with
  |true=>
   rw[hp,Dp rfl]at e;rw[Dp rfl];refine⟨_,sm' D _ hD',Dw (lY p f _) ?_,vs',hv',rfl,(sm.trans sm').upd hD,by rw[ag,e]⟩;rw[Em];lia
  |false=>
   rw[hp,Dt Dr]at e;rw[Dt Dr];exact⟨vs',hv',rfl,sm.trans sm',by rw[e];exact sm' D _ hD'⟩
 .have e:i=xs.length:=Ew hi (Ef hlt);subst e;refine .inl ⟨⟨xs,ha',Dl _⟩,hd D H' hD sm ?_⟩;rw[Fg]at hD';exact hD'
def cN(p:Nat->V->Bool)(f:Nat->V->V):Nat->List V->List V
 |_,[]=>[]
 |i,x::r=>if p i x=true then f i x::cN p f (i+1) r else cN p f (i+1) r
theorem jZ(p:Nat->V->Bool)(f:Nat->V->V):∀ (i:Nat) (xs:List V) (x:V),cN p f i (xs++[x])=if p (i+xs.length) x=true then cN p f i xs++[f (i+xs.length) x]else cN p f i xs
 |i,[],x=>by simp[cN]
 |i,y::r,x=>by
  have e:i+(y::r).length=i+1+r.length:=by simp;lia
  rw[List.cons_append,cN,jZ p f (i+1) r x,e]
  conv=>rhs;rw[cN]
  by_cases h1:p i y=true<;>by_cases h2:p (i+1+r.length) x=true<;>simp[h1,h2]
theorem lZ(p:Nat->V->Bool)(f:Nat->V->V):∀ (i:Nat) (xs:List V),(cN p f i xs).length<=xs.length
 |_,[]=>Dl _
 |i,x::r=>by have:=lZ p f (i+1) r;rw[cN];split<;>simp<;>lia
theorem yu{K:PySem.W.Frag}{a:Addr}{xs:List V}{g:TG}{tc:TT}{te:TE}{nv:Nat}{fr:List Nat}{σ:St}{H:Hp}{Q:VK}(p:Nat->V->Bool)(f:Nat->V->V)(ha:SqL K H a xs)(hn:xs.length<=sizeLine)
  (hs:∀ (i:Nat) (x:V) (t:Addr) (vs:St) (H':Hp) (R:V->St->Hp->Prop) (S:St->Hp->Prop),xs[i]?=some x->vs.length=nv->Same H H'->H' t=some (.tup [.int (i:Nat),x])->
   (∀vs' H'',vs'.length=nv->Same H' H''->if p i x=true then R (f i x) (vs'++fr.map λj=>(σ[j]?).join) H'' else S (vs'++fr.map λj=>(σ[j]?).join) H'')->
   g (.ref t) (vs++fr.map λj=>(σ[j]?).join) H' λσ2 H3=>tc σ2 H3 λb H4=>if b=true then te σ2 H4 λy H5=>R y σ2 H5 else S σ2 H4)
  (hd:∀D H',H D=none->Same H H'->H' D=some (.lst (cN p f 0 xs))->Q (.ref D) H'):LCW (Ite K a) g tc te nv fr σ H Q:=by
 intro D hD;refine⟨λi m σ' H'=>m=xs.length-i/\i<=xs.length/\∃vs:St,vs.length=nv/\σ'=vs++(fr.map λj=>(σ[j]?).join)/\Same H H'/\H' D=some (.lst (cN p f 0 (xs.take i))),⟨xs.length,by simp,DV _,List.replicate nv none,by simp,rfl,Same.new hD,ag⟩,?_⟩;rintro i m σ' H' ⟨rfl,hi,vs,hv,rfl,sm,hD'⟩;have ha':=sm.seq ha;by_cases hlt:i<xs.length
 .refine .inr ⟨⟨xs,xs[i],ha',by simp[hlt]⟩,λσ'' H''=>∃vs:St,vs.length=nv/\σ''=vs++(fr.map λj=>(σ[j]?).join)/\Same H H''/\H'' D=some (.lst (cN p f 0 (xs.take (i+1)))),λσ'' H'' q=>⟨xs.length- (i+1),Eh hlt (D9 _),rfl,hlt,q⟩,λx H2 y=> ?_⟩;obtain⟨t,e1,ht,v,e2,e3⟩:=y;subst e1 e3;have hx:=e2 xs ha';have sm1:Same H' (upd H' t (.tup [.int (i:Nat),v])):=Same.new ht;refine hs i v t vs _ (λy σ2 H5=>∃xs',H5 D=some (.lst xs')/\xs'.length<sizeLine/\∃vs:St,vs.length=nv/\σ2=vs++(fr.map λj=>(σ[j]?).join)/\Same H (upd H5 D (.lst (xs'++[y])))/\upd H5 D (.lst (xs'++[y])) D=some (.lst (cN p f 0 (xs.take (i+1))))) _ hx hv (sm.trans sm1) ag λvs' H'' hv' sm'=> ?_;have e:cN p f 0 (xs.take (i+1))=if p i v=true then cN p f 0 (xs.take i)++[f i v]else cN p f 0 (xs.take i):=by rw[EB,hx];show cN p f 0 (xs.take i++[v])=_;rw[jZ,Em,Iq hi,Hh]
  have hD'':=sm' D _ (sm1 D _ hD');cases hp:p i v with
  |true=>
   rw[hp,Dp rfl]at e;rw[Dp rfl];refine⟨_,hD'',Dw (lZ p f _ _) ?_,vs',hv',rfl,((sm.trans sm1).trans sm').upd hD,by rw[ag,e]⟩;rw[Em];lia
  |false=>
   rw[hp,Dt Dr]at e;rw[Dt Dr];exact⟨vs',hv',rfl,(sm.trans sm1).trans sm',by rw[e];exact hD''⟩
 .have e:i=xs.length:=Ew hi (Ef hlt);subst e;refine .inl ⟨⟨xs,ha',Dl _⟩,hd D H' hD sm ?_⟩;rw[Fg]at hD';exact hD'
end L2
namespace L2
open PySem PySem.Spec PyProof.Rows
inductive RdN(K:PySem.W.Frag)(xs:List V)(H:Hp)(Q:VK):Prop
 |mk (p:Addr) (ys:List V) (e:xs=[.ref p]) (s:SqL K H p ys\/SqT K H p ys) (q:Q (.int ys.length) H):RdN K xs H Q
def AX(K:PySem.W.Frag):List V->Hp->VK->Prop:=λxs H Q=>RdN K xs H Q
def zZ(K:PySem.W.Frag):List V->Hp->VK->Prop:=λxs H Q=>∃p ys,xs=[.ref p]/\(SqL K H p ys\/SqT K H p ys)/\∀l,H l=none->Q (.ref l) (upd H l (.lst ys))
section
variable{X:Cx}{K:PySem.W.Frag}
theorem pN(h:X.K=K):IxR X (z6 K):=by subst h;exact AH
theorem AG(h:X.K=K):IxR X (Bq K):=by subst h;exact BW
theorem rF(h:X.K=K):OpR X (compareOp .In) (rIn K false):=by subst h;exact ve
theorem lK(h:X.K=K):bX X (.builtin "len") (AX K):=by subst h;intro pins s σ H xs us Q I r hq;obtain⟨p,ys,e,hs,q⟩:=hq;exact oh pins s σ H xs us Q I r ⟨p,ys,e,hs,q⟩
theorem gp(h:X.K=K):bX X (.type "list") (zZ K):=by subst h;exact og
theorem c6(h:X.K=K):bX X (.builtin "isinstance") (CA K):=by subst h;exact qe
theorem wk(h:X.K=K)(hc:X.calm=true):bX X (.builtin "sum") (Cw K):=by subst h;exact zh hc
theorem Ap(h:X.K=K)(hu:X.A.units+64<cLine):OpR X (compareOp .Eq) (CB K):=by subst h;exact BH hu
theorem dP(h:X.K=K):SlR X (Cy K):=by subst h;exact zO
theorem An{o:Expr}{to:TE}{name:Str}{apos cpos:Pos}{T id:String}{r:V->List V->Hp->VK->Prop}(h:X.K=K)(pa:PlainAttrs T)(slot:Slot T name id)(hty:typeOf (.builtin id)=pure (.type "method_descriptor"))(hm:MtR X id r)(ho:PE X o to)
  (hbase:attributeBase o name X.env (eval o X.env)=eval o X.env:=by rfl) (hline:(apos.endLine==cpos.line)=true:=by rfl):PE X (.Call (.Attribute o name apos) [] [] cpos) (Cr K T r to):=by subst h;exact BE pa slot hty hm ho hbase hline
theorem fc{o e:Expr}{es:List Expr}{to:TE}{t:TA}{name:Str}{apos cpos:Pos}{T id:String}{r:V->List V->Hp->VK->Prop}(h:X.K=K)(pa:PlainAttrs T)(slot:Slot T name id)(hty:typeOf (.builtin id)=pure (.type "method_descriptor"))(hm:MtR X id r)(ho:PE X o to)(ha:PA X (e::es) t)
  (hbase:attributeBase o name X.env (eval o X.env)=eval o X.env:=by rfl)
  (hfew:((backTo cpos (starEach (e::es) X.env)).all (λx=> !x.1)&&(backToKw cpos (keywordEach [] X.env)).all (λx=>x.1.isSome)
   &&decide ((e::es).length+([]:List Keyword).length+(if([]:List Keyword).isEmpty then 0 else 1)<30))=true:=by rfl)
  (hline:(apos.endLine==cpos.line)=true:=by rfl) (hs:starEach (e::es) X.env=(false,eval e X.env)::starEach es X.env:=by rfl) (hplain:(backTo cpos (starEach es X.env)).any (·.1)=false:=by rfl):
  PE X (.Call (.Attribute o name apos) (e::es) [] cpos) (tBM K T r to t):=by subst h;exact CD pa slot hty hm ho ha hbase hfew hline hs hplain
theorem xv(h:X.K=K)(hl:PE X l tl):PI X tg l (yJ K tl):=by subst h;exact Ag hl
theorem Af(h:X.K=K)(hl:PE X l tl):PI X tg l (BX K tl):=by subst h;exact Bv hl
theorem o7{elts:List Expr}{x1:Nat}{tp:Pos}{a:Expr}{ta:TA}{p pos:Pos}(h:X.K=K)(hg:Gl X "enumerate")(hm:X.mg "enumerate"=none)(ha:PA X [a] ta)(hs:starEach [a] X.env=[(false,eval a X.env)]:=by rfl):
  PI X (.Tuple elts x1 tp) (.Call (.Name "enumerate" p) [a] [] pos) (A3 K ta):=by subst h;exact Ah hg hm ha hs
theorem cJ{es:List Expr}{k:Nat}{t:TGs}{n:Nat}{pos:Pos}(h:X.K=K)(hc:X.calm=true)(hp:PGs X es t)(hn:(assignEach es X.env).length=n:=by rfl)(hst:(assignEach es X.env).findIdx? (·.1)=none:=by rfl):
  PG X (.Tuple es k pos) (CM K n t):=by subst h;exact Bw hc hp hn hst
end
end L2
namespace L2
open PySem PySem.Spec PyProof.Rows
def je(H H':Hp):Prop:=∀b xs,H b=some (.tup xs)->H' b=some (.tup xs)
theorem Same.tups(e:Same H H'):je H H':=λb xs h=>e b _ h
theorem je.refl(H:Hp):je H H:=λ_ _ h=>h
theorem je.trans(a:je H H1)(b:je H1 H2):je H H2:=λc o h=>b c o (a c o h)
def Tups(H:Hp)(xs:List V)(ps:List (Int×Int)):Prop:=Paired (λx (q:Int×Int)=>∃t,x=V.ref t/\H t=some (.tup [.int q.1, .int q.2])) xs ps
theorem Tups.same(h:Tups H xs ps)(e:je H H'):Tups H' xs ps:=Paired.mapP h λ_ _ ⟨t,h1,h2⟩=>⟨t,h1,e t _ h2⟩
theorem Tups.len{xs:List V}{ps:List (Int×Int)}(h:Tups H xs ps):xs.length=ps.length:=Gy h
theorem Paired.at:∀ {a:List α} {b:List β} {i:Nat} {x:α},Paired F a b->a[i]?=some x->∃y,b[i]?=some y/\F x y
 |_,_,_,_, .nil,h=>by simp at h
 |a::_,b::_,0,x, .cons r t,h=>by
  have e:a=x:=by simpa using h
  subst e;exact⟨b,rfl,r⟩
 |_,_,i+1,x, .cons r t,h=>by obtain⟨y,h1,h2⟩:=Paired.at (i:=i) t (by simpa using h);exact⟨y,by simpa using h1,h2⟩
end L2
namespace L2
open PySem PySem.Spec PyProof.Rows
structure cB(K:PySem.W.Frag)(m qual:Str)(st:Stmt)(ps:List Str)(f:Addr):Prop where
 ex:∃fd:FuncData,Fun K m qual st f fd/\fv K fd ps []
theorem BP{K:PySem.W.Frag}{m qual:Str}{st:Stmt}{ps:List Str}{f:Addr}{oc:Value}{od an:Option Addr}{osl:Array (Option Value)}{kV doc pm cdv ct:Value}
  (l:K.lookup f=some ⟨oc,od, .func (fnOf m qual (a6 st) (aF st) (ao st) .none kV doc pm an cdv ct),osl⟩) (c:codeIn K cdv qual=true) (k:keepIn K (.ref f)=true)
  (b:∀ (kV doc pm:Value) (an:Option Addr) (cdv ct:Value) (us:List Value),us.length=ps.length->bindArgs (fnOf m qual (a6 st) (aF st) (ao st) .none kV doc pm an cdv ct) ⟨us,[]⟩=pure (ps.zip us)):cB K m qual st ps f:=
 ⟨_,iM (st:=st) l c k,(iM (st:=st) l c k).binds b⟩
structure b7(P:Program)(w:World)(K:PySem.W.Frag)(mg:Str->Option Value)(base:Heap)(k:Nat)(f:Addr)(ps:List Str)(sp:Sp):Prop where
 ex:∃fd:FuncData,fq P w K mg base CX0 k f fd ps sp/\fv K fd ps []
 kp:keepIn K (.ref f)=true
structure cn(P:Program)(w:World)(K:PySem.W.Frag)(mg:Str->Option Value)(base:Heap)(k:Nat)(C:Addr)(m:Str)(ps:List Str)(sp:Sp):Prop where
 cl:Cls K C
 ex:∃f,Meth K C m f/\b7 P w K mg base k f ps sp
structure iu(P:Program)(w:World)(K:PySem.W.Frag)(mg:Str->Option Value)(base:Heap)(k:Nat)(x:Str)(C:Addr)(ps:List Str)(sp:Sp):Prop where
 ex:∃f,Mk K C f/\b7 P w K mg base k f ps sp
 g:mg x=some (.ref C)
structure qQ(P:Program)(w:World)(K:PySem.W.Frag)(mg:Str->Option Value)(base:Heap)(k:Nat)(C:Addr)(m:Str)(ps:List Str)(sp:Sp):Prop where
 ex:∃f,b7 P w K mg base k f ps sp/\PySem.W.findCls K (.ref C) (.type "type") m=some (.val (.ref f))
 ga:specialIn K (.ref C) "__getattribute__"=some (some (.builtin "type.__getattribute__"))
 rd:PySem.W.readsIn K C (.type "type")=true
section
variable{P:Program}{w:World}{K:PySem.W.Frag}{mg:Str->Option Value}{base:Heap}
theorem cB.fn{m qual:Str}{st:Stmt}{N ps:List Str}{k:Nat}{sp:Sp}{f:Addr}(D:cB K m qual st ps f)(S:aB N ps (ao st))(len:∀vs H Q E,sp vs H Q E->vs.length=ps.length)
  (hbody:∀ (cdv:Value) (A:Around) (outer:List Env) (s:Shared) (H:Hp) (vs:List V) (Q:VK) (E:XK),Room k (A.deeper (envOfC qual (ao st) s.heap.objs.size f cdv))->sp vs H Q E->
   ∃t,PSs (iP CX0 P w K mg base N qual (ao st) f cdv A outer s H E).nox (aF st) t/\t {nx:=λ_ H'=>Q .non H',rt:=Q} (start N vs) H):b7 P w K mg base (k+1) f ps sp:=by
 obtain⟨fd,F,b⟩:=D.ex;exact⟨⟨fd,F.ok S len hbody,b⟩,F.kp⟩
theorem b7.mono(C:b7 P w K mg base j f ps sp)(h:j<=k):b7 P w K mg base k f ps sp:=by obtain⟨⟨fd,F,b⟩,kp⟩:=C;exact⟨⟨fd,F.mono h,b⟩,kp⟩
end
inductive RdM(Dom:Addr->Prop)(m:Str)(spf:Addr->Sp)(t:TA)(σ:St)(Q:VK)(x:V)(H:Hp):Prop
 |mk (a C dx:Addr) (fs:List (Str×V)) (e:x= .ref a) (h:H a=some (.ins C dx fs)) (d:Dom C) (l:fs.lookup m=none) (q:t σ H λvs H2=>spf C (x::vs) H2 Q E0):RdM Dom m spf t σ Q x H
def wU(Dom:Addr->Prop)(m:Str)(spf:Addr->Sp)(ta:TE)(t:TA):TE:=λσ H Q=>ta σ H (RdM Dom m spf t σ Q)
def Cq(C:Addr)(sp:Sp)(ta:TE)(t:TA):TE:=λσ H Q=>ta σ H λx H1=>x= .ref C/\t σ H1 λvs H2=>sp vs H2 Q E0
section
variable{X:Cx}{j k:Nat}{C:Addr}{x m:Str}{ps:List Str}{sp:Sp}{Dom:Addr->Prop}{spf:Addr->Sp}{e o:Expr}{es:List Expr}{ta:TE}{t:TA}{p pos apos:Pos}
theorem cY{pl:Sem Bool}(M:∀C,Dom C->cn X.prog X.w X.K X.mg X.base j C m ps (spf C))(hr:Room k X.A)(hjk:j<=k)(he:PE X o ta)(ha:PA X (e::es) t)
  (hst:starEach (e::es) X.env=(false,eval e X.env)::starEach es X.env:=by rfl) (hpl:(backTo pos (starEach es X.env)).any (·.1)=false:=by rfl)
  (ht:eval (.Call (.Attribute o m apos) (e::es) [] pos) X.env=(do
   let ov<-eval o X.env
   standAt apos.atName
   let(f,first)<-holding [ov] (getMethod ov m pl)
   callWith pos f first (backTo pos (starEach (e::es) X.env)) (backToKw pos (keywordEach [] X.env))):=by rfl):
  PE X (.Call (.Attribute o m apos) (e::es) [] pos) (wU Dom m spf ta t):=by
 intro pins s σ H Q I h;refine GZ (pl:=pl) (thn (he pins s σ H _ I h) λu s1 hq_=> ?_) ht;obtain⟨x,H1,I1,rx,a,C,dx,fs,ex,ea,dm,l,q⟩:=hq_;subst ex;obtain rfl:u=Value.ref a:=rx;obtain⟨c,f,hm,⟨fd,F,hb⟩,kp⟩:=M C dm;refine kE I1 ea c hm l ?_;refine GI (first:=[.ref a]) (h₀:=X.base) I.ok.mod.kin hm.kp (thn (ha pos pins s1 σ H1 _ I1 q) λus s2 ⟨vs,H2,I2,r,q2⟩=>⟨I2.kIn,?_⟩) hst hpl;exact ny (us:= .ref a::us) (vs:= .ref a::vs) (dvs:=[]) F (hr.mono hjk) hb .nil o8 I2 (.cons rfl r) (by rw[GC];exact q2)
theorem dU{pl:Sem Bool}(M:∀C,Dom C->cn X.prog X.w X.K X.mg X.base j C m ps (spf C))(hr:Room k X.A)(hjk:j<=k)(he:PE X o ta)
  (ht:eval (.Call (.Attribute o m apos) [] [] pos) X.env=(do
   let ov<-eval o X.env
   standAt apos.atName
   let(f,first)<-holding [ov] (getMethod ov m pl)
   callWith pos f first (backTo pos (starEach [] X.env)) (backToKw pos (keywordEach [] X.env))):=by rfl):
  PE X (.Call (.Attribute o m apos) [] [] pos) (wU Dom m spf ta zK):=by
 intro pins s σ H Q I h;refine GZ (pl:=pl) (thn (he pins s σ H _ I h) λu s1 hq_=> ?_) ht;obtain⟨x,H1,I1,rx,a,C,dx,fs,ex,ea,dm,l,q⟩:=hq_;subst ex;obtain rfl:u=Value.ref a:=rx;obtain⟨c,f,hm,⟨fd,F,hb⟩,kp⟩:=M C dm;refine kE I1 ea c hm l ?_;exact PySem.W.callWith_K0 (first:=[.ref a]) I1.kIn hm.kp (ny (us:=[.ref a]) (vs:=[.ref a]) (dvs:=[]) F (hr.mono hjk) hb .nil o8 I1 (.cons rfl .nil) q)
theorem e8(M:iu X.prog X.w X.K X.mg X.base j x C ps sp)(hr:Room k X.A)(hjk:j+1<=k)(hg:Gl X x)(ha:PA X (e::es) t)(hdb:(x==("__debug__":Str))=false:=by decide)
  (he:starEach (e::es) X.env=(false,eval e X.env)::starEach es X.env:=by rfl) (hpl:(backTo pos (starEach es X.env)).any (·.1)=false:=by rfl):PE X (.Call (.Name x p) (e::es) [] pos) (AR C sp [] E0 t):=by
 obtain⟨⟨f,mk,⟨fd,F,b⟩,kp⟩,g⟩:=M;exact Aj mk F (hr.mono hjk) hg g b .nil o8 ha hdb he hpl
theorem fb{pl:Sem Bool}(M:qQ X.prog X.w X.K X.mg X.base j C m ps sp)(hr:Room k X.A)(hjk:j<=k)(he:PE X o ta)(ha:PA X (e::es) t)
  (hst:starEach (e::es) X.env=(false,eval e X.env)::starEach es X.env:=by rfl) (hpl:(backTo pos (starEach es X.env)).any (·.1)=false:=by rfl)
  (ht:eval (.Call (.Attribute o m apos) (e::es) [] pos) X.env=(do
   let ov<-eval o X.env
   standAt apos.atName
   let(f,first)<-holding [ov] (getMethod ov m pl)
   callWith pos f first (backTo pos (starEach (e::es) X.env)) (backToKw pos (keywordEach [] X.env))):=by rfl):
  PE X (.Call (.Attribute o m apos) (e::es) [] pos) (Cq C sp ta t):=by
 intro pins s σ H Q I h;refine GZ (pl:=pl) (thn (he pins s σ H _ I h) λu s1 ⟨x,H1,I1,rx,ex,q⟩=> ?_) ht;subst ex;obtain rfl:u=Value.ref C:=rx;obtain⟨⟨f,⟨⟨fd,F,hb⟩,kp⟩,hf⟩,ga,rd⟩:=M;refine PySem.W.method_cls I1.kIn ga (PySem.W.cls_value I1.kIn rd hf rfl ?_);have I1':=I1.tok (s1.toks+1);refine GI (first:=[]) (h₀:=X.base) I.ok.mod.kin kp (thn (ha pos pins _ σ H1 _ I1' q) λus s2 ⟨vs,H2,I2,r,q2⟩=>⟨I2.kIn,?_⟩) hst hpl;exact ny (us:=us) (vs:=vs) (dvs:=[]) F (hr.mono hjk) hb .nil o8 I2 r (by rw[GC];exact q2)
variable{K:PySem.W.Frag}{f:Str}{value:Expr}{tv:TE}{pos':Pos}
theorem Ak(h:X.K=K)(he:PE X e ta)(hb:attributeBase e f X.env (eval e X.env)=eval e X.env):PE X (.Attribute e f pos) (Bd K ta f):=by subst h;exact BC he hb
theorem Aa(h:X.K=K)(ha:PE X o ta)(hv:PE X value tv)(hs:swapsWith value (some (.Attribute o f pos')) pos.line X.env=pure false):PS X (.Assign [.Attribute o f pos'] value pos) (Bl K ta tv f):=by subst h;exact Bt ha hv hs
def AW(K:PySem.W.Frag):List V->Hp->VK->Prop:=λxs H Q=>∃ (a:Addr) (ns:List Int),xs=[.ref a]/\SqL K H a (ns.map V.int)/\ns≠[]/\∀m∈ns,(∀z∈ns,z<=m)->Q (.int m) H
theorem wo(hc:X.calm=true):bX X (.builtin "max") (AW X.K):=by
 intro pins s σ H vs us Q I rv h;obtain⟨a,ns,rfl,ha,hne,q⟩:=h;obtain⟨u,rfl,ru⟩:=rv.one;cases ru;obtain⟨is,r1,p1,_⟩:=I.list ha;have hi:=dY r1;obtain⟨xs,ex⟩:=hi.allInts.items;have hl:=p1.isList;rw[ex]at hl;have en:numsOf (intItems xs).toList=ns:=by rw[<-ex];exact hi.numsOf
 rw[nums_intItems]at en;have hsz:xs.size=ns.length:=by rw[<-en];simp
 have hpos:0<ns.length:=by
  cases ns with
  |nil=>exact absurd rfl hne
  |cons _ _=>simp
 have num:∀i,i<ns.length->ns[i]?=some (numAt xs i):=λi hi'=>by
  unfold numAt;rw[<-en,Dm,Fe];have:i<xs.size:=by lia
  rw[Fc this];rfl
 refine max_intList (I.ok.hd hc) hl (by lia) λv h' tk hv hk=> ?_;obtain⟨t,rfl⟩:=intItems_at hv;obtain⟨b1,b2⟩:=argBest_gt (numAt xs) (xs.size-1);refine⟨.int (numAt xs (argBest (λi j=>decide (numAt xs i>numAt xs j)) (xs.size-1))),H,I.kept hk,⟨_,rfl⟩,q _ ?_ λz hz=> ?_⟩
 .exact Dv (num _ (by lia))
 .obtain⟨i,hi'⟩:=Fm hz;have hil:i<ns.length:=(DB.mp hi').1;rw[num i hil]at hi';cases hi';exact b2 i (by lia)
theorem sk(h:X.K=K)(hc:X.calm=true):bX X (.builtin "max") (AW K):=by subst h;exact wo hc
variable{a b:Expr}{rest:List Expr}{tb:TE}
end
theorem AE{K:PySem.W.Frag}{a:Addr}{xs:List V}{g:TG}{tc:TT}{te:TE}{nv:Nat}{fr:List Nat}{σ:St}{H:Hp}{Q:VK}(p:V->Bool)(f:V->V)(ha:H a=some (.tup xs))(hn:xs.length<=sizeLine)
  (hs:∀ (i:Nat) (x:V) (vs:St) (H':Hp) (R:V->St->Hp->Prop) (S:St->Hp->Prop),xs[i]?=some x->vs.length=nv->Same H H'->
   (∀vs' H'',vs'.length=nv->Same H' H''->if p x=true then R (f x) (vs'++fr.map λj=>(σ[j]?).join) H'' else S (vs'++fr.map λj=>(σ[j]?).join) H'')->
   g x (vs++fr.map λj=>(σ[j]?).join) H' λσ2 H3=>tc σ2 H3 λb H4=>if b=true then te σ2 H4 λy H5=>R y σ2 H5 else S σ2 H4)
  (hd:∀D H',H D=none->Same H H'->H' D=some (.lst (dn p f xs))->Q (.ref D) H'):LCW (Itt K a) g tc te nv fr σ H Q:=by
 intro D hD;refine⟨λi m σ' H'=>m=xs.length-i/\i<=xs.length/\∃vs:St,vs.length=nv/\σ'=vs++(fr.map λj=>(σ[j]?).join)/\Same H H'/\H' D=some (.lst (dn p f (xs.take i))),⟨xs.length,by simp,DV _,List.replicate nv none,by simp,rfl,Same.new hD,ag⟩,?_⟩;rintro i m σ' H' ⟨rfl,hi,vs,hv,rfl,sm,hD'⟩;have ha':SqT K H' a xs:=SqT.of (sm.at ha);by_cases hlt:i<xs.length
 .refine .inr ⟨⟨xs,xs[i],ha',by simp[hlt]⟩,λσ'' H''=>∃vs:St,vs.length=nv/\σ''=vs++(fr.map λj=>(σ[j]?).join)/\Same H H''/\H'' D=some (.lst (dn p f (xs.take (i+1)))),λσ'' H'' q=>⟨xs.length- (i+1),Eh hlt (D9 _),rfl,hlt,q⟩,λx H2 y=> ?_⟩;obtain⟨e1,e2⟩:=y;subst e1;have hx:=e2 xs ha';refine hs i x vs _ (λy σ2 H5=>∃xs',H5 D=some (.lst xs')/\xs'.length<sizeLine/\∃vs:St,vs.length=nv/\σ2=vs++(fr.map λj=>(σ[j]?).join)/\Same H (upd H5 D (.lst (xs'++[y])))/\upd H5 D (.lst (xs'++[y])) D=some (.lst (dn p f (xs.take (i+1))))) _ hx hv sm λvs' H'' hv' sm'=> ?_;have e:=jY p f xs i x hx;cases hp:p x with
  |true=>
   rw[hp,Dp rfl]at e;rw[Dp rfl];refine⟨_,sm' D _ hD',Dw (lY p f _) ?_,vs',hv',rfl,(sm.trans sm').upd hD,by rw[ag,e]⟩;rw[Em];lia
  |false=>
   rw[hp,Dt Dr]at e;rw[Dt Dr];exact⟨vs',hv',rfl,sm.trans sm',by rw[e];exact sm' D _ hD'⟩
 .have e:i=xs.length:=Ew hi (Ef hlt);subst e;refine .inl ⟨⟨xs,ha',Dl _⟩,hd D H' hD sm ?_⟩;rw[Fg]at hD';exact hD'
theorem aA(f:Str)(v:V)(fs:List (Str×V)):(aJ f v fs).lookup f=some v:=by rw[d9,Dp rfl]
theorem aj(v:V)(fs:List (Str×V))(h:¬g=f):(aJ f v fs).lookup g=fs.lookup g:=by rw[d9,Dt h]
end L2
namespace L2
open PySem PySem.Spec PyProof.Rows
def Bm(K:PySem.W.Frag):List V->Hp->VK->Prop:=λxs H Q=>∃p ys,xs=[.ref p]/\((SqL K H p ys/\∀l,H l=none->Q (.ref l) (upd H l (.tup ys)))\/(SqT K H p ys/\Q (.ref p) H))
theorem c5{X:Cx}{K:PySem.W.Frag}(h:X.K=K):bX X (.type "tuple") (Bm K):=by subst h;exact lJ
structure TyC(K:PySem.W.Frag)(C:Addr):Prop where
 ha:findIn K (.ref C) "__class__"=some (some (.builtin "object.__class__"))
 hn:specialIn K (.builtin "object.__class__") "__get__"=some (some (.builtin "getset_descriptor.__get__"))
 ht:takesIn K (.builtin "object.__class__")=some true
 hm:mroIn K C (.type "object")=some true
theorem TyC.ty{K:PySem.W.Frag}{C:Addr}{H:Hp}{a dx:Addr}{fs:List (Str×V)}(t:TyC K C)(c:Cls K C)(e:H a=some (.ins C dx fs)):ij K H (.ref a) (.ref C):= .ins e c t.ha t.hn t.ht t.hm
end L2
namespace L2
end L2
namespace L2
open PySem PySem.Spec PyProof.Rows
section
variable{prog:Program}{w:World}{A:Around}{E:Value->Shared->Prop}{s:Shared}
end
end L2
namespace L2
open PySem PySem.Spec PyProof.Rows
section
variable{X:Cx}{tg:Expr}
def C5(ta:TA):TE:=λσ H Q=>ta σ H λvs H1=>∃j:Int,vs=[.int j]/\∀p,H1 p=none->Q (.ref p) (upd H1 p (.rng 0 j))
theorem nC{a:Expr}{ta:TA}{p pos:Pos}(hg:Gl X "range")(hm:X.mg "range"=none)(ha:PA X [a] ta)(hs:starEach [a] X.env=[(false,eval a X.env)]:=by rfl):PE X (.Call (.Name "range" p) [a] [] pos) (C5 ta):=by
 intro pins s σ H Q I h;refine Call_ (dz I hg hm boot_range (E1 (thn (ha pos pins s σ H _ I h) λus s1 ⟨vs,H1,I1,r1,q1⟩=> ?_) hs rfl));obtain⟨j,e,q⟩:=q1;subst e;cases r1 with
 |cons r rr=>
  cases rr;obtain⟨t,rfl⟩:=r;refine call_range_1 ?_;exact⟨.ref s1.heap.objs.size,_,I1.laid (λb o e=>Dx _ e) (Dl _) (show br X.prog X.w _ _ _ (.rng 0 j)from⟨_,_,_,DP _ rfl⟩),rfl,q _ (I1.hok.fresh (Dl _))⟩
end
end L2
namespace L2
open PySem PySem.Spec PyProof.Rows
section
variable{X:Cx}
end
end L2
namespace L2
open PySem PySem.Spec PyProof.Rows
def f6:List Expr->Option (List Int)
 | []=>some []
 | .Constant (.int i) _ _::es=>(f6 es).map (i:: ·)
 |_=>none
inductive iW:List Expr->List Int->Prop
 |nil:iW [] []
 |cons {i:Int} {j:Nat} {p:Pos} {es:List Expr} {zs:List Int} (h:iW es zs):iW (.Constant (.int i) j p::es) (i::zs)
theorem gZ:∀ {es:List Expr} {zs:List Int},f6 es=some zs->iW es zs
 | [],zs,h=>by have e:zs=[]:=(DS h).symm;subst e;exact .nil
 |e::es,zs,h=>by
  unfold f6 at h;split at h
  .rename_i hh;cases hh
  .rename_i hh;cases hh;cases hc:f6 es with
   |none=>rw[hc]at h;cases h
   |some ys=>
    rw[hc]at h;have e:_::ys=zs:=DS h;subst e;exact .cons (gZ hc)
  .cases h
def AS(zs:List Int):TA:=λ_ H Q=>Q (zs.map V.int) H
theorem va(h:iW es zs):PA X es (AS zs):=by
 induction h with
 |nil=>exact ah
 | @cons i j p es zs h ih=>exact aa (ai (i:=i) (j:=j) (pos:=p)) ih
def lW:Stmt->Expr
 | .Assign _ e _=>e
 |_=> .Constant .none 0 ⟨0,0,0,0⟩
def su:Expr->Expr
 | .Subscript e _ _=>e
 |_=> .Constant .none 0 ⟨0,0,0,0⟩
def r9:Expr->List Expr
 | .List es _=>es
 |_=>[]
structure PSp(X:Cx)(st:Stmt)(t:TS):Prop where
 h:PS X st t
end L2
namespace L2
open PySem PySem.Spec PyProof.Rows
theorem kM:∀ (names:List (Str×NameKind)) (n:Nat) (acc:List (Str×Addr)) {x:Str} {c:Addr},(x,c)∈cellsFrom n names acc->(x,c)∈acc\/n<=c
 | [],_,_,_,_,h=> .inl h
 |(name,kind)::r,n,acc,x,c,h=>by
  unfold cellsFrom at h;split at h
  .rcases kM r (n+1) _ h with h|h
   .rcases Dz.mp h with e|h
    .cases e;exact .inr (Dl _)
    .exact .inl h
   .exact .inr (by lia)
  .exact kM r n acc h
theorem oe:∀ (names:List (Str×NameKind)) (h:Heap) (acc:List (Str×Addr)) {x:Str} {c:Addr},(x,c)∈cellsFrom h.objs.size names acc->(x,c)∈acc\/(pushCells h names).IsCell c none
 | [],_,_,_,_,h=> .inl h
 |(name,kind)::r,h,acc,x,c,e=>by
  unfold cellsFrom at e;unfold pushCells;split at e
  .rename_i hk;rw[Dp hk];have e':(x,c)∈cellsFrom (h.push {cls:= .type "cell",data:= .cell none}).objs.size r ((name,h.objs.size)::acc):=by rw[Fy];exact e
   rcases oe r _ _ e' with e|e
   .rcases Dz.mp e with e|e
    .cases e;exact .inr ⟨_,GD _ _ _ _ (DP _ rfl),rfl⟩
    .exact .inl e
   .exact .inr e
  .rename_i hk;rw[Dt hk];exact oe r h acc e
theorem sg(n0:Nat):∀ (names:List (Str×NameKind)) (n:Nat) (acc:List (Str×Addr)),(∀p∈acc,p.2<n)->n0<=n->(∀x y c,(x,c)∈acc->(y,c)∈acc->n0<=c->x=y)->∀x y c,(x,c)∈cellsFrom n names acc->(y,c)∈cellsFrom n names acc->n0<=c->x=y
 | [],_,_,_,_,h=>h
 |(name,kind)::r,n,acc,hl,hn,h=>by
  unfold cellsFrom;split
  .refine sg n0 r (n+1) _ (λp hp=> ?_) (by lia) λx y c hx hy hc=> ?_
   .rcases Dz.mp hp with e|hp
    .subst e;exact D9 _
    .exact GO (hl p hp)
   .rcases Dz.mp hx with ex|hx<;>rcases Dz.mp hy with ey|hy
    .cases ex;cases ey;rfl
    .cases ex;exact absurd (hl _ hy) (Eb _)
    .cases ey;exact absurd (hl _ hx) (Eb _)
    .exact h x y c hx hy hc
  .exact sg n0 r n acc hl hn h
theorem oa:∀ (names:List (Str×NameKind)) (n:Nat) (acc:List (Str×Addr)) (x:Str),((∃y∈names,y.1=x/\y.2= .cell)\/∃c,acc.lookup x=some c)->∃c,(cellsFrom n names acc).lookup x=some c
 | [],_,_,_,h=>by
  rcases h with ⟨y,hy,_⟩|h
  .cases hy
  .exact h
 |(name,kind)::r,n,acc,x,h=>by
  unfold cellsFrom;have lk:(∃c,acc.lookup x=some c)->∃c,((name,n)::acc).lookup x=some c:=λ⟨c,e⟩=>by
   rw[E6];cases hx:x==name with
   |true=>exact⟨_,rfl⟩
   |false=>exact⟨c,e⟩
  split
  .refine oa r (n+1) _ x ?_;rcases h with ⟨y,hy,h1,h2⟩|h
   .rcases Dz.mp hy with e|hy
    .subst e;refine .inr ⟨n,?_⟩;rw[E6,show(x==name)=true from by simpa using h1.symm]
    .exact .inl ⟨y,hy,h1,h2⟩
   .exact .inr (lk h)
  .rename_i hk;refine oa r n acc x ?_;rcases h with ⟨y,hy,h1,h2⟩|h
   .rcases Dz.mp hy with e|hy
    .subst e;exact absurd (by simpa using h2) hk
    .exact .inl ⟨y,hy,h1,h2⟩
   .exact .inr h
theorem sf(n0:Nat):∀ (names:List (Str×NameKind)) (n:Nat) (acc:List (Str×Addr)) (x:Str),n0<=n->((∃y∈names,y.1=x/\y.2= .cell)\/∀c,acc.lookup x=some c->n0<=c)->∀c,(cellsFrom n names acc).lookup x=some c->n0<=c
 | [],_,_,_,_,h,c,e=>by
  rcases h with ⟨y,hy,_⟩|h
  .cases hy
  .exact h c e
 |(name,kind)::r,n,acc,x,hn,h,c,e=>by
  unfold cellsFrom at e;split at e
  .refine sf n0 r (n+1) _ x (by lia) ?_ c e;by_cases hx:x=name
   .refine .inr λc e=> ?_;rw[E6,show(x==name)=true from by simpa using hx]at e;cases e;exact hn
   .rcases h with ⟨y,hy,h1,h2⟩|h
    .rcases Dz.mp hy with e|hy
     .subst e;exact absurd h1.symm hx
     .exact .inl ⟨y,hy,h1,h2⟩
    .refine .inr λc e=> ?_;rw[E6,show(x==name)=false from by simpa using hx]at e;exact h c e
  .rename_i hk;refine sf n0 r n acc x hn ?_ c e;rcases h with ⟨y,hy,h1,h2⟩|h
   .rcases Dz.mp hy with e|hy
    .subst e;exact absurd (by simpa using h2) hk
    .exact .inl ⟨y,hy,h1,h2⟩
   .exact .inr h
theorem gL{sc:Scope}(h:(relabel sc env).names.lookup x=some .cell\/(relabel sc env).names.lookup x=some .free):∃y∈sc.names,y.1=x/\(y.2= .cell\/y.2= .free):=by
 obtain⟨k,hk,m⟩:∃k,(k=NameKind.cell\/k=NameKind.free)/\(x,k)∈(relabel sc env).names:=by
  rcases h with h|h
  .exact⟨_, .inl rfl,Ed h⟩
  .exact⟨_, .inr rfl,Ed h⟩
 obtain⟨y,hy,e⟩:=DL.mp (show(x,k)∈sc.names.map _ from m);obtain⟨n,k0⟩:=y;dsimp only at e;split at e
 .rename_i hc;have e1:n=x:=Es Prod.fst e;refine⟨_,hy,e1, .inr ?_⟩;simp only[Ea,GL]at hc;exact hc.1.1
 .have e1:n=x:=Es Prod.fst e;have e2:k0=k:=Es Prod.snd e;refine⟨_,hy,e1,?_⟩;show k0=_\/k0=_;rw[e2];exact hk
theorem k7{M:Model}{A:Around}{E:Value->Shared->Prop}{s:Shared}{scope:Scope}{globals:Addr}{closure:List (Str×Addr)}{qual:Str}{func:Option Addr}{code:Value}{outer:Env}{Q:Env->Shared->Prop}
  (h:Q (newEnv scope s.heap.objs.size globals (cellsFrom (s.heap.objs.size+1) scope.names closure) qual func code (some outer) builtinsNs) {s with heap:=pushCells (s.heap.push {cls:= .type "dict",data:= .dict #[]}) scope.names}):
  wpAny M A (newFunctionEnv scope globals closure [] qual func code (some outer)) Q E s:=by
 simp only[newFunctionEnv,Option.isSome_some,Iv];refine Dj (wpAny_alloc ?_);refine Dj (wpAny_layCells _ (λname kind cells=>by cases hkc:kind==NameKind.cell<;>simp[hkc]) _ _ _ _ ?_);rw[show({s with heap:=s.heap.push {cls:= .type "dict",data:= .dict #[]}}:Shared).heap.objs.size=s.heap.objs.size+1 from Fy ..];refine Dj ?_;rw[List.forIn_nil];exact DA (DA h)
theorem iS{env:Env}(h:∀y∈names,y.2= .free->∃c,env.cells.lookup y.1=some c)(e:(x,c)∈fj env names):env.cells.lookup x=some c:=by
 have go:∀ (names:List (Str×NameKind)) (acc:List (Str×Addr)),(∀y∈names,y.2= .free->∃c,env.cells.lookup y.1=some c)->(∀x c,(x,c)∈acc->env.cells.lookup x=some c)->∀x c,(x,c)∈names.foldl (dA env) acc->env.cells.lookup x=some c:=by
  intro names
  induction names with
  |nil=>intro acc _ ha x c e;exact ha x c e
  |cons y r ih=>
   intro acc h ha;refine ih _ (λz hz=>h z (DC _ hz)) λx c e=> ?_;unfold dA at e;split at e
   .rename_i hk;obtain⟨a,ey⟩:=h y DE (by simpa using hk);rcases Dz.mp e with e|e
    .have e1:x=y.1:=Es Prod.fst e;have e2:c=(env.cells.lookup y.1).getD 0:=Es Prod.snd e;rw[e1,e2,ey];rfl
    .exact ha x c e
   .exact ha x c e
 exact go names [] h (λ_ _ z=>by cases z) x c e
theorem n9:∀ (names:List (Str×NameKind)) (n:Nat) (acc:List (Str×Addr)) (x:Str),(∀y∈names,y.1=x->y.2≠ .cell)->(cellsFrom n names acc).lookup x=acc.lookup x
 | [],_,_,_,_=>rfl
 |(name,kind)::r,n,acc,x,h=>by
  unfold cellsFrom;split
  .rename_i hk;rw[n9 r (n+1) _ x λy hy=>h y (DC _ hy),E6];cases hx:x==name with
   |true=>
    have e:x=name:=by simpa using hx
    exact absurd (by simpa using hk) (h _ DE e.symm)
   |false=>rfl
  .exact n9 r n acc x λy hy=>h y (DC _ hy)
def bw(X:Cx)(N':List Str)(sc:Scope)(s₃:Shared)(H₃:Hp)(fp:List Addr)(pins:List (Addr×Obj)):Cx where
 prog:=X.prog
 w:=X.w
 K:=X.K
 mg:=X.mg
 base:=X.base
 A:=X.A
 N:=N'
 s₀:=s₃
 H₀:=H₃
 env:=compEnvC sc (cellsFrom (s₃.heap.objs.size+1) sc.names (fj X.env sc.names)) s₃.heap.objs.size X.env
 outer:=X.stack
 stack:=X.stack
 ex:=fp
 fn:=λx=>sc.names.lookup x==some .cell
 calm:=X.calm
 pn:=X.pn++pins
 xe:=λ_ _=>False
section
variable{X:Cx}{elt target iter:Expr}{ifs:List Expr}{sc:Scope}{pos:Pos}{wi:TI}{g:TG}{tc:TT}{te:TE}{vars frn:List Str}{fr:List Nat}
theorem jc(hc:X.calm=true)(hfk:∀y∈sc.names,y.2= .free->X.env.kindOf y.1=some .cell\/X.env.kindOf y.1=some .free)(hno:sc.names.all (λy=> !(y.2== .cell)|| !(frn.contains y.1))=true)(hkind:sc.kind= .function)
  (hfr:jm X sc fr frn)
  (hg:∀s₃ H₃ fp pins,PG (bw X (vars++frn) sc s₃ H₃ fp pins) target g) (ht:∀s₃ H₃ fp pins,PTs (bw X (vars++frn) sc s₃ H₃ fp pins) ifs tc) (he:∀s₃ H₃ fp pins,PE (bw X (vars++frn) sc s₃ H₃ fp pins) elt te)
  {pins:List (Addr×Obj)} {s2:Shared} {σ:St} {H2:Hp} {Q:VK} {E:Value->Shared->Prop} {R:Value->Addr->Result->Shared->Prop} {it:Addr} {fp:List Addr} {tn:Nat->Heap->Prop} {J:It}
  (I2:Inv X pins σ H2 s2) (T:Turn X.prog X.w X.K target J fp it tn) (st2:tn 0 s2.heap) (f2:∀b∈fp,oA X pins H2 b)
  (h:LCW J g tc te vars.length fr σ H2 Q)
  (hR:∀D C s',zF X pins σ Q D C s'->R (.ref D) C (.ok .next) s'):
  wpAny (model X.prog X.w) X.A (newList []) (λacc s₃=>wpAny (model X.prog X.w) X.A (newFunctionEnv sc X.env.globals (fj X.env sc.names) [] X.env.qual none .none (some X.env)) (λcenv s₄=>
   codeAny (model X.prog X.w) X.A (.compStart (.ListComp elt [⟨target,iter,ifs,0⟩] sc pos) 0 (.ref it) acc {cenv with scope:=relabel sc X.env}) (R acc cenv.locals) s₄) E s₃) E s2:=by
 have hfc:∀y∈sc.names,y.2= .free->∃c,X.env.cells.lookup y.1=some c:=λy hy hk=>I2.ok.has y.1 (hfk y hy hk);obtain⟨W,⟨m0,w0⟩,turn⟩:=h s2.heap.objs.size I2.fresh;refine GP (k7 ?_);dsimp only;have I3:Inv X pins σ (upd H2 s2.heap.objs.size (.lst [])) {s2 with heap:=s2.heap.push {cls:= .type "list",data:= .seq ([]:List Value).toArray}}:=I2.lnew (t':=s2.toks) .nil (DV _);generalize hs3:({s2 with heap:=s2.heap.push {cls:= .type "list",data:= .seq ([]:List Value).toArray}}:Shared)=s3 at I3;have hh3:s3.heap=s2.heap.push {cls:= .type "list",data:= .seq ([]:List Value).toArray}:=by rw[<-hs3]
 have hsz:s3.heap.objs.size=s2.heap.objs.size+1:=by rw[hh3,Fy]
 have k23:∀b o,s2.heap.get? b=some o->s3.heap.get? b=some o:=λb o e=>by rw[hh3];exact Dx _ e
 generalize hD:s2.heap.objs.size=D at*;generalize hH3:upd H2 D (.lst [])=H3 at*;have hC:(s2.heap.push {cls:= .type "list",dict:=none,data:= .seq ([]:List Value).toArray}).objs.size=s3.heap.objs.size:=by rw[hh3]
 rw[hC];have h1e:pushCells ((s2.heap.push {cls:= .type "list",dict:=none,data:= .seq ([]:List Value).toArray}).push {cls:= .type "dict",data:= .dict #[]}) sc.names=pushCells (s3.heap.push {cls:= .type "dict",data:= .dict #[]}) sc.names:=by rw[hh3]
 rw[h1e];have hns₁:(pushCells (s3.heap.push {cls:= .type "dict",data:= .dict #[]}) sc.names).Ns s3.heap.objs.size (λ_=>none):=(Heap.Ns.new s3.heap (.type "dict")).keeps (GD _ _);have k34:∀b o,s3.heap.get? b=some o->(pushCells (s3.heap.push {cls:= .type "dict",data:= .dict #[]}) sc.names).get? b=some o:=λb o e=>GD _ _ _ _ (Dx _ e);have hcf:∀ {x c},(x,c)∈cellsFrom (s3.heap.objs.size+1) sc.names (fj X.env sc.names)->(x,c)∈fj X.env sc.names\/(pushCells (s3.heap.push {cls:= .type "dict",data:= .dict #[]}) sc.names).IsCell c none:=λ{x c} e=>by refine oe sc.names (s3.heap.push {cls:= .type "dict",data:= .dict #[]}) _ (x:=x) ?_;rw[Fy];exact e
 generalize pushCells (s3.heap.push {cls:= .type "dict",data:= .dict #[]}) sc.names=h₁ at*;have fpl:∀b∈fp,b<s2.heap.objs.size:=λb hb=>by obtain⟨o,e,_⟩:=T.obj _ _ st2 b hb;exact DF e
 have fpD:∀b∈fp,b≠D:=λb hb=>by rw[<-hD];exact DQ (fpl b hb)
 have fpC:∀b∈fp,b≠s3.heap.objs.size:=λb hb=>by rw[hsz];exact DQ (GO (hD▸fpl b hb))
 have fr3:∀b∈fp,H3 b=none:=λb hb=>by rw[<-hH3,aw (fpD b hb)];exact(f2 b hb).1
 have fstk:∀b∈fp,b∉frs X.stack:=λb hb z=>by
  obtain⟨_,f1,f2',_⟩:=f2 b hb;rcases Dz.mp (I3.stkSub b z)with e|e
  .exact f1 e
  .exact f2' e
 have st4:tn 0 h₁:=T.keep _ _ _ st2 λb hb o e=>k34 b o (k23 b o e);have csub0:∀x c,(fj X.env sc.names).lookup x=some c->X.env.cells.lookup x=some c:=λx c e=>B4 hfc e;have cmem:∀x c,(x,c)∈fj X.env sc.names->∃y,X.env.cells.lookup y=some c:=λx c e=>⟨x,iS hfc e⟩;have csub:∀x c,(cellsFrom (s3.heap.objs.size+1) sc.names (fj X.env sc.names)).lookup x=some c->(∃y,X.env.cells.lookup y=some c)\/(s3.heap.objs.size+1<=c/\h₁.IsCell c none):=λx c e=>by
  have m:=Ed e;rcases kM _ _ _ m with h|h
  .exact .inl (cmem _ _ h)
  .rcases hcf m with h'|h'
   .exact .inl (cmem _ _ h')
   .exact .inr ⟨h,h'⟩
 have clt:∀y c,X.env.cells.lookup y=some c->c<s3.heap.objs.size:=λy c e=>by obtain⟨v,q⟩:=I3.cell y c e;exact q.lt
 have cinj:∀x y c,(cellsFrom (s3.heap.objs.size+1) sc.names (fj X.env sc.names)).lookup x=some c->(cellsFrom (s3.heap.objs.size+1) sc.names (fj X.env sc.names)).lookup y=some c->x=y:=λx y c e1 e2=>by
  have low:∀p∈fj X.env sc.names,p.2<s3.heap.objs.size+1:=λp hp=>by obtain⟨y,hy⟩:=cmem p.1 p.2 hp;exact GO (clt y _ hy)
  by_cases hc:s3.heap.objs.size+1<=c
  .exact sg (s3.heap.objs.size+1) sc.names _ _ low (Dl _) (λx y c hx _ hc=>absurd (Dq (low _ hx) hc) (Eb _)) x y c (Ed e1) (Ed e2) hc
  .have in1:(x,c)∈fj X.env sc.names:=by
    rcases kM _ _ _ (Ed e1)with h|h
    .exact h
    .exact absurd h hc
   have in2:(y,c)∈fj X.env sc.names:=by
    rcases kM _ _ _ (Ed e2)with h|h
    .exact h
    .exact absurd h hc
   exact I3.ok.inj x y c (iS hfc in1) (iS hfc in2)
 generalize hX:bw X (vars++frn) sc s3 H3 fp pins=X';have ok':X'.Ok:=by
  rw[<-hX];refine⟨I3.ok.mod,hkind,I3.ok.glob,I3.ok.blt,Dl _,cinj,λx hx=> ?_,(λx c z e=> ?_),I3.ok.hd,I3.ok.frames, .inl rfl,
   λb hb=>⟨fpC b hb,λx c e z=> ?_⟩,I3.bs,Du I3.ok.bsz I3.sz,λb o e hb=> ?_,λb hb=>fstk b hb,I3.stack,I3.stkFree⟩
  .obtain⟨y,hy,h1,h2|h2⟩:=gL hx
   .exact oa _ _ _ x (.inl ⟨y,hy,h1,h2⟩)
   .exact oa _ _ _ x (.inr (zf ⟨y,hy,h1,h2⟩))
  .have hz:sc.names.lookup x=some .cell:=by simpa using (show(sc.names.lookup x==some NameKind.cell)=true from z)
   exact FZ (sf (s3.heap.objs.size+1) sc.names _ _ x (Dl _) (.inl ⟨_,Ed hz,rfl,rfl⟩) c e)
  .rcases csub x c e with ⟨y,hy⟩|⟨h,_⟩
   .exact(f2 b hb).2.2.2.2.1 y c hy z
   .subst z;have q:=fpl c hb;rw[hsz,<-hD]at h;exact Eb _ (Dq q (FZ (FZ h)))
  rcases(f2 b hb).2.2.2.1 with z|z
  .exact I3.ok.noex b o e z
  .exact absurd (Dq (DF e) (Du I3.ok.bsz z)) (Eb _)
 have I4:Inv X' [] (inner vars.length fr σ) H3 {s2 with heap:=h₁}:=by
  have hos:s3.os=s2.os:=by rw[<-hs3]
  have hgn:s3.gens=s2.gens:=by rw[<-hs3]
  refine⟨ok',by rw[<-hX];exact hos.symm,by rw[<-hgn];exact I3.bare,by rw[<-hX];exact Un.kept k34,⟨λ_=>none,by rw[<-hX];exact hns₁,λi x v e1 e2 e3=> ?_⟩,λx c e=> ?_,?_,λx c e=> ?_,λp hp=> ?_,by rw[<-hX];exact I3.hok.kept k34,?_⟩
  .rw[<-hX]at e1 e3⊢;have e1':(vars++frn)[i]?=some x:=e1;unfold inner at e2;by_cases hi:i<vars.length
   .rw[Eg (by simpa using hi),Ik]at e2;rw[Dp hi]at e2;cases e2
   .rw[Ek (by simpa using Ef hi),GY,Dm]at e2;rw[Ek (Ef hi)]at e1';cases ej:fr[i-vars.length]? with
    |none=>rw[ej]at e2;cases e2
    |some j=>
     rw[ej]at e2;have e2':(σ[j]?).join=some v:=DS e2;have e2'':σ[j]?=some (some v):=by
      cases q:σ[j]? with
      |none=>rw[q]at e2';cases e2'
      |some o=>rw[q]at e2';exact Es some e2'
     obtain⟨y,h1,h2,h3,h4⟩:=hfr.get ej;rw[h1]at e1';cases e1';obtain⟨m,hn,hl⟩:=I3.loc;obtain⟨u,r,l⟩:=hl j x v h2 e2'' (by rcases h3 with z|z;exact .inr (.inl z);exact .inr (.inr z));refine⟨u,r, .inr ⟨h4,?_⟩⟩;have hxn:∀y∈sc.names,y.1=x->y.2≠ .cell:=λy hy hyx hyc=>by have:=Ie.mp hno y hy;rw[hyc,hyx]at this;have hm:frn.contains x=true:=List.contains_iff_mem.mpr (Dv h1);rw[hm]at this;cases this
     have hfree:∃y∈sc.names,y.1=x/\y.2= .free:=by
      obtain⟨y,hy,z1,z2|z2⟩:=gL h4
      .exact absurd z2 (hxn y hy z1)
      .exact⟨y,hy,z1,z2⟩
     obtain⟨c,hc0⟩:=zf (env:=X.env) hfree;have hc1:(cellsFrom (s3.heap.objs.size+1) sc.names (fj X.env sc.names)).lookup x=some c:=(n9 sc.names _ _ x hxn).trans hc0;have hc2:=csub0 x c hc0;rcases l with ⟨k,_⟩|⟨_,c',hc',hcell⟩
     .rcases h3 with z|z
      .rw[z]at k;cases k
      .rw[z]at k;cases k
     .rw[hc2]at hc';cases hc';exact⟨c,hc1,hcell.keeps k34⟩
  .rw[<-hX]at e;rcases csub x c e with ⟨y,hy⟩|⟨_,h⟩
   .obtain⟨v,z⟩:=I3.cell y c hy;exact⟨v,z.keeps k34⟩
   .exact⟨_,h⟩
  .rw[<-hX];exact I3.fresh
  .rw[<-hX]at e;rcases csub x c e with ⟨y,hy⟩|⟨h,_⟩
   .exact I3.freeC y c hy
   .exact I3.hok.fresh (FZ h)
  .rw[<-hX]at hp⊢;rw[GC]at hp;obtain⟨q1,q2,q3,q4,q5⟩:=I3.pin p hp;refine⟨k34 _ _ q1,q2,DQ (DF q1),λz=> ?_,q5⟩;rcases Dz.mp (I3.stkSub p.1 z)with e|e
   .exact q3 e
   .exact q4 e
  .rw[<-hX];show(inner vars.length fr σ).length=(vars++frn).length;unfold inner;rw[DK,GY,Di,DK,hfr.len]
 have stat:∀ {H':Hp},(∀b∈fp,H' b=none)->∀b∈fp,oA X' [] H' b:=λhn b hb=>by
  rw[<-hX];obtain⟨_,f1,f2',f3,f4,f5⟩:=f2 b hb;refine⟨hn b hb,fpC b hb,fstk b hb, .inl hb,λx c e=> ?_,λp hp=> ?_⟩
  .rcases csub x c e with ⟨y,hy⟩|⟨h,_⟩
   .exact f4 y c hy
   .exact λz=>by subst z;have q:=fpl c hb;rw[hsz,<-hD]at h;exact Eb _ (Dq q (FZ (FZ h)))
  exact f5 p (by simpa [bw]using hp)
 have back:∀ {σ7:St} {H7:Hp} {s7:Shared},Inv X' [] σ7 H7 s7->Inv X pins σ H7 s7:=λ{σ7 H7 s7} I7=>by
  have ho:s7.os=s3.os:=by have:=I7.os;rw[<-hX]at this;exact this
  have hu:Un (frs X.stack) fp H3 H7 s3.heap s7.heap:=by have:=I7.base;rw[<-hX]at this;exact this
  have hk:HOk X.prog X.w H7 s7.heap:=by have:=I7.hok;rw[<-hX]at this;exact this
  refine I3.call' ho hu hk I7.bare λb hb=> ?_;obtain⟨_,f1,_,f3,f4,f5⟩:=f2 b hb;exact⟨f3,f1,f4,f5⟩
 have hmod:X'.prog=X.prog/\X'.w=X.w/\X'.K=X.K/\X'.A=X.A/\X'.calm=true/\X'.env=compEnvC sc (cellsFrom (s3.heap.objs.size+1) sc.names (fj X.env sc.names)) s3.heap.objs.size X.env/\X'.xe=(λ_ _=>False)/\X'.env.locals=s3.heap.objs.size:=by rw[<-hX];exact⟨rfl,rfl,rfl,rfl,hc,rfl,rfl,rfl⟩
 obtain⟨eP,ew,eK,eA,ec,eE,ex,eL⟩:=hmod;have hg':=hg s3 H3 fp pins;have ht':=ht s3 H3 fp pins;have he':=he s3 H3 fp pins;rw[hX]at hg' ht' he';have loop:∀s4:Shared,s4={s2 with heap:=h₁}->
   codeAny (model X.prog X.w) X.A (.compLoop (.ListComp elt [⟨target,iter,ifs,0⟩] sc pos) 0 (.ref it) (.ref D) X'.env) (R (.ref D) s3.heap.objs.size) s4:=by
  rintro s4 rfl;refine codeAny_loop rfl (λn s'=>∃i σ' H',Inv X' [] σ' H' s'/\tn i s'.heap/\(∀b∈fp,H' b=none)/\W i n σ' H') (λn s5 hI=> ?_) m0 ⟨0,_,H3,I4,st4,fr3,w0⟩;obtain⟨i,σ5,H5,I5,st5,fr5,w5⟩:=hI;show wpAny _ X.A ((compTurn (.ListComp elt [⟨target,iter,ifs,0⟩] sc pos) 0 (.ref it) (.ref D) X'.env).onRaise (λx=>do noteFrame x X'.env;theTreesLotGoes x)) _ _ s5;refine wpAny_noted (wpAny_noRaise ?_);rw[compTurn_list];refine Dj (FX (Dj ?_));rcases turn i n σ5 H5 w5 with ⟨stop,q⟩|⟨go,N,hN,step⟩
  .have z:=T.done X' eP ew eK ec i [] s5 σ5 H5 (λ_ _=>False) I5 (stat fr5) st5 stop;rw[eA]at z;refine thn z λr s6 ⟨hr,I6⟩=> ?_;subst hr;refine DA (hR _ _ _ ⟨H5,back I6,q,?_,?_,F9 I3.lt,I3.sz,λx c e z=> ?_,λp hp z=> ?_⟩)
   .obtain⟨m,hn,_⟩:=I6.loc;rw[eL]at hn;exact⟨m,hn⟩
   .have:=I6.free;rw[eL]at this;exact this
   .obtain⟨v,q⟩:=I3.cell x c e;exact absurd q.lt (by rw[z];exact Eb _)
   .exact absurd (DF (I3.pin p hp).1) (by rw[z];exact Eb _)
  .have z:=T.item X' eP ew eK ec i [] s5 σ5 H5 (λ_ _=>False) I5 (stat fr5) st5 go;rw[eA]at z;refine thn z λr s6 ⟨u,hr,h6⟩=> ?_;subst hr;refine Dj (thn h6 λ_ s7 ⟨x,H7,I7,r7,y7,st7,fr7⟩=> ?_);have I7':=I7.pinned (stat fr7) (T.obj _ _ st7);have zg:=hg' _ s7 σ5 H7 x u _ I7' r7 (step x H7 y7);rw[eP,ew,eA,ex]at zg;refine Dj (thn zg λ_ s8 ⟨σ8,H8,I8,q8⟩=> ?_);have zt:=ht' _ s8 σ8 H8 _ I8 q8;rw[eP,ew,eA,ex]at zt;refine Dj (thn zt λok s9 ⟨H9,I9,q9⟩=> ?_);have again:∀ {σa:St} {Ha:Hp} {sa:Shared},Inv X' ([]++jU fp s7.heap) σa Ha sa->N σa Ha->∃m,m<n/\∃i σ' H',Inv X' [] σ' H' sa/\tn i sa.heap/\(∀b∈fp,H' b=none)/\W i m σ' H':=λ{σa Ha sa} Ia na=>by obtain⟨m',hm,wa⟩:=hN σa Ha na;refine⟨m',hm,i+1,σa,Ha,Ia.unpinned,T.keep _ _ _ st7 λb hb o e=>(Ia.pin (b,o) (D7 _ (D7 _ (fi hb e)))).1,λb hb=> ?_,wa⟩;obtain⟨o,e,d⟩:=T.obj _ _ st7 b hb;exact(Ia.pin (b,o) (D7 _ (D7 _ (fi hb e)))).2.1
   cases ok with
   |false=>
    rw[Dt Dr]at q9;exact DA ⟨rfl,again I9 q9⟩
   |true=>
    rw[Dp rfl]at q9;have ze:=he' _ s9 σ8 H9 _ I9 q9;rw[eP,ew,eA,ex]at ze;refine Dj (Dj (thn ze λy sa ⟨yv,Ha,Ia,ra,xs,hxs,hlt,na⟩=>Dj ?_));have zm:=cQ (X:=X') _ sa σ8 Ha (.ref D) [yv] (.ref D) [y] (λ_ Hb=>N σ8 Hb) Ia rfl (.cons ra .nil) ⟨D,xs,yv,rfl,rfl,hxs,hlt,na⟩;rw[eP,ew,eA,ex]at zm;exact thn zm λ_ sb ⟨vb,Hb,Ib,_,nb⟩=>DA (DA ⟨rfl,again Ib nb⟩)
 have e:({(newEnv sc s3.heap.objs.size X.env.globals (cellsFrom (s3.heap.objs.size+1) sc.names (fj X.env sc.names)) X.env.qual none .none (some X.env) builtinsNs)with scope:=relabel sc X.env}:Env)=X'.env:=by rw[eE];rfl
 have fin:=codeAny_compStart_list (elt:=elt) (target:=target) (iter:=iter) (ifs:=ifs) (rest:=[]) (scope:=sc) (pos:=pos) (loop _ rfl) (T.self _ 0 _ _ _ st4 (loop _ rfl));rw[<-e]at fin;exact fin
theorem BB(hc:X.calm=true)(hfk0:sc.names.all (λy=> !(y.2== .free)||(X.env.kindOf y.1==some .cell||X.env.kindOf y.1==some .free))=true)(hno:sc.names.all (λy=> !(y.2== .cell)|| !(frn.contains y.1))=true)(hkind:sc.kind= .function)
  (hnames0:sc.names.all (λy=> !(y.2== .local)||(sc.names.lookup y.1==some .local))=true) (hfr:jm X sc fr frn) (hi:PI X target iter wi)
  (hg:∀s₃ H₃ fp pins,PG (bw X (vars++frn) sc s₃ H₃ fp pins) target g) (ht:∀s₃ H₃ fp pins,PTs (bw X (vars++frn) sc s₃ H₃ fp pins) ifs tc) (he:∀s₃ H₃ fp pins,PE (bw X (vars++frn) sc s₃ H₃ fp pins) elt te)
  (hs:∀x,foldedSetIterable iter X.env x=pure x:=by intro _;rfl):PE X (.ListComp elt [⟨target,iter,ifs,0⟩] sc pos) (tLC wi g tc te vars.length fr):=by
 intro pins s σ H Q I h;have hfk:=A6 hfk0;have hnames:=A1 hnames0;rw[eval_ListComp];have hfc:∀y∈sc.names,y.2= .free->∃c,X.env.cells.lookup y.1=some c:=λy hy hk=>I.ok.has y.1 (hfk y hy hk);refine wpAny_comprehension_free (use:=none) rfl hs (gn hfc) hkind hnames (thn (hi pins s σ H _ I h) λv s1 h1=>thn h1 λitv s2 h2=> ?_);obtain⟨it,fp,tn,J,H2,e,I2,T,st2,f2,q⟩:=h2;subst e;refine jc (R:=λacc C=>compPost (model X.prog X.w) X.A X.xe none (EP X pins σ Q) acc C) hc hfk hno hkind hfr hg ht he I2 T st2 f2 q λD C s' hb=> ?_;obtain⟨H',I',q',⟨m,hn⟩,hCn,hCL,hCs,hCc,hCp⟩:=hb;refine⟨m,hn,λh' hs'=>⟨.ref D,H',?_,rfl,q'⟩⟩;exact I'.turned (t':=s'.toks) (λb o hb e=>(hs'.2 b hb).trans e) hCn hCL (.inr hCs) hCc hCp
theorem uV{i:Nat}{x:Str}{px spos:Pos}(hN:X.N.Nodup)(hi0:X.N[i]?=some x)(hx:X.env.kindOf x=some .local)(hc:X.calm=true)
  (hfk0:sc.names.all (λy=> !(y.2== .free)||(X.env.kindOf y.1==some .cell||X.env.kindOf y.1==some .free))=true) (hno:sc.names.all (λy=> !(y.2== .cell)|| !(frn.contains y.1))=true) (hkind:sc.kind= .function)
  (hnames0:sc.names.all (λy=> !(y.2== .local)||(sc.names.lookup y.1==some .local))=true) (hfr:jm X sc fr frn) (hi:PI X target iter wi)
  (hg:∀s₃ H₃ fp pins,PG (bw X (vars++frn) sc s₃ H₃ fp pins) target g) (ht:∀s₃ H₃ fp pins,PTs (bw X (vars++frn) sc s₃ H₃ fp pins) ifs tc) (he:∀s₃ H₃ fp pins,PE (bw X (vars++frn) sc s₃ H₃ fp pins) elt te)
  (hsw:swapsWith (.ListComp elt [⟨target,iter,ifs,0⟩] sc pos) (some (.Name x px)) spos.line X.env=pure true:=by rfl)
  (hs:∀x,foldedSetIterable iter X.env x=pure x:=by intro _;rfl):PS X (.Assign [.Name x px] (.ListComp elt [⟨target,iter,ifs,0⟩] sc pos) spos) (uM (tLC wi g tc te vars.length fr) (a8 i)):=by
 intro pins s σ H Dn I h;have hfk:=A6 hfk0;have hnames:=A1 hnames0;rw[exec_Assign_Name_used _ _ _ _ hsw];have hfc:∀y∈sc.names,y.2= .free->∃c,X.env.cells.lookup y.1=some c:=λy hy hk=>I.ok.has y.1 (hfk y hy hk);refine Dj (FX (Dj ?_));show wpAny _ X.A (do let _<-comprehension (.ListComp elt [⟨target,iter,ifs,0⟩] sc pos) sc X.env _ (newList []) false (eval iter X.env) (some (assign (.Name x px) X.env))) _ _ s;refine Dj (thn (Q:=λ_ s'=>SP X pins Dn .next s') (wpAny_comprehension_free (use:=some (assign (.Name x px) X.env)) (Q:=λ_ s'=>SP X pins Dn .next s') rfl hs (gn hfc) hkind hnames (thn (hi pins s σ H _ I h) λv s1 h1=>thn h1 λitv s2 h2=> ?_)) λ_ s' hq=>DA (DA hq));obtain⟨it,fp,tn,J,H2,e,I2,T,st2,f2,q⟩:=h2;subst e;refine jc (R:=λacc C=>compPost (model X.prog X.w) X.A X.xe (some (assign (.Name x px) X.env)) (λ_ s'=>SP X pins Dn .next s') acc C) hc hfk hno hkind hfr hg ht he I2 T st2 f2 q λD C s' hb=> ?_;obtain⟨H',I',q',⟨m,hn⟩,hCn,hCL,hCs,hCc,hCp⟩:=hb;show wpAny _ X.A (assign (.Name x px) X.env (.ref D)) _ _ s';refine wpAny_assign_Name (lQ I' hN hi0 (.inl hx) (v:= .ref D) rfl (λs3 I3 hsb=> ?_) (.inr hx));obtain⟨a,sb,ha⟩:=hsb;have haC:C≠a:=by
  rcases ha with e|e
  .rw[e];exact hCL
  .exact λz=>hCc x a e z.symm
 refine⟨m,hn.sameBut sb haC,λh' hs'=>⟨_,H',?_,q'⟩⟩;exact I3.turned (t':=s3.toks) (λb o hb e=>(hs'.2 b hb).trans e) hCn hCL (.inr hCs) hCc hCp
end
end L2
namespace L2
open PySem PySem.Spec PyProof.Rows
end L2
namespace L2
open PySem PySem.Spec PySem.W PyProof.Rows PySem.SeqAt
end L2
namespace L2
open PySem PySem.Spec PyProof.Rows
theorem mm{lo:Int}{n:Nat}{g:TG}{tc:TT}{te:TE}{nv:Nat}{fr:List Nat}{σ:St}{H:Hp}{Q:VK}(all:Bool)(Pv:Int->Prop)(hn:n<=sizeLine)
  (hs:∀ (i:Nat) (vs:St) (H':Hp) (R:V->St->Hp->Prop) (S:St->Hp->Prop),i<n->vs.length=nv->Same H H'->
   (∀z vs' H'',Pv z->vs'.length=nv->Same H' H''->R (.int z) (vs'++fr.map λj=>(σ[j]?).join) H'')->(all=false->∀vs' H'',vs'.length=nv->Same H' H''->S (vs'++fr.map λj=>(σ[j]?).join) H'')->
   g (.int (lo+i)) (vs++fr.map λj=>(σ[j]?).join) H' λσ2 H3=>tc σ2 H3 λb H4=>if b=true then te σ2 H4 λy H5=>R y σ2 H5 else S σ2 H4)
  (hd:∀D H' (zs:List Int),H D=none->Same H H'->H' D=some (.lst (zs.map V.int))->(∀z∈zs,Pv z)->zs.length<=n->(all=true->zs.length=n)->Q (.ref D) H'):LCW (Itr lo n) g tc te nv fr σ H Q:=by
 intro D hD;refine⟨λi m σ' H'=>m=n-i/\i<=n/\∃ (vs:St) (zs:List Int),vs.length=nv/\σ'=vs++(fr.map λj=>(σ[j]?).join)/\Same H H'/\H' D=some (.lst (zs.map V.int))/\(∀z∈zs,Pv z)/\zs.length<=i/\(all=true->zs.length=i),⟨n,by simp,DV _,List.replicate nv none,[],by simp,rfl,Same.new hD,ag,by simp,by simp,by simp⟩,?_⟩;rintro i m σ' H' ⟨rfl,hi,vs,zs,hv,rfl,sm,hD',hz,hl,ha⟩;by_cases hlt:i<n
 .refine .inr ⟨hlt,λσ'' H''=>∃ (vs:St) (zs:List Int),vs.length=nv/\σ''=vs++(fr.map λj=>(σ[j]?).join)/\Same H H''/\H'' D=some (.lst (zs.map V.int))/\(∀z∈zs,Pv z)/\zs.length<=i+1/\(all=true->zs.length=i+1),λσ'' H'' q=>⟨n- (i+1),Eh hlt (D9 _),rfl,hlt,q⟩,λx H2 y=> ?_⟩;obtain⟨e1,e2⟩:=y;subst e1 e2;refine hs i vs _ (λy σ2 H5=>∃xs,H5 D=some (.lst xs)/\xs.length<sizeLine/\∃ (vs:St) (zs:List Int),vs.length=nv/\σ2=vs++(fr.map λj=>(σ[j]?).join)/\Same H (upd H5 D (.lst (xs++[y])))/\upd H5 D (.lst (xs++[y])) D=some (.lst (zs.map V.int))/\(∀z∈zs,Pv z)/\zs.length<=i+1/\(all=true->zs.length=i+1)) _ hlt hv sm (λz vs' H'' pz hv' sm'=> ?_) λhall vs' H'' hv' sm'=> ?_
  .refine⟨_,sm' D _ hD',by rw[Di];exact Dw hl (Dq hlt hn),vs',zs++[z],hv',rfl,(sm.trans sm').upd hD,by rw[ag,Ei];rfl,λu hu=> ?_,by rw[DK];exact DO hl,λe=>by rw[DK,ha e];rfl⟩;rcases DW.mp hu with h|h
   .exact hz u h
   .rw[DN.mp h];exact pz
  .exact⟨vs',zs,hv',rfl,sm.trans sm',sm' D _ hD',hz,HR hl,λe=>by rw[hall]at e;cases e⟩
 .have e:i=n:=Ew hi (Ef hlt);subst e;exact .inl ⟨Dl _,hd D H' zs hD sm hD' hz hl ha⟩
theorem yr{K:PySem.W.Frag}{a:Addr}{xs:List V}{g:TG}{tc:TT}{te:TE}{nv:Nat}{fr:List Nat}{σ:St}{H:Hp}{Q:VK}(all:Bool)(Pv:Int->Prop)(ha:SqL K H a xs)(hn:xs.length<=sizeLine)
  (hs:∀ (i:Nat) (x:V) (vs:St) (H':Hp) (R:V->St->Hp->Prop) (S:St->Hp->Prop),xs[i]?=some x->vs.length=nv->Same H H'->
   (∀z vs' H'',Pv z->vs'.length=nv->Same H' H''->R (.int z) (vs'++fr.map λj=>(σ[j]?).join) H'')->(all=false->∀vs' H'',vs'.length=nv->Same H' H''->S (vs'++fr.map λj=>(σ[j]?).join) H'')->
   g x (vs++fr.map λj=>(σ[j]?).join) H' λσ2 H3=>tc σ2 H3 λb H4=>if b=true then te σ2 H4 λy H5=>R y σ2 H5 else S σ2 H4)
  (hd:∀D H' (zs:List Int),H D=none->Same H H'->H' D=some (.lst (zs.map V.int))->(∀z∈zs,Pv z)->zs.length<=xs.length->(all=true->zs.length=xs.length)->Q (.ref D) H'):LCW (Itl K a) g tc te nv fr σ H Q:=by
 intro D hD;refine⟨λi m σ' H'=>m=xs.length-i/\i<=xs.length/\∃ (vs:St) (zs:List Int),vs.length=nv/\σ'=vs++(fr.map λj=>(σ[j]?).join)/\Same H H'/\H' D=some (.lst (zs.map V.int))/\(∀z∈zs,Pv z)/\zs.length<=i/\(all=true->zs.length=i),⟨xs.length,by simp,DV _,List.replicate nv none,[],by simp,rfl,Same.new hD,ag,by simp,by simp,by simp⟩,?_⟩;rintro i m σ' H' ⟨rfl,hi,vs,zs,hv,rfl,sm,hD',hz,hl,hall⟩;have ha':SqL K H' a xs:=sm.seq ha;by_cases hlt:i<xs.length
 .refine .inr ⟨⟨xs,xs[i],ha',by simp[hlt]⟩,λσ'' H''=>∃ (vs:St) (zs:List Int),vs.length=nv/\σ''=vs++(fr.map λj=>(σ[j]?).join)/\Same H H''/\H'' D=some (.lst (zs.map V.int))/\(∀z∈zs,Pv z)/\zs.length<=i+1/\(all=true->zs.length=i+1),λσ'' H'' q=>⟨xs.length- (i+1),Eh hlt (D9 _),rfl,hlt,q⟩,λx H2 y=> ?_⟩;obtain⟨e1,e2⟩:=y;subst e1;have hx:=e2 xs ha';refine hs i x vs _ (λy σ2 H5=>∃xs',H5 D=some (.lst xs')/\xs'.length<sizeLine/\∃ (vs:St) (zs:List Int),vs.length=nv/\σ2=vs++(fr.map λj=>(σ[j]?).join)/\Same H (upd H5 D (.lst (xs'++[y])))/\upd H5 D (.lst (xs'++[y])) D=some (.lst (zs.map V.int))/\(∀z∈zs,Pv z)/\zs.length<=i+1/\(all=true->zs.length=i+1)) _ hx hv sm (λz vs' H'' pz hv' sm'=> ?_) λhal vs' H'' hv' sm'=> ?_
  .refine⟨_,sm' D _ hD',by rw[Di];exact Dw hl (Dq hlt hn),vs',zs++[z],hv',rfl,(sm.trans sm').upd hD,by rw[ag,Ei];rfl,λu hu=> ?_,by rw[DK];exact DO hl,λe=>by rw[DK,hall e];rfl⟩;rcases DW.mp hu with h|h
   .exact hz u h
   .rw[DN.mp h];exact pz
  .exact⟨vs',zs,hv',rfl,sm.trans sm',sm' D _ hD',hz,HR hl,λe=>by rw[hal]at e;cases e⟩
 .have e:i=xs.length:=Ew hi (Ef hlt);subst e;exact .inl ⟨⟨xs,ha',Dl _⟩,hd D H' zs hD sm hD' hz hl hall⟩
end L2
namespace L2
open PySem PySem.Spec PySem.W PyProof.Rows PySem.SeqAt
def cT(H H':Hp):Prop:=∀b xs,H b=some (.tup xs)->H' b=some (.tup xs)
theorem cT.of(h:Same H H'):cT H H':=λb xs e=>h b _ e
theorem cT.refl:cT H H:=λ_ _ e=>e
theorem cT.trans(a:cT H H1)(b:cT H1 H2):cT H H2:=λc xs e=>b c xs (a c xs e)
theorem cT.upd{H:Hp}{q:Addr}{ys:List V}{o:HO}(h:H q=some (.lst ys)):cT H (upd H q o):=λb xs e=>by rw[aw (c8 e h (by intro z;cases z))];exact e
theorem cT.new(h:H q=none):cT H (L2.upd H q o):=λb xs e=>by rw[aw (au e h)];exact e
def ck(H:Hp)(xs:List V)(ts:List (Nat×Nat)):Prop:=xs.length=ts.length/\∀ (i:Nat) (t:Nat×Nat),ts[i]?=some t->∃a,xs[i]?=some (.ref a)/\H a=some (.tup [.int t.1, .int t.2])
theorem ck.ts{H H':Hp}{xs:List V}{ts:List (Nat×Nat)}(h:ck H xs ts)(e:cT H H'):ck H' xs ts:=
 ⟨h.1,λi t ht=>by obtain⟨a,h1,h2⟩:=h.2 i t ht;exact⟨a,h1,e _ _ h2⟩⟩
theorem ck.nil:ck H [] []:=⟨rfl,λi t h=>by simp at h⟩
theorem ck.at{H:Hp}{xs:List V}{ts:List (Nat×Nat)}(h:ck H xs ts){i:Nat}{y:V}(hy:xs[i]?=some y):∃a t,ts[i]?=some t/\y= .ref a/\H a=some (.tup [.int t.1, .int t.2]):=by
 have hi:i<ts.length:=by rw[<-h.1];exact(DB.mp hy).1
 obtain⟨a,h1,h2⟩:=h.2 i (ts[i]) (Ds hi);rw[hy]at h1;exact⟨a,ts[i],Ds hi,DS h1,h2⟩
def tV(K:PySem.W.Frag):List V->Hp->VK->Prop:=λxs H Q=>∃ (p:Addr) (ns:List Int),xs=[.ref p]/\SqL K H p (ns.map V.int)/\ns.length+1<4096/\
 ∀l,H l=none->Q (.ref l) (upd H l (.set (λk=>(firstMet (λi=>ns.getD i 0) ns.length).any (· ==k)) (firstMet (λi=>ns.getD i 0) ns.length).length))
theorem wm{X:Cx}(hc:X.calm=true):bX X (.type "set") (tV X.K):=by
 intro pins s σ H vs us Q I rv h;obtain⟨p,ns,rfl,ha,hn,q⟩:=h;obtain⟨u,rfl,ru⟩:=eD rv;cases ru;obtain⟨its,r1,p1,hz⟩:=I.list ha;have hi:=dY r1;have hlen:=r1.length;rw[Di]at hlen;refine call_set_list (ns:=ns) (I.ok.hd hc) p1.isList (by simpa using hi) (by rw[DI];show its.length+1<4096;lia) λh' tk hS hk=> ?_;have esz:its.toArray.size=ns.length:=by rw[DI,hlen]
 rw[esz]at hS;exact⟨.ref s.heap.objs.size,_,I.laid (t':=tk) (λb o e=>hk b o (DF e) e) (Dl _) (show br X.prog X.w _ _ _ (.set _ _)from hS),rfl,q _ (I.hok.fresh (Dl _))⟩
theorem si{X:Cx}{K:PySem.W.Frag}(h:X.K=K)(hc:X.calm=true):bX X (.type "set") (tV K):=by subst h;exact wm hc
def Bp:List V->Hp->VK->Prop:=λxs H Q=>∃ (p:Addr) (S:Int->Bool) (n:Nat),xs=[.ref p]/\H p=some (.set S n)/\Q (.int n) H
theorem sq:bX X (.builtin "len") Bp:=by intro pins s σ H vs us Q I rv h;obtain⟨p,S,n,rfl,hp,q⟩:=h;obtain⟨u,rfl,ru⟩:=eD rv;cases ru;obtain⟨o,es,ep,t,ho,hex,hd,hel,hmem,hb,hf,hn⟩:=I.hok p _ hp;have hb4:es.size<4096:=hb;exact call_len_set ho hex hd hf (Int.lt_of_lt_of_le (show(es.size:Int)<4096 by lia) (by decide)) ⟨.int n,H,I.tok _,⟨_,by rw[hn]⟩,q⟩
def Bo:List V->Hp->VK->Prop:=λxs H Q=>∃ (p:Addr) (n:Nat),xs=[.ref p]/\H p=some (.rng 0 n)/\n<=1000/\∀l,H l=none->Q (.ref l) (upd H l (.lst (((List.range n).map λi:Nat=>(i:Int)).map V.int)))
theorem jE:∀ (acc:List Value) (n k:Nat),acc.length=n->(∀ (i:Nat) (v:Value),acc[i]?=some v->∃t,v= .int (((k+i:Nat)):Int) t)->Vals (((List.range' k n).map λi:Nat=>(i:Int)).map V.int) acc
 | [],0,_,_,_=> .nil
 |v::r,n+1,k,hl,h=>by
  obtain⟨t,e⟩:=h 0 v rfl;subst e;exact .cons ⟨t,rfl⟩ (jE r n (k+1) (Ig hl) λi u hu=>by obtain⟨t',e'⟩:=h (i+1) u (by simpa using hu);exact⟨t',by rw[e',show k+(i+1)=k+1+i by lia]⟩)
theorem gD{X:Cx}(hc:X.calm=true):bX X (.type "list") Bo:=by
 intro pins s σ H vs us Q I rv h;obtain⟨p,n,rfl,hp,hn,q⟩:=h;obtain⟨u,rfl,ru⟩:=eD rv;cases ru;obtain⟨t,u,v,e⟩:=I.hok p _ hp;have hr:IsRange s.heap p 0 (n:Int) 1 t u v:=e;refine call_list_range (n:=n) (I.ok.hd hc) hr (small_one (by decide) (by decide) (by lia) (by lia)) (by rw[rangeSize_nat];lia) (by lia) λh' tk acc' c' hk hD hI=> ?_;have hv:Vals (((List.range n).map λi:Nat=>(i:Int)).map V.int) acc'.toList:=by rw[List.range_eq_range'];refine jE acc'.toList n 0 (by rw[EL];exact hI.1) λi w hw=> ?_;obtain⟨t',e'⟩:=hI.2 i w (by rw[<-hw,Fe]);exact⟨t',by rw[e'];congr 1;lia⟩
 refine⟨.ref s.heap.objs.size,_,I.laid (t':=tk) hk (Dl _) (show br X.prog X.w _ _ _ (.lst _)from⟨?_,acc'.toList,c',hv,?_⟩),rfl,q _ (I.hok.fresh (Dl _))⟩
 .rw[Di,Di,DU];exact Du hn (by decide)
 .rw[Hi];exact hD
theorem yt{K:PySem.W.Frag}{a:Addr}{xs:List V}{g:TG}{tc:TT}{te:TE}{nv:Nat}{fr:List Nat}{σ:St}{H:Hp}{Q:VK}(Rl:V->V->Hp->Prop)(hRl:∀x y H H',cT H H'->Rl x y H->Rl x y H')(ha:SqL K H a xs)(hn:xs.length<=sizeLine)
  (hs:∀ (i:Nat) (x:V) (vs:St) (H':Hp) (R:V->St->Hp->Prop) (S:St->Hp->Prop),xs[i]?=some x->vs.length=nv->Same H H'->
   (∀y vs' H'',Rl x y H''->vs'.length=nv->Same H' H''->R y (vs'++fr.map λj=>(σ[j]?).join) H'')->
   g x (vs++fr.map λj=>(σ[j]?).join) H' λσ2 H3=>tc σ2 H3 λb H4=>if b=true then te σ2 H4 λy H5=>R y σ2 H5 else S σ2 H4)
  (hd:∀D H' (ys:List V),H D=none->Same H H'->H' D=some (.lst ys)->ys.length=xs.length->(∀ (j:Nat) (x y:V),xs[j]?=some x->ys[j]?=some y->Rl x y H')->Q (.ref D) H'):LCW (Itl K a) g tc te nv fr σ H Q:=by
 intro D hD;refine⟨λi m σ' H'=>m=xs.length-i/\i<=xs.length/\∃ (vs:St) (ys:List V),vs.length=nv/\σ'=vs++(fr.map λj=>(σ[j]?).join)/\Same H H'/\H' D=some (.lst ys)/\ys.length=i/\(∀ (j:Nat) (x y:V),xs[j]?=some x->ys[j]?=some y->Rl x y H'),⟨xs.length,by simp,DV _,List.replicate nv none,[],by simp,rfl,Same.new hD,ag,rfl,by simp⟩,?_⟩;rintro i m σ' H' ⟨rfl,hi,vs,ys,hv,rfl,sm,hD',hl,hz⟩;have ha':SqL K H' a xs:=sm.seq ha;by_cases hlt:i<xs.length
 .refine .inr ⟨⟨xs,xs[i],ha',by simp[hlt]⟩,λσ'' H''=>∃ (vs:St) (ys:List V),vs.length=nv/\σ''=vs++(fr.map λj=>(σ[j]?).join)/\Same H H''/\H'' D=some (.lst ys)/\ys.length=i+1/\(∀ (j:Nat) (x y:V),xs[j]?=some x->ys[j]?=some y->Rl x y H''),λσ'' H'' q=>⟨xs.length- (i+1),Eh hlt (D9 _),rfl,hlt,q⟩,λx H2 y=> ?_⟩;obtain⟨e1,e2⟩:=y;subst e1;have hx:=e2 xs ha';refine hs i x vs _ (λy σ2 H5=>∃xs',H5 D=some (.lst xs')/\xs'.length<sizeLine/\∃ (vs:St) (ys:List V),vs.length=nv/\σ2=vs++(fr.map λj=>(σ[j]?).join)/\Same H (upd H5 D (.lst (xs'++[y])))/\upd H5 D (.lst (xs'++[y])) D=some (.lst ys)/\ys.length=i+1/\(∀ (j:Nat) (x z:V),xs[j]?=some x->ys[j]?=some z->Rl x z (upd H5 D (.lst (xs'++[y]))))) _ hx hv sm (λy vs' H'' pz hv' sm'=> ?_);have hD2:=sm' D _ hD';refine⟨_,hD2,by rw[hl];exact Dq hlt hn,vs',ys++[y],hv',rfl,(sm.trans sm').upd hD,ag,by rw[DK,hl];rfl,λj x' z hx' hz'=> ?_⟩;refine hRl _ _ _ _ (cT.upd hD2) ?_;by_cases hj:j<ys.length
  .rw[Eg hj]at hz';exact hRl _ _ _ _ (cT.of sm') (hz j x' z hx' hz')
  .rw[Ek (by lia)]at hz';have hj2:j-ys.length=0:=by
    cases e:j-ys.length with
    |zero=>rfl
    |succ n=>rw[e]at hz';simp at hz'
   rw[hj2]at hz';cases hz';have ej:j=i:=by lia
   subst ej;rw[hx]at hx';cases hx';exact pz
 .have e:i=xs.length:=Ew hi (Ef hlt);subst e;exact .inl ⟨⟨xs,ha',Dl _⟩,hd D H' ys hD sm hD' hl hz⟩
end L2
namespace L2
open PySem PySem.Spec PyProof.Rows
def Itz(K:PySem.W.Frag)(a b:Addr):It:=
 ⟨λi H=>∃xs ys x y,SqL K H a xs/\SqL K H b ys/\xs[i]?=some x/\ys[i]?=some y,
  λi H x H'=>∃t,x= .ref t/\H t=none/\∃v u,(∀xs,SqL K H a xs->xs[i]?=some v)/\(∀ys,SqL K H b ys->ys[i]?=some u)/\H'=upd H t (.tup [v,u]),
  λi H=>∃xs ys,SqL K H a xs/\SqL K H b ys/\(xs.length<=i\/ys.length<=i)⟩
theorem sG{z TI TO i1 i2 b:Addr}(h:b∈[z,TO,i1,i2]):b∈[z,TI,TO,i1,i2]:=by
 rcases Dz.mp h with h|h
 .exact Dz.mpr (.inl h)
 .exact DC _ (DC _ h)
theorem df{z TO i1 i2 b:Addr}(hb:b∉ [z,TO,i1,i2]):b≠z/\b≠TO/\b≠i1/\b≠i2:=by simp only[Dz,GV,or_false,not_or]at hb;exact hb
theorem wJ{P:Program}{w:World}{K:PySem.W.Frag}{elts:List Expr}{x1:Nat}{tp:Pos}(l1 l2 z TI TO i1 i2:Addr)(D:ZipApart z TI TO i1 i2 l1 l2):
  Turn P w K (.Tuple elts x1 tp) (Itz K l1 l2) [z,TI,TO,i1,i2] z (λi h=>IsZip h z TI TO .none/\IsPair h TI (.ref i1) (.ref i2)/\(∃a b,IsPair h TO a b)/\h.IsListIter i1 l1 i/\h.IsListIter i2 l2 i) where
 mem:=by simp
 obj:=λi h st b hb=>by
  obtain⟨hz,hTI,⟨a',b',hTO⟩,h1,h2⟩:=st;simp only[Dz,GV,or_false]at hb;rcases hb with rfl|rfl|rfl|rfl|rfl
  .exact⟨_,hz,λv q=>by have q':Data.fields _=Data.cell v:=q;cases q'⟩
  .exact⟨_,hTI,λv q=>by have q':Data.seq _ _=Data.cell v:=q;cases q'⟩
  .exact⟨_,hTO,λv q=>by have q':Data.seq _ _=Data.cell v:=q;cases q'⟩
  .obtain⟨o,e,c,d⟩:=h1;exact⟨o,e,λv q=>by rw[d]at q;cases q⟩
  .obtain⟨o,e,c,d⟩:=h2;exact⟨o,e,λv q=>by rw[d]at q;cases q⟩
 keep:=λi h h' st k=>by obtain⟨hz,hTI,⟨a',b',hTO⟩,h1,h2⟩:=st;exact⟨k z (by simp) _ hz,k TI (by simp) _ hTI,⟨a',b',k TO (by simp) _ hTO⟩,h1.at λo e=>k i1 (by simp) o e,h2.at λo e=>k i2 (by simp) o e⟩
 item:=by
  intro X hP hw hK hc i pins s σ H E I hf st hg;subst hP hw hK;obtain⟨xs,ys,x,y,hq1,hq2,hx,hy⟩:=hg;obtain⟨hz,hTI,⟨a',b',hTO⟩,h1,h2⟩:=st;obtain⟨its,rv,p1,hz1⟩:=I.list hq1;obtain⟨jts,rw',p2,hz2⟩:=I.list hq2;obtain⟨u,hu,ru⟩:=rv.get hx;obtain⟨v,hv,rv'⟩:=rw'.get hy;refine wpAny_pyNext_zip_item D hz hTI hTO h1 h2 p1.isList p2.isList (x:=u) (y:=v) (by simpa using hu) (by simpa using hv) λh₁ hzo hTO₁ h1₁ h2₁ ht₁ hsz₁ hk₁=> ?_;refine⟨_,rfl,wpAny_letOwnedTupleGo_zip hzo λh₂ hz₂ hs₂=> ?_⟩;replace hs₂:Heap.SameBut z h₁ h₂:=hs₂;have hzl:z<s.heap.objs.size:=DF hz;have hTIl:TI<s.heap.objs.size:=DF hTI;have hTOl:TO<s.heap.objs.size:=DF hTO;have h1l:i1<s.heap.objs.size:=by obtain⟨o,e,_⟩:=h1;exact DF e
  have h2l:i2<s.heap.objs.size:=by obtain⟨o,e,_⟩:=h2;exact DF e
  have hfr:H s.heap.objs.size=none:=I.fresh;have ht₂:h₂.get? s.heap.objs.size=some {cls:= .type "tuple",data:= .seq #[u,v]}:=(hs₂.2 _ (F9 hzl)).trans ht₁;have kk:∀c o,c≠z->c≠TO->c≠i1->c≠i2->s.heap.get? c=some o->h₂.get? c=some o:=λc o c1 c2 c3 c4 e=>(hs₂.2 c c1).trans (hk₁ c o c1 c2 c3 c4 e);have I1:Inv X pins σ H {s with heap:=h₂,gens:=s.gens,drawn:=s.drawn,toks:=s.toks}:=I.own [z,TO,i1,i2] (λb hb=>hf b (sG hb)) λb o hb e=>kk b o (df hb).1 (df hb).2.1 (df hb).2.2.1 (df hb).2.2.2 e;have I2:Inv X pins σ (upd H s.heap.objs.size (.tup [x,y])) {s with heap:=h₂}:=I.pairIn I1 ru rv' ht₂;refine⟨.ref s.heap.objs.size,_,I2,rfl,⟨_,rfl,hfr,x,y,λzs hy=>by rw[I.list_inj hy hq1];exact hx,λzs hz=>by rw[I.list_inj hz hq2];exact hy,rfl⟩,⟨hz₂,?_,⟨_,_,(hs₂.2 TO D.TOz).trans hTO₁⟩,?_,?_⟩,λb hb=> ?_⟩
  .exact kk TI _ D.TIz D.TITO D.TIi1 D.TIi2 hTI
  .obtain⟨o,e,c,d⟩:=h1₁;exact⟨o,(hs₂.2 i1 D.i1z).trans e,c,d⟩
  .obtain⟨o,e,c,d⟩:=h2₁;exact⟨o,(hs₂.2 i2 D.i2z).trans e,c,d⟩
  .have hb0:=(hf b hb).1;have hbl:b≠s.heap.objs.size:=by
    simp only[Dz,GV,or_false]at hb;rcases hb with rfl|rfl|rfl|rfl|rfl
    .exact DQ hzl
    .exact DQ hTIl
    .exact DQ hTOl
    .exact DQ h1l
    .exact DQ h2l
   rw[aw hbl];exact hb0
 done:=by
  intro X hP hw hK hc i pins s σ H E I hf st hg;subst hP hw hK;obtain⟨xs,ys,hq1,hq2,hle⟩:=hg;obtain⟨hz,hTI,⟨a',b',hTO⟩,h1,h2⟩:=st;obtain⟨its,rv,p1,hz1⟩:=I.list hq1;obtain⟨jts,rw',p2,hz2⟩:=I.list hq2;have e1:=rv.length;have e2:=rw'.length;refine wpAny_pyNext_zip_end (I.ok.hd hc) D hz hTI hTO h1 h2 p1.isList p2.isList (by
   rcases hle with h|h
   .exact .inl (by simp;lia)
   .exact .inr (by simp;lia)) λh₂ kk=>⟨rfl,?_⟩
  exact I.own [z,TO,i1,i2] (λb hb=>hf b (sG hb)) λb o hb e=>kk b o (df hb).1 (df hb).2.1 (df hb).2.2.1 (df hb).2.2.2 e
 self:=λ_ _ _ _ _ st h=>wpAny_pyIter_zip st.1 h
section
variable{X:Cx}{elts:List Expr}{x1:Nat}{tp:Pos}
def CJ(K:PySem.W.Frag)(ta:TA):TI:=λσ H R=>ta σ H λvs H1=>∃a b,vs=[.ref a, .ref b]/\(∃xs,SqL K H1 a xs)/\(∃ys,SqL K H1 b ys)/\R (Itz K a b) H1
theorem Bu{a b:Expr}{ta:TA}{p pos:Pos}(hg:Gl X "zip")(hm:X.mg "zip"=none)(ha:PA X [a,b] ta)(hs:starEach [a,b] X.env=(false,eval a X.env)::starEach [b] X.env:=by rfl)(hpl:(backTo pos (starEach [b] X.env)).any (·.1)=false:=by rfl):PI X (.Tuple elts x1 tp) (.Call (.Name "zip" p) [a,b] [] pos) (CJ X.K ta):=by
 intro pins s σ H R I h;refine E3 (dz I hg hm boot_zip ?_);refine E1 (thn (ha pos pins s σ H _ I h) λus s1 ⟨vs,H1,I1,r1,q1⟩=> ?_) hs hpl;obtain⟨a,b,e,⟨xs,hx⟩,⟨ys,hy⟩,q⟩:=q1;subst e;obtain⟨u,v,rfl,ru,rv⟩:=AQ r1;cases ru;cases rv;obtain⟨its,r2,p2,hz2⟩:=I1.list hx;obtain⟨jts,r3,p3,hz3⟩:=I1.list hy;have la:a<s1.heap.objs.size:=by obtain⟨o,e,_⟩:=p2.isList;exact DF e
 have lb:b<s1.heap.objs.size:=by obtain⟨o,e,_⟩:=p3.isList;exact DF e
 refine call_zip_2 p2.isList p3.isList λh' hz hTI hTO h1 h2 hsz hk=> ?_;refine wpAny_pyIter_zip hz ⟨s1.heap.objs.size+4,[s1.heap.objs.size+4,s1.heap.objs.size+2,s1.heap.objs.size+3,s1.heap.objs.size,s1.heap.objs.size+1],_,Itz X.K a b,H1,rfl,I1.kept (t':=s1.toks) hk,wJ a b _ _ _ _ _ (zipApart_new la lb),⟨hz,hTI,⟨_,_,hTO⟩,h1,h2⟩,λc hc=> ?_,q⟩;have hc':s1.heap.objs.size<=c:=by
  simp only[Dz,GV,or_false]at hc;rcases hc with e|e|e|e|e<;>rw[e]
  .exact Gb _ _
  .exact Gb _ _
  .exact Gb _ _
  .exact Dl _
  .exact Gb _ _
 exact I1.fpOk hc' (I1.hok.fresh hc')
theorem Ae{K:PySem.W.Frag}{a b:Expr}{ta:TA}{p pos:Pos}(h:X.K=K)(hg:Gl X "zip")(hm:X.mg "zip"=none)(ha:PA X [a,b] ta)(hs:starEach [a,b] X.env=(false,eval a X.env)::starEach [b] X.env:=by rfl)(hpl:(backTo pos (starEach [b] X.env)).any (·.1)=false:=by rfl):PI X (.Tuple elts x1 tp) (.Call (.Name "zip" p) [a,b] [] pos) (CJ K ta):=by subst h;exact Bu hg hm ha hs hpl
end
def hide(H:Hp)(D:Addr):Hp:=λb=>if b=D then none else H b
theorem cg(h:b≠D):hide H D b=H b:=by unfold hide;rw[Dt h]
theorem hE:hide (upd H D o) D=hide H D:=by
 funext b;unfold hide;split
 .rfl
 .rename_i h;exact aw h
theorem cy:Same (hide H D) H:=λb o e=>by
 unfold hide at e;split at e
 .cases e
 .exact e
theorem fX(h:Same H H'):Same (hide H D) (hide H' D):=λb o e=>by
 unfold hide at e⊢;split at e
 .cases e
 .rename_i hb;rw[Dt hb];exact h b o e
theorem eQ{K:PySem.W.Frag}{a:Addr}{xs:List V}{g:TG}{tc:TT}{te:TE}{nv:Nat}{fr:List Nat}{σ:St}{H:Hp}{Q:VK}(Rl:V->V->Hp->Prop)(hRl:∀x y H H',Same H H'->Rl x y H->Rl x y H')(ha:SqL K H a xs)(hn:xs.length<=sizeLine)
  (hs:∀ (i:Nat) (x:V) (vs:St) (D:Addr) (H':Hp) (R:V->St->Hp->Prop) (S:St->Hp->Prop),xs[i]?=some x->vs.length=nv->Same H H'->(∃l,H' D=some (.lst l))->
   (∀y vs' H'',Rl x y (hide H'' D)->vs'.length=nv->Same H' H''->R y (vs'++fr.map λj=>(σ[j]?).join) H'')->
    g x (vs++fr.map λj=>(σ[j]?).join) H' λσ2 H3=>tc σ2 H3 λb H4=>if b=true then te σ2 H4 λy H5=>R y σ2 H5 else S σ2 H4)
  (hd:∀D H' (ys:List V),H D=none->Same H H'->H' D=some (.lst ys)->ys.length=xs.length->(∀ (j:Nat) (x y:V),xs[j]?=some x->ys[j]?=some y->Rl x y (hide H' D))->Q (.ref D) H'):LCW (Itl K a) g tc te nv fr σ H Q:=by
 intro D hD;refine⟨λi m σ' H'=>m=xs.length-i/\i<=xs.length/\∃ (vs:St) (ys:List V),vs.length=nv/\σ'=vs++(fr.map λj=>(σ[j]?).join)/\Same H H'/\H' D=some (.lst ys)/\ys.length=i/\(∀ (j:Nat) (x y:V),xs[j]?=some x->ys[j]?=some y->Rl x y (hide H' D)),⟨xs.length,by simp,DV _,List.replicate nv none,[],by simp,rfl,Same.new hD,ag,rfl,by simp⟩,?_⟩;rintro i m σ' H' ⟨rfl,hi,vs,ys,hv,rfl,sm,hD',hl,hz⟩;have ha':SqL K H' a xs:=sm.seq ha;by_cases hlt:i<xs.length
 .refine .inr ⟨⟨xs,xs[i],ha',by simp[hlt]⟩,λσ'' H''=>∃ (vs:St) (ys:List V),vs.length=nv/\σ''=vs++(fr.map λj=>(σ[j]?).join)/\Same H H''/\H'' D=some (.lst ys)/\ys.length=i+1/\(∀ (j:Nat) (x y:V),xs[j]?=some x->ys[j]?=some y->Rl x y (hide H'' D)),λσ'' H'' q=>⟨xs.length- (i+1),Eh hlt (D9 _),rfl,hlt,q⟩,λx H2 y=> ?_⟩;obtain⟨e1,e2⟩:=y;subst e1;have hx:=e2 xs ha';refine hs i x vs D _ (λy σ2 H5=>∃xs',H5 D=some (.lst xs')/\xs'.length<sizeLine/\∃ (vs:St) (ys:List V),vs.length=nv/\σ2=vs++(fr.map λj=>(σ[j]?).join)/\Same H (upd H5 D (.lst (xs'++[y])))/\upd H5 D (.lst (xs'++[y])) D=some (.lst ys)/\ys.length=i+1/\(∀ (j:Nat) (x z:V),xs[j]?=some x->ys[j]?=some z->Rl x z (hide (upd H5 D (.lst (xs'++[y]))) D))) _ hx hv sm ⟨_,hD'⟩ (λy vs' H'' pz hv' sm'=> ?_);have hD2:=sm' D _ hD';refine⟨_,hD2,by rw[hl];exact Dq hlt hn,vs',ys++[y],hv',rfl,(sm.trans sm').upd hD,ag,by rw[DK,hl];rfl,λj x' z hx' hz'=> ?_⟩;rw[hE];by_cases hj:j<ys.length
  .rw[Eg hj]at hz';exact hRl _ _ _ _ (fX sm') (hz j x' z hx' hz')
  .rw[Ek (by lia)]at hz';have hj2:j-ys.length=0:=by
    cases e:j-ys.length with
    |zero=>rfl
    |succ n=>rw[e]at hz';simp at hz'
   rw[hj2]at hz';cases hz';have ej:j=i:=by lia
   subst ej;rw[hx]at hx';cases hx';exact pz
 .have e:i=xs.length:=Ew hi (Ef hlt);subst e;exact .inl ⟨⟨xs,ha',Dl _⟩,hd D H' ys hD sm hD' hl hz⟩
theorem AD{K:PySem.W.Frag}{a:Addr}{xs:List V}{g:TG}{tc:TT}{te:TE}{nv:Nat}{fr:List Nat}{σ:St}{H:Hp}{Q:VK}(Rl:V->V->Hp->Prop)(hRl:∀x y H H',Same H H'->Rl x y H->Rl x y H')(ha:H a=some (.tup xs))(hn:xs.length<=sizeLine)
  (hs:∀ (i:Nat) (x:V) (vs:St) (D:Addr) (H':Hp) (R:V->St->Hp->Prop) (S:St->Hp->Prop),xs[i]?=some x->vs.length=nv->Same H H'->(∃l,H' D=some (.lst l))->
   (∀y vs' H'',Rl x y (hide H'' D)->vs'.length=nv->Same H' H''->R y (vs'++fr.map λj=>(σ[j]?).join) H'')->
    g x (vs++fr.map λj=>(σ[j]?).join) H' λσ2 H3=>tc σ2 H3 λb H4=>if b=true then te σ2 H4 λy H5=>R y σ2 H5 else S σ2 H4)
  (hd:∀D H' (ys:List V),H D=none->Same H H'->H' D=some (.lst ys)->ys.length=xs.length->(∀ (j:Nat) (x y:V),xs[j]?=some x->ys[j]?=some y->Rl x y (hide H' D))->Q (.ref D) H'):LCW (Itt K a) g tc te nv fr σ H Q:=by
 intro D hD;refine⟨λi m σ' H'=>m=xs.length-i/\i<=xs.length/\∃ (vs:St) (ys:List V),vs.length=nv/\σ'=vs++(fr.map λj=>(σ[j]?).join)/\Same H H'/\H' D=some (.lst ys)/\ys.length=i/\(∀ (j:Nat) (x y:V),xs[j]?=some x->ys[j]?=some y->Rl x y (hide H' D)),⟨xs.length,by simp,DV _,List.replicate nv none,[],by simp,rfl,Same.new hD,ag,rfl,by simp⟩,?_⟩;rintro i m σ' H' ⟨rfl,hi,vs,ys,hv,rfl,sm,hD',hl,hz⟩;have ha':SqT K H' a xs:=SqT.of (sm.at ha);by_cases hlt:i<xs.length
 .refine .inr ⟨⟨xs,xs[i],ha',by simp[hlt]⟩,λσ'' H''=>∃ (vs:St) (ys:List V),vs.length=nv/\σ''=vs++(fr.map λj=>(σ[j]?).join)/\Same H H''/\H'' D=some (.lst ys)/\ys.length=i+1/\(∀ (j:Nat) (x y:V),xs[j]?=some x->ys[j]?=some y->Rl x y (hide H'' D)),λσ'' H'' q=>⟨xs.length- (i+1),Eh hlt (D9 _),rfl,hlt,q⟩,λx H2 y=> ?_⟩;obtain⟨e1,e2⟩:=y;subst e1;have hx:=e2 xs ha';refine hs i x vs D _ (λy σ2 H5=>∃xs',H5 D=some (.lst xs')/\xs'.length<sizeLine/\∃ (vs:St) (ys:List V),vs.length=nv/\σ2=vs++(fr.map λj=>(σ[j]?).join)/\Same H (upd H5 D (.lst (xs'++[y])))/\upd H5 D (.lst (xs'++[y])) D=some (.lst ys)/\ys.length=i+1/\(∀ (j:Nat) (x z:V),xs[j]?=some x->ys[j]?=some z->Rl x z (hide (upd H5 D (.lst (xs'++[y]))) D))) _ hx hv sm ⟨_,hD'⟩ (λy vs' H'' pz hv' sm'=> ?_);have hD2:=sm' D _ hD';refine⟨_,hD2,by rw[hl];exact Dq hlt hn,vs',ys++[y],hv',rfl,(sm.trans sm').upd hD,ag,by rw[DK,hl];rfl,λj x' z hx' hz'=> ?_⟩;rw[hE];by_cases hj:j<ys.length
  .rw[Eg hj]at hz';exact hRl _ _ _ _ (fX sm') (hz j x' z hx' hz')
  .rw[Ek (by lia)]at hz';have hj2:j-ys.length=0:=by
    cases e:j-ys.length with
    |zero=>rfl
    |succ n=>rw[e]at hz';simp at hz'
   rw[hj2]at hz';cases hz';have ej:j=i:=by lia
   subst ej;rw[hx]at hx';cases hx';exact pz
 .have e:i=xs.length:=Ew hi (Ef hlt);subst e;exact .inl ⟨⟨xs,ha',Dl _⟩,hd D H' ys hD sm hD' hl hz⟩
theorem mq{lo:Int}{n:Nat}{g:TG}{tc:TT}{te:TE}{nv:Nat}{fr:List Nat}{σ:St}{H:Hp}{Q:VK}(Rl:Nat->V->Hp->Prop)(hRl:∀i y H H',Same H H'->Rl i y H->Rl i y H')(hn:n<=sizeLine)
  (hs:∀ (i:Nat) (vs:St) (D:Addr) (H':Hp) (R:V->St->Hp->Prop) (S:St->Hp->Prop),i<n->vs.length=nv->Same H H'->(∃l,H' D=some (.lst l))->
   (∀y vs' H'',Rl i y (hide H'' D)->vs'.length=nv->Same H' H''->R y (vs'++fr.map λj=>(σ[j]?).join) H'')->
   g (.int (lo+i)) (vs++fr.map λj=>(σ[j]?).join) H' λσ2 H3=>tc σ2 H3 λb H4=>if b=true then te σ2 H4 λy H5=>R y σ2 H5 else S σ2 H4)
  (hd:∀D H' (ys:List V),H D=none->Same H H'->H' D=some (.lst ys)->ys.length=n->(∀ (j:Nat) (y:V),ys[j]?=some y->Rl j y (hide H' D))->Q (.ref D) H'):LCW (Itr lo n) g tc te nv fr σ H Q:=by
 intro D hD;refine⟨λi m σ' H'=>m=n-i/\i<=n/\∃ (vs:St) (ys:List V),vs.length=nv/\σ'=vs++(fr.map λj=>(σ[j]?).join)/\Same H H'/\H' D=some (.lst ys)/\ys.length=i/\(∀ (j:Nat) (y:V),ys[j]?=some y->Rl j y (hide H' D)),⟨n,by simp,DV _,List.replicate nv none,[],by simp,rfl,Same.new hD,ag,rfl,by simp⟩,?_⟩;rintro i m σ' H' ⟨rfl,hi,vs,ys,hv,rfl,sm,hD',hl,hz⟩;by_cases hlt:i<n
 .refine .inr ⟨hlt,λσ'' H''=>∃ (vs:St) (ys:List V),vs.length=nv/\σ''=vs++(fr.map λj=>(σ[j]?).join)/\Same H H''/\H'' D=some (.lst ys)/\ys.length=i+1/\(∀ (j:Nat) (y:V),ys[j]?=some y->Rl j y (hide H'' D)),λσ'' H'' q=>⟨n- (i+1),Eh hlt (D9 _),rfl,hlt,q⟩,λx H2 y=> ?_⟩;obtain⟨e1,e2⟩:=y;subst e1 e2;refine hs i vs D _ (λy σ2 H5=>∃xs',H5 D=some (.lst xs')/\xs'.length<sizeLine/\∃ (vs:St) (ys:List V),vs.length=nv/\σ2=vs++(fr.map λj=>(σ[j]?).join)/\Same H (upd H5 D (.lst (xs'++[y])))/\upd H5 D (.lst (xs'++[y])) D=some (.lst ys)/\ys.length=i+1/\(∀ (j:Nat) (z:V),ys[j]?=some z->Rl j z (hide (upd H5 D (.lst (xs'++[y]))) D))) _ hlt hv sm ⟨_,hD'⟩ (λy vs' H'' pz hv' sm'=> ?_);have hD2:=sm' D _ hD';refine⟨_,hD2,by rw[hl];exact Dq hlt hn,vs',ys++[y],hv',rfl,(sm.trans sm').upd hD,ag,by rw[DK,hl];rfl,λj z hz'=> ?_⟩;rw[hE];by_cases hj:j<ys.length
  .rw[Eg hj]at hz';exact hRl _ _ _ _ (fX sm') (hz j z hz')
  .rw[Ek (by lia)]at hz';have hj2:j-ys.length=0:=by
    cases e:j-ys.length with
    |zero=>rfl
    |succ n=>rw[e]at hz';simp at hz'
   rw[hj2]at hz';cases hz';have ej:j=i:=by lia
   subst ej;exact pz
 .have e:i=n:=Ew hi (Ef hlt);subst e;exact .inl ⟨Dl _,hd D H' ys hD sm hD' hl hz⟩
theorem AB{K:PySem.W.Frag}{a b:Addr}{xs ys:List V}{n:Nat}{g:TG}{tc:TT}{te:TE}{nv:Nat}{fr:List Nat}{σ:St}{H:Hp}{Q:VK}(f:Nat->V)(ha:SqL K H a xs)(hb:SqL K H b ys)(hxn:xs.length=n)(hyn:ys.length=n)(hn:n<=sizeLine)
  (hs:∀ (i:Nat) (x y:V) (vs:St) (H':Hp) (t:Addr) (R:V->St->Hp->Prop) (S:St->Hp->Prop),xs[i]?=some x->ys[i]?=some y->vs.length=nv->Same H H'->H' t=none->
   (∀vs' H'',vs'.length=nv->Same (upd H' t (.tup [x,y])) H''->R (f i) (vs'++fr.map λj=>(σ[j]?).join) H'')->
   g (.ref t) (vs++fr.map λj=>(σ[j]?).join) (upd H' t (.tup [x,y])) λσ2 H3=>tc σ2 H3 λb H4=>if b=true then te σ2 H4 λy H5=>R y σ2 H5 else S σ2 H4)
  (hd:∀D H',H D=none->Same H H'->H' D=some (.lst ((List.range n).map f))->Q (.ref D) H'):LCW (Itz K a b) g tc te nv fr σ H Q:=by
 intro D hD;refine⟨λi m σ' H'=>m=n-i/\i<=n/\∃vs:St,vs.length=nv/\σ'=vs++(fr.map λj=>(σ[j]?).join)/\Same H H'/\H' D=some (.lst ((List.range i).map f)),⟨n,by simp,DV _,List.replicate nv none,by simp,rfl,Same.new hD,ag⟩,?_⟩;rintro i m σ' H' ⟨rfl,hi,vs,hv,rfl,sm,hD'⟩;have ha':SqL K H' a xs:=sm.seq ha;have hb':SqL K H' b ys:=sm.seq hb;by_cases hlt:i<n
 .have lx:i<xs.length:=by lia
  have ly:i<ys.length:=by lia
  refine .inr ⟨⟨xs,ys,xs[i],ys[i],ha',hb',by simp[lx],by simp[ly]⟩,λσ'' H''=>∃vs:St,vs.length=nv/\σ''=vs++(fr.map λj=>(σ[j]?).join)/\Same H H''/\H'' D=some (.lst ((List.range (i+1)).map f)),λσ'' H'' q=>⟨n- (i+1),Eh hlt (D9 _),rfl,hlt,q⟩,λx H2 y=> ?_⟩;obtain⟨t,e1,ht,v,u,e2,e3,e4⟩:=y;subst e1 e4;have hx:=e2 xs ha';have hy:=e3 ys hb';refine hs i v u vs H' t (λy σ2 H5=>∃xs',H5 D=some (.lst xs')/\xs'.length<sizeLine/\∃vs:St,vs.length=nv/\σ2=vs++(fr.map λj=>(σ[j]?).join)/\Same H (upd H5 D (.lst (xs'++[y])))/\upd H5 D (.lst (xs'++[y])) D=some (.lst ((List.range (i+1)).map f))) _ hx hy hv sm ht λvs' H'' hv' sm'=> ?_;have smt:Same H' (upd H' t (.tup [v,u])):=Same.new ht;refine⟨_,sm' D _ (smt D _ hD'),by rw[Di,DU];exact Dq hlt hn,vs',hv',rfl,((sm.trans smt).trans sm').upd hD,?_⟩;rw[ag,ES,Ei];rfl
 .have e:i=n:=Ew hi (Ef hlt);subst e;exact .inl ⟨⟨xs,ys,ha',hb', .inl (by lia)⟩,hd D H' hD sm hD'⟩
def bq(H:Hp)(xs:List V)(M:List (List Int)):Prop:=xs.length=M.length/\∀ (i:Nat) (r:List Int),M[i]?=some r->∃a,xs[i]?=some (.ref a)/\H a=some (.lst (r.map V.int))
theorem bq.same(h:bq H xs M)(e:Same H H'):bq H' xs M:=
 ⟨h.1,λi r hr=>by obtain⟨a,h1,h2⟩:=h.2 i r hr;exact⟨a,h1,e.at h2⟩⟩
theorem bq.at{H:Hp}{xs:List V}{M:List (List Int)}(h:bq H xs M){i:Nat}{y:V}(hy:xs[i]?=some y):∃a r,M[i]?=some r/\y= .ref a/\H a=some (.lst (r.map V.int)):=by
 have hi:i<M.length:=by rw[<-h.1];exact(DB.mp hy).1
 obtain⟨a,h1,h2⟩:=h.2 i (M[i]) (Ds hi);rw[hy]at h1;exact⟨a,M[i],Ds hi,DS h1,h2⟩
theorem bq.of{ys:List V}{M:List (List Int)}(hl:ys.length=M.length)(h:∀ (j:Nat) (r:List Int) (y:V),M[j]?=some r->ys[j]?=some y->∃a,y= .ref a/\H a=some (.lst (r.map V.int))):bq H ys M:=by
 refine⟨hl,λi r hr=> ?_⟩;have hi:i<ys.length:=by rw[hl];exact(DB.mp hr).1
 obtain⟨a,e,ha⟩:=h i r _ hr (Ds hi);exact⟨a,by rw[Ds hi,e],ha⟩
def fQ(H:Hp)(xs:List V)(M:List (List Int)):Prop:=xs.length=M.length/\∀ (i:Nat) (r:List Int),M[i]?=some r->∃a,xs[i]?=some (.ref a)/\H a=some (.tup (r.map V.int))
theorem fQ.ts(h:fQ H xs M)(e:cT H H'):fQ H' xs M:=
 ⟨h.1,λi r hr=>by obtain⟨a,h1,h2⟩:=h.2 i r hr;exact⟨a,h1,e _ _ h2⟩⟩
theorem fQ.at{H:Hp}{xs:List V}{M:List (List Int)}(h:fQ H xs M){i:Nat}{y:V}(hy:xs[i]?=some y):∃a r,M[i]?=some r/\y= .ref a/\H a=some (.tup (r.map V.int)):=by
 have hi:i<M.length:=by rw[<-h.1];exact(DB.mp hy).1
 obtain⟨a,h1,h2⟩:=h.2 i (M[i]) (Ds hi);rw[hy]at h1;exact⟨a,M[i],Ds hi,DS h1,h2⟩
theorem yO{K:PySem.W.Frag}{a:Addr}{xs:List V}{g:TG}{tb:TS}{D:Ends}{σ:St}{H:Hp}(Pv:Nat->St->Hp->Prop)(h0:Pv 0 σ H)(hl:∀i σ H,i<=xs.length->Pv i σ H->SqL K H a xs)
  (hs:∀ (i:Nat) x t σ H,xs[i]?=some x->H t=none->Pv i σ H->g (.ref t) σ (upd H t (.tup [.int (i:Nat),x])) λσ2 H2=>tb {D with nx:=Pv (i+1),ct:=Pv (i+1),bk:=D.nx} σ2 H2) (hd:∀σ H,Pv xs.length σ H->D.nx σ H):
  ∃W:Nat->Nat->St->Hp->Prop,(∃m,W 0 m σ H)/\∀i m σ H,W i m σ H->
   ((Ite K a).stop i H/\D.nx σ H)\/((Ite K a).go i H/\∃N:St->Hp->Prop,(∀σ' H',N σ' H'->∃m',m'<m/\W (i+1) m' σ' H')/\∀x H',(Ite K a).yld i H x H'->g x σ H' λσ2 H2=>tb {D with nx:=N,ct:=N,bk:=D.nx} σ2 H2):=by
 refine⟨λi m σ H=>m=xs.length-i/\i<=xs.length/\Pv i σ H,⟨xs.length,by simp,DV _,h0⟩,?_⟩;rintro i m σ H ⟨rfl,hi,p⟩;have q:=hl i σ H hi p;by_cases hlt:i<xs.length
 .refine .inr ⟨⟨xs,xs[i],q,by simp[hlt]⟩,Pv (i+1),λσ' H' p'=>⟨xs.length- (i+1),Eh hlt (D9 _),rfl,hlt,p'⟩,λx H' y=> ?_⟩;obtain⟨t,e1,ht,v,e2,e3⟩:=y;subst e1 e3;exact hs i v t σ H (e2 xs q) ht p
 .have e:i=xs.length:=Ew hi (Ef hlt);subst e;exact .inl ⟨⟨xs,q,Dl _⟩,hd σ H p⟩
theorem n6(xs:List V)(i:Nat):lG xs none (some (i:Int))=xs.take i:=by
 unfold lG;show(xs.drop (HT.sIx _ 0 none)).take (HT.sIx _ _ (some (i:Int)) -HT.sIx _ 0 none)=_;rw[HT.tR,HT.oV,List.drop_zero,Nat.sub_zero];by_cases hk:i<=xs.length
 .rw[Iq hk]
 .rw[Nat.min_eq_right (by lia),Fg,EK (by lia)]
theorem mC(xs:List V)(i:Nat):lG xs (some (i:Int)) none=xs.drop i:=by
 unfold lG;show(xs.drop (HT.sIx _ 0 (some (i:Int)))).take (HT.sIx _ _ none-HT.sIx _ 0 (some (i:Int)))=_;rw[HT.tR,HT.oV,EK (by rw[Ff];lia)];by_cases hk:i<=xs.length
 .rw[Iq hk]
 .rw[Nat.min_eq_right (by lia),List.drop_length,List.drop_of_length_le (by lia)]
theorem kB:∀ {a b:List Int},a.map V.int=b.map V.int->a=b
 | [],[],_=>rfl
 | [],_::_,h=>by simp at h
 |_::_,[],h=>by simp at h
 |x::a,y::b,h=>by
  rw[Ej,Ej]at h;injection h with h1 h2
  rw[V.int.inj h1,kB h2]
theorem jv{H:Hp}{a:Addr}{r s:List Int}(h:H a=some (.lst (r.map V.int)))(g:H a=some (.lst (s.map V.int))):r=s:=by
 rw[h]at g;injection g with g
 injection g with g
 exact kB g
theorem bq.cut{xs:List V}{M:List (List Int)}(h:bq H xs M)(i:Nat):bq H (xs.take i++xs.drop (i+1)) (M.take i++M.drop (i+1)):=by
 have hl:=h.1;refine⟨by rw[DK,DK,Em,Em,Ff,Ff,hl],λj r hr=> ?_⟩;by_cases hj:j<(M.take i).length
 .rw[Eg hj]at hr;rw[Em]at hj;rw[Ga (by lia)]at hr;obtain⟨a,h1,h2⟩:=h.2 j r hr;exact⟨a,by rw[Eg (by rw[Em,hl];exact hj),Ga (by lia)];exact h1,h2⟩
 .rw[Ek (by lia)]at hr;have e:(xs.take i).length=(M.take i).length:=by rw[Em,Em,hl]
  rw[HF]at hr;obtain⟨a,h1,h2⟩:=h.2 _ r hr;exact⟨a,by rw[Ek (by lia),HF,e];exact h1,h2⟩
theorem zG{H:Hp}{a:Addr}{r s:List Int}(h:H a=some (.tup (r.map V.int)))(g:H a=some (.tup (s.map V.int))):r=s:=by
 rw[h]at g;injection g with g
 injection g with g
 exact kB g
section
variable{X:Cx}{e lo st:Expr}{te tl ts:TE}{pos p2:Pos}
end
end L2
namespace L2
open PySem PySem.Spec PyProof.Rows
section
variable{prog:Program}{w:World}{A:Around}{E:Value->Shared->Prop}{s:Shared}
theorem kH{items:Array Value}(hne:l≠it):∀ (n i:Nat) (s:Shared) (Q:List Value->Shared->Prop),s.heap.IsListIter it l i->s.heap.IsList l items->i+n<=items.size->
  (∀h',h'.IsListIter it l (i+n)->Heap.SameBut it s.heap h'->Q ((items.toList.drop i).take n) {s with heap:=h'})->wpAny (model prog w) A (draw (.ref it) n) Q E s
 |0,i,s,Q,hit,_,_,hQ=>by show wpAny _ _ (pure []) Q E s;exact DA (by simpa using hQ s.heap hit (Heap.SameBut.refl ..))
 |n+1,i,s,Q,hit,hl,hle,hQ=>by
  have hlt:i<items.size:=by lia
  show wpAny _ _ (pyNext (.ref it)>>=_) Q E s;refine Dj (wpAny_pyNext_list_item hit hl (x:=items[i]) (by simp[hlt]) λh₁ hit₁ hs₁=> ?_);refine Dj (EJ (kH hne n (i+1) _ _ hit₁ (hl.extBut hs₁.extBut hne) (by lia) λh₂ hit₂ hs₂=>DA ?_));have hd:items.toList.drop i=items[i]::items.toList.drop (i+1):=by simp[List.drop_eq_getElem_cons,hlt]
  have:=hQ h₂ (by rw[show i+(n+1)=i+1+n by lia];exact hit₂) (hs₁.trans hs₂);rw[hd,List.take_succ_cons]at this;exact this
theorem gG{items:Array Value}(hh:A.handled=none)(hl:s.heap.IsList l items)
  (hQ:∀h',Heap.ExtBut s.heap.objs.size s.heap h'->Q items.toList {s with heap:=h'}):wpAny (model prog w) A (unpackItems (.ref l) items.size none) Q E s:=by
 have hlt:l≠s.heap.objs.size:=by obtain⟨o,ho,_⟩:=hl;exact DQ (DF ho)
 unfold unpackItems;refine Dj ?_
 .unfold notIterableAtAll;refine Dj (wpAny_specialOf hl.typeIs slot_list_iter.lookup ?_);refine DA ?_;simp only[Fz,Gm];refine Dj (EJ (GN hl ?_));refine Dj (EJ (kH hlt items.size 0 _ _ ⟨_,DP _ rfl,rfl,rfl⟩ (hl.push _) (by lia) λh₁ hit₁ hs₁=> ?_));have hall:List.take items.size (List.drop 0 items.toList)=items.toList:=by rw[List.drop_zero];exact EK (by simp)
  rw[hall];rw[Dt (by simp)];have hl₁:h₁.IsList l items:=(hl.push _).extBut hs₁.extBut hlt;refine Dj (EJ (wpAny_pyNext_list_end hh hit₁ hl₁ (by simp) λh₂ he₂=> ?_));simp only[Option.isSome_none,Fz,Gm];refine DA (hQ h₂ λb o hb e=>he₂ b o hb (hs₁.extBut b o hb (Dx _ e)))
theorem gF{x1}{items:Array Value}(hh:A.handled=none)(hl:s.heap.IsList l items)
  (hn:(assignEach elts env).length=items.size) (hstar:(assignEach elts env).findIdx? (·.1)=none)
  (h:∀h',Heap.ExtBut s.heap.objs.size s.heap h'->wpAny (model prog w) A (assignInOrder ((assignEach elts env).map (·.2)) items.toList) Q E {s with heap:=h'}):
  wpAny (model prog w) A (assign (.Tuple elts x1 pos) env (.ref l)) Q E s:=by
 rw[assign_Tuple];refine Dj (FX ?_);unfold unpack;rw[hn,hstar];exact Dj (EJ (gG hh hl h))
end
section
variable{X:Cx}
def CN(K:PySem.W.Frag)(n:Nat)(t:TGs):TG:=λv σ H Q=>∃a xs,v= .ref a/\SqL K H a xs/\xs.length=n/\t xs σ H Q
theorem Bx{es:List Expr}{k:Nat}{t:TGs}{n:Nat}{pos:Pos}(hc:X.calm=true)(h:PGs X es t)
  (hn:(assignEach es X.env).length=n:=by rfl) (hst:(assignEach es X.env).findIdx? (·.1)=none:=by rfl):PG X (.Tuple es k pos) (CN X.K n t):=by
 intro pins s σ H v u Q I r hw;obtain⟨a,xs,e1,hq,hl,hw⟩:=hw;subst e1;cases r;obtain⟨its,rv,pl,hz⟩:=I.list hq;refine gF (I.ok.hd hc) pl.isList (by simp[hn,<-hl,rv.length]) hst λh' hx=> ?_;have I1:Inv X pins σ H {s with heap:=h'}:=I.kept (t':=s.toks) λb o e=>hx b o (DQ (DF e)) e;exact h pins _ σ H xs _ Q I1 (by simpa using rv) hw
theorem Ai{K:PySem.W.Frag}{es:List Expr}{k:Nat}{t:TGs}{n:Nat}{pos:Pos}(h:X.K=K)(hc:X.calm=true)(hp:PGs X es t)(hn:(assignEach es X.env).length=n:=by rfl)(hst:(assignEach es X.env).findIdx? (·.1)=none:=by rfl):
  PG X (.Tuple es k pos) (CN K n t):=by subst h;exact Bx hc hp hn hst
end
end L2
namespace L2
open PySem PySem.Spec PySem.W PyProof.Rows
def mY(i j:Int):Prop:=Builtin.Int.intBits i+Builtin.Int.intBits j<=2^26
theorem mY.ok(h:mY i j):IntMulOk i j:=by
 unfold IntMulOk;have h':Builtin.Int.intTooBig ((Builtin.Int.intBits i:Int)+(Builtin.Int.intBits j:Int))=false:=by unfold Builtin.Int.intTooBig;have hb:bitsLine=2^27:=rfl;unfold mY at h;simp only[hb,decide_eq_false_iff_not];lia
 simp[h']
end L2
namespace L2
open PySem PySem.Spec PySem.W PyProof.Rows PySem.SeqAt
def cA(H:Hp)(xs:List V)(ts:List (Nat×Nat×Int)):Prop:=xs.length=ts.length/\∀ (i:Nat) (t:Nat×Nat×Int),ts[i]?=some t->∃a,xs[i]?=some (.ref a)/\H a=some (.tup [.int t.1, .int t.2.1, .int t.2.2])
theorem cA.ts{H H':Hp}{xs:List V}{ts:List (Nat×Nat×Int)}(h:cA H xs ts)(e:cT H H'):cA H' xs ts:=
 ⟨h.1,λi t ht=>by obtain⟨a,h1,h2⟩:=h.2 i t ht;exact⟨a,h1,e _ _ h2⟩⟩
theorem cA.nil:cA H [] []:=⟨rfl,λi t h=>by simp at h⟩
theorem cA.append{H:Hp}{xs ys:List V}{ts us:List (Nat×Nat×Int)}(h:cA H xs ts)(g:cA H ys us):cA H (xs++ys) (ts++us):=by
 refine⟨by rw[DK,DK,h.1,g.1],λi u hu=> ?_⟩;by_cases hi:i<ts.length
 .rw[Eg hi]at hu;obtain⟨b,h1,h2⟩:=h.2 i u hu;exact⟨b,by rw[Eg (by rw[h.1];exact hi)];exact h1,h2⟩
 .rw[Ek (by lia)]at hu;obtain⟨b,h1,h2⟩:=g.2 _ u hu;exact⟨b,by rw[Ek (by rw[h.1];lia),h.1];exact h1,h2⟩
theorem cA.one(ha:H a=some (.tup [.int t.1, .int t.2.1, .int t.2.2])):cA H [.ref a] [t]:=
 ⟨rfl,λi u hu=>by
  cases i with
  |zero=>cases hu;exact⟨a,rfl,ha⟩
  |succ n=>simp at hu⟩
theorem cA.at{H:Hp}{xs:List V}{ts:List (Nat×Nat×Int)}(h:cA H xs ts){i:Nat}{y:V}(hy:xs[i]?=some y):∃a t,ts[i]?=some t/\y= .ref a/\H a=some (.tup [.int t.1, .int t.2.1, .int t.2.2]):=by
 have hi:i<ts.length:=by rw[<-h.1];exact(DB.mp hy).1
 obtain⟨a,h1,h2⟩:=h.2 i (ts[i]) (Ds hi);rw[hy]at h1;exact⟨a,ts[i],Ds hi,DS h1,h2⟩
theorem um{z:Int}(h:z.natAbs<2^k):Builtin.Int.intBits z<=k:=by
 unfold Builtin.Int.intBits;by_cases h0:z=0
 .subst h0;exact DV _
 .have e:(z==0)=false:=by simpa using h0
  rw[e];show z.natAbs.log2+1<=k;have:z.natAbs.log2<k:=(Nat.log2_lt (by lia)).mpr h;lia
theorem mY.of{i j:Int}(hi:i.natAbs<2^k)(hj:j.natAbs<2^m)(h:k+m<=2^26):mY i j:=by unfold mY;have:=um hi;have:=um hj;lia
end L2
namespace L2
open PySem PySem.Spec PySem.W PyProof.Rows
end L2
namespace L2
open PySem PySem.Spec PySem.W PyProof.Rows
def krun{α:Type}(L:Nat->Nat->Bool):KasT α->α
 | .ret a=>a
 | .ask i j k=>krun L (k (L i j))
theorem bS(L:Nat->Nat->Bool)(f:α->KasT β):∀t:KasT α,krun L (t.bind f)=krun L (f (krun L t))
 | .ret _=>rfl
 | .ask i j k=>bS L f (k (L i j))
theorem eT(L:Nat->Nat->Bool):∀ (f:Nat) (p:Array Nat) (n q:Nat),(krun L (kas_desc f p n q)).1.Perm p
 |0,p,n,q=>GF _
 |f+1,p,n,q=>by
  show(krun L (if L (p.getD n 0) (p.getD (n-1) 0)=true then(if q>0 then kas_desc f (kas_rev p (n- (q+1)) n) (n+1) 0 else kas_desc f p (n+1) 0)
   else .ask (p.getD (n-1) 0) (p.getD n 0) λd=>if d=true then .ret (p,n,q)else kas_desc f p (n+1) (q+1))).1.Perm p
  split
  .split
   .exact(eT L f _ _ _).trans (Gn _ _ _ _)
   .exact eT L f _ _ _
  .show(krun L (if L (p.getD (n-1) 0) (p.getD n 0)=true then .ret (p,n,q)else kas_desc f p (n+1) (q+1))).1.Perm p;split
   .exact GF _
   .exact eT L f _ _ _
theorem lP(L:Nat->Nat->Bool)(n m:Nat)(p:Array Nat):(krun L (kas_tail3 n m p)).2.Perm p:=by unfold kas_tail3;rw[bS];exact Gn _ _ _ _
theorem gm(L:Nat->Nat->Bool)(n m:Nat)(p:Array Nat):(krun L (kas_descPart n m p)).2.Perm p:=by
 unfold kas_descPart;rw[bS];have h:=eT L (m- (n+1)) p (n+1) 0;split
 .exact(lP L _ _ _).trans ((Gn _ _ _ _).trans h)
 .exact(lP L _ _ _).trans h
theorem kK(L:Nat->Nat->Bool)(m:Nat)(p:Array Nat):(krun L (kas_count m p)).2.Perm p:=by
 unfold kas_count;rw[bS];split
 .exact GF _
 .split
  .generalize krun L (kas_asc p (m-1) 1)=n;show(krun L (if L (p.getD 0 0) (p.getD (n-1) 0)=true then(KasT.ret (n,p):KasT (Nat×Array Nat))else kas_descPart n m (kas_rev p 0 n))).2.Perm p;split
   .exact GF _
   .exact(gm L _ _ _).trans (Gn _ _ _ _)
  .exact gm L _ _ _
theorem qf(L:Nat->Nat->Bool):∀ (f:Nat) (p:Array Nat) (k:Nat),(krun L (kas_bin f p k)).Perm p
 |0,p,k=>GF _
 |f+1,p,k=>by show(krun L ((kas_place p k k 0 k).bind λl=>kas_bin f (bubble p k (k-l)) (k+1))).Perm p;rw[bS];exact(qf L f _ _).trans (bubble_perm _ _ _)
theorem uR(L:Nat->Nat->Bool)(n:Nat):(krun L (kas_sort n)).Perm (List.toArray (List.range n)):=by
 unfold kas_sort;rw[bS];have h:=kK L n (List.toArray (List.range n));split
 .exact(qf L _ _ _).trans h
 .exact h
def kok{α:Type}(L:Nat->Nat->Bool)(N:Nat):KasT α->Prop
 | .ret _=>True
 | .ask i j k=>i<N/\j<N/\kok L N (k (L i j))
theorem eR{α β:Type}{L:Nat->Nat->Bool}{N:Nat}{f:α->KasT β}:∀ {t:KasT α},kok L N t->kok L N (f (krun L t))->kok L N (t.bind f)
 | .ret _,_,h=>h
 | .ask i j k,h1,h2=>⟨h1.1,h1.2.1,eR h1.2.2 h2⟩
theorem yD(L:Nat->Nat->Bool)(hc:∀i j C,i<N->j<N->C (L i j) s->cmp i j C s):∀t:KasT α,kok L N t->Q (krun L t) s->t.kasWp cmp Q s
 | .ret _,_,h=>h
 | .ask i j k,hk,h=>hc i j _ hk.1 hk.2.1 (yD L hc (k (L i j)) hk.2.2 h)
def Elt(N:Nat)(p:Array Nat):Prop:=0<N/\∀x∈p.toList,x<N
theorem Elt.at{p:Array Nat}(h:Elt N p)(i:Nat):p.getD i 0<N:=by
 by_cases hi:i<p.size
 .have:p.getD i 0=p[i]:=by simp[Array.getD,hi]
  rw[this];exact h.2 _ (by simp)
 .have:p.getD i 0=0:=by simp[Array.getD,hi]
  rw[this];exact h.1
theorem Elt.of{p q:Array Nat}(h:Elt N p)(e:q.Perm p):Elt N q:=⟨h.1,λx hx=>h.2 x (e.toList.mem_iff.mp hx)⟩
theorem sv(h:Elt N p):∀ (f n:Nat),kok L N (kas_asc p f n)
 |0,n=>trivial
 |f+1,n=>by
  refine⟨h.at _,h.at _,?_⟩;dsimp only;split
  .trivial
  .exact sv h f _
theorem jD:∀ (f:Nat) {p:Array Nat} (n q:Nat),Elt N p->kok L N (kas_desc f p n q)
 |0,p,n,q,h=>trivial
 |f+1,p,n,q,h=>by
  refine⟨h.at _,h.at _,?_⟩;dsimp only;split
  .split
   .exact jD f _ _ (h.of (Gn _ _ _ _))
   .exact jD f _ _ h
  .refine⟨h.at _,h.at _,?_⟩;dsimp only;split
   .trivial
   .exact jD f _ _ h
theorem sI(h:Elt N p)(n m:Nat):kok L N (kas_tail3 n m p):=eR (sv (h.of (Gn _ _ _ _)) _ _) trivial
theorem jb(h:Elt N p)(n m:Nat):kok L N (kas_descPart n m p):=by
 refine eR (jD _ _ _ h) ?_;have h2:=h.of (eT L (m- (n+1)) p (n+1) 0);split
 .exact sI (h2.of (Gn _ _ _ _)) _ _
 .exact sI h2 _ _
theorem zb(h:Elt N p)(m:Nat):kok L N (kas_count m p):=by
 refine eR (sv h _ _) ?_;split
 .trivial
 .split
  .refine⟨h.at _,h.at _,?_⟩;dsimp only;split
   .trivial
   .exact jb (h.of (Gn _ _ _ _)) _ _
  .exact jb h _ _
theorem jT(h:Elt N p)(k:Nat):∀ (f l r:Nat),kok L N (kas_place p k f l r)
 |0,l,r=>trivial
 |f+1,l,r=>by
  unfold kas_place;split
  .trivial
  .refine⟨h.at _,h.at _,?_⟩;dsimp only;split
   .exact jT h k f _ _
   .exact jT h k f _ _
theorem zo:∀ (f:Nat) {p:Array Nat} (k:Nat),Elt N p->kok L N (kas_bin f p k)
 |0,p,k,h=>trivial
 |f+1,p,k,h=>eR (jT h k _ _ _) (zo f _ (h.of (bubble_perm _ _ _)))
theorem tP(hn:0<n):kok L n (kas_sort n):=by
 have h:Elt n (List.toArray (List.range n)):=⟨hn,λx hx=>by simpa using hx⟩;refine eR (zb h n) ?_;split
 .exact zo _ _ (h.of (kK L n _))
 .trivial
section
variable{P:Program}{w:World}{A:Around}{E:Value->Shared->Prop}{s:Shared}
theorem t9(h:Q (decide (x<y)) s):wpAny (model P w) A (oneLt' f (.int x a) (.int y b)) Q E s:=by
 cases f with
 |true=>exact oneLt_int h
 |false=>exact kat_one _ _ (lt_int h)
end
end L2
namespace L2
open PySem PySem.Spec PySem.W PyProof.Rows
def wa(w:Nat->Nat)(p:Array Nat)(t:Nat):Nat:=w (p.getD t 0)
def eu(w:Nat->Nat)(p:Array Nat)(m:Nat):Prop:=∀i j,i<j->j<m->wa w p i<wa w p j
def iX(w:Nat->Nat)(p:Array Nat)(m:Nat):Prop:=∀i j,i<j->j<m->wa w p j<wa w p i
def ir(w:Nat->Nat)(p:Array Nat)(n:Nat):Prop:=∀i j,i<n->j<n->wa w p i=wa w p j->i=j
def Lw(w:Nat->Nat)(i j:Nat):Bool:=decide (w i<w j)
section
variable{w:Nat->Nat}{N:Nat}
theorem kW{p:Array Nat}(h:wa w p i<wa w p j):Lw w (p.getD i 0) (p.getD j 0)=true:=DG h
theorem sC{p:Array Nat}(h:¬wa w p i<wa w p j):¬Lw w (p.getD i 0) (p.getD j 0)=true:=λz=>h (DY z)
theorem eu.step(h:eu w p n)(hn:0<n)(hl:wa w p (n-1)<wa w p n):eu w p (n+1):=λi j hij hj=>by
 by_cases e:j=n
 .subst e;by_cases e2:i=j-1
  .rw[e2];exact hl
  .exact FF (h i (j-1) (by lia) (by lia)) hl
 .exact h i j hij (by lia)
theorem iX.step(h:iX w p n)(hn:0<n)(hl:wa w p n<wa w p (n-1)):iX w p (n+1):=λi j hij hj=>by
 by_cases e:j=n
 .subst e;by_cases e2:i=j-1
  .rw[e2];exact hl
  .exact FF hl (h i (j-1) (by lia) (by lia))
 .exact h i j hij (by lia)
theorem oo(hd:ir w p N):∀ (f n:Nat),0<n->n+f<=N->eu w p n->
  n<=krun (Lw w) (kas_asc p f n)/\krun (Lw w) (kas_asc p f n)<=n+f/\eu w p (krun (Lw w) (kas_asc p f n))/\(krun (Lw w) (kas_asc p f n)<n+f->wa w p (krun (Lw w) (kas_asc p f n))<wa w p (krun (Lw w) (kas_asc p f n) -1))
 |0,n,hn,hN,h=>⟨Dl _,Dl _,h,λz=>absurd z (Eb _)⟩
 |f+1,n,hn,hN,h=>by
  have e:krun (Lw w) (kas_asc p (f+1) n)=krun (Lw w) (if Lw w (p.getD n 0) (p.getD (n-1) 0)=true then .ret n else kas_asc p f (n+1)):=rfl;rw[e];by_cases c:wa w p n<wa w p (n-1)
  .rw[Dp (kW c)];exact⟨Dl _,Gb _ _,h,λ_=>c⟩
  .rw[Dt (sC c)];have ne:¬wa w p (n-1)=wa w p n:=λz=>by have:=hd (n-1) n (by lia) (by lia) z;lia
   obtain⟨h1,h2,h3,h4⟩:=oo hd f (n+1) (by lia) (by lia) (h.step hn (by lia));exact⟨by lia,by lia,h3,λz=>h4 (by lia)⟩
theorem pY(hd:ir w p N):∀ (f n:Nat),0<n->n+f<=N->iX w p n->∃m,krun (Lw w) (kas_desc f p n 0)=(p,m,0)/\n<=m/\m<=n+f/\iX w p m
 |0,n,hn,hN,h=>⟨n,rfl,Dl _,Dl _,h⟩
 |f+1,n,hn,hN,h=>by
  have e:krun (Lw w) (kas_desc (f+1) p n 0)=krun (Lw w) (if Lw w (p.getD n 0) (p.getD (n-1) 0)=true then(if 0>0 then kas_desc f (kas_rev p (n- (0+1)) n) (n+1) 0 else kas_desc f p (n+1) 0)
   else .ask (p.getD (n-1) 0) (p.getD n 0) λd=>if d=true then .ret (p,n,0)else kas_desc f p (n+1) (0+1)):=rfl
  rw[e];by_cases c:wa w p n<wa w p (n-1)
  .rw[Dp (kW c),Dt (Eb 0)];obtain⟨m,h1,h2,h3,h4⟩:=pY hd f (n+1) (by lia) (by lia) (h.step hn c);exact⟨m,h1,by lia,by lia,h4⟩
  .rw[Dt (sC c)];have ne:¬wa w p (n-1)=wa w p n:=λz=>by have:=hd (n-1) n (by lia) (by lia) z;lia
   have e2:krun (Lw w) (KasT.ask (p.getD (n-1) 0) (p.getD n 0) λd=>if d=true then .ret (p,n,0)else kas_desc f p (n+1) (0+1))=krun (Lw w) (if Lw w (p.getD (n-1) 0) (p.getD n 0)=true then .ret (p,n,0)else kas_desc f p (n+1) (0+1)):=rfl;rw[e2,Dp (kW (by lia))];exact⟨n,rfl,Dl _,Gb _ _,h⟩
theorem oB(h:p[i]?=q[j]?):wa w p i=wa w q j:=by unfold wa;rw[Gr,Gr,h]
theorem mZ{p:Array Nat}(hm:m<=p.size):wa w (kas_rev p 0 m) i=if i<m then wa w p (m-1-i)else wa w p i:=by
 have h:=getElem?_mirror_all (xs:=p) (i:=0) hm i;unfold kas_rev;by_cases c:i<m
 .rw[Dp ⟨DV _,c⟩,show 0+m-1-i=m-1-i by lia]at h;rw[Dp c];exact oB h
 .rw[Dt λz=>c z.2]at h;rw[Dt c];exact oB h
theorem vZ{p:Array Nat}(hs:p.size=N)(hN:2<=N)(hd:ir w p N):
  1<=(krun (Lw w) (kas_count N p)).1/\(krun (Lw w) (kas_count N p)).1<=N/\(krun (Lw w) (kas_count N p)).2.size=N/\ir w (krun (Lw w) (kas_count N p)).2 N/\eu w (krun (Lw w) (kas_count N p)).2 (krun (Lw w) (kas_count N p)).1:=by
 unfold kas_count;rw[bS];obtain⟨h1,h2,h3,h4⟩:=oo hd (N-1) 1 (by lia) (by lia) (λi j a b=>by lia);generalize krun (Lw w) (kas_asc p (N-1) 1)=m at*;by_cases c1:(m==N)=true
 .rw[Dp c1];exact⟨h1,by have:=HG c1;show m<=N;lia,hs,hd,h3⟩
 rw[Dt c1];have c1':m≠N:=λz=>c1 (GL.mpr z);by_cases c2:m>1
 .rw[Dp c2];have e:krun (Lw w) (KasT.ask (p.getD 0 0) (p.getD (m-1) 0) λc=>if c=true then(.ret (m,p):KasT (Nat×Array Nat))else kas_descPart m N (kas_rev p 0 m))=krun (Lw w) (if Lw w (p.getD 0 0) (p.getD (m-1) 0)=true then .ret (m,p)else kas_descPart m N (kas_rev p 0 m)):=rfl;rw[e,Dp (kW (h3 0 (m-1) (by lia) (by lia)))];exact⟨h1,by show m<=N;lia,hs,hd,h3⟩
 rw[Dt c2];have em:m=1:=by lia
 subst em;have d2:iX w p 2:=λi j a b=>by
  have ei:i=0:=by lia
  have ej:j=1:=by lia
  subst ei ej;exact h4 (by lia)
 unfold kas_descPart;rw[bS];obtain⟨k,e,k1,k2,k3⟩:=pY hd (N- (1+1)) (1+1) (by lia) (by lia) d2;rw[e,Dt (show¬(p,k,0).2.2>0 from Eb 0)];unfold kas_tail3;rw[bS];show 1<=krun (Lw w) (kas_asc (kas_rev p 0 k) (N-k) k)/\krun (Lw w) (kas_asc (kas_rev p 0 k) (N-k) k)<=N/\(kas_rev p 0 k).size=N/\ir w (kas_rev p 0 k) N/\eu w (kas_rev p 0 k) (krun (Lw w) (kas_asc (kas_rev p 0 k) (N-k) k));have hk:k<=p.size:=by lia
 have dr:ir w (kas_rev p 0 k) N:=λi j hi hj z=>by
  rw[mZ hk,mZ hk]at z;split at z<;>split at z
  .have:=hd _ _ (by lia) (by lia) z;lia
  .have:=hd _ _ (by lia) (by lia) z;lia
  .have:=hd _ _ (by lia) (by lia) z;lia
  .exact hd _ _ (by lia) (by lia) z
 have ar:eu w (kas_rev p 0 k) k:=λi j a b=>by rw[mZ hk,mZ hk,Dp (by lia),Dp b];exact k3 _ _ (by lia) (by lia)
 obtain⟨g1,g2,g3,_⟩:=oo dr (N-k) k (by lia) (by lia) ar;exact⟨by lia,by lia,by unfold kas_rev;rw[mirror_size];exact hs,dr,g3⟩
theorem iz(hk:k<N)(hd:ir w p N)(ha:eu w p k):∀ (f l r:Nat),r-l<=f->l<=r->r<=k->(∀i,i<l->wa w p i<wa w p k)->(∀i,r<=i->i<k->wa w p k<wa w p i)->
  krun (Lw w) (kas_place p k f l r)<=k/\(∀i,i<krun (Lw w) (kas_place p k f l r)->wa w p i<wa w p k)/\∀i,krun (Lw w) (kas_place p k f l r)<=i->i<k->wa w p k<wa w p i
 |0,l,r,hf,hlr,hr,h1,h2=>by
  have e:l=r:=by lia
  subst e;exact⟨hr,h1,h2⟩
 |f+1,l,r,hf,hlr,hr,h1,h2=>by
  unfold kas_place;by_cases c:l>=r
  .rw[Dp c];have e:l=r:=by lia
   subst e;exact⟨hr,h1,h2⟩
  .rw[Dt c];have e:krun (Lw w) (KasT.ask (p.getD k 0) (p.getD ((l+r) /2) 0) λc=>if c=true then kas_place p k f l ((l+r) /2)else kas_place p k f ((l+r) /2+1) r)=krun (Lw w) (if Lw w (p.getD k 0) (p.getD ((l+r) /2) 0)=true then kas_place p k f l ((l+r) /2)else kas_place p k f ((l+r) /2+1) r):=rfl;rw[e];by_cases c2:wa w p k<wa w p ((l+r) /2)
   .rw[Dp (kW c2)];refine iz hk hd ha f l _ (by lia) (by lia) (by lia) h1 λi hi hik=> ?_;by_cases ei:i=(l+r) /2
    .rw[ei];exact c2
    .exact FF c2 (ha _ _ (by lia) hik)
   .rw[Dt (sC c2)];have ne:¬wa w p ((l+r) /2)=wa w p k:=λz=>by have:=hd _ _ (by lia) hk z;lia
    refine iz hk hd ha f _ r (by lia) (by lia) hr (λi hi=> ?_) h2;by_cases ei:i=(l+r) /2
    .rw[ei];lia
    .have:=ha i ((l+r) /2) (by lia) (by lia);lia
theorem ng{p:Array Nat}(hk:k<p.size)(hl:l<=k):wa w (bubble p k (k-l)) t=if t=l then wa w p k else if l<t/\t<=k then wa w p (t-1)else wa w p t:=by
 have h:=getElem?_bubble (xs:=p) hk (k-l) (by lia) t;rw[show k- (k-l)=l by lia]at h;by_cases c1:t=l
 .rw[Dp c1]at h⊢;exact oB h
 .rw[Dt c1]at h⊢;by_cases c2:l<t/\t<=k
  .rw[Dp c2]at h⊢;exact oB h
  .rw[Dt c2]at h⊢;exact oB h
theorem uo:∀ (f:Nat) (p:Array Nat) (k:Nat),p.size=N->k+f=N->ir w p N->eu w p k->eu w (krun (Lw w) (kas_bin f p k)) N
 |0,p,k,hs,hN,hd,ha=>by
  have e:k=N:=by lia
  subst e;exact ha
 |f+1,p,k,hs,hN,hd,ha=>by
  show eu w (krun (Lw w) ((kas_place p k k 0 k).bind λl=>kas_bin f (bubble p k (k-l)) (k+1))) N;rw[bS];obtain⟨h1,h2,h3⟩:=iz (w:=w) (N:=N) (p:=p) (k:=k) (by lia) hd ha k 0 k (by lia) (by lia) (Dl _) (λi hi=>by lia) (λi hi hik=>by lia);generalize krun (Lw w) (kas_place p k k 0 k)=l at*;have hk:k<p.size:=by lia
  refine uo f _ (k+1) (by rw[bubble_size];exact hs) (by lia) (λi j hi hj z=> ?_) λi j hij hj=> ?_
  .rw[ng hk h1,ng hk h1]at z
   repeat' (split at z)
   all_goals first|(have:=hd _ _ (by lia) (by lia) z;lia)|lia
  .rw[ng hk h1,ng hk h1];by_cases ci:i=l
   .rw[Dp ci,Dt (by lia),Dp (by lia)];exact h3 _ (by lia) (by lia)
   .rw[Dt ci];by_cases cj:j=l
    .rw[Dp cj,Dt (by lia)];exact h2 _ (by lia)
    .rw[Dt cj];by_cases ci2:l<i/\i<=k
     .rw[Dp ci2,Dp (by lia)];exact ha _ _ (by lia) (by lia)
     .rw[Dt ci2];by_cases cj2:l<j/\j<=k
      .rw[Dp cj2];by_cases e:i=j-1
       .exact absurd e (by lia)
       .exact ha _ _ (by lia) (by lia)
      .rw[Dt cj2];exact ha _ _ (by lia) (by lia)
theorem xb(hn:2<=n)(hd:∀i j,i<n->j<n->w i=w j->i=j):eu w (krun (Lw w) (kas_sort n)) n:=by
 unfold kas_sort;rw[bS];have e:∀i,i<n->(List.toArray (List.range n)).getD i 0=i:=λi hi=>by rw[Gr];simp[hi]
 have hd':ir w (List.toArray (List.range n)) n:=λi j hi hj z=>by unfold wa at z;rw[e i hi,e j hj]at z;exact hd i j hi hj z
 obtain⟨h1,h2,h3,h4,h5⟩:=vZ (w:=w) (N:=n) (p:=List.toArray (List.range n)) (by simp) hn hd';generalize krun (Lw w) (kas_count n (List.toArray (List.range n)))=r at*;by_cases c:r.1<n
 .rw[Dp c];exact uo (n-max r.1 1) r.2 (max r.1 1) h3 (by lia) h4 (by rw[show max r.1 1=r.1 by lia];exact h5)
 .rw[Dt c];have e2:r.1=n:=by lia
  show eu w r.2 n;rw[<-e2];exact h5
end
theorem kz(h:∀i j,i<N->j<N->L i j=L' i j):∀t:KasT α,kok L N t->krun L t=krun L' t
 | .ret _,_=>rfl
 | .ask i j k,hk=>by have e:=h i j hk.1 hk.2.1;show krun L (k (L i j))=krun L' (k (L' i j));rw[<-e];exact kz h (k (L i j)) hk.2.2
end L2
namespace L2
open PySem PySem.Spec PySem.W PyProof.Rows PySem.SeqAt
section
variable{P:Program}{w:World}{A:Around}{E:Value->Shared->Prop}{s:Shared}
end
end L2
namespace L2
section
variable{t u:TS}{σ:St}{H:Hp}{n:St->Hp->Prop}{r:VK}{b c:St->Hp->Prop}
theorem aU(h:∀N:St->Hp->Prop,(∀σ' H',u ⟨n,r,b,c⟩ σ' H'->N σ' H')->t ⟨N,r,b,c⟩ σ H):zI t u ⟨n,r,b,c⟩ σ H:=h _ λ_ _ x=>x
theorem kj(Pm:St->Hp->Prop)(hrest:∀σ' H',Pm σ' H'->u ⟨n,r,b,c⟩ σ' H')(h:∀N:St->Hp->Prop,(∀σ' H',Pm σ' H'->N σ' H')->t ⟨N,r,b,c⟩ (σ.set i (some v)) H):a8 i v σ H (zI t u ⟨n,r,b,c⟩):=h _ hrest
theorem eI(Pm:St->Hp->Prop)(hrest:∀σ' H',Pm σ' H'->u ⟨n,r,b,c⟩ σ' H')(h:∀N:St->Hp->Prop,(∀σ' H',Pm σ' H'->N σ' H')->t ⟨N,r,b,c⟩ σ H):zI t u ⟨n,r,b,c⟩ σ H:=h _ hrest
end
theorem yq{α:Type}{p:List α->Prop}(h:p [])(us:List α)(e:us.length=0):p us:=by
 cases us with
 |nil=>exact h
 |cons a r=>cases e
theorem yo{α:Type}{p:List α->Prop}{n:Nat}(h:∀ (a:α) (r:List α),r.length=n->p (a::r))(us:List α)(e:us.length=n+1):p us:=by
 cases us with
 |nil=>cases e
 |cons a r=>exact h a r (Ig e)
theorem AA{α:Type}{p:List α->Prop}(h:∀a,p [a])(us:List α)(e:us.length=1):p us:=yo (p:=p) (λa r=>yq (p:=λr=>p (a::r)) (h a) r) us e
theorem yp{α:Type}{p:List α->Prop}(h:∀a b,p [a,b])(us:List α)(e:us.length=2):p us:=yo (p:=p) (λa r=>AA (p:=λr=>p (a::r)) (h a) r) us e
theorem BR{α:Type}{p:List α->Prop}(h:∀a b c,p [a,b,c])(us:List α)(e:us.length=3):p us:=yo (p:=p) (λa r=>yp (p:=λr=>p (a::r)) (h a) r) us e
theorem BQ{α:Type}{p:List α->Prop}(h:∀a b c d,p [a,b,c,d])(us:List α)(e:us.length=4):p us:=yo (p:=p) (λa r=>BR (p:=λr=>p (a::r)) (h a) r) us e
theorem CG{α:Type}{p:List α->Prop}(h:∀a b c d f,p [a,b,c,d,f])(us:List α)(e:us.length=5):p us:=yo (p:=p) (λa r=>BQ (p:=λr=>p (a::r)) (h a) r) us e
end L2
namespace L2
open PySem PySem.Spec PyProof.Rows
section
variable{κ:Type}[DecidableEq κ]
def gv(kvs:List (κ×V))(k:κ):Option V:=(kvs.find? λkv=>decide (kv.1=k)).map (·.2)
def fw(kvs:List (κ×V))(k:κ)(v:V):List (κ×V):=
 if(kvs.any λkv=>decide (kv.1=k))=true then kvs.map (λkv=>if kv.1=k then(kv.1,v)else kv)else kvs++[(k,v)]
def A7(kvs:List (κ×V))(k:κ):List (κ×V):=kvs.filter λkv=>decide (kv.1≠k)
theorem jF{p:κ×V}{r:List (κ×V)}{k:κ}(e:p.1=k):gv (p::r) k=some p.2:=by simp[gv,Gg,e]
theorem jG{p:κ×V}{r:List (κ×V)}{k:κ}(e:¬p.1=k):gv (p::r) k=gv r k:=by simp[gv,Gg,e]
theorem oC(k:κ):∀kvs:List (κ×V),(kvs.any λkv=>decide (kv.1=k))=(gv kvs k).isSome
 | []=>rfl
 |p::r=>by
  rw[Gz];by_cases e:p.1=k
  .simp only[jF e,DG e,Bool.true_or,Option.isSome_some]
  .rw[jG e,Dy e,Bool.false_or];exact oC k r
theorem fM(kvs:List (κ×V))(k:κ)(v:V):(fw kvs k v).length<=kvs.length+1:=by
 unfold fw;split
 .rw[Di];lia
 .rw[DK,D6,List.length_nil];lia
theorem fC.isSome_eq{o:Option V}{u:Option Value}(r:fC o u):o.isSome=u.isSome:=by
 cases o with
 |none=>cases u with
  |none=>rfl
  |some _=>exact(show False from r).elim
 |some _=>cases u with
  |none=>exact(show False from r).elim
  |some _=>rfl
theorem fC.getD{o:Option V}{u:Option Value}(r:fC o u)(rd:aW d d'):aW (o.getD d) (u.getD d'):=by
 cases o with
 |none=>cases u with
  |none=>exact rd
  |some _=>exact(show False from r).elim
 |some _=>cases u with
  |none=>exact(show False from r).elim
  |some _=>exact r
theorem KV.val(r:KV kvs vs)(k:κ):fC (gv kvs k) (valueAt vs k):=by
 unfold KV at r
 induction r with
 |nil=>exact E5
 | @cons p q ps qs h t ih=>
  obtain⟨h1,h2⟩:=h;by_cases e:p.1=k
  .have e':q.1=k:=h1.symm.trans e;have b:valueAt (q::qs) k=some q.2:=by simp[valueAt,Gg,e']
   rw[jF e,b];exact h2
  .have e':¬q.1=k:=λz=>e (h1.trans z);have b:valueAt (q::qs) k=valueAt qs k:=by simp[valueAt,Gg,e']
   rw[jG e,b];exact ih
theorem KV.any{kvs:List (κ×V)}{vs:List (κ×Value)}(r:KV kvs vs)(k:κ):(kvs.any λkv=>decide (kv.1=k))=vs.any λkv=>decide (kv.1=k):=by
 unfold KV at r
 induction r with
 |nil=>rfl
 |cons h t ih=>rw[Gz,Gz,ih,h.1]
theorem KV.repl{kvs:List (κ×V)}{vs:List (κ×Value)}(r:KV kvs vs)(k:κ)(ry:aW y u):
  KV (kvs.map λkv=>if kv.1=k then(kv.1,y)else kv) (vs.map λkv=>if kv.1=k then(kv.1,u)else kv):=by
 unfold KV at r⊢
 induction r with
 |nil=>exact .nil
 | @cons p q ps qs h t ih=>
  rw[Ej,Ej];refine .cons ?_ ih;obtain⟨h1,h2⟩:=h;by_cases e:p.1=k
  .rw[Dp e,Dp (h1.symm.trans e)];exact⟨h1,ry⟩
  .rw[Dt e,Dt (λz=>e (h1.trans z))];exact⟨h1,h2⟩
theorem KV.put(r:KV kvs vs)(k:κ)(ry:aW y u):KV (fw kvs k y) (stored vs k u):=by
 unfold fw stored;rw[r.any k];by_cases e:(vs.any λkv=>decide (kv.1=k))=true
 .rw[Dp e,Dp e];exact r.repl k ry
 .rw[Dt e,Dt e];exact Paired.snoc r ⟨rfl,ry⟩
theorem KV.drop(r:KV kvs vs)(k:κ):KV (A7 kvs k) (without vs k):=by
 unfold KV at r⊢;unfold A7 without
 induction r with
 |nil=>exact .nil
 | @cons p q ps qs h t ih=>
  obtain⟨h1,h2⟩:=h;rw[Fx,Fx];by_cases e:p.1=k
  .have a:¬decide (p.1≠k)=true:=by simp[e]
   have b:¬decide (q.1≠k)=true:=by simp[h1.symm.trans e]
   rw[Dt a,Dt b];exact ih
  .have e':¬q.1=k:=λz=>e (h1.trans z);have a:decide (p.1≠k)=true:=by simp[e]
   have b:decide (q.1≠k)=true:=by simp[e']
   rw[Dp a,Dp b];exact .cons ⟨h1,h2⟩ ih
theorem KV.keys{kvs:List (κ×V)}{vs:List (κ×Value)}(r:KV kvs vs):kvs.map (·.1)=vs.map (·.1):=by
 unfold KV at r
 induction r with
 |nil=>rfl
 |cons h t ih=>rw[Ej,Ej,ih,h.1]
theorem KV.length{kvs:List (κ×V)}{vs:List (κ×Value)}(r:KV kvs vs):kvs.length=vs.length:=Gy r
end
theorem ue(r:aW (kV k) u):(bO P w).is k u=true:=by
 cases k with
 |inl i=>obtain⟨t,e⟩:=(show∃t,u=Value.int i t from r);subst e;exact pD P w i t
 |inr x=>obtain⟨t,e⟩:=(show∃t,u=Value.str x t from r);subst e;exact pC P w x t
theorem mr:∀ {ks:List Key} {us:List Value},Vals (ks.map kV) us->ItemsAre (bO P w) ks us
 | [],_,r=>by rw[Ic]at r;cases r;exact .nil
 |k::ks,_,r=>by
  rw[Ej]at r;cases r with
  |cons h t=>exact .cons (ue h) (mr t)
abbrev KT(H:Hp):List (List Key×V)->List (List Key×Addr×Value)->Prop:=Paired λp q=>p.1=q.1/\H q.2.1=some (.tup (p.1.map kV))/\aW p.2 q.2.2
theorem KT.val(r:KT H kvs xs)(k:List Key):fC (gv kvs k) ((atKey xs k).map (·.2)):=by
 induction r with
 |nil=>exact E5
 | @cons p q ps qs h t ih=>
  obtain⟨h1,_,h2⟩:=h;by_cases e:p.1=k
  .have e':q.1=k:=h1.symm.trans e;have b:atKey (q::qs) k=some q.2:=by simp[atKey,Gg,e']
   rw[jF e,b];exact h2
  .have e':¬q.1=k:=λz=>e (h1.trans z);have b:atKey (q::qs) k=atKey qs k:=by simp[atKey,Gg,e']
   rw[jG e,b];exact ih
theorem KT.repl{kvs:List (List Key×V)}{xs:List (List Key×Addr×Value)}(r:KT H kvs xs)(k:List Key)(ry:aW y u):
  KT H (kvs.map λkv=>if kv.1=k then(kv.1,y)else kv) (xs.map (putAt k u)):=by
 induction r with
 |nil=>exact .nil
 | @cons p q ps qs h t ih=>
  rw[Ej,Ej];refine .cons ?_ ih;obtain⟨h1,h2,h3⟩:=h;unfold putAt;by_cases e:p.1=k
  .rw[Dp e,Dp (h1.symm.trans e)];exact⟨h1,h2,ry⟩
  .rw[Dt e,Dt (λz=>e (h1.trans z))];exact⟨h1,h2,h3⟩
theorem KT.put(r:KT H kvs xs)(k:List Key)(hb:H b=some (.tup (k.map kV)))(ry:aW y u):
  KT H (fw kvs k y) (storedH xs k b u):=by
 have e:(kvs.any λkv=>decide (kv.1=k))=(atKey xs k).isSome:=by rw[oC,(r.val k).isSome_eq,Option.isSome_map]
 unfold fw storedH;rw[e];by_cases q:(atKey xs k).isSome=true
 .rw[Dp q,Dp q];exact r.repl k ry
 .rw[Dt q,Dt q];exact Paired.snoc r ⟨rfl,hb,ry⟩
theorem KT.keeps(r:KT H kvs xs)(ht:∀b ys,H b=some (.tup ys)->H' b=some (.tup ys)):KT H' kvs xs:=
 Paired.mapP r λ_ _ z=>⟨z.1,ht _ _ z.2.1,z.2.2⟩
section
variable{P:Program}{w:World}{H:Hp}{h:Heap}{a:Addr}
theorem AV(ok:HOk P w H h)(e:Rd H a u):br P w H h a u:=e.ok ok
theorem yX{kvs:List (Key×V)}(ok:HOk P w H h)(e:Rd H a (.dK kvs)):kvs.length<=sizeLine/\(a==sysModules)=false/\∃vs,KV kvs vs/\h.DictOf (bO P w) a vs:=
 show br P w H h a (.dK kvs)from AV ok e
theorem yY{kvs:List (Key×V)}(ok:HOk P w H h)(e:H a=some (.dK kvs)):kvs.length<=sizeLine/\(a==sysModules)=false/\∃vs,KV kvs vs/\h.DictOf (bO P w) a vs:=yX ok (.inl e)
theorem rY{ks:List Key}(ok:HOk P w H h)(e:H a=some (.tup (ks.map kV))):(tupleKind (bO P w)).is h ks a:=by obtain⟨_,its,r,o,h1,h2,n,h3⟩:=(show br P w H h a (.tup (ks.map kV))from ok a _ e);exact⟨o,its.toArray,n,h1,h2,h3,by simpa using mr r⟩
theorem yW{kvs:List (List Key×V)}(ok:HOk P w H h)(e:Rd H a (.dT kvs)):kvs.length<=sizeLine/\(a==sysModules)=false/\
  ∃xs,KT H kvs xs/\h.DictOfH (tupleKind (bO P w)) a xs:=by
 obtain⟨z,y,xs,r,o,es,ep,h1,h2,h3,h4,h5⟩:=(show br P w H h a (.dT kvs)from AV ok e);refine⟨z,y,xs,r,o,es,ep,h1,h2,h3,h4,λx hx=> ?_,h5⟩;have all:∀ {l:List (List Key×V)} {m:List (List Key×Addr×Value)},KT H l m->∀x∈m,(tupleKind (bO P w)).is h x.1 x.2.1:=by
  intro l m q
  induction q with
  |nil=>intro x hx;exact nomatch hx
  | @cons p q ps qs hq t ih=>
   intro x hx;rcases Dz.mp hx with e|hx
   .subst e;exact rY ok (by rw[<-hq.1];exact hq.2.1)
   .exact ih x hx
 exact all r x hx
theorem CP{kvs:List (List Key×V)}(ok:HOk P w H h)(e:H a=some (.dT kvs)):kvs.length<=sizeLine/\(a==sysModules)=false/\
  ∃xs,KT H kvs xs/\h.DictOfH (tupleKind (bO P w)) a xs:=yW ok (.inl e)
end
def sF(H:Hp)(a:Addr)(y:V)(r:Option V):Prop:=
 (∃kvs k,Rd H a (.dK kvs)/\y=kV k/\r=gv kvs k)\/∃kvs k b,Rd H a (.dT kvs)/\y= .ref b/\H b=some (.tup (k.map kV))/\r=gv kvs k
def wB(H:Hp)(a:Addr)(y v:V)(H':Hp):Prop:=
 (∃kvs k,H a=some (.dK kvs)/\y=kV k/\kvs.length<sizeLine/\H'=upd H a (.dK (fw kvs k v)))\/
 ∃kvs k b,H a=some (.dT kvs)/\y= .ref b/\H b=some (.tup (k.map kV))/\kvs.length<sizeLine/\H'=upd H a (.dT (fw kvs k v))
theorem sF.k{H:Hp}{a:Addr}{kvs:List (Key×V)}{k:Key}(e:H a=some (.dK kvs)):sF H a (kV k) (gv kvs k):= .inl ⟨kvs,k, .inl e,rfl,rfl⟩
theorem sF.t{k:List Key}(e:H a=some (.dT kvs))(eb:H b=some (.tup (k.map kV))):sF H a (.ref b) (gv kvs k):= .inr ⟨kvs,k,b, .inl e,rfl,eb,rfl⟩
theorem wB.k{H:Hp}{a:Addr}{kvs:List (Key×V)}{k:Key}{v:V}(e:H a=some (.dK kvs))(hl:kvs.length<sizeLine):wB H a (kV k) v (upd H a (.dK (fw kvs k v))):= .inl ⟨kvs,k,e,rfl,hl,rfl⟩
theorem wB.t{kvs:List (List Key×V)}{k:List Key}(e:H a=some (.dT kvs))(eb:H b=some (.tup (k.map kV)))(hl:kvs.length<sizeLine):
  wB H a (.ref b) v (upd H a (.dT (fw kvs k v))):= .inr ⟨kvs,k,b,e,rfl,eb,hl,rfl⟩
section
variable{X:Cx}{pins:List (Addr×Obj)}{σ:St}{H:Hp}{s:Shared}{a:Addr}{y v:V}{u r:Value}{o:Option V}{A:Around}{E:Value->Shared->Prop}
theorem Inv.big(I:Inv X pins σ H s):sysModules<s.heap.objs.size:=by have h:mainGlobals<s.heap.objs.size:=(I.mod.glob.keeps I.bk).lt;exact FF (by decide) h
theorem vY(hu:A.units+1<cLine)(I:Inv X pins σ H s)(g:sF H a y (some v))(ry:aW y u)(h:∀w' s',Inv X pins σ H s'->aW v w'->Q w' s'):
  wpAny (model X.prog X.w) A (getItem (.ref a) u) Q E s:=by
 rcases g with ⟨kvs,k,e,ey,l⟩|⟨kvs,k,b,e,ey,eb,l⟩
 .subst ey;obtain⟨z,hd,vs,rel,dd⟩:=yX I.hok e;obtain⟨w',hw,rw'⟩:=fC.some_of (v:=v) (o:=valueAt vs k) (by rw[l];exact rel.val k);exact wpAny_getItem_of (ue ry) dd.mapOf hw (h w' _ (I.tok _) rw')
 .subst ey;cases (show u=Value.ref b from ry);obtain⟨z,hd,xs,rel,dd⟩:=yW I.hok e;obtain⟨w',hw,rw'⟩:=fC.some_of (v:=v) (o:=(atKey xs k).map (·.2)) (by rw[l];exact rel.val k);obtain⟨p,hp,hp2⟩:=Option.map_eq_some_iff.mp hw;refine wpAny_getItem_heap (tupleKind_room_in1 hu) (rY I.hok eb) dd hp ?_;rw[hp2];exact h w' _ (I.tok _) rw'
theorem nZ{h':Heap}(I:Inv X pins σ H s)(mu:Mut (H a))(hs:Heap.SameBut a s.heap h')(he:∃q,h'.get? a=some q)(new:br X.prog X.w (upd H a ob) h' a ob):
  Inv X pins σ (upd H a ob) {s with heap:=h',toks:=t'}:=
 I.write (x:=a) (e:=a) mu (.inl rfl) (λb q hb z=>(hs.2 b hb).trans z) he new
theorem yZ{h':Heap}{kvs:List (Key×V)}(z:kvs.length<=sizeLine)(hd:(a==sysModules)=false)(rel:KV kvs vs)(dd:h'.DictOf (bO P w) a vs):
  br P w H' h' a (.dK kvs):=⟨z,hd,vs,rel,dd⟩
theorem vX(hu:A.units+1<cLine)(I:Inv X pins σ H s)(g:wB H a y v H')(ry:aW y u)(rv:aW v r)(h:∀s',Inv X pins σ H' s'->Q () s'):
  wpAny (model X.prog X.w) A (setItem (.ref a) u r) Q E s:=by
 rcases g with ⟨kvs,k,e,ey,l,eH⟩|⟨kvs,k,b,e,ey,eb,l,eH⟩
 .subst ey eH;obtain⟨z,hd,vs,rel,dd⟩:=yY I.hok e;have hz:vs.length<=sizeLine:=by rw[<-rel.length];exact z
  have hl:(fw kvs k v).length<=sizeLine:=by have:=fM kvs k v;lia
  refine wpAny_setItem_pairs (hsz:=hz) (ue ry) dd λh' dd' hs=>h _ ?_;have he:∃q,h'.get? a=some q:=let⟨q,_,_,hq,_⟩:=dd';⟨q,hq⟩;exact nZ I (by rw[e];exact E5) hs he (yZ hl hd (rel.put k rv) dd')
 .subst ey eH;cases (show u=Value.ref b from ry);obtain⟨z,hd,xs,rel,dd⟩:=CP I.hok e;have hz:xs.length<=sizeLine:=by rw[<-Gy rel];exact z
  have hl:(fw kvs k v).length<=sizeLine:=by have:=fM kvs k v;lia
  refine wpAny_setItem_heap (hsz:=hz) (tupleKind_room_in1 hu) (rY I.hok eb) dd λh' dd' hs=>h _ ?_;obtain⟨q,es,ep,hq,h2,h3,h4,_,h5⟩:=dd';refine nZ I (by rw[e];exact E5) hs ⟨q,hq⟩ ⟨hl,hd,_,(rel.put k eb rv).keeps λc ys ec=> ?_,q,es,ep,hq,h2,h3,h4,h5⟩;rw[aw (c8 ec e (λz=>nomatch z))];exact ec
end
section
variable{X:Cx}{pins:List (Addr×Obj)}{σ:St}{H:Hp}{s:Shared}{a:Addr}{kvs:List (Key×V)}{k:Key}{u:Value}{A:Around}{E:Value->Shared->Prop}
end
def CV(i:Expr):Prop:=∀ov iv,subscripted i false ov iv=operate [ov,iv] (getItem ov iv)
theorem zN{prog:Program}{w:World}{A:Around}{E:Value->Shared->Prop}{s:Shared}{env:Env}{value slice:Expr}{pos:Pos}{T id:String}{Q:Value->Shared->Prop}
  (hl:typeLookup (.type T) "__getitem__"=pure (some (.builtin id))) (hs:CV slice)
  (h:wpAny (model prog w) A (eval value env) (λo s₁=>wpAny (model prog w) A (eval slice env) (λi s₂=>s₂.TypeIs o T/\wpAny (model prog w) A (getItem o i) Q E s₂) E s₁) E s):
  wpAny (model prog w) A (eval (.Subscript value slice pos) env) Q E s:=by
 refine Subscript_ (Fl h (λo s₁ h₁=>Fl h₁ (λi s₂ h₂=> ?_) λ_ _ x=>x) λ_ _ x=>x);obtain⟨hT,h₂⟩:=h₂;unfold subscriptTail;refine Dj ?_;rw[getitemInPython_of_ne hT.not_modules];refine Dj (wpAny_specialOf hT hl ?_);have fin:wpAny (model prog w) A (subscripted slice false o i) (λr s₃=>wpAny (model prog w) A (letTemporaryGo value o r>>=λ_=>pure r) Q E s₃) E s₂:=by rw[hs o i];exact wpAny_operating (Fl h₂ (λr s₃ h₃=>Dj (wpAny_letTemporaryGo (DA h₃))) λ_ _ x=>x)
 first
  |exact DA (Dj fin)
  |exact Dj (DA (Dj fin))
  |exact Dj fin
theorem pX{X:Cx}{pins:List (Addr×Obj)}{σ:St}{H:Hp}{s:Shared}{a:Addr}{y:V}{o:Option V}(I:Inv X pins σ H s)(g:sF H a y o):s.TypeIs (.ref a) "dict":=by
 rcases g with ⟨kvs,k,e,_,_⟩|⟨kvs,k,b,e,_,_,_⟩
 .obtain⟨_,_,vs,_,dd⟩:=yX I.hok e;exact dd.typeIs
 .obtain⟨_,_,xs,_,dd⟩:=yW I.hok e;exact dd.typeIs
def Cp(td ty:TE):TE:=λσ H Q=>td σ H λx H1=>ty σ H1 λy H2=>∃a v,x= .ref a/\sF H2 a y (some v)/\Q v H2
def Cv(td ty tv:TE):TS:=λD σ H=>tv σ H λv H1=>td σ H1 λx H2=>ty σ H2 λy H3=>∃a H4,x= .ref a/\wB H3 a y v H4/\D.nx σ H4
section
variable{X:Cx}{o i e value:Expr}{pos pos' tpos:Pos}{td ty tv:TE}
theorem tX(hu:X.A.units+1<cLine)(ho:PE X o td)(hi:PE X i ty)(hs:CV i):PE X (.Subscript o i pos) (Cp td ty):=by intro pins s σ H Q I h;refine zN PySem.F.slot_dict_getitem.lookup hs (thn (ho pins s σ H _ I h) λu s1 ⟨x,H1,I1,rx,q1⟩=>thn (hi pins s1 σ H1 _ I1 q1) λiv s2 hq_=> ?_);obtain⟨y,H2,I2,ry,a,v,ex,g,q2⟩:=hq_;subst ex;obtain rfl:u=Value.ref a:=rx;exact⟨pX I2 g,vY hu I2 g ry λw' s3 I3 rw'=>⟨v,H2,I3,rw',q2⟩⟩
theorem Ab(hu:X.A.units+1<cLine)(ho:PE X o td)(hi:PE X i ty)(hv:PE X value tv)(hs:swapsWith value (some (.Subscript o i pos')) pos.line X.env=pure false):
  PS X (.Assign [.Subscript o i pos'] value pos) (Cv td ty tv):=by
 intro pins s σ H D I h;refine wpAny_Assign_Subscript (thn (hv pins s σ H _ I h) λr s1 ⟨v,H1,I1,rv,q1⟩=>thn (ho pins s1 σ H1 _ I1 q1) λu s2 ⟨x,H2,I2,rx,q2⟩=>thn (hi pins s2 σ H2 _ I2 q2) λiv s3 hq_=> ?_) hs;obtain⟨y,H3,I3,ry,a,H4,ex,g,q3⟩:=hq_;subst ex;obtain rfl:u=Value.ref a:=rx;exact vX hu I3 g ry rv λs4 I4=>⟨σ,H4,I4,q3⟩
end
theorem pW(h:Heap)(hb:sysModules<h.objs.size):br P w H (h.push {cls:= .type "dict",data:= .dict #[]}) h.objs.size (.dK []):=
 ⟨DV _,FK.mpr (E8 (DQ hb)),[], .nil,Heap.DictOf.new h⟩
def Be:TE:=λ_ H Q=>∀p,H p=none->Q (.ref p) (upd H p (.dK []))
section
variable{X:Cx}{pos:Pos}
theorem xD:PE X (.Dict [] [] pos) Be:=λpins s σ H Q I h=>
 wpAny_Dict_empty ⟨.ref s.heap.objs.size,_,I.laid (a:=s.heap.objs.size) (o:= .dK []) (t':=s.toks) (λ_ _ q=>Dx _ q) (Dl _) (pW s.heap I.big),rfl,h _ (I.hok.fresh (Dl _))⟩
end
def qU:List (TE×TE)->St->Hp->(List (V×V)->Hp->Prop)->Prop
 | [],_,H,Q=>Q [] H
 |(tk,tv)::r,σ,H,Q=>tk σ H λx H1=>tv σ H1 λy H2=>qU r σ H2 λps H3=>Q ((x,y)::ps) H3
abbrev VV:List (V×V)->List (Value×Value)->Prop:=Paired λp q=>aW p.1 q.1/\aW p.2 q.2
def PPs(X:Cx)(pos:Pos)(keys:List (Option Expr))(values:List Expr)(trs:List (TE×TE)):Prop:=
 ∀ (pins:List (Addr×Obj)) (s:Shared) (σ:St) (H:Hp) (Q:List (V×V)->Hp->Prop),Inv X pins σ H s->qU trs σ H Q->
  wpAny (model X.prog X.w) X.A (evalPairs (pairTrees keys values X.env pos)) (λvs s'=>∃ps H',Inv X pins σ H' s'/\VV ps vs/\Q ps H') X.xe s
theorem Ac:PPs X pos [] [] []:=λpins s σ H Q I h=>pairTrees_nil_walk ⟨[],H,I, .nil,h⟩
theorem xq(hk:PE X k tk)(hv:PE X v tv)(hr:PPs X pos ks vs trs):
  PPs X pos (some k::ks) (v::vs) ((tk,tv)::trs):=λpins s σ H Q I h=>
 pairTrees_cons_walk (thn (hk pins s σ H _ I h) λu s1 ⟨x,H1,I1,rx,q1⟩=>thn (hv pins s1 σ H1 _ I1 q1) λw2 s2 ⟨y,H2,I2,ry,q2⟩=>
  thn (hr pins s2 σ H2 _ I2 q2) λws s3 ⟨ps,H3,I3,rel,q3⟩=>⟨(x,y)::ps,H3,I3, .cons ⟨rx,ry⟩ rel,q3⟩)
def iJ(kvs more:List (Key×V)):List (Key×V):=more.foldl (λacc kv=>fw acc kv.1 kv.2) kvs
theorem KV.merge:∀ {more:List (Key×V)} {rs:List (Key×Value)} {kvs:List (Key×V)} {vs:List (Key×Value)},KV more rs->KV kvs vs->KV (iJ kvs more) (merged vs rs):=by
 intro more rs kvs vs r;unfold KV at r
 induction r generalizing kvs vs with
 |nil=>intro q;exact q
 | @cons p q ps qs h t ih=>
  intro r0;have e:KV (fw kvs p.1 p.2) (stored vs q.1 q.2):=by have:=r0.put p.1 h.2;rw[<-h.1];exact this
  exact ih e
theorem gg:∀ (more kvs:List (Key×V)),(iJ kvs more).length<=kvs.length+more.length
 | [],kvs=>by show kvs.length<=kvs.length+0;lia
 |p::r,kvs=>by have h1:=gg r (fw kvs p.1 p.2);have h2:=fM kvs p.1 p.2;show(iJ (fw kvs p.1 p.2) r).length<=_;rw[D6];lia
theorem kN:∀ {kvs:List (Key×V)} {ws:List (Value×Value)},VV (kvs.map λkv=>(kV kv.1,kv.2)) ws->∃rs,Carries (bO P w) ws rs/\KV kvs rs
 | [],_,r=>by rw[Ic]at r;cases r;exact⟨[],E5, .nil⟩
 |p::kvs,_,r=>by
  rw[Ej]at r;cases r with
  | @cons a b as bs h t=>
   obtain⟨rs,c,q⟩:=kN (P:=P) (w:=w) t;obtain⟨b1,b2⟩:=b;exact⟨(p.1,b2)::rs,⟨ue h.1,rfl,c⟩, .cons ⟨rfl,h.2⟩ q⟩
def Co(trs:List (TE×TE)):TE:=λσ H Q=>∀p,H p=none->qU trs σ (upd H p (.dK [])) λps H2=>H2 p=some (.dK [])/\∃kvs:List (Key×V),ps=kvs.map (λkv=>(kV kv.1,kv.2))/\kvs.length<=15/\Q (.ref p) (upd H2 p (.dK (iJ [] kvs)))
theorem Al{keys:List (Option Expr)}{values:List Expr}(h:PPs X pos keys values trs)(hall:keys.all (·.isSome)=true)(hl:keys.length=values.length)(h0:keys≠[])
  (h15:keys.length<=15):PE X (.Dict keys values pos) (Co trs):=by
 intro pins s σ H Q I q;have hn:=I.hok.fresh (Dl s.heap.objs.size);have I1:=I.laid (a:=s.heap.objs.size) (o:= .dK []) (h':=s.heap.push {cls:= .type "dict",data:= .dict #[]}) (t':=s.toks) (λ_ _ q=>Dx _ q) (Dl _) (pW s.heap I.big);refine wpAny_Dict_walk (knd:=bO X.prog X.w) hall hl h0 h15 (thn (h pins _ σ _ _ I1 (q _ hn)) λws s2 hq_=> ?_);obtain⟨ps,H2,I2,rel,e,kvs,ep,lk,q2⟩:=hq_;subst ep;obtain⟨rs,c,rk⟩:=kN (P:=X.prog) (w:=X.w) rel;obtain⟨z,hd,vs0,r0,dd⟩:=yY I2.hok e;cases r0;refine⟨rs,c,dd,λh' dd' hs=>⟨.ref s.heap.objs.size,_,?_,rfl,q2⟩⟩;have hz:(iJ [] kvs).length<=sizeLine:=by have h1:=gg kvs [];rw[List.length_nil]at h1;rw[FD];lia
 have he:∃q,h'.get? s.heap.objs.size=some q:=let⟨q,_,_,hq,_⟩:=dd';⟨q,hq⟩;exact nZ I2 (by rw[e];exact E5) hs he (yZ hz hd (rk.merge .nil) dd')
section
variable{X:Cx}{pins:List (Addr×Obj)}{σ:St}{H:Hp}{s:Shared}{a:Addr}{y d:V}{u r:Value}{o:Option V}{A:Around}{E:Value->Shared->Prop}
end
section
variable{X:Cx}{o e f:Expr}{apos cpos:Pos}{td ty tx:TE}
end
section
variable{X:Cx}{pins:List (Addr×Obj)}{σ:St}{H:Hp}{s:Shared}{a:Addr}{kvs:List (Key×V)}{A:Around}{E:Value->Shared->Prop}
end
section
variable{X:Cx}{pins:List (Addr×Obj)}{σ:St}{H:Hp}{s:Shared}{a:Addr}{y:V}{u:Value}{A:Around}{E:Value->Shared->Prop}
end
section
variable{X:Cx}
end
section
variable{κ:Type}[DecidableEq κ]
end
end L2
namespace PySem
open Sem (wp)
end PySem
namespace L2
open PySem PySem.Spec PyProof.Rows
section
variable{X:Cx}{pins:List (Addr×Obj)}{σ:St}
end
end L2
namespace L2
open PySem PySem.Spec PyProof.Rows PySem.W
section
variable{prog:Program}{w:World}{A:Around}{E:Value->Shared->Prop}{s:Shared}{T:String}{r d:Addr}{n:Nat}{P:Nat->Value->Prop}{OK:Heap->Prop}
end
section
variable{X:Cx}{o:Expr}{apos cpos:Pos}{td:TE}
end
end L2
namespace L2
open PySem PySem.Spec PyProof.Rows PySem.W
section
variable{prog:Program}{w:World}{A:Around}{E:Value->Shared->Prop}{s:Shared}
theorem xm{ob:Obj}{es:Array DictEntry}(st:s.heap.IsKeyIter it d i n ep)(hob:s.heap.get? d=some ob)(hdat:ob.data= .dict es ep)(hsz:es.size=n)
  (hlt:i<n) (hk:∀e,es[i]?=some e->e.key=kk)
  (hQ:∀h',h'.IsKeyIter it d (i+1) n ep->Heap.SameBut it s.heap h'->Q (some kk) {s with heap:=h'}):wpAny (model prog w) A (pyNext (.ref it)) Q E s:=by
 obtain⟨oi,hoi,ci,di⟩:=id st;have hT:=st.typeIs;unfold pyNext;refine Dj (wpAny_attempt (wpAny_callSpecial?_slot (name:=Str.ofString "__next__") hT Fn
   (Ih Fn hT Hq ?_ (Hk _))))
 refine Dj (DA (Dj (Dj ?_)))
 first|refine Dj (FJ hT (DA ?_))|refine Dj (Gd hT (DA ?_))
 refine Dj (wpAny_fieldsOf hoi di ?_);have own0:Builtin.Dict_items.ownsTuple "dict_keyiterator"=false:=by decide
 simp only[own0,Fz,Gm];show wpAny _ _ (if(Value.ref d==Value.none)=true then _ else _) _ _ _;rw[Dt (show¬(Value.ref d==Value.none)=true from λz=>Dr z)];refine Dj (DA (Dj (HS hob hdat ?_)));rw[Dt (by rw[hsz];simp)];refine Dj (DA (Dj (Ir hob hdat ?_)));rw[Dt (by simp)];refine DA ?_;have hl2:i<es.size:=by lia
 have ek:es[i].key=kk:=hk _ (Fc hl2);simp only[show¬((i:Int)<0) by lia,Gm,Dk,Fc hl2];refine Dj ?_
 first|refine Dj (FJ hT (DA ?_))|refine Dj (Gd hT (DA ?_))
 refine Dj (wpAny_isOneOf_keyiter hT ?_);show wpAny _ _ (setField (.ref it) 1 (rawInt ((i:Int)+1))>>=_) _ _ _;refine Dj (wpAny_setField hoi di (by simp) ?_);have st2:(s.heap.update it (Obj.mapFields (·.setIfInBounds 1 (rawInt ((i:Int)+1))))).IsKeyIter it d (i+1) n ep:=
   ⟨_,Heap.get?_update_self _ hoi (Obj.isFreed_of_fields (Obj.data_mapFields di _)),(Obj.cls_mapFields ..).trans ci,by rw[Obj.data_mapFields di];simp[rawInt]⟩
 refine Dj (EJ (Dj (wpAny_isOneOf_keyiter (s:={s with heap:=s.heap.update it (Obj.mapFields (·.setIfInBounds 1 (rawInt ((i:Int)+1))))}) st2.typeIs ?_)));show wpAny _ _ (pure (es[i]'hl2).key) _ _ _;rw[ek];exact DA (DA ⟨_,rfl,DA (hQ _ st2 (Heap.SameBut.update ..))⟩)
theorem zV{ob:Obj}{es:Array DictEntry}(hh:A.handled=none)(st:s.heap.IsKeyIter it d i n ep)(hob:s.heap.get? d=some ob)(hdat:ob.data= .dict es ep)(hsz:es.size=n)
  (hge:n<=i) (hQ:∀h',Heap.ExtBut it s.heap h'->Q none {s with heap:=h'}):wpAny (model prog w) A (pyNext (.ref it)) Q E s:=by
 obtain⟨oi,hoi,ci,di⟩:=id st;have hT:=st.typeIs;unfold pyNext;refine Dj (wpAny_attempt (wpAny_callSpecial?_slot (name:=Str.ofString "__next__") hT Fn
   (Ih Fn hT Hq ?_ (Hk _))))
 refine Dj (DA (Dj (Dj ?_)))
 first|refine Dj (FJ hT (DA ?_))|refine Dj (Gd hT (DA ?_))
 refine Dj (wpAny_fieldsOf hoi di ?_);have own0:Builtin.Dict_items.ownsTuple "dict_keyiterator"=false:=by decide
 simp only[own0,Fz,Gm];show wpAny _ _ (if(Value.ref d==Value.none)=true then _ else _) _ _ _;rw[Dt (show¬(Value.ref d==Value.none)=true from λz=>Dr z)];refine Dj (DA (Dj (HS hob hdat ?_)));rw[Dt (by rw[hsz];simp)];refine Dj (DA (Dj (Ir hob hdat ?_)));rw[Dt (by simp)];refine DA ?_;have hl2:es.size<=i:=by lia
 simp only[show¬((i:Int)<0) by lia,Gm,Dk,Array.getElem?_eq_none hl2];refine Dj ?_
 first|refine Dj (FJ hT (DA ?_))|refine Dj (Gd hT (DA ?_))
 show wpAny _ _ (setField (.ref it) 0 .none>>=_) _ _ _;refine Dj (wpAny_setField hoi di (by simp) (show wpAny _ _ (newExc (.type "StopIteration") []>>=_) _ _ _ from Dj ?_));simp only[newExc,newTuple];refine Dj (GP (Dj (m:=firstArgMember _ _) (wpAny_of_eq (a:=Value.none) (by first|rfl|(simp only[firstArgMember];rfl)) (GP ?_ (by size_fits)))) (by size_fits));simp only[raiseNew];refine Dj (wpAny_handled ?_);have hA:A.in1.handled=none:=hh;rw[hA];refine Dj (DA (wpAny_throw (Dj ?_)));refine wpAny_isInstance (T:= "StopIteration") (b:=true) ⟨_,DP _ rfl,rfl⟩ isSubtype_stop ?_;exact DA (hQ _ (((Heap.SameBut.update ..).extBut.push _).push _))
end
theorem iD:∀ {l₁:List α} {l₂:List β},Paired F l₁ l₂->∀ {i:Nat} {a:α},l₁[i]?=some a->∃b,l₂[i]?=some b/\F a b
 |_,_, .nil,i,a,h=>by simp at h
 |_,_, .cons r t,0,a,h=>by simp only[Il,Option.some.injEq]at h;subst h;exact⟨_,rfl,r⟩
 |_,_, .cons r t,i+1,a,h=>by simp only[Im]at h⊢;exact iD t h
end L2
namespace L2
open PySem PySem.Spec PyProof.Rows PySem.W
section
variable{X:Cx}{pins:List (Addr×Obj)}{σ:St}
end
end L2
namespace L2
open PySem PySem.Spec PyProof.Rows PySem.W
section
variable{X:Cx}
end
end L2
namespace L2
open PySem PySem.Spec PyProof.Rows PySem.W
end L2
namespace L2
open PySem PySem.Spec PyProof.Rows PySem.W
end L2
namespace L2
open PySem PySem.Spec PyProof.Rows
def fS(mg:Str->Option Value)(h:Heap):Prop:=∃bm o,mg "__builtins__"=some (.ref bm)/\bm≠builtinsNs/\h.get? bm=some o/\o.cls= .type "module"/\o.dict=some builtinsNs/\o.data= .plain
theorem fS.at{h:Heap}(x:fS mg h)(hg:h.Ns mainGlobals mg)(hP:∀o,h.get? P=some o->∃ps,o.data= .fields ps):h.BuiltinsAt mg P:=by
 obtain⟨bm,o,b1,b2,b3,b4,b5,b6⟩:=x;refine⟨bm,o,b1,b2,λq=> ?_,λq=> ?_,b3,b4,b5,b6⟩
 .obtain⟨o',es,ep,e,hd,_⟩:=hg;rw[q,e]at b3;cases b3;rw[hd]at b6;cases b6
 .obtain⟨ps,hd⟩:=hP o (by rw[<-q];exact b3);rw[hd]at b6;cases b6
def zx(ts:List Addr)(H:Hp):Prop:=(∀P∈ts,H P=some (.tbl #[]))/\∀b,H b=none\/(∃o xs,H b=some (.frz o (.lst xs)))\/b∈ts
theorem vG{K:PySem.W.Frag}{s₁:Shared}{vs:List Value}{ns:List Int}{ts:List (Addr×Addr)}
  (KX:K.In s₁.heap) (hns:s₁.heap.Ns mainGlobals mg) (hb:s₁.heap.Ns builtinsNs mb) (hbb:∀x:Str,x≠ "__name__"->mb x=bootBuiltins x) (hlim:s₁.heap.NoLimit) (hbm:fS mg s₁.heap) (hg:s₁.gens= #[])
  (ha:s₁.heap.get? a=some {cls:= .type "list",data:= .seq vs.toArray}) (hi:IntsAre vs ns) (hl:ns.length<=sizeLine) (hr:Room k callerA) (hT:PySem.W.TabsAt ts s₁.heap) (hnt:noTabs K=true)
  (F:∀base:Heap,K.In base->base.Ns mainGlobals mg->fS mg base->fq P w K mg base CX k fa fd [x] sp) (hbind:∀ (s:Shared) (u:Value),BindsTo s fd ⟨[u],[]⟩ [(x,u)])
  (hsp:∀H:Hp,zx (ts.map (·.2)) H->SqL K H a (ns.map V.int)->sp [.ref a] H (λv _=>v= .bl true) λ_ _ _=>False)
  (hCX:∀H e s',CX [] H s₁ (λ_ _ _=>False) e s'->False):
  codeAny (model P w) callerA (.call (.ref fa) ⟨[.ref a],[]⟩) (λr s'=>r= .ok (.ret (.bool true))/\OldK s₁.heap s'.heap/\s'.os=s₁.os/\AllBare s'.gens) s₁:=by
 have rv:=lN hi;have lenV:=hi.length;have tabAt:∀b∈ts.map (·.2),isCodeTable s₁.heap b/\s₁.heap.get? b=some {cls:= .none,data:= .fields #[]}:=λb hb'=>by obtain⟨q,hq,rfl⟩:=DL.mp hb';obtain⟨h1,h2⟩:=hT q hq;exact⟨(h1.tab h2).isCodeTable,h2⟩
 have aT:a∉ts.map (·.2):=λz=>by have:=(tabAt a z).2;rw[ha]at this;cases this
 have KT:∀b∈ts.map (·.2),K.lookup b=none:=λb hb'=>by
  cases q:K.lookup b with
  |none=>rfl
  |some o=>
   have h1:=PySem.W.ghost_K hT KX hnt b o q;rw[PySem.W.hideAll_none _ hb']at h1;cases h1
 have core:∀H:Hp,zx (ts.map (·.2)) H->SqL K H a (ns.map V.int)->HOk P w H s₁.heap->(∀b,H b≠none->b=a\/b∈ts.map (·.2))->(H a≠none->K.lookup a=none)->
   codeAny (model P w) callerA (.call (.ref fa) ⟨[.ref a],[]⟩) (λr s'=>r= .ok (.ret (.bool true))/\OldK s₁.heap s'.heap/\s'.os=s₁.os/\AllBare s'.gens) s₁:=by
  intro H hO hS hok hA hK;have base_of:∀ {b:Addr} {o:Obj},s₁.heap.get? b=some o->H b=none->(lF s₁.heap H).get? b=some o:=λe n=>yM e n;have noA:∀ {b:Addr} {o:Obj},s₁.heap.get? b=some o->(∀xs n,o.data≠ .seq xs n)->(∀ps,o.data≠ .fields ps)->H b=none:=λ{b o} e d1 d2=>by
   cases q:H b with
   |none=>rfl
   |some u=>
    rcases hA b (by rw[q];simp)with e'|e'
    .subst e';rw[ha]at e;cases e;exact absurd rfl (d1 _ _)
    .rw[(tabAt b e').2]at e;cases e;exact absurd rfl (d2 _)
  have nsK:∀ {b:Addr} {m:Str->Option Value},s₁.heap.Ns b m->(lF s₁.heap H).Ns b m:=λ{b m} ⟨o,es,ep,e,d,r⟩=>⟨o,es,ep,base_of e (noA e (λ_ _ z=>by rw[d]at z;cases z) λ_ z=>by rw[d]at z;cases z),d,r⟩;have hKb:K.In (lF s₁.heap H):=λb o e=>base_of (KX b o e) (by
   cases q:H b with
   |none=>rfl
   |some u=>
    rcases hA b (by rw[q];simp)with e'|e'
    .subst e';rw[hK (by rw[q];simp)]at e;cases e
    .rw[KT b e']at e;cases e)
  have hM:Mod K mg (lF s₁.heap H):=⟨hKb,nsK hns,⟨mb,nsK hb,hbb⟩,let⟨mc,h1,h2⟩:=hlim;⟨mc,nsK h1,h2⟩⟩;have hBM:fS mg (lF s₁.heap H):=by obtain⟨bm,o,b1,b2,b3,b4,b5,b6⟩:=hbm;exact⟨bm,o,b1,b2,base_of b3 (noA b3 (λ_ _ z=>by rw[b6]at z;cases z) λ_ z=>by rw[b6]at z;cases z),b4,b5,b6⟩
  have e0:lL P w K mg (lF s₁.heap H) callerA [] s₁ H:=⟨rfl,hM,λb o e=>Au e,Nat.le_of_eq (vP _ _),trivial,λb hb=>absurd (show b∈([]:List Addr)from hb) (by simp),hok, .of_eq hg⟩;refine Gq ((F _ hKb (nsK hns) hBM).run callerA [] s₁ H ⟨[.ref a],[]⟩ [.ref a] [.ref a] _ _ hr e0 (hbind s₁ (.ref a)) (.cons rfl .nil) (hsp H hO hS)) λr s' h=> ?_;cases r with
  |error e=>exact(hCX H e s' h).elim
  |ok fl=>
   cases fl with
   |next=>exact False.elim h
   |brk=>exact False.elim h
   |cont=>exact False.elim h
   |ret u=>
    obtain⟨v,H',os,bare,un,hok',r',q⟩:=h;have q':v= .bl true:=q;subst q';obtain rfl:u=Value.bool true:=r';have both:∀b o,s₁.heap.get? b=some o->asItWas s₁.heap s'.heap b o/\∃o',s'.heap.get? b=some o':=λb o e=>by
     cases q:H b with
     |none=>
      have:=un.keep b o e q (by intro z;exact absurd (show b∈([]:List Addr)from z) (by simp)) (by simp);exact⟨.inl this,_,this⟩
     |some u=>
      rcases hO.2 b with z|⟨ob,xs,z⟩|z
      .rw[q]at z;cases z
      .have z2:=un.frzs b ob _ z;obtain⟨e1,_⟩:=hok b _ z;obtain⟨e2,_⟩:=hok' b _ z2;rw[e]at e1;cases e1;exact⟨.inl e2,_,e2⟩
      .obtain⟨t1,t2⟩:=tabAt b z;obtain⟨more,z2⟩:=un.tbls b _ (hO.1 b z);have z3:=hok' b _ z2;have z4:s'.heap.get? b=some {cls:= .none,data:= .fields (#[]++more)}:=z3;rw[e]at t2;have eo:=DS t2;subst eo;exact⟨.inr (.inl ⟨t1,rfl, #[],more,rfl,z4⟩),_,z4⟩
    exact⟨rfl,⟨λb o e=>(both b o e).1,λb o e=>(both b o e).2⟩,os,bare⟩
 have tblOk:∀ (H:Hp) (b:Addr),b∈ts.map (·.2)->br P w H s₁.heap b (.tbl #[]):=λH b hb'=>(tabAt b hb').2;cases hk:K.lookup a with
 |some o=>
  have e:=KX a o hk;rw[ha]at e;cases e;refine core (λb=>if b∈ts.map (·.2)then some (.tbl #[])else none) ⟨λP hP=>Dp hP,λb=> ?_⟩ (.inr ⟨_,vs.toArray,_,hk,rfl,rfl,rfl,by rw[DI,lenV];exact hl,by simpa using rv⟩) (λb u z=> ?_) (λb z=> ?_) λz=>absurd (Dt aT) z
  .by_cases hb':b∈ts.map (·.2)
   .exact .inr (.inr hb')
   .exact .inl (Dt hb')
  .by_cases hb':b∈ts.map (·.2)
   .have z':=(Dp hb').symm.trans z;cases z';exact tblOk _ b hb'
   .have z':=(Dt hb').symm.trans z;cases z'
  .by_cases hb':b∈ts.map (·.2)
   .exact .inr hb'
   .exact absurd (Dt hb') z
 |none=>
  refine core (λb=>if b=a then some (.frz {cls:= .type "list",data:= .seq vs.toArray} (.lst (ns.map V.int)))else if b∈ts.map (·.2)then some (.tbl #[])else none) ⟨λt hP=> ?_,λb=> ?_⟩ (.inl (.inr ⟨{cls:= .type "list",data:= .seq vs.toArray},Dp rfl⟩)) (λb u z=> ?_) (λb z=> ?_) λ_=>hk
  .exact(Dt (λe:t=a=>aT (by rw[<-e];exact hP))).trans (Dp hP)
  .by_cases hb:b=a
   .exact .inr (.inl ⟨_,_,Dp hb⟩)
   .by_cases hb':b∈ts.map (·.2)
    .exact .inr (.inr hb')
    .exact .inl ((Dt hb).trans (Dt hb'))
  .by_cases hb:b=a
   .have z':=(Dp hb).symm.trans z;cases z';subst hb;exact⟨ha,by rw[Di];exact hl,vs,_,rv,ha⟩
   .have z':=(Dt hb).symm.trans z;by_cases hb':b∈ts.map (·.2)
    .have z2:=(Dp hb').symm.trans z';cases z2;exact tblOk _ b hb'
    .have z2:=(Dt hb').symm.trans z';cases z2
  .by_cases hb:b=a
   .exact .inl hb
   .by_cases hb':b∈ts.map (·.2)
    .exact .inr hb'
    .exact absurd ((Dt hb).trans (Dt hb')) z
theorem wD{l:PySem.W.OpenLaw}{n k:Nat}{q:Program}{loose:List Str}{XP:(Str->Option Value)->Heap->Prop}{YP:World->Heap->Prop}{d:DefRec}{K:Params->PySem.W.Frag}{CX:World->CXT}{sp:World->Sp}{x:Str}{ts:List (Addr×Addr)}
  (hn:l.most=some n) (hn2:n<=sizeLine) (hdf:d.params.defaults=[]) (hr:Room k callerA)
  (hY:∀ (w:World) (h:Heap),YP w h->(K w.params).In h) (hP:∀ (w:World) (h:Heap),YP w h->∀t∈ts.map (·.2),h.get? t=some (PySem.W.tabObj #[]))
  (hC:∀ (w:World),∀t∈ts,codeHdIn (K w.params) t.1 t.2=true) (hnt:∀w:World,noTabs (K w.params)=true)
  (F:∀ (w:World) (mg:Str->Option Value) (fa:Addr) (h:Heap),(K w.params).In h->h.Ns mainGlobals mg->mg d.name=some (.ref fa)->
   ∃fd:FuncData,(∀ (s:Shared) (u:Value),BindsTo s fd ⟨[u],[]⟩ [(x,u)])/\
    ∀base:Heap,(K w.params).In base->base.Ns mainGlobals mg->fS mg base->fq l.prog w (K w.params) mg base (CX w) k fa fd [x] (sp w))
  (hsp:∀ (w:World) (H:Hp) (a:Addr) (ns:List Int),ns.length<=n->zx (ts.map (·.2)) H->SqL (K w.params) H a (ns.map V.int)->sp w [.ref a] H (λv _=>v= .bl true) λ_ _ _=>False)
  (hCX:∀ (w:World) (H:Hp) (s:Shared) (e:Value) (s':Shared),CX w [] H s (λ_ _ _=>False) e s'->False):
  PySem.W.WalkO q loose XP YP l.row.toRowW d [] (λf vs=>PySem.call f vs):=by
 refine Att.qg hn hdf λw s₀ s₁ mg mb fa o pm cd doc a vs ns G Y ho hd hcd hmg hobj hints hlen hg=> ?_;have KX:=hY w _ Y;obtain⟨fd,hb,hF⟩:=F w mg fa _ KX G.T.g hmg;have hbm:fS mg s₁.heap:=by obtain⟨bm,ob,b1,b2,b3,b4,b5,b6⟩:=G.T.bmain;exact⟨bm,ob,b1,b2,b3,b4,b5,b6⟩
 have hT:PySem.W.TabsAt ts s₁.heap:=λt ht=>⟨GA KX (hC w t ht),hP w _ Y t.2 (List.mem_map_of_mem ht)⟩;exact vG KX G.T.g G.T.b G.T.builtins G.T.nolimit hbm hg hobj hints (Du hlen hn2) hr hT (hnt w) hF hb (λH hO hS=>hsp w H a ns hlen hO hS) λH e s'=>hCX w H s₁ e s'
end L2
namespace L2
open PySem PySem.Spec PySem.W PyProof.Rows
def gr(c:Addr)(q:Str):HO:= .ext λh=>h.CodeRec (.ref c) q
theorem zc{h:Heap}(x:h.CodeRec (.ref c) q):br P w H h c (gr c q):=by obtain⟨c',oc,vs,tq,e,hoc,hd,hv⟩:=id x;cases e;exact⟨x,⟨_,hoc⟩,λh1 h2 hφ hk=>by obtain⟨c2,oc,vs,tq,e,hoc,r⟩:=hφ;cases e;exact⟨_,oc,vs,tq,rfl,hk _ hoc,r⟩⟩
def ba(P:Addr)(H H':Hp):Prop:=∀b o,b≠P->H b=some o->H' b=some o
theorem ba.of(h:Same H H'):ba P H H':=λb o _ e=>h b o e
theorem ba.trans(a:ba P H H1)(b:ba P H1 H2):ba P H H2:=λc o n e=>b c o n (a c o n e)
def cU(H:Hp)(P:Addr)(pos:Pos)(q:Str):Prop:=H P=some (.tbl #[])\/∃c,H P=some (.tbl #[rawInt pos.line,rawInt pos.col, .ref c])/\H c=some (gr c q)
theorem cU.same(h:cU H P pos q)(e:Same H H'):cU H' P pos q:=by
 rcases h with h|⟨c,h1,h2⟩
 .exact .inl (e _ _ h)
 .exact .inr ⟨c,e _ _ h1,e _ _ h2⟩
theorem cU.tbl(h:cU H P pos q):∃ps,H P=some (.tbl ps):=by
 rcases h with h|⟨c,h1,h2⟩
 .exact⟨_,h⟩
 .exact⟨_,h1⟩
section
variable{X:Cx}{pins:List (Addr×Obj)}{σ:St}{H:Hp}{s s':Shared}
theorem Inv.nostk{a:Addr}(I:Inv X pins σ H s)(h:s.heap.objs.size<=a):a∉frs X.stack:=λhb=>by
 rcases Dz.mp (I.stkSub a hb)with e|e
 .have:=I.lt;rw[<-e]at this;exact absurd (Dq this h) (Eb _)
 .exact I.nofs h e
theorem Inv.far(I:Inv X pins σ H s)(os:s'.os=s.os)(bare:AllBare s'.gens)(un:Un (frs X.stack) [] H H' s.heap s'.heap)(hok:HOk X.prog X.w H' s'.heap):Inv X pins σ H' s':=by obtain⟨hh,g,d,t,os'⟩:=s';obtain rfl:os'=s.os:=os;exact I.call (h':=hh) (g':=g) (d':=d) (t':=t) (ch:=[]) un hok bare (λb z=>absurd z (by simp))
theorem ky(I:Inv X pins σ H s)(eq:q=X.env.qual++ "<lambda>")(hT:cU H P pos q)(hcode:X.env.code= .ref c)(C:CodeHd X.base c P)(BM:fS X.mg X.base)
  (hdef:defaultsOf params X.env=([],[])) (hcl:closureFor scope X.env=pure clos)
  (h:∀f c' pm ctv h' tk H',Inv X pins σ H' {s with heap:=h',toks:=tk}->ba P H H'->cU H' P pos q->H' c'=some (gr c' q)->H' f=none->s.heap.objs.size<=f->h'.get? f=some (kla_obj "<lambda>" q params body scope clos pm c' ctv)->Q (.ref f) {s with heap:=h',toks:=tk}):
  wpAny (model X.prog X.w) A (eval (.Lambda params body scope pos) X.env) Q E s:=by
 subst eq;have hg:s.heap.Ns mainGlobals X.mg:=I.mod.glob.keeps I.bk;have hbm:fS X.mg s.heap:=by obtain⟨bm,o,b1,b2,b3,r⟩:=BM;exact⟨bm,o,b1,b2,I.bk _ _ b3,r⟩
 have CK:=C.keeps I.bk;have PT:∀ {ps:Array Value},H P=some (.tbl ps)->s.heap.get? P=some (tabObj ps):=λe=>I.hok P _ e;have BA:∀ {ps:Array Value},H P=some (.tbl ps)->s.heap.BuiltinsAt X.mg P:=λe=>hbm.at hg λo ho=>by rw[PT e]at ho;cases ho;exact⟨_,rfl⟩
 have gP:∀ {ps:Array Value},H P=some (.tbl ps)->mainGlobals≠P:=λ{ps} e z=>by obtain⟨o,_,_,ho,_⟩:=I.mod.glob;have:=(I.bs _ _ ho).2;rw[z,e]at this;cases this
 refine kla_eval hdef ?_;rcases hT with hP|⟨c',hP,hc'⟩
 .refine kla_makeFunction (mg:=X.mg) hcl I.ok.glob hg hcode CK (PT hP) trivial rfl (gP hP) (BA hP) λc' ctv h' tk hx hge hlt hrec htb=> ?_;have hc0:H c'=none:=I.hok.fresh hge;have hcP:c'≠P:=λz=>by rw[z,hP]at hc0;cases hc0
  have nP:∀b,H b=none->b≠P:=λb n z=>by rw[z,hP]at n;cases n
  have nc:∀b o,s.heap.get? b=some o->b≠c':=λb o e=>DQ (Dq (DF e) hge);have keep:∀b o,b≠P->s.heap.get? b=some o->(h'.push (kla_obj "<lambda>" (X.env.qual++ "<lambda>") params body scope clos ((X.mg "__name__").getD .none) c' ctv)).get? b=some o:=λb o n e=>Dx _ (hx b o n e);have hP':(h'.push (kla_obj "<lambda>" (X.env.qual++ "<lambda>") params body scope clos ((X.mg "__name__").getD .none) c' ctv)).get? P=some (tabObj (#[]++ #[rawInt pos.line,rawInt pos.col, .ref c'])):=Dx _ htb;have at1:upd (upd H P (.tbl (#[]++ #[rawInt pos.line,rawInt pos.col, .ref c']))) c' (gr c' (X.env.qual++ "<lambda>")) P=some (.tbl (#[]++ #[rawInt pos.line,rawInt pos.col, .ref c'])):=(aw (E8 hcP)).trans ag;have at2:∀b,b≠P->b≠c'->upd (upd H P (.tbl (#[]++ #[rawInt pos.line,rawInt pos.col, .ref c']))) c' (gr c' (X.env.qual++ "<lambda>")) b=H b:=λb h1 h2=>(aw h2).trans (aw h1);have neT:∀b u,H b=some u->(∀ps,u≠ .tbl ps)->b≠P:=λb u e n z=>by rw[z,hP]at e;cases e;exact n _ rfl
  have neC:∀b u,H b=some u->b≠c':=λb u e=>au e hc0;refine h h'.objs.size c' _ ctv _ tk (upd (upd H P (.tbl (#[]++ #[rawInt pos.line,rawInt pos.col, .ref c']))) c' (gr c' (X.env.qual++ "<lambda>"))) (I.un ⟨λb o e n _ _=>keep b o (nP b n) e,λb o e n _ _=>⟨o.slots,keep b o (nP b n) e⟩,λb o e n _=>(at2 b (nP b n) (nc b o e)).trans n,λb o e _=> ?_,λb xs e=>(at2 b (neT b _ e λ_ z=>by cases z) (neC b _ e)).trans e,λb o u e=>(at2 b (neT b _ e λ_ z=>by cases z) (neC b _ e)).trans e,λb ps e=> ?_⟩ λb u e=> ?_) (λb o n e=>(at2 b n (neC b _ e)).trans e) (.inr ⟨c',by rw[at1];rfl,ag⟩) ag ?_ ?_ (DP _ rfl)
  .by_cases z:b=P
   .subst z;exact⟨_,hP'⟩
   .exact⟨o,keep b o z e⟩
  .by_cases z:b=P
   .subst z;rw[hP]at e;cases e;exact⟨_,at1⟩
   .exact⟨#[],by rw[at2 b z (neC b _ e),e];simp⟩
  .by_cases z2:b=c'
   .subst z2;rw[ag]at e;cases e;refine zc ?_;obtain⟨c2,oc,vs,tq,e2,hoc,r⟩:=hrec;exact⟨c2,oc,vs,tq,e2,Dx _ hoc,r⟩
   .by_cases z:b=P
    .subst z;rw[at1]at e;cases e;exact hP'
    .rw[at2 b z z2]at e;refine(I.hok b u e).stay (λd v hd q'=>keep d v ?_ q') (λd q'=>(at2 d (neT d _ q' λ_ z=>by cases z) (neC d _ q')).trans q') λd xs q'=>(at2 d (neT d _ q' λ_ z=>by cases z) (neC d _ q')).trans q';rcases hd with rfl|hd
     .exact z
     .exact neT d _ hd λ_ z=>by cases z
  .have h1:s.heap.objs.size<=h'.objs.size:=Du hge (F8 hlt);rw[at2 _ (λz=> ?_) (F9 hlt)]
   .exact I.hok.fresh h1
   .have:=DF (PT hP);rw[<-z]at this;exact absurd (Dq this h1) (Eb _)
  .exact Du hge (F8 hlt)
 .have hca:codeAmong pos (List.toArray [rawInt pos.line,rawInt pos.col,Value.ref c']).toList=some (.ref c'):=by simp[codeAmong,rawInt]
  refine kla_makeFunctionHit (mg:=X.mg) hcl I.ok.glob hg hcode CK (PT hP) (by simp[TriplesOk,rawInt]) hca (BA hP) λctv h' tk hk hsz=> ?_;have keep:∀b o,s.heap.get? b=some o->(h'.push (kla_obj "<lambda>" (X.env.qual++ "<lambda>") params body scope clos ((X.mg "__name__").getD .none) c' ctv)).get? b=some o:=λb o e=>Dx _ (hk b o e);exact h h'.objs.size c' _ ctv _ tk H (I.un (Un.kept keep) (I.hok.kept keep)) (λ_ _ _ e=>e) (.inr ⟨c',hP,hc'⟩) hc' (I.hok.fresh hsz) hsz (DP _ rfl)
def fN(X:Cx)(A:Around)(N:List Str)(q:Str)(scope:Scope)(f c:Addr)(clos:List (Str×Addr))(s:Shared)(H:Hp):Cx where
 prog:=X.prog
 w:=X.w
 K:=X.K
 mg:=X.mg
 base:=X.base
 A:=A.deeper (envX q scope s.heap.objs.size f (.ref c) clos)
 N:=N
 s₀:=s
 H₀:=H
 env:=envX q scope s.heap.objs.size f (.ref c) clos
 outer:=X.stack
 stack:=envX q scope s.heap.objs.size f (.ref c) clos::X.stack
 ex:=[]
 fn:=λ_=>false
 calm:=true
 pn:=[]
 xe:=λ_ _=>False
theorem yw{A:Around}{scope:Scope}{clos:List (Str×Addr)}{binds:List (Str×Value)}{N:List Str}{σ':St}(I:Inv X pins σ H s)(hA:A.frames=some X.stack)(hr:Room k A)
  (ho:s.heap.get? f=some (kla_obj "<lambda>" q params body scope clos pm c ctv)) (hcd:H c=some (gr c q)) (hbind:bindArgs (kla_fn "<lambda>" q params body scope clos pm (.ref c) ctv) ⟨us,[]⟩=pure binds) (hloc:∀y∈binds,scope.names.lookup y.1=some .local)
  (hco:scope.isCoroutine=false) (hgen:scope.isGenerator=false) (hk:scope.kind= .function) (hcell:∀x∈scope.names,x.2≠ .cell)
  (hin:∀x c,clos.lookup x=some c->X.env.cells.lookup x=some c) (hfree:∀x,scope.names.lookup x=some .free->∃c,clos.lookup x=some c)
  (hnames:∀ (i:Nat) (x:Str) (v:V),N[i]?=some x->σ'[i]?=some (some v)->(scope.names.lookup x=some .local/\∃u,aW v u/\binds.reverse.lookup x=some u)\/(scope.names.lookup x=some .free/\X.env.scope.names.lookup x=some .cell/\∃j:Nat,X.N[j]?=some x/\σ[j]?=some (some v)))
  (hlen:σ'.length=N.length) (hb:PE (fN X A N q scope f c clos s H) body t) (hq:t σ' H Q):
  wpAny (model X.prog X.w) A (call (.ref f) us) (CE X.stack X.prog X.w H s Q) (λ_ _=>False) s:=by
 obtain⟨hrec,_,_⟩:=I.hok c _ hcd;refine HW (Gq (R:=CR CX0 X.stack X.prog X.w H s Q E0) ?_ λr s' hq=> ?_)
 .refine kla_callFunE hr.depth ho rfl hco hgen rfl hrec ?_;rw[hbind];refine DA (wpAny_newFunctionEnv hcell hloc (λh₁ hns hsb=> ?_) hk);have hk₁:∀b o,s.heap.get? b=some o->h₁.get? b=some o:=λb o e=>hsb.extBut b o (DQ (DF e)) (Dx _ e);refine⟨I.nolimit.keeps hk₁,?_⟩;have noA:∀b:Addr,b∉ (fN X A N q scope f c clos s H).ex:=λb z=>absurd (show b∈([]:List Addr)from z) (by simp);have J:Inv (fN X A N q scope f c clos s H) [] σ' H {s with heap:=h₁,toks:=s.toks+binds.length}:=by
   refine⟨⟨I.mod,hk,rfl,rfl,Dl _,λx y d h1 h2=>I.ok.inj x y d (hin x d h1) (hin y d h2),λx hx=> ?_,λx d h _=>(Dr h).elim,λ_=>hr.hd,Hg hA, .inr ⟨rfl,rfl⟩,λb z=>absurd z (noA b),I.bs,Du I.ok.bsz I.sz,λb _ _=>noA b,λb z=>absurd z (noA b),I.stack,I.stkFree⟩,
    rfl,I.bare,Un.kept hk₁,⟨_,hns,λi x v h1 h2 h3=> ?_⟩,λx d h=> ?_,I.hok.fresh (Dl _),λx d h=>I.freeC x d (hin x d h),λp hp=>absurd (show p∈([]:List (Addr×Obj))from hp) (by simp),I.hok.kept hk₁,hlen⟩
   .have hx':scope.names.lookup x=some .cell\/scope.names.lookup x=some .free:=hx;rcases hx' with hx|hx
    .exact absurd rfl (hcell _ (Ed hx))
    .exact hfree x hx
   .rcases hnames i x v h1 h2 with ⟨k1,u,ru,e⟩|⟨k1,k2,j,e1,e2⟩
    .exact⟨u,ru, .inl ⟨k1,e⟩⟩
    .obtain⟨m,hm,hl⟩:=I.loc;obtain⟨u,ru,lk⟩:=hl j x v e1 e2 (.inr (.inl k2));refine⟨u,ru, .inr ⟨.inr k1,?_⟩⟩;rcases lk with ⟨z,_⟩|⟨_,d,e,z⟩
     .have z':X.env.scope.names.lookup x=some .local:=z;rw[k2]at z';cases z'
     .obtain⟨d',hd'⟩:=hfree x k1;have:=hin x d' hd';rw[e]at this;cases this;obtain⟨o,z1,z2⟩:=z;exact⟨d,hd',o,hk₁ _ _ z1,z2⟩
   .obtain⟨v,o,z1,z2⟩:=I.cell x d (hin x d h);exact⟨v,o,hk₁ _ _ z1,z2⟩
  show codeAny _ _ (.expr body (envX q scope s.heap.objs.size f (.ref c) clos)) _ _;refine kla_codeExpr (Fl (hb [] _ σ' H Q J hq) (λu s' hu=> ?_) λ_ _ z=>z.elim);obtain⟨v,H',J',rv,qv⟩:=hu;exact⟨v,H',J'.os,J'.bare,J'.base,J'.hok,rv,qv⟩
 .cases r with
  |error e=>exact False.elim hq
  |ok fl=>
   cases fl with
   |ret u=>exact hq
   |next=>exact False.elim hq
   |brk=>exact False.elim hq
   |cont=>exact False.elim hq
end
end L2
namespace L2
open PySem PySem.Spec PySem.W PyProof.Rows
theorem o6:plainId "list.__iadd__"=true:=by decide+kernel
theorem HOk.off{h h':Heap}(x:HOk P w H h)(n:H a=none)(k:∀b o,b≠a->h.get? b=some o->h'.get? b=some o):HOk P w H h':=λb u e=>by
 refine(x b u e).stay (λc v hc q=>k c v ?_ q) (λ_ q=>q) λ_ _ q=>q;rcases hc with rfl|hc
 .exact au e n
 .exact au hc n
theorem Un.off{fs:List Addr}{H H':Hp}{h h' h'':Heap}{a:Addr}(u:Un fs [] H H' h h')(ha:h.objs.size<=a)(k:∀b o,b≠a->h'.get? b=some o->h''.get? b=some o):Un fs [] H H' h h'':=by have ne:∀b o,h.get? b=some o->b≠a:=λb o e=>DQ (Dq (DF e) ha);exact⟨λb o e n hb hx=>k b o (ne b o e) (u.keep b o e n hb hx),λb o e n hb hx=>by obtain⟨sl,q⟩:=u.slot b o e n hb hx;exact⟨sl,k b _ (ne b o e) q⟩,u.free,λb o e hx=>by obtain⟨o',q⟩:=u.there b o e hx;exact⟨o',k b _ (ne b o e) q⟩,u.tups,u.frzs,u.tbls⟩
section
variable{prog:Program}{w:World}{A:Around}{E:Value->Shared->Prop}{s:Shared}
theorem lI{R:Result->Shared->Prop}{r:Addr}{n:Nat}{t u v:Tok}(hh:A.handled=none)(hr:IsRange s.heap r 0 (n:Int) 1 t u v)(hn:n<=1000)
  (h:∀h' tk acc c,(∀b o,s.heap.get? b=some o->h'.get? b=some o)->h'.get? s.heap.objs.size=some {cls:= .type "list",dict:=none,data:= .seq acc c,slots:= #[]}->ItemsOf (λi v=>∃t,v= .int (0+i*1) t) acc n->R (.ok (.ret (.ref s.heap.objs.size))) {s with heap:=h',toks:=tk}):
  codeAny (model prog w) A (.builtin "proto.collect" ⟨[.ref r],[]⟩) R s:=by
 refine Gh entry_proto_collect' ?_;show wpAny _ _ (do again (.builtin "list.__iadd__" ⟨[<-newList [], .ref r],[]⟩)) _ _ s;refine Dj (GU (DA ⟨Code.quiet_builtin _ (by decide+kernel),Gh entry_list_iadd' ?_⟩));rw[F5 o6 _];show wpAny _ _ (Builtin.List.listExtendWith (.ref s.heap.objs.size) (.ref r) (.ref s.heap.objs.size)) _ _ {s with heap:=s.heap.push (seqObj "list" #[] 0)};exact wpAny_extend_range (s:={s with heap:=s.heap.push (seqObj "list" #[] 0)}) hh (Dx _ hr) (small_one (by decide) (by decide) (by lia) (by lia)) (by rw[rangeSize_nat];lia) (by lia) s.heap.objs.size (.ref s.heap.objs.size) 0 (DP _ rfl)
  (λh' tk acc c hk hS hacc=>h h' tk acc c (λb o e=>hk b o (DQ (DF e)) (Dx _ e)) hS hacc)
theorem lH{r:Addr}{n:Nat}{t u v:Tok}{Q:List Value->Shared->Prop}(hh:A.handled=none)(hr:IsRange s.heap r 0 (n:Int) 1 t u v)(hn:n<=1000)
  (h:∀h' tk (vs:List Value),(∀b o,s.heap.get? b=some o->h'.get? b=some o)->s.heap.objs.size<h'.objs.size->vs.length=n->(∀ (j:Nat) v,vs[j]?=some v->∃t,v= .int (j:Int) t)->Q vs {s with heap:=h',toks:=tk}):
  wpAny (model prog w) A (collect (.ref r)) Q E s:=by
 unfold collect;refine Dj (wpAny_runValue (lI hh hr hn λh' tk acc c hk hS hacc=> ?_));show wpAny (model prog w) A (do
   let o<-load s.heap.objs.size
   match o.data with
   | .seq xs _=>pure xs.toList
   |_=>unsupported "internal:collect") Q E {s with heap:=h',toks:=tk}
 refine Dj (wpAny_load hS ?_);refine DA (h h' tk acc.toList hk (DF hS) (by rw[EL];exact hacc.1) λj v e=> ?_);obtain⟨t,q⟩:=hacc.2 j v (by rw[<-Fe];exact e);exact⟨t,by rw[q];congr 1;lia⟩
def ltP(t u:Int×Int):Bool:=decide (t.1<u.1)||(decide (t.1=u.1)&&decide (t.2<u.2))
theorem yk{ox oy:Obj}(hx:s.heap.get? x=some ox)(dx:ox.data= .seq #[.int t.1 a1, .int t.2 a2] n)(hy:s.heap.get? y=some oy)(dy:oy.data= .seq #[.int u.1 b1, .int u.2 b2] m)
  (h:Q (ltP t u) s):wpAny (model prog w) A (keyLt' (tuples' f) (.ref x) (.ref y)) Q E s:=by
 refine kat_lt hx dx hy dy ?_;show KatLex prog w A f (decide (2<2)) Q [(.int t.1 a1, .int u.1 b1),(.int t.2 a2, .int u.2 b2)] 0 s;refine kat_cons (HZ (kat_go (λe1=>kat_yes (kat_cons (HZ (kat_go (λe2=>kat_yes (kat_nil ?_)) λe2=>kat_no (t9 ?_))))) λe1=>kat_no (t9 ?_)))
 .have h1:t.1=u.1:=HG e1;have h2:t.2=u.2:=HG e2;have e:ltP t u=decide (2<2):=by unfold ltP;rw[h1,h2];simp
  rw[<-e];exact h
 .have h1:t.1=u.1:=HG e1;have e:ltP t u=decide (t.2<u.2):=by unfold ltP;rw[h1];simp
  rw[<-e];exact h
 .have h1:¬t.1=u.1:=λz=>by rw[z]at e1;simp at e1
  have e:ltP t u=decide (t.1<u.1):=by unfold ltP;rw[Dy h1];simp
  rw[<-e];exact h
theorem C0{h:Heap}{its:List Value}(r:Vals [V.int x,V.int y] its)(p:IsTup h b its.toArray):∃ (o:Obj) (m:Nat) (a1 a2:Tok),h.get? b=some o/\o.cls= .type "tuple"/\o.data= .seq #[.int x a1, .int y a2] m:=by
 cases r with
 |cons r1 r=>
  cases r with
  |cons r2 r=>
   cases r;obtain⟨a1,rfl⟩:=r1;obtain⟨a2,rfl⟩:=r2;obtain⟨o,ho,hc,n,hd⟩:=p;exact⟨o,n,a1,a2,ho,hc,hd⟩
def zu(h:Heap)(ks:List Value)(n:Nat)(key:Nat->Int×Int):Prop:=ks.length=n/\∀i,i<n->∃ (b:Addr) (o:Obj) (m:Nat) (a1 a2:Tok),ks[i]?=some (.ref b)/\h.get? b=some o/\o.cls= .type "tuple"/\o.data= .seq #[.int (key i).1 a1, .int (key i).2 a2] m
theorem kF:∀ (ks:List Value) (n:Nat) (key:Nat->Int×Int),zu h ks n key->∃fs,KatTups h ks fs/\fs.length=ks.length/\∀f∈fs,∃ (z:Int) (k:Tok),f= .int z k
 | [],_,_,_=>⟨[],KatTups.nil,rfl,λf hf=>by cases hf⟩
 |v::ks,n,key,hv=>by
  obtain⟨n,rfl⟩:∃m,n=m+1:=⟨ks.length,by rw[<-hv.1];rfl⟩;obtain⟨fs,h1,h2,h3⟩:=kF (h:=h) ks n (λi=>key (i+1)) ⟨Ig hv.1,λi hi=>by obtain⟨b,o,m,a1,a2,e1,r⟩:=hv.2 (i+1) (by lia);exact⟨b,o,m,a1,a2,by simpa using e1,r⟩⟩
  obtain⟨b,o,m,a1,a2,e1,e3,e4,e5⟩:=hv.2 0 (by lia);have ev:v= .ref b:=by simpa using e1
  subst ev;refine⟨.int (key 0).1 a1::fs,KatTups.cons e3 e4 e5 rfl h1,by rw[D6,D6,h2],λf hf=> ?_⟩;rcases Dz.mp hf with rfl|hf
  .exact⟨_,_,rfl⟩
  .exact h3 f hf
def xu(n:Nat)(key:Nat->Int×Int)(i:Nat):Nat:=((List.range n).filter λj=>ltP (key j) (key i)).length
theorem vC(h1:ltP a b=true)(h2:ltP b c=true):ltP a c=true:=by unfold ltP at*;simp only[ET,Ea,F4]at*;lia
theorem rW(a:Int×Int):¬ltP a a=true:=by unfold ltP;simp
theorem mf(h:a≠b):ltP a b=true\/ltP b a=true:=by unfold ltP;simp only[ET,Ea,F4];have:¬(a.1=b.1/\a.2=b.2):=λz=>h (Prod.ext z.1 z.2);lia
theorem gi{α:Type}{p q:α->Bool}{x:α}:∀ {l:List α},(∀y∈l,p y=true->q y=true)->x∈l->p x=false->q x=true->(l.filter p).length<(l.filter q).length
 |y::l,h,hx,hp,hq=>by
  have le:(l.filter p).length<=(l.filter q).length:=by
   have go:∀m:List α,(∀y∈m,p y=true->q y=true)->(m.filter p).length<=(m.filter q).length:=λm=>by
    induction m with
    |nil=>intro _;exact Dl _
    |cons z m ih=>
     intro hm;have:=ih λy hy=>hm y (DC _ hy);cases hz:p z with
     |true=>rw[EE hz,EE (hm z DE hz)];simpa using this
     |false=>
      rw[EF (by rw[hz];exact Dr)];cases hz2:q z with
      |true=>rw[EE hz2];simp only[D6];lia
      |false=>rw[EF (by rw[hz2];exact Dr)];exact this
   exact go l λy hy=>h y (DC _ hy)
  rcases Dz.mp hx with e|hx
  .subst e;rw[EF (by rw[hp];exact Dr),EE hq];simp only[D6];lia
  .have:=gi (p:=p) (q:=q) (λy hy=>h y (DC _ hy)) hx hp hq;cases hz:p y with
   |true=>rw[EE hz,EE (h y DE hz)];simpa using this
   |false=>
    rw[EF (by rw[hz];exact Dr)];cases hz2:q y with
    |true=>rw[EE hz2];simp only[D6];lia
    |false=>rw[EF (by rw[hz2];exact Dr)];exact this
theorem jr(hi:i<n)(h:ltP (key i) (key j)=true):xu n key i<xu n key j:=
 gi (x:=i) (λ_ _ hy=>vC hy h) (DT.mpr hi) (FH.mpr (rW _)) h
theorem o4(hd:∀i j,i<n->j<n->key i=key j->i=j)(hi:i<n)(hj:j<n):ltP (key i) (key j)=Lw (xu n key) i j:=by
 unfold Lw;by_cases h:ltP (key i) (key j)=true
 .rw[h];exact(DG (jr hi h)).symm
 .rw[FH.mpr h];refine(Dy λz=> ?_).symm;by_cases e:key i=key j
  .have:=hd i j hi hj e;subst this;exact Eb _ z
  .rcases mf e with q|q
   .exact h q
   .have:=jr hj q;lia
def wy(n:Nat)(key:Nat->Int×Int)(ord:List Nat):Prop:=ord.Perm (List.range n)/\ord.Pairwise λi j=>ltP (key i) (key j)=true
theorem xN(hd:∀i j,i<n->j<n->key i=key j->i=j)(h2:2<=n):wy n key (krun (λi j=>ltP (key i) (key j)) (kas_sort n)).toList:=by
 have hp:=uR (λi j=>ltP (key i) (key j)) n;refine⟨hp.toList,?_⟩;have e:krun (λi j=>ltP (key i) (key j)) (kas_sort n)=krun (Lw (xu n key)) (kas_sort n):=kz (N:=n) (λi j hi hj=>o4 hd hi hj) _ (tP (by lia));have hsz:(krun (λi j=>ltP (key i) (key j)) (kas_sort n)).size=n:=by rw[hp.size_eq];simp
 have hasc:=xb (w:=xu n key) h2 λi j hi hj ee=>by
  refine Fd λne=> ?_;have:key i≠key j:=λz=>ne (hd i j hi hj z);rcases mf this with q|q
  .have:=jr hi q;lia
  .have:=jr hj q;lia
 rw[<-e]at hasc;rw[List.pairwise_iff_getElem];intro i j hi hj hij;have hj':j<n:=by rw[<-hsz,<-EL];exact hj
 have hi':i<n:=FF hij hj';have mem:∀k (hk:k<(krun (λi j=>ltP (key i) (key j)) (kas_sort n)).toList.length),(krun (λi j=>ltP (key i) (key j)) (kas_sort n)).toList[k]<n:=λk hk=>by have:=hp.toList.mem_iff.mp (E7 hk);exact DT.mp (by simpa using this)
 have q:=hasc i j hij hj';unfold wa at q;rw[o4 hd (mem i hi) (mem j hj)];refine DG ?_;have g:∀k (hk:k<(krun (λi j=>ltP (key i) (key j)) (kas_sort n)).toList.length),(krun (λi j=>ltP (key i) (key j)) (kas_sort n)).getD k 0=(krun (λi j=>ltP (key i) (key j)) (kas_sort n)).toList[k]:=λk hk=>by
  have hk':k<(krun (λi j=>ltP (key i) (key j)) (kas_sort n)).size:=by rw[<-EL];exact hk
  simp[Array.getD,hk']
 rw[g i hi,g j hj]at q;exact q
end
end L2
namespace L2
open PySem PySem.Spec PySem.W PyProof.Rows
section
variable{prog:Program}{w:World}{A:Around}{E:Value->Shared->Prop}{s:Shared}
theorem uS{vs:List Value}{keys:Array Value}(hd:∀i j,i<n->j<n->key i=key j->i=j)(hka:kS≠a)(ha:s.heap.get? a=some (seqObj "list" #[] e1))(hk:s.heap.get? kS=some (seqObj "list" keys e))
  (hlen:vs.length=n) (h64:n<64) (ht:zu s.heap keys.toList n key)
  (h:∀ (h':Heap) (c:Nat) (ord:List Nat),(∀b o,b≠a->b≠kS->s.heap.get? b=some o->h'.get? b=some o)->h'.get? a=some (seqObj "list" (List.toArray (ord.map λi=>vs.getD i Value.none)) c)->wy n key ord->R (.done (.ret .none)) {s with heap:=h'}):
  wpAny (model prog w) A (ksk_end a false vs.toArray e1 (.ref kS) keys) R E s:=by
 have hks:keys.size=n:=by rw[<-EL];exact ht.1
 have ek:keys=List.toArray keys.toList:=by simp
 have tail:∀ (st:SortSt) (ord:List Nat),(arrOf st).map (·.2)=List.toArray (ord.map λi=>vs.getD i Value.none)->failedOf st=none->wy n key ord->wpAny (model prog w) A (ksk_tail a false e1 (.ref kS) st) R E s:=by
  intro st ord har hf ho;have hol:ord.length=n:=by rw[ho.1.length_eq,DU]
  unfold ksk_tail;dsimp only;have na1:(s.heap.update kS (Obj.mapSeq λ_=>(#[]:Array Value))).get? a=some (seqObj "list" #[] e1):=(Ey _ _ hka).trans ha;refine Dj (listUpdate_at hk rfl ?_ (by rw[hks,FD];lia) (DV _));refine Dj (F7 ?_);refine Dj (seqEpoch_at na1 rfl ?_);rw[har];refine Dj (listUpdate_at na1 rfl ?_ (DV _) (by show(List.toArray (ord.map λi=>vs.getD i Value.none)).size<=_;rw[DI,Di,hol,FD];lia));rw[hf];simp only[bne_self_eq_false,Fz,Gm];refine DA (h _ _ ord (λb o n1 n2 eb=> ?_) (GG na1 λ_=>List.toArray (ord.map λi=>vs.getD i Value.none)) ho);rw[Ey _ _ (E8 n1),Ey _ _ (E8 n2)];exact eb
 unfold ksk_end;dsimp only;rw[Dt Dr,Dt Dr];by_cases h2:vs.toArray.size<2
 .rw[Dp h2,Dp h2];refine Dj (DA ?_);rw[StateT.run_pure];refine Dj (DA ?_);dsimp only;have hn2:n<2:=by rw[DI,hlen]at h2;exact h2
  refine tail _ (List.range n) ?_ rfl ⟨List.Perm.refl _,?_⟩
  .show(keys.zip vs.toArray).map (·.2)=_;apply Array.toList_inj.mp;rw[Array.toList_map,ksk_zip];have e1':List.map (λx:Keyed=>x.2) (keys.toList.zip vs)=vs:=List.map_snd_zip (by rw[ht.1,hlen];exact Dl _);refine Eq.trans e1' ?_;refine HU λi=> ?_;by_cases hi:i<n
   .have h2':i<vs.length:=by lia
    simp[hi,h2']
   .have h2':vs.length<=i:=by lia
    simp[hi,h2']
  .match n,hn2 with
   |0,_=>exact HQ
   |1,_=>exact List.pairwise_singleton _ _
 .rw[Dt h2,Dt h2];have hn2:2<=n:=by rw[DI,hlen]at h2;lia
  obtain⟨fs,f1,f2,f3⟩:=kF keys.toList n key ht;rw[ek];refine Dj (kat_kind (T:= .type "int") f1 (by rw[f2,ht.1];lia) (λv hv=> ?_) rfl ?_)
  .obtain⟨z,k,rfl⟩:=f3 v hv;exact λA Q E s' _ q=>wpAny_typeOf (typeIs_int s' z k) q
  have hl2:keys.toList.length=vs.length:=by rw[ht.1,hlen]
  have run:=kat_run (prog:=prog) (w:=w) (A:=A) (E:=E) (κ:=tuples' (Value.type "int" !=Value.type "tuple")) (ks:=keys.toList) (vs:=vs) (s:=s)
   (Q:=λst' s'=>s'=s/\failedOf st'=none/\(arrOf st').map (·.2)=List.toArray ((krun (λi j=>ltP (key i) (key j)) (kas_sort n)).toList.map λi=>vs.getD i Value.none))
   (G:=λp s'=>p=krun (λi j=>ltP (key i) (key j)) (kas_sort n)/\s'=s)
   hl2 (by lia) (by lia) (λp st' s' _ har hf hG=>⟨hG.2,hf,by rw[kat_snds hl2 har,hG.1]⟩) (by
    rw[hlen];refine yD (N:=n) (λi j=>ltP (key i) (key j)) (λi j C hi hj hC=> ?_) _ (tP (by lia)) ⟨rfl,rfl⟩;obtain⟨b,o,m,a1,a2,g1,g3,_,g5⟩:=ht.2 i hi;obtain⟨b',o',m',c1,c2,k1,k3,_,k5⟩:=ht.2 j hj;show wpAny (model prog w) A (keyLt' _ (keys.toList.getD i Value.none) (keys.toList.getD j Value.none)) C _ _;rw[Ee,Ee,g1,k1];exact yk g3 g5 k3 k5 hC)
  refine Dj (Fl run ?_ λ_ _ e=>e);rintro⟨⟨⟩,st'⟩ s' ⟨rfl,hf,har⟩;dsimp only at hf har⊢;exact tail st' _ har hf (xN hd hn2)
end
structure zB(X:Cx)(H:Hp)(s:Shared)(f D kS:Addr)(fo:Obj)(key:Nat->Int×Int)(e1 j:Nat)(Hj:Hp)(kA:Array Value)(e:Nat)(s':Shared):Prop where
 os:s'.os=s.os
 bare:AllBare s'.gens
 un:Un (frs X.stack) [] H Hj s.heap s'.heap
 hok:HOk X.prog X.w Hj s'.heap
 sm:Same H Hj
 nD:Hj D=none
 nk:Hj kS=none
 aD:s'.heap.get? D=some (seqObj "list" #[] e1)
 ak:s'.heap.get? kS=some (seqObj "list" kA e)
 af:s'.heap.get? f=some fo
 len:kA.size=j
 tup:∀i,i<j->∃p,kA[i]?=some (.ref p)/\Hj p=some (.tup [.int (key i).1, .int (key i).2])
section
variable{X:Cx}{pins:List (Addr×Obj)}{σ:St}{H:Hp}{s:Shared}
theorem yE{A:Around}{f D kS:Addr}{fo:Obj}{key:Nat->Int×Int}{e1 j n:Nat}{Hj:Hp}{kA:Array Value}{e:Nat}{s':Shared}{t:Tok}{R:ForInStep PUnit->Shared->Prop}{E:Value->Shared->Prop}{K2:Value->Sem (ForInStep PUnit)}(I:Inv X pins σ H s)(hD:s.heap.objs.size<=D)(hS:s.heap.objs.size<=kS)(hne:kS≠D)(hf:H f=none)(hfs:f∉frs X.stack)(hff:∃o,s.heap.get? f=some o)(hj:j<n)(h64:n<64)
  (turn:∀ (Hj:Hp) (sj:Shared),Inv X pins σ Hj sj->Same H Hj->sj.heap.get? f=some fo->
   wpAny (model X.prog X.w) A (call (.ref f) [.int (j:Int) t]) (CE X.stack X.prog X.w Hj sj (λv H'=>∃p,v= .ref p/\H' p=some (.tup [.int (key j).1, .int (key j).2])/\Same Hj H')) (λ_ _=>False) sj)
  (a:zB X H s f D kS fo key e1 j Hj kA e s') (h:∀H' kA' e' s'',zB X H s f D kS fo key e1 (j+1) H' kA' e' s''->R (.yield ⟨⟩) s'') {err:Value->Sem (ForInStep PUnit)}:
  wpAny (model X.prog X.w) A (do
   match<-(call (.ref f) [.int (j:Int) t]).attempt with
   | .ok k=>do Builtin.List.listUpdate (.ref kS) (·.push k);pure (.yield ⟨⟩)
   | .error e=>err e) R E s':=by
 have J:=I.far a.os a.bare a.un a.hok;refine Dj (wpAny_attempt (Fl (turn Hj s' J a.sm a.af) (λu s'' hu=> ?_) λ_ _ z=>z.elim));obtain⟨v,H',os,bare,un,hok,rv,p,rfl,hp,sm⟩:=hu;obtain rfl:u=Value.ref p:=rv;dsimp only;have hHf:Hj f=none:=by obtain⟨o,ho⟩:=hff;exact a.un.free f o ho hf (by simp)
 have kD:=un.keep D _ a.aD a.nD (I.nostk hD) (by simp);have kk:=un.keep kS _ a.ak a.nk (I.nostk hS) (by simp);have kf:=un.keep f _ a.af hHf hfs (by simp);have nD:=un.free D _ a.aD a.nD (by simp);have nk:=un.free kS _ a.ak a.nk (by simp);have oth:∀b o,b≠kS->s''.heap.get? b=some o->(s''.heap.update kS (Obj.mapSeq (·.push (.ref p)))).get? b=some o:=λb o n e=>(Ey _ _ (E8 n)).trans e;have hfk:f≠kS:=λz=>by obtain⟨o,ho⟩:=hff;have:=DF ho;rw[z]at this;exact absurd (Dq this hS) (Eb _)
 have hz:kA.size<64:=by rw[a.len];lia
 refine Dj (listUpdate_at kk rfl ?_ (by rw[FD];lia) (by rw[Array.size_push,FD];lia));refine DA (h H' (kA.push (.ref p)) _ _ ⟨os.trans a.os,bare,(a.un.trans un).off hS oth,hok.off nk oth,a.sm.trans sm,nD,nk,oth _ _ (E8 hne) kD,GG kk (·.push (.ref p)),oth _ _ hfk kf,by rw[Array.size_push,a.len],λi hi=> ?_⟩);by_cases hij:i<j
 .obtain⟨p',g1,g2⟩:=a.tup i hij;refine⟨p',?_,sm _ _ g2⟩;rw[Array.getElem?_push_lt (by rw[a.len];exact hij)];rw[Fc (by rw[a.len];exact hij)]at g1;exact g1
 .have:i=j:=by lia
  subst this;refine⟨p,?_,hp⟩;rw[<-a.len];simp
end
end L2
namespace L2
open PySem PySem.Spec PySem.W PyProof.Rows
section
variable{X:Cx}{pins:List (Addr×Obj)}{σ:St}{H:Hp}{s:Shared}
theorem qZ{f r:Addr}{fo:Obj}{n:Nat}{key:Nat->Int×Int}{Q:VK}(I:Inv X pins σ H s)(hc:X.calm=true)(hrg:H r=some (.rng 0 n))(h64:n<64)(hd:∀i j,i<n->j<n->key i=key j->i=j)(hf:H f=none)(hfs:f∉frs X.stack)(ho:s.heap.get? f=some fo)
  (turn:∀ (j:Nat) (t:Tok) (Hj:Hp) (sj:Shared),j<n->Inv X pins σ Hj sj->Same H Hj->sj.heap.get? f=some fo->
   wpAny (model X.prog X.w) X.A.in1.in1 (call (.ref f) [.int (j:Int) t]) (CE X.stack X.prog X.w Hj sj (λv H'=>∃p,v= .ref p/\H' p=some (.tup [.int (key j).1, .int (key j).2])/\Same Hj H')) (λ_ _=>False) sj)
  (done:∀ (D:Addr) (H':Hp) (ord:List Nat),Same H H'->H' D=none->wy n key ord->Q (.ref D) (upd H' D (.lst (ord.map λi:Nat=>V.int (i:Int))))):
  wpAny (model X.prog X.w) X.A (call (.builtin "sorted") [.ref r] [(Str.ofString "key", .ref f)]) (EP X pins σ Q) X.xe s:=by
 obtain⟨t,u,v,e⟩:=I.hok r _ hrg;have hr:IsRange s.heap r 0 (n:Int) 1 t u v:=e;refine call_function_entry_kw kind_sorted plain_sorted entry_sorted (ksk_s1 _ _) ?_;unfold Builtin.«sorted»;refine Dj (m:=checkCount "sorted" 1 1 _) (DA ?_);refine Dj (lH (I.ok.hd hc) hr (by lia) λh1 tk vs hk hsz hl hv=> ?_);refine Dj (GU ?_ (by rw[FD];lia));have hoL:(h1.push (seqObj "list" vs.toArray 0)).get? h1.objs.size=some (seqObj "list" vs.toArray 0):=DP _ rfl;refine Dj (EJ (wpAny_call_entry_kw slot_list_sort ⟨_,hoL,rfl⟩ entry_list_sort ?body (ksk_l1 _ _)));show wpAny (model X.prog X.w) X.A.in1.in1 (Builtin.«list.sort» ⟨[.ref h1.objs.size],[(Str.ofString "key", .ref f)]⟩) _ _ _;rw[ksk_t1];unfold ksk_tree;refine Dj (listItems_at hoL rfl ?_);refine Dj (listUpdate_at hoL rfl ?_ (by rw[DI,FD];lia) (DV _));obtain⟨e1,ho1⟩:∃e1,((h1.push (seqObj "list" vs.toArray 0)).update h1.objs.size (Obj.mapSeq λ_=>(#[]:Array Value))).get? h1.objs.size=some (seqObj "list" #[] e1):=⟨_,GG hoL λ_=> #[]⟩;refine Dj (seqEpoch_at ho1 rfl ?_);refine Dj (wpAny_newTuple ?_ (by show vs.length<=_;rw[FD];lia));refine Dj (GU ?_ (DV _));refine EJ ?_;have k2:∀b o,s.heap.get? b=some o->((((h1.push (seqObj "list" vs.toArray 0)).update h1.objs.size (Obj.mapSeq λ_=>(#[]:Array Value))).push (seqObj "tuple" vs.toArray 0)).push (seqObj "list" #[] 0)).get? b=some o:=λb o eb=>by have hb:=FF (DF eb) hsz;exact Dx _ (Dx _ ((Ey _ _ (F9 hb)).trans (Dx _ (hk b o eb))))
 have hS:s.heap.objs.size<=(((h1.push (seqObj "list" vs.toArray 0)).update h1.objs.size (Obj.mapSeq λ_=>(#[]:Array Value))).push (seqObj "tuple" vs.toArray 0)).objs.size:=by rw[Hl,Heap.size_update,Hl];lia
 have hne:(((h1.push (seqObj "list" vs.toArray 0)).update h1.objs.size (Obj.mapSeq λ_=>(#[]:Array Value))).push (seqObj "tuple" vs.toArray 0)).objs.size≠h1.objs.size:=by rw[Hl,Heap.size_update,Hl];lia
 have hoD:((((h1.push (seqObj "list" vs.toArray 0)).update h1.objs.size (Obj.mapSeq λ_=>(#[]:Array Value))).push (seqObj "tuple" vs.toArray 0)).push (seqObj "list" #[] 0)).get? h1.objs.size=some (seqObj "list" #[] e1):=Dx _ (Dx _ ho1);have hoS:((((h1.push (seqObj "list" vs.toArray 0)).update h1.objs.size (Obj.mapSeq λ_=>(#[]:Array Value))).push (seqObj "tuple" vs.toArray 0)).push (seqObj "list" #[] 0)).get? (((h1.push (seqObj "list" vs.toArray 0)).update h1.objs.size (Obj.mapSeq λ_=>(#[]:Array Value))).push (seqObj "tuple" vs.toArray 0)).objs.size=some (seqObj "list" #[] 0):=DP _ rfl;dsimp only;generalize (((h1.push (seqObj "list" vs.toArray 0)).update h1.objs.size (Obj.mapSeq λ_=>(#[]:Array Value))).push (seqObj "tuple" vs.toArray 0)).objs.size=kS at*;generalize (((h1.push (seqObj "list" vs.toArray 0)).update h1.objs.size (Obj.mapSeq λ_=>(#[]:Array Value))).push (seqObj "tuple" vs.toArray 0)).push (seqObj "list" #[] 0)=h5 at*;have hD:s.heap.objs.size<=h1.objs.size:=F8 hsz;generalize h1.objs.size=D at*;unfold ksk_rest;refine Dj (wpAny_rule ?_)
 first
  |rw[List.forIn_toArray]
  |(rw[<-Array.forIn_toList];simp only[List.toList_toArray])
  |rw[<-Array.forIn_toList]
 refine Dj (ksk_fold (λi s'=>∃Hj kA e,zB X H s f D kS fo key e1 i Hj kA e s') vs 0 _
  ⟨H, #[],0,⟨rfl,I.bare,Un.kept k2,I.hok.kept k2,Same.refl _,I.hok.fresh hD,I.hok.fresh hS,hoD,hoS,k2 _ _ ho,rfl,λi hi=>absurd hi (EZ _)⟩⟩ ?step ?done)
 case step=>
  rintro j x s' hx ⟨Hj,kA,e,a⟩;rw[Hh]at a⊢;obtain⟨tk',rfl⟩:=hv j x hx;have hj:j<n:=by rw[<-hl];exact(DB.mp hx).1
  exact yE (K2:=λ_=>pure (.yield ⟨⟩)) I hD hS hne hf hfs ⟨_,ho⟩ hj h64 (λHj sj J sm g=>turn j tk' Hj sj hj J sm g) a λH' kA' e' s'' a'=>⟨rfl,H',kA',e',a'⟩
 case done=>
  rintro s' ⟨Hj,kA,e,a⟩;rw[Hh,hl]at a;refine Dj (listItems_at a.ak rfl ?_);have ht:zu s'.heap kA.toList n key:=by refine⟨by rw[EL];exact a.len,λi hi=> ?_⟩;obtain⟨p,g1,g2⟩:=a.tup i hi;obtain⟨_,its,r3,p3⟩:=a.hok p _ g2;obtain⟨o,m,a1,a2,q1,q2,q3⟩:=C0 r3 p3;exact⟨p,o,m,a1,a2,by rw[Fe];exact g1,q1,q2,q3⟩
  refine uS hd hne a.aD a.ak hl h64 ht λh' c ord kp hD' hord=>⟨_,rfl,?_⟩;have hol:ord.length=n:=by rw[hord.1.length_eq,DU]
  have hmem:∀i∈ord,i<n:=λi hi=>DT.mp (hord.1.mem_iff.mp hi);have hvv:Vals (ord.map λi:Nat=>V.int (i:Int)) (ord.map λi=>vs.getD i Value.none):=by
   have go:∀l:List Nat,(∀i∈l,i<n)->Vals (l.map λi:Nat=>V.int (i:Int)) (l.map λi=>vs.getD i Value.none):=λl=>by
    induction l with
    |nil=>intro _;exact .nil
    |cons i l ih=>
     intro hl';have hi:i<vs.length:=by rw[hl];exact hl' i DE
     have hvi:vs[i]?=some (vs.getD i Value.none):=by rw[Ee,Ds hi];rfl
     obtain⟨t',q'⟩:=hv i _ hvi;rw[Ej,Ej,q'];exact .cons ⟨t',rfl⟩ (ih λj hj=>hl' j (DC _ hj))
   exact go ord hmem
  have hfr:H D=none:=I.hok.fresh hD;have dne:∀b u,Hj b=some u->b≠D:=λb u e=>au e a.nD;have kne:∀b u,Hj b=some u->b≠kS:=λb u e=>au e a.nk;have ux:Un (frs X.stack) [] H (upd Hj D (.lst (ord.map λi:Nat=>V.int (i:Int)))) s.heap h':=by
   have ne1:∀b o,s.heap.get? b=some o->b≠D:=λb o e=>DQ (Dq (DF e) hD);have ne2:∀b o,s.heap.get? b=some o->b≠kS:=λb o e=>DQ (Dq (DF e) hS);have nt:∀b u,H b=some u->b≠D:=λb u e=>au e hfr;refine⟨λb o e n hb hx=>kp b o (ne1 b o e) (ne2 b o e) (a.un.keep b o e n hb hx),λb o e n hb hx=> ?_,λb o e n hx=>(aw (ne1 b o e)).trans (a.un.free b o e n hx),λb o e hx=> ?_,λb xs e=>(aw (nt b _ e)).trans (a.un.tups b xs e),λb o u e=>(aw (nt b _ e)).trans (a.un.frzs b o u e),λb ps e=> ?_⟩
   .obtain⟨sl,q⟩:=a.un.slot b o e n hb hx;exact⟨sl,kp b _ (ne1 b o e) (ne2 b o e) q⟩
   .obtain⟨o',q⟩:=a.un.there b o e hx;exact⟨o',kp b _ (ne1 b o e) (ne2 b o e) q⟩
   .obtain⟨more,q⟩:=a.un.tbls b ps e;exact⟨more,(aw (nt b _ e)).trans q⟩
  have hokx:HOk X.prog X.w (upd Hj D (.lst (ord.map λi:Nat=>V.int (i:Int)))) h':=λb u e=>by
   by_cases z:b=D
   .subst z;rw[ag]at e;cases e;exact⟨by rw[Di,hol,FD];lia,_,c,hvv,hD'⟩
   .rw[aw z]at e;refine(a.hok b u e).stay (λd v hd' q=> ?_) (λd q=>(aw (dne d _ q)).trans q) λd xs q=>(aw (dne d _ q)).trans q;rcases hd' with rfl|hd'
    .exact kp d v z (kne d _ e) q
    .exact kp d v (dne d _ hd') (kne d _ hd') q
  refine DA ⟨_,rfl, .ref D,_,I.far (s':={s' with heap:=h'}) a.os a.bare ux hokx,rfl,done D Hj ord a.sm a.nD hord⟩
end
end L2
namespace L2
open PySem PySem.Spec PySem.W PyProof.Rows
def wR(P:Addr)(lpos:Pos)(q:Str)(te:TA)(tb:TE)(idx:List Nat):TE:=λσ H Q=>te σ H λvs H1=>∃ (r:Addr) (n:Nat) (key:Nat->Int×Int),vs=[.ref r]/\H1 r=some (.rng 0 n)/\n<64/\(∀i j,i<n->j<n->key i=key j->i=j)/\cU H1 P lpos q/\
 (∀ (j:Nat) (Hj:Hp),j<n->ba P H1 Hj->tb (some (.int (j:Int))::idx.map λi=>σ.getD i none) Hj (λv H'=>∃p,v= .ref p/\H' p=some (.tup [.int (key j).1, .int (key j).2])/\Same Hj H'))/\
 ∀ (D:Addr) (H2:Hp) (ord:List Nat),ba P H1 H2->cU H2 P lpos q->H2 D=none->wy n key ord->Q (.ref D) (upd H2 D (.lst (ord.map λi:Nat=>V.int (i:Int))))
structure mJ(X:Cx)(params:Arguments)(body:Expr)(scope:Scope)(q x:Str)(fr:List Str)(idx:List Nat)(clos:List (Str×Addr)):Prop where
 dflt:defaultsOf params X.env=([],[])
 cl:closureFor scope X.env=pure clos
 loc:scope.names.lookup x=some .local
 fre:∀y∈fr,scope.names.lookup y=some .free/\X.env.scope.names.lookup y=some .cell
 ix:idx.map (λj=>X.N[j]?)=fr.map some
 bind:∀ (c:Addr) (pm ctv u:Value),bindArgs (kla_fn "<lambda>" q params body scope clos pm (.ref c) ctv) ⟨[u],[]⟩=pure [(x,u)]
 co:scope.isCoroutine=false
 gen:scope.isGenerator=false
 kind:scope.kind= .function
 cell:∀x∈scope.names,x.2≠ .cell
 inn:∀p∈clos,X.env.cells.lookup p.1=some p.2
 has:∀y∈scope.names,y.2= .free->∃c,clos.lookup y.1=some c
theorem mJ.call{X:Cx}{params:Arguments}{body:Expr}{scope:Scope}{q x:Str}{fr:List Str}{idx:List Nat}{clos:List (Str×Addr)}{pins:List (Addr×Obj)}{σ:St}{H:Hp}{s:Shared}{A:Around}{k:Nat}{f c:Addr}{pm ctv u:Value}{v:V}{tb:TE}{Q:VK}(L:mJ X params body scope q x fr idx clos)
  (I:Inv X pins σ H s) (hA:A.frames=some X.stack) (hr:Room k A) (ho:s.heap.get? f=some (kla_obj "<lambda>" q params body scope clos pm c ctv)) (hcd:H c=some (gr c q)) (rv:aW v u)
  (hb:PE (fN X A (x::fr) q scope f c clos s H) body tb) (hq:tb (some v::idx.map λi=>σ.getD i none) H Q):
  wpAny (model X.prog X.w) A (call (.ref f) [u]) (CE X.stack X.prog X.w H s Q) (λ_ _=>False) s:=by
 have hl:idx.length=fr.length:=by have:=Es List.length L.ix;simpa using this
 refine yw I hA hr ho hcd (L.bind c pm ctv u) (λy hy=> ?_) L.co L.gen L.kind L.cell (λy d h=>L.inn _ (Ed h)) (λy h=>L.has _ (Ed h) rfl) (λi y w h1 h2=> ?_) ?_ hb hq
 .rw[DN.mp hy];exact L.loc
 .cases i with
  |zero=>
   have e1:x=y:=by simpa using h1
   have e2:v=w:=by simpa using h2
   subst e1;subst e2;refine .inl ⟨L.loc,u,rv,?_⟩;show List.lookup x [(x,u)]=some u;simp[List.lookup]
  |succ i=>
   have h1':fr[i]?=some y:=by simpa using h1
   have h2':(idx.map λi=>σ.getD i none)[i]?=some (some w):=by simpa using h2
   obtain⟨k1,k2⟩:=L.fre y (Dv h1');refine .inr ⟨k1,k2,?_⟩;have hi:i<idx.length:=by rw[hl];exact(DB.mp h1').1
   have e3:(idx.map λj=>X.N[j]?)[i]?=(fr.map some)[i]?:=by rw[L.ix]
   rw[Dm,Dm,h1',Ds hi]at e3;rw[Dm,Ds hi]at h2';refine⟨idx[i],DS e3,?_⟩;have e4:σ.getD idx[i] none=some w:=DS h2';rw[Ee]at e4;cases z:σ[idx[i]]? with
   |none=>rw[z]at e4;cases e4
   |some w'=>rw[z]at e4;exact Es some e4
 .simp[hl]
theorem rq{X:Cx}{P c:Addr}{params:Arguments}{body:Expr}{scope:Scope}{lpos kpos p pos:Pos}{e:Expr}{te:TA}{tb:TE}{x q:Str}{fr:List Str}{idx:List Nat}{k:Nat}{clos:List (Str×Addr)}(L:mJ X params body scope q x fr idx clos)
  (eq:q=X.env.qual++ "<lambda>") (hcode:X.env.code= .ref c) (C:CodeHd X.base c P) (BM:fS X.mg X.base) (hr:Room (k+2) X.A) (hc:X.calm=true) (hg:Gl X "sorted") (hm:X.mg "sorted"=none) (ha:PA X [e] te)
  (hb:∀ (f c':Addr) (s:Shared) (H:Hp),PE (fN X X.A.in1.in1 (x::fr) q scope f c' clos s H) body tb) (he:starEach [e] X.env=(false,eval e X.env)::starEach [] X.env:=by rfl):
  PE X (.Call (.Name "sorted" p) [e] [⟨some "key", .Lambda params body scope lpos,kpos⟩] pos) (wR P lpos q te tb idx):=by
 intro pins s σ H Q I h;refine E3 (dz I hg hm PyProof.Rows.boot_sorted ?_);refine Gu (by rw[he];rfl) rfl (evalArgs_kw2 rfl (thn (ha pos pins s σ H _ I h) λus s1 ⟨vs,H1,I1,rv,q1⟩=> ?_) he);obtain⟨r,n,key,rfl,hrg,h64,hd,hT,hbody,done⟩:=q1;obtain⟨u,rfl,ru⟩:=eD rv;obtain rfl:u=Value.ref r:=ru;have rP:r≠P:=λz=>by obtain⟨ps,e⟩:=hT.tbl;rw[<-z,hrg]at e;cases e
 show wpAny _ _ (evalAll [(do let v<-eval (.Lambda params body scope lpos) X.env;standAt pos;pure v)]) _ _ s1;refine GJ (Dj (ky I1 eq hT hcode C BM L.dflt L.cl λf c' pm ctv h' tk H' I' sB tS hcx hf0 hsz hobj=>Dj (FX (DA (GQ ?_)))));show wpAny _ _ (call (.builtin "sorted") [.ref r] [(Str.ofString "key", .ref f)]) _ _ _;refine qZ I' hc (sB r _ rP hrg) h64 hd hf0 (I1.nostk hsz) hobj (λj t Hj sj hj J sm g=> ?_) λD H2 ord sm hD ho=>done D H2 ord (sB.trans (ba.of sm)) (tS.same sm) hD ho;exact L.call (v:= .int (j:Int)) J J.ok.frames hr.in1.in1 g (sm _ _ hcx) ⟨t,rfl⟩ (hb f c' sj Hj) (hbody j Hj hj (sB.trans (ba.of sm)))
end L2
namespace L2
open PySem PySem.Spec PySem.W PyProof.Rows
def zY:V->List V->Hp->VK->Prop:=λx vs H Q=>∃ (l:Addr) (ns:List Int) (k:Int),x= .ref l/\vs=[.int k]/\H l=some (.lst (ns.map V.int))/\k∈ns/\Q .non (upd H l (.lst ((ns.erase k).map V.int)))
theorem eS{ns:List Int}{its:List Value}(r:Vals (ns.map V.int) its){i:Nat}{y:Value}(h:its[i]?=some y):∃z t,ns[i]?=some z/\y= .int z t:=by
 have hl:=r.length;rw[Di]at hl;have hi:i<ns.length:=by rw[hl];exact(DB.mp h).1
 have h1:(ns.map V.int)[i]?=some (.int ns[i]):=by rw[Dm,Ds hi];rfl
 obtain⟨u,hu,t,e⟩:=r.get h1;rw[h]at hu;cases hu;exact⟨_,t,Ds hi,e⟩
theorem kq{α β:Type}(f:α->β):∀ (l:List α) (i:Nat),(l.map f).eraseIdx i=(l.eraseIdx i).map f
 | [],_=>rfl
 |_::_,0=>rfl
 |x::l,i+1=>by show f x::(l.map f).eraseIdx i=f x::(l.eraseIdx i).map f;rw[kq f l i]
theorem mH:∀ (l:List Int) (i:Nat) (z:Int),i<l.idxOf k->l[i]?=some z->z≠k
 | [],i,z,_,h=>by cases h
 |x::l,i,z,hi,h=>by
  by_cases e:x=k
  .subst e;rw[List.idxOf_cons_self]at hi;exact absurd hi (EZ _)
  .rw[List.idxOf_cons,show(x==k)=false from FK.mpr e]at hi;dsimp only[cond]at hi;cases i with
   |zero=>cases h;exact e
   |succ i=>exact mH l i z (Nat.lt_of_succ_lt_succ hi) (by simpa using h)
theorem vn:MtM X "list.remove" zY:=by
 intro pins s σ H x vs v us Q I rx rv h;obtain⟨l,ns,k,rfl,rfl,hH,hk,q⟩:=h;cases rx;obtain⟨u,rfl,ru⟩:=rv.one;obtain⟨t,rfl⟩:=ru;obtain⟨z,its,n,r,hl,e⟩:=I.lstM hH;have hlen:its.length=ns.length:=by rw[<-r.length,Di]
 have hj:ns.idxOf k<ns.length:=List.idxOf_lt_length_of_mem hk;refine call_meets F.slot_list_remove ⟨_,e,rfl⟩ F.entry_list_remove (F.args_list_remove_2 _ _)
  (MeetsSeq.list_remove l its.toArray n (.int k t) (isInt k) (λy hy=> ?_) (ns.idxOf k) (by rw[DI,hlen];exact hj) ?_ (λi hi hlt=> ?_) (by rw[DI,<-hl];exact z)) ⟨e,?_⟩
 .obtain⟨i,hi,rfl⟩:=List.getElem_of_mem (show y∈its by simpa using hy);obtain⟨a,t',_,e'⟩:=eS r (Ds hi);rw[e'];exact MeetsSeq.EqGives.int a k t' t
 .have hi:ns.idxOf k<its.length:=by rw[hlen];exact hj
  obtain⟨a,t',e1,e'⟩:=eS r (Ds hi);have ea:a=k:=by rw[Ds hj]at e1;have:=List.getElem_idxOf hj;rw[<-DS e1];exact this
  have e2:its.toArray[ns.idxOf k]'(by rw[DI,hlen];exact hj)= .int a t':=by simpa using e'
  rw[e2,ea];simp[isInt]
 .have hi':i<its.length:=by simpa using hi
  obtain⟨a,t',e1,e'⟩:=eS r (Ds hi');have e2:its.toArray[i]= .int a t':=by simpa using e'
  rw[e2];have ne:a≠k:=mH ns i a hlt e1;simp[isInt,ne]
 .refine⟨.non,_,I.lset (its':=its.eraseIdx (ns.idxOf k)) (ys:=(ns.erase k).map V.int) hH e ?_ ?_ ?_,rfl,q⟩
  .show its.toArray.eraseIdxIfInBounds (ns.idxOf k)=(its.eraseIdx (ns.idxOf k)).toArray;rw[Hc]
  .have er:=r.eraseIdx (ns.idxOf k);rw[kq,<-List.erase_eq_eraseIdx_of_idxOf rfl]at er;exact er
  .rw[Di];rw[Di]at z;exact Du (List.length_erase_le) z
def a9(H H':Hp):Prop:=∀b o,(∀ps,o≠ .tbl ps)->H b=some o->H' b=some o
theorem a9.of(h:Same H H'):a9 H H':=λb o _ e=>h b o e
theorem a9.refl:a9 H H:=λ_ _ _ e=>e
theorem a9.trans(a:a9 H H1)(b:a9 H1 H2):a9 H H2:=λc o n e=>b c o n (a c o n e)
theorem ba.n(h:ba P H H')(e:H P=some (.tbl ps)):a9 H H':=λb o n q=>h b o (λz=>by rw[z,e]at q;cases q;exact n _ rfl) q
theorem a9.ins(h:a9 H H')(e:H b=some (.ins C dx fs)):H' b=some (.ins C dx fs):=h b _ (λ_ z=>by cases z) e
theorem a9.lst(h:a9 H H')(e:H b=some (.lst xs)):H' b=some (.lst xs):=h b _ (λ_ z=>by cases z) e
theorem a9.tup(h:a9 H H')(e:H b=some (.tup xs)):H' b=some (.tup xs):=h b _ (λ_ z=>by cases z) e
theorem a9.tups(h:a9 H H'):cT H H':=λb xs e=>h.tup e
theorem a9.seq{K:PySem.W.Frag}{H H':Hp}{a:Addr}{xs:List V}(e:a9 H H')(h:SqL K H a xs):SqL K H' a xs:=by
 rcases h with (h|⟨o,h⟩)|h
 .exact .inl (.inl (e.lst h))
 .exact .inl (.inr ⟨o,e a _ (λ_ z=>by cases z) h⟩)
 .exact .inr h
structure iY(K:PySem.W.Frag)(mg:Str->Option Value)(x:Str)(st:Stmt)(ps:List Str)(c:Addr):Prop where
 ex:∃ (f:Addr) (oc:Value) (od:Option Addr) (kV doc pm:Value) (an:Option Addr) (ct:Value) (osl:Array (Option Value)),
  K.lookup f=some ⟨oc,od, .func (fnOf x x (a6 st) (aF st) (ao st) .none kV doc pm an (.ref c) ct),osl⟩/\codeIn K (.ref c) x=true/\keepIn K (.ref f)=true/\
  fv K (fnOf x x (a6 st) (aF st) (ao st) .none kV doc pm an (.ref c) ct) ps []/\mg x=some (.ref f)
theorem nY{K:PySem.W.Frag}{h:Heap}{mg:Str->Option Value}{x:Str}{st:Stmt}{ps:List Str}{f c:Addr}{oc:Value}{od an:Option Addr}{osl:Array (Option Value)}{kV doc pm ct:Value}(X:K.In h)(G:h.Ns mainGlobals mg)
  (a:nsIn K mainGlobals x=some (some (.ref f))) (l:K.lookup f=some ⟨oc,od, .func (fnOf x x (a6 st) (aF st) (ao st) .none kV doc pm an (.ref c) ct),osl⟩)
  (cc:codeIn K (.ref c) x=true) (k:keepIn K (.ref f)=true)
  (b:∀ (kV doc pm:Value) (an:Option Addr) (cdv ct:Value) (us:List Value),us.length=ps.length->bindArgs (fnOf x x (a6 st) (aF st) (ao st) .none kV doc pm an cdv ct) ⟨us,[]⟩=pure (ps.zip us)):iY K mg x st ps c:=
 ⟨f,oc,od,kV,doc,pm,an,ct,osl,l,cc,k,(iM (st:=st) l cc k).binds b,Fj X G a⟩
theorem iY.cal{P:Program}{w:World}{K:PySem.W.Frag}{mg:Str->Option Value}{base:Heap}{x:Str}{st:Stmt}{N ps:List Str}{k:Nat}{sp:Sp}{c:Addr}(D:iY K mg x st ps c)(S:aB N ps (ao st))(len:∀vs H Q E,sp vs H Q E->vs.length=ps.length)
  (hbody:∀ (f:Addr) (A:Around) (outer:List Env) (s:Shared) (H:Hp) (vs:List V) (Q:VK) (E:XK),Room k (A.deeper (envOfC x (ao st) s.heap.objs.size f (.ref c)))->sp vs H Q E->
   ∃t,PSs (iP CX0 P w K mg base N x (ao st) f (.ref c) A outer s H E).nox (aF st) t/\t {nx:=λ_ H'=>Q .non H',rt:=Q} (start N vs) H):Cal P w K mg base (k+1) x ps sp:=by
 obtain⟨f,oc,od,kV,doc,pm,an,ct,osl,lk,hcd,kp,b,m⟩:=D.ex;refine⟨f,_,A5 lk hcd S len λA outer s H vs Q E hr hsp=> ?_,m,kp,b⟩;obtain⟨t,h,q⟩:=hbody f A outer s H vs Q E hr hsp;exact⟨t,h.nox,q⟩
end L2
namespace L2
open PySem PySem.Spec PySem.W PyProof.Rows
structure wA(X:Cx)(H:Hp)(s:Shared)(ko:List (Addr×Obj))(I S l:Addr)(p:Nat)(arr:Array Value)(Hj:Hp)(c:Nat)(s':Shared):Prop where
 os:s'.os=s.os
 bare:AllBare s'.gens
 un:Un (frs X.stack) [] H Hj s.heap s'.heap
 hok:HOk X.prog X.w Hj s'.heap
 sm:Same H Hj
 nI:Hj I=none
 nS:Hj S=none
 aS:s'.heap.get? S=some (seqObj "list" arr c)
 aI:s'.heap.IsListIter I l p
 ak:∀x∈ko,s'.heap.get? x.1=some x.2
section
variable{X:Cx}{pins:List (Addr×Obj)}{σ:St}{H:Hp}{s:Shared}
theorem vp{q I S l:Addr}{ns:List Int}{g:Int->Int}{ko:List (Addr×Obj)}{R:Result->Shared->Prop}(I0:Inv X pins σ H s)(hh:X.A.handled=none)(hl:SqL X.K H l (ns.map V.int))(hlI:l≠I)(hSI:S≠I)(hI:s.heap.objs.size<=I)(hS:s.heap.objs.size<=S)
  (hko:∀p∈ko,s.heap.get? p.1=some p.2/\H p.1=none/\p.1∉frs X.stack)
  (turn:∀ (j:Nat) (z:Int) (t:Tok) (Hj:Hp) (sj:Shared),ns[j]?=some z->Inv X pins σ Hj sj->Same H Hj->(∀p∈ko,sj.heap.get? p.1=some p.2)->
   wpAny (model X.prog X.w) X.A.in1 (call (.ref q) [.int z t]) (CE X.stack X.prog X.w Hj sj (λv H'=>v= .int (g z)/\Same Hj H')) (λ_ _=>False) sj)
  (hR:∀ (M:Int) (t:Tok) (H':Hp) (s':Shared),M∈ns->(∀a∈ns,g M<=g a)->Inv X pins σ H' s'->Same H H'->R (.ok (.ret (.int M t))) s'):
  ∀ (d p:Nat) (arr:Array Value) (Hj:Hp) (c:Nat) (s':Shared),ns.length-p=d->p<=ns.length->(ns≠[])->wA X H s ko I S l p arr Hj c s'->
   ((p=0/\arr= #[])\/∃M t t',M∈ns/\arr= #[.int M t, .int (g M) t']/\∀a∈ns.take p,g M<=g a)->
   codeAny (model X.prog X.w) X.A (.builtin "min.loop" ⟨[.ref I, .ref q, .ref S],[]⟩) R s':=by
 have hname:(toString "min"++toString ".loop":String)= "min.loop":=by decide
 intro d
 induction d with
 |zero=>
  intro p arr Hj c s' hd hp hne a ha;have hpl:p=ns.length:=by lia
  have hpos:0<ns.length:=List.length_pos_iff.mpr hne;rcases ha with ⟨h0,_⟩|⟨M,t,t',hM,rfl,hb⟩
  .lia
  rw[hpl,EK (Dl _)]at hb;have J:=I0.far a.os a.bare a.un a.hok;obtain⟨its,r1,p1,hz⟩:=J.list (a.sm.seq hl);have hlen:its.length=ns.length:=by rw[<-r1.length,Di]
  refine Gh PySem.F.entry_min_loop ?_;rw[F5 Fu _];show wpAny _ X.A.in1 (seqItems? (.ref S)>>=_) _ _ _;refine Dj (Hw a.aS rfl ?_);show wpAny _ X.A.in1 (tryCatch (pyNext (.ref I)) _>>=_) _ _ _;have W:=Walks.list (prog:=X.prog) (w:=X.w) (A:=X.A.in1) hh I l hlI its.toArray;refine Dj (FN (W.done _ _ _ ⟨by rw[DI,hlen,<-hpl];exact a.aI,p1.isList⟩ λh' tk' hk'=> ?_));have hk1:∀b o,b≠I->s'.heap.get? b=some o->h'.get? b=some o:=λb o n e=>hk' b o (by simpa using n) e;have hS':=hk1 S _ hSI a.aS;show wpAny _ X.A.in1 (updateSeq S (λ_=> #[])>>=_) _ _ _;refine Dj ?_;refine Gi hS' rfl (Dj (F7 (DA ?_)));have oth:∀b o,b≠S->h'.get? b=some o->(h'.update S (Obj.mapSeq λ_=>(#[]:Array Value))).get? b=some o:=λb o n e=>(Ey _ _ (E8 n)).trans e;exact hR M t Hj _ hM hb (I0.far (s':={s' with heap:=h'.update S (Obj.mapSeq λ_=>(#[]:Array Value)),toks:=tk'}) a.os a.bare ((a.un.off hI hk1).off hS oth) ((a.hok.off a.nI hk1).off a.nS oth)) a.sm
 |succ d ih=>
  intro p arr Hj c s' hd hp hne a ha;have hlt:p<ns.length:=by lia
  have J:=I0.far a.os a.bare a.un a.hok;obtain⟨its,r1,p1,hz⟩:=J.list (a.sm.seq hl);have hlen:its.length=ns.length:=by rw[<-r1.length,Di]
  refine Gh PySem.F.entry_min_loop ?_;rw[F5 Fu _];show wpAny _ X.A.in1 (seqItems? (.ref S)>>=_) _ _ _;refine Dj (Hw a.aS rfl ?_);show wpAny _ X.A.in1 (tryCatch (pyNext (.ref I)) _>>=_) _ _ _;have W:=Walks.list (prog:=X.prog) (w:=X.w) (A:=X.A.in1) hh I l hlI its.toArray;refine Dj (FN (W.item p _ _ _ (by rw[DI,hlen];exact hlt) ⟨a.aI,p1.isList⟩ λv h' tk' hP hst' hk'=> ?_));have hk1:∀b o,b≠I->s'.heap.get? b=some o->h'.get? b=some o:=λb o n e=>hk' b o (by simpa using n) e;obtain⟨z,t,hz1,rfl⟩:=eS r1 (show its[p]?=some v by simpa using hP);have hzm:=Dv hz1;have koI:∀x∈ko,x.1≠I:=λx hx e=>by have:=DF (hko x hx).1;rw[e]at this;exact absurd (Dq this hI) (Eb _)
  have koS:∀x∈ko,x.1≠S:=λx hx e=>by have:=DF (hko x hx).1;rw[e]at this;exact absurd (Dq this hS) (Eb _)
  have a1:wA X H s ko I S l (p+1) arr Hj c {s' with heap:=h',toks:=tk'}:=⟨a.os,a.bare,a.un.off hI hk1,a.hok.off a.nI hk1,a.sm,a.nI,a.nS,hk1 S _ hSI a.aS,hst'.1,λx hx=>hk1 _ _ (koI x hx) (a.ak x hx)⟩;have J1:=I0.far a1.os a1.bare a1.un a1.hok;show wpAny _ X.A.in1 (tryCatch (holding [.int z t] (call (.ref q) [.int z t])) _>>=_) _ _ _;refine Dj (FN (EJ (Fl (turn p z t Hj _ hz1 J1 a1.sm a1.ak) (λu s2 hu=> ?_) λ_ _ hF=>hF.elim)));obtain⟨v',H',os,bare,un,hok,rv,rfl,sm⟩:=hu;obtain⟨t2,rfl⟩:=rv;obtain⟨oI,hoI,hoc,hod⟩:=id a1.aI;have kI:=un.keep I _ hoI a1.nI (I0.nostk hI) (by simp);have kS:=un.keep S _ a1.aS a1.nS (I0.nostk hS) (by simp);have kfree:∀x∈ko,Hj x.1=none:=λx hx=>a1.un.free x.1 _ (hko x hx).1 (hko x hx).2.1 (by simp);have a2:wA X H s ko I S l (p+1) arr H' c s2:=⟨os.trans a1.os,bare,a1.un.trans un,hok,a1.sm.trans sm,un.free I _ hoI a1.nI (by simp),un.free S _ a1.aS a1.nS (by simp),kS,⟨oI,kI,hoc,hod⟩,λx hx=>un.keep x.1 _ (a1.ak x hx) (kfree x hx) (hko x hx).2.2 (by simp)⟩;have etake:∀y,y∈ns.take (p+1)->y∈ns.take p\/y=z:=λy hy=>by
   rw[EB,hz1]at hy;rcases DW.mp hy with h|h
   .exact .inl h
   .exact .inr (by simpa using h)
  have put:(∀y∈ns.take (p+1),g z<=g y)->codeAny (model X.prog X.w) X.A (.builtin "min.loop" ⟨[.ref I, .ref q, .ref S],[]⟩) R {s2 with heap:=s2.heap.update S (Obj.mapSeq λ_=> #[.int z t, .int (g z) t2])}:=λhbst=>by have oth:∀b o,b≠S->s2.heap.get? b=some o->(s2.heap.update S (Obj.mapSeq λ_=> #[Value.int z t, .int (g z) t2])).get? b=some o:=λb o n e=>(Ey _ _ (E8 n)).trans e;exact ih (p+1) _ H' _ _ (by lia) hlt hne ⟨a2.os,a2.bare,a2.un.off hS oth,a2.hok.off a2.nS oth,a2.sm,a2.nI,a2.nS,GG a2.aS λ_=> #[.int z t, .int (g z) t2],⟨oI,oth _ _ (E8 hSI) kI,hoc,hod⟩,λx hx=>oth _ _ (koS x hx) (a2.ak x hx)⟩ (.inr ⟨z,t,t2,hzm,rfl,hbst⟩)
  rcases ha with ⟨h0,rfl⟩|⟨M,tM,tM',hM,rfl,hb⟩
  .subst h0;show wpAny _ X.A.in1 (updateSeq S (λ_=> #[.int z t, .int (g z) t2])>>=_) _ _ _;refine Dj ?_;refine Gi a2.aS rfl ?_;rw[hname];refine DA ⟨FY Fu _,put λy hy=> ?_⟩;rcases etake y hy with h|h
   .simp at h
   .rw[h];exact Hx _
  .show wpAny _ X.A.in1 (tryCatch (holding [.int z t, .int (g z) t2] (richCompare .Lt (.int (g z) t2) (.int (g M) tM')>>=_)) _>>=_) _ _ _;refine Dj (FN (EJ (Dj (CmpOf.ints_lt (prog:=X.prog) (w:=X.w) (A:=X.A.in1) (P:=λi v=>∃t,v= .int (if i=0 then g M else g z) t) (λi=>if i=0 then g M else g z) (λi v h=>h) 1 0 _ _ _ _ _ ⟨t2,rfl⟩ ⟨tM',rfl⟩ ?_))));refine Dj (EJ (Fs ?_));refine Dj (F7 (DA ?_));by_cases hb':g z<g M
   .have hb2:decide ((if(1:Nat)=0 then g M else g z)<(if(0:Nat)=0 then g M else g z))=true:=DG hb';rw[Dp hb2];refine Dj ?_;refine Gi a2.aS rfl (Dj (F7 ?_));rw[hname];refine DA ⟨FY Fu _,put λy hy=> ?_⟩;rcases etake y hy with h|h
    .have:=hb y h;lia
    .rw[h];exact Hx _
   .have hb2:decide ((if(1:Nat)=0 then g M else g z)<(if(0:Nat)=0 then g M else g z))=false:=Dy hb';rw[Dt (λzz=>Dr (hb2.symm.trans zz))];refine Dj (F7 ?_);rw[hname];refine DA ⟨FY Fu _,ih (p+1) _ H' c s2 (by lia) hlt hne a2 (.inr ⟨M,tM,tM',hM,rfl,λy hy=> ?_⟩)⟩;rcases etake y hy with h|h
    .exact hb y h
    .rw[h];lia
theorem t8{q l:Addr}{ns:List Int}{g:Int->Int}{ko:List (Addr×Obj)}{Q:VK}(I0:Inv X pins σ H s)(hc:X.calm=true)(hl:SqL X.K H l (ns.map V.int))(hne:ns≠[])(hko:∀p∈ko,s.heap.get? p.1=some p.2/\H p.1=none/\p.1∉frs X.stack)
  (turn:∀ (j:Nat) (z:Int) (t:Tok) (Hj:Hp) (sj:Shared),ns[j]?=some z->Inv X pins σ Hj sj->Same H Hj->(∀p∈ko,sj.heap.get? p.1=some p.2)->
   wpAny (model X.prog X.w) X.A.in1 (call (.ref q) [.int z t]) (CE X.stack X.prog X.w Hj sj (λv H'=>v= .int (g z)/\Same Hj H')) (λ_ _=>False) sj)
  (hQ:∀ (M:Int) (H':Hp),M∈ns->(∀a∈ns,g M<=g a)->Same H H'->Q (.int M) H'):
  wpAny (model X.prog X.w) X.A (call (.builtin "min") [.ref l] [(Str.ofString "key", .ref q)]) (EP X pins σ Q) X.xe s:=by
 have hname:(toString "min"++toString ".loop":String)= "min.loop":=by decide
 obtain⟨its,r1,p1,hz⟩:=I0.list hl;obtain⟨ol,hol,_⟩:=id p1.isList;have hll:l<s.heap.objs.size:=DF hol;refine kmk_tree PySem.F.kind_min PySem.F.plain_min PySem.F.entry_min (kmk_min_key _ _) ?_;show wpAny _ X.A.in1 (Builtin.Builtins.bindParams "min" ["key","default"] 0 ⟨[],[(Str.ofString "key", .ref q)]⟩>>=_) _ _ s;refine Dj (wpAny_of_eq (show Builtin.Builtins.bindParams "min" ["key","default"] 0 ⟨[],[(Str.ofString "key", .ref q)]⟩=pure [some (.ref q),none]from rfl) ?_);refine Dj (DA ?_);refine Dj (GN p1.isList ?_);refine Dj (GU ?_ (DV _));rw[hname];have hS:(s.heap.push {cls:= .type "list_iterator",data:= .fields #[.ref l, .int 0 0]}).objs.size=s.heap.objs.size+1:=Hl ..;have kp:∀b o,s.heap.get? b=some o->((s.heap.push {cls:= .type "list_iterator",data:= .fields #[.ref l, .int 0 0]}).push (seqObj "list" #[] 0)).get? b=some o:=λb o e=>Dx _ (Dx _ e);refine DA ⟨FY Fu _,?_⟩;refine vp (I:=s.heap.objs.size) (S:=(s.heap.push {cls:= .type "list_iterator",data:= .fields #[.ref l, .int 0 0]}).objs.size) (ko:=ko) (g:=g) I0 (I0.ok.hd hc) hl (DQ hll) (by rw[hS];exact F9 (D9 _)) (Dl _) (by rw[hS];exact Gk _) hko turn (λM t H' s' h1 h2 J sm=> ?_) _ 0 #[] H 0 _ rfl (DV _) hne
  ⟨rfl,I0.bare,Un.kept kp,I0.hok.kept kp,Same.refl _,I0.hok.fresh (Dl _),I0.hok.fresh (by rw[hS];exact Gk _),DP _ rfl,⟨_,Dx _ (DP _ rfl),rfl,rfl⟩,λx hx=>kp _ _ (hko x hx).1⟩ (.inl ⟨rfl,rfl⟩)
 exact⟨.int M,H',J,⟨t,rfl⟩,hQ M H' h1 h2 sm⟩
theorem vx{q I S l:Addr}{ns:List Int}{g:Int->Int}{ko:List (Addr×Obj)}{R:Result->Shared->Prop}(I0:Inv X pins σ H s)(hh:X.A.handled=none)(hl:SqL X.K H l (ns.map V.int))(hlI:l≠I)(hSI:S≠I)(hI:s.heap.objs.size<=I)(hS:s.heap.objs.size<=S)
  (hko:∀p∈ko,s.heap.get? p.1=some p.2/\H p.1=none/\p.1∉frs X.stack)
  (turn:∀ (j:Nat) (z:Int) (t:Tok) (Hj:Hp) (sj:Shared),ns[j]?=some z->Inv X pins σ Hj sj->Same H Hj->(∀p∈ko,sj.heap.get? p.1=some p.2)->
   wpAny (model X.prog X.w) X.A.in1 (call (.ref q) [.int z t]) (CE X.stack X.prog X.w Hj sj (λv H'=>v= .int (g z)/\Same Hj H')) (λ_ _=>False) sj)
  (hR:∀ (M:Int) (t:Tok) (H':Hp) (s':Shared),M∈ns->(∀a∈ns,g M>=g a)->Inv X pins σ H' s'->Same H H'->R (.ok (.ret (.int M t))) s'):
  ∀ (d p:Nat) (arr:Array Value) (Hj:Hp) (c:Nat) (s':Shared),ns.length-p=d->p<=ns.length->(ns≠[])->wA X H s ko I S l p arr Hj c s'->
   ((p=0/\arr= #[])\/∃M t t',M∈ns/\arr= #[.int M t, .int (g M) t']/\∀a∈ns.take p,g M>=g a)->
   codeAny (model X.prog X.w) X.A (.builtin "max.loop" ⟨[.ref I, .ref q, .ref S],[]⟩) R s':=by
 have hname:(toString "max"++toString ".loop":String)= "max.loop":=by decide
 intro d
 induction d with
 |zero=>
  intro p arr Hj c s' hd hp hne a ha;have hpl:p=ns.length:=by lia
  have hpos:0<ns.length:=List.length_pos_iff.mpr hne;rcases ha with ⟨h0,_⟩|⟨M,t,t',hM,rfl,hb⟩
  .lia
  rw[hpl,EK (Dl _)]at hb;have J:=I0.far a.os a.bare a.un a.hok;obtain⟨its,r1,p1,hz⟩:=J.list (a.sm.seq hl);have hlen:its.length=ns.length:=by rw[<-r1.length,Di]
  refine Gh PySem.F.entry_max_loop ?_;rw[F5 Fv _];show wpAny _ X.A.in1 (seqItems? (.ref S)>>=_) _ _ _;refine Dj (Hw a.aS rfl ?_);show wpAny _ X.A.in1 (tryCatch (pyNext (.ref I)) _>>=_) _ _ _;have W:=Walks.list (prog:=X.prog) (w:=X.w) (A:=X.A.in1) hh I l hlI its.toArray;refine Dj (FN (W.done _ _ _ ⟨by rw[DI,hlen,<-hpl];exact a.aI,p1.isList⟩ λh' tk' hk'=> ?_));have hk1:∀b o,b≠I->s'.heap.get? b=some o->h'.get? b=some o:=λb o n e=>hk' b o (by simpa using n) e;have hS':=hk1 S _ hSI a.aS;show wpAny _ X.A.in1 (updateSeq S (λ_=> #[])>>=_) _ _ _;refine Dj ?_;refine Gi hS' rfl (Dj (F7 (DA ?_)));have oth:∀b o,b≠S->h'.get? b=some o->(h'.update S (Obj.mapSeq λ_=>(#[]:Array Value))).get? b=some o:=λb o n e=>(Ey _ _ (E8 n)).trans e;exact hR M t Hj _ hM hb (I0.far (s':={s' with heap:=h'.update S (Obj.mapSeq λ_=>(#[]:Array Value)),toks:=tk'}) a.os a.bare ((a.un.off hI hk1).off hS oth) ((a.hok.off a.nI hk1).off a.nS oth)) a.sm
 |succ d ih=>
  intro p arr Hj c s' hd hp hne a ha;have hlt:p<ns.length:=by lia
  have J:=I0.far a.os a.bare a.un a.hok;obtain⟨its,r1,p1,hz⟩:=J.list (a.sm.seq hl);have hlen:its.length=ns.length:=by rw[<-r1.length,Di]
  refine Gh PySem.F.entry_max_loop ?_;rw[F5 Fv _];show wpAny _ X.A.in1 (seqItems? (.ref S)>>=_) _ _ _;refine Dj (Hw a.aS rfl ?_);show wpAny _ X.A.in1 (tryCatch (pyNext (.ref I)) _>>=_) _ _ _;have W:=Walks.list (prog:=X.prog) (w:=X.w) (A:=X.A.in1) hh I l hlI its.toArray;refine Dj (FN (W.item p _ _ _ (by rw[DI,hlen];exact hlt) ⟨a.aI,p1.isList⟩ λv h' tk' hP hst' hk'=> ?_));have hk1:∀b o,b≠I->s'.heap.get? b=some o->h'.get? b=some o:=λb o n e=>hk' b o (by simpa using n) e;obtain⟨z,t,hz1,rfl⟩:=eS r1 (show its[p]?=some v by simpa using hP);have hzm:=Dv hz1;have koI:∀x∈ko,x.1≠I:=λx hx e=>by have:=DF (hko x hx).1;rw[e]at this;exact absurd (Dq this hI) (Eb _)
  have koS:∀x∈ko,x.1≠S:=λx hx e=>by have:=DF (hko x hx).1;rw[e]at this;exact absurd (Dq this hS) (Eb _)
  have a1:wA X H s ko I S l (p+1) arr Hj c {s' with heap:=h',toks:=tk'}:=⟨a.os,a.bare,a.un.off hI hk1,a.hok.off a.nI hk1,a.sm,a.nI,a.nS,hk1 S _ hSI a.aS,hst'.1,λx hx=>hk1 _ _ (koI x hx) (a.ak x hx)⟩;have J1:=I0.far a1.os a1.bare a1.un a1.hok;show wpAny _ X.A.in1 (tryCatch (holding [.int z t] (call (.ref q) [.int z t])) _>>=_) _ _ _;refine Dj (FN (EJ (Fl (turn p z t Hj _ hz1 J1 a1.sm a1.ak) (λu s2 hu=> ?_) λ_ _ hF=>hF.elim)));obtain⟨v',H',os,bare,un,hok,rv,rfl,sm⟩:=hu;obtain⟨t2,rfl⟩:=rv;obtain⟨oI,hoI,hoc,hod⟩:=id a1.aI;have kI:=un.keep I _ hoI a1.nI (I0.nostk hI) (by simp);have kS:=un.keep S _ a1.aS a1.nS (I0.nostk hS) (by simp);have kfree:∀x∈ko,Hj x.1=none:=λx hx=>a1.un.free x.1 _ (hko x hx).1 (hko x hx).2.1 (by simp);have a2:wA X H s ko I S l (p+1) arr H' c s2:=⟨os.trans a1.os,bare,a1.un.trans un,hok,a1.sm.trans sm,un.free I _ hoI a1.nI (by simp),un.free S _ a1.aS a1.nS (by simp),kS,⟨oI,kI,hoc,hod⟩,λx hx=>un.keep x.1 _ (a1.ak x hx) (kfree x hx) (hko x hx).2.2 (by simp)⟩;have etake:∀y,y∈ns.take (p+1)->y∈ns.take p\/y=z:=λy hy=>by
   rw[EB,hz1]at hy;rcases DW.mp hy with h|h
   .exact .inl h
   .exact .inr (by simpa using h)
  have put:(∀y∈ns.take (p+1),g z>=g y)->codeAny (model X.prog X.w) X.A (.builtin "max.loop" ⟨[.ref I, .ref q, .ref S],[]⟩) R {s2 with heap:=s2.heap.update S (Obj.mapSeq λ_=> #[.int z t, .int (g z) t2])}:=λhbst=>by have oth:∀b o,b≠S->s2.heap.get? b=some o->(s2.heap.update S (Obj.mapSeq λ_=> #[Value.int z t, .int (g z) t2])).get? b=some o:=λb o n e=>(Ey _ _ (E8 n)).trans e;exact ih (p+1) _ H' _ _ (by lia) hlt hne ⟨a2.os,a2.bare,a2.un.off hS oth,a2.hok.off a2.nS oth,a2.sm,a2.nI,a2.nS,GG a2.aS λ_=> #[.int z t, .int (g z) t2],⟨oI,oth _ _ (E8 hSI) kI,hoc,hod⟩,λx hx=>oth _ _ (koS x hx) (a2.ak x hx)⟩ (.inr ⟨z,t,t2,hzm,rfl,hbst⟩)
  rcases ha with ⟨h0,rfl⟩|⟨M,tM,tM',hM,rfl,hb⟩
  .subst h0;show wpAny _ X.A.in1 (updateSeq S (λ_=> #[.int z t, .int (g z) t2])>>=_) _ _ _;refine Dj ?_;refine Gi a2.aS rfl ?_;rw[hname];refine DA ⟨FY Fv _,put λy hy=> ?_⟩;rcases etake y hy with h|h
   .simp at h
   .rw[h];exact Hx _
  .show wpAny _ X.A.in1 (tryCatch (holding [.int z t, .int (g z) t2] (richCompare .Gt (.int (g z) t2) (.int (g M) tM')>>=_)) _>>=_) _ _ _;refine Dj (FN (EJ (Dj (CmpOf.ints_gt (prog:=X.prog) (w:=X.w) (A:=X.A.in1) (P:=λi v=>∃t,v= .int (if i=0 then g M else g z) t) (λi=>if i=0 then g M else g z) (λi v h=>h) 1 0 _ _ _ _ _ ⟨t2,rfl⟩ ⟨tM',rfl⟩ ?_))));refine Dj (EJ (Fs ?_));refine Dj (F7 (DA ?_));by_cases hb':g z>g M
   .have hb2:decide ((if(1:Nat)=0 then g M else g z)>(if(0:Nat)=0 then g M else g z))=true:=DG hb';rw[Dp hb2];refine Dj ?_;refine Gi a2.aS rfl (Dj (F7 ?_));rw[hname];refine DA ⟨FY Fv _,put λy hy=> ?_⟩;rcases etake y hy with h|h
    .have:=hb y h;lia
    .rw[h];exact Hx _
   .have hb2:decide ((if(1:Nat)=0 then g M else g z)>(if(0:Nat)=0 then g M else g z))=false:=Dy hb';rw[Dt (λzz=>Dr (hb2.symm.trans zz))];refine Dj (F7 ?_);rw[hname];refine DA ⟨FY Fv _,ih (p+1) _ H' c s2 (by lia) hlt hne a2 (.inr ⟨M,tM,tM',hM,rfl,λy hy=> ?_⟩)⟩;rcases etake y hy with h|h
    .exact hb y h
    .rw[h];lia
theorem Ay{q l:Addr}{ns:List Int}{g:Int->Int}{ko:List (Addr×Obj)}{Q:VK}(I0:Inv X pins σ H s)(hc:X.calm=true)(hl:SqL X.K H l (ns.map V.int))(hne:ns≠[])(hko:∀p∈ko,s.heap.get? p.1=some p.2/\H p.1=none/\p.1∉frs X.stack)
  (turn:∀ (j:Nat) (z:Int) (t:Tok) (Hj:Hp) (sj:Shared),ns[j]?=some z->Inv X pins σ Hj sj->Same H Hj->(∀p∈ko,sj.heap.get? p.1=some p.2)->
   wpAny (model X.prog X.w) X.A.in1 (call (.ref q) [.int z t]) (CE X.stack X.prog X.w Hj sj (λv H'=>v= .int (g z)/\Same Hj H')) (λ_ _=>False) sj)
  (hQ:∀ (M:Int) (H':Hp),M∈ns->(∀a∈ns,g M>=g a)->Same H H'->Q (.int M) H'):
  wpAny (model X.prog X.w) X.A (call (.builtin "max") [.ref l] [(Str.ofString "key", .ref q)]) (EP X pins σ Q) X.xe s:=by
 have hname:(toString "max"++toString ".loop":String)= "max.loop":=by decide
 obtain⟨its,r1,p1,hz⟩:=I0.list hl;obtain⟨ol,hol,_⟩:=id p1.isList;have hll:l<s.heap.objs.size:=DF hol;refine kmk_tree PySem.F.kind_max PySem.F.plain_max PySem.F.entry_max (kmk_max_key _ _) ?_;show wpAny _ X.A.in1 (Builtin.Builtins.bindParams "max" ["key","default"] 0 ⟨[],[(Str.ofString "key", .ref q)]⟩>>=_) _ _ s;refine Dj (wpAny_of_eq (show Builtin.Builtins.bindParams "max" ["key","default"] 0 ⟨[],[(Str.ofString "key", .ref q)]⟩=pure [some (.ref q),none]from rfl) ?_);refine Dj (DA ?_);refine Dj (GN p1.isList ?_);refine Dj (GU ?_ (DV _));rw[hname];have hS:(s.heap.push {cls:= .type "list_iterator",data:= .fields #[.ref l, .int 0 0]}).objs.size=s.heap.objs.size+1:=Hl ..;have kp:∀b o,s.heap.get? b=some o->((s.heap.push {cls:= .type "list_iterator",data:= .fields #[.ref l, .int 0 0]}).push (seqObj "list" #[] 0)).get? b=some o:=λb o e=>Dx _ (Dx _ e);refine DA ⟨FY Fv _,?_⟩;refine vx (I:=s.heap.objs.size) (S:=(s.heap.push {cls:= .type "list_iterator",data:= .fields #[.ref l, .int 0 0]}).objs.size) (ko:=ko) (g:=g) I0 (I0.ok.hd hc) hl (DQ hll) (by rw[hS];exact F9 (D9 _)) (Dl _) (by rw[hS];exact Gk _) hko turn (λM t H' s' h1 h2 J sm=> ?_) _ 0 #[] H 0 _ rfl (DV _) hne
  ⟨rfl,I0.bare,Un.kept kp,I0.hok.kept kp,Same.refl _,I0.hok.fresh (Dl _),I0.hok.fresh (by rw[hS];exact Gk _),DP _ rfl,⟨_,Dx _ (DP _ rfl),rfl,rfl⟩,λx hx=>kp _ _ (hko x hx).1⟩ (.inl ⟨rfl,rfl⟩)
 exact⟨.int M,H',J,⟨t,rfl⟩,hQ M H' h1 h2 sm⟩
end
end L2
namespace L2
open PySem PySem.Spec PySem.W PyProof.Rows
def sJ(K:PySem.W.Frag)(P:Addr)(lpos:Pos)(q:Str)(te:TA)(tb:TE)(idx:List Nat):TE:=λσ H Q=>te σ H λvs H1=>∃ (l:Addr) (ns:List Int) (g:Int->Int),vs=[.ref l]/\SqL K H1 l (ns.map V.int)/\ns≠[]/\cU H1 P lpos q/\
 (∀ (z:Int) (Hj:Hp),z∈ns->ba P H1 Hj->tb (some (.int z)::idx.map λi=>σ.getD i none) Hj (λv H'=>v= .int (g z)/\Same Hj H'))/\
 ∀ (M:Int) (H2:Hp),ba P H1 H2->cU H2 P lpos q->M∈ns->(∀a∈ns,g M<=g a)->Q (.int M) H2
theorem uZ{X:Cx}{P c:Addr}{params:Arguments}{body:Expr}{scope:Scope}{lpos kpos p pos:Pos}{e:Expr}{te:TA}{tb:TE}{x q:Str}{fr:List Str}{idx:List Nat}{k:Nat}{clos:List (Str×Addr)}(L:mJ X params body scope q x fr idx clos)
  (eq:q=X.env.qual++ "<lambda>") (hcode:X.env.code= .ref c) (C:CodeHd X.base c P) (BM:fS X.mg X.base) (hr:Room (k+1) X.A) (hc:X.calm=true) (hg:Gl X "min") (hm:X.mg "min"=none) (ha:PA X [e] te)
  (hb:∀ (f c':Addr) (s:Shared) (H:Hp),PE (fN X X.A.in1 (x::fr) q scope f c' clos s H) body tb) (he:starEach [e] X.env=(false,eval e X.env)::starEach [] X.env:=by rfl):
  PE X (.Call (.Name "min" p) [e] [⟨some "key", .Lambda params body scope lpos,kpos⟩] pos) (sJ X.K P lpos q te tb idx):=by
 intro pins s σ H Q I h;refine E3 (dz I hg hm FW ?_);refine Gu (by rw[he];rfl) rfl (evalArgs_kw2 rfl (thn (ha pos pins s σ H _ I h) λus s1 ⟨vs,H1,I1,rv,q1⟩=> ?_) he);obtain⟨l,ns,g,rfl,hl,hne,hT,hbody,done⟩:=q1;obtain⟨u,rfl,ru⟩:=eD rv;obtain rfl:u=Value.ref l:=ru;obtain⟨ps,hP⟩:=hT.tbl;show wpAny _ _ (evalAll [(do let v<-eval (.Lambda params body scope lpos) X.env;standAt pos;pure v)]) _ _ s1;refine GJ (Dj (ky I1 eq hT hcode C BM L.dflt L.cl λf c' pm ctv h' tk H' I' sB tS hcx hf0 hsz hobj=>Dj (FX (DA (GQ ?_)))));show wpAny _ _ (call (.builtin "min") [.ref l] [(Str.ofString "key", .ref f)]) _ _ _;refine t8 (ko:=[(f,kla_obj "<lambda>" q params body scope clos pm c' ctv)]) (g:=g) I' hc ((ba.n sB hP).seq hl) hne (λp hp=> ?_) (λj z t Hj sj hz J sm ko=> ?_) λM H2 h1 h2 sm=>done M H2 (sB.trans (ba.of sm)) (tS.same sm) h1 h2
 .rw[DN.mp hp];exact⟨hobj,hf0,I1.nostk hsz⟩
 .exact L.call (v:= .int z) J J.ok.frames hr.in1 (ko _ DE) (sm _ _ hcx) ⟨t,rfl⟩ (hb f c' sj Hj) (hbody z Hj (Dv hz) (sB.trans (ba.of sm)))
def zL(K:PySem.W.Frag)(sp:Sp)(te:TA):TE:=λσ H Q=>te σ H λvs H1=>∃ (l:Addr) (ns:List Int) (g:Int->Int),vs=[.ref l]/\SqL K H1 l (ns.map V.int)/\ns≠[]/\
 (∀ (z:Int) (Hj:Hp),z∈ns->Same H1 Hj->sp [.int z] Hj (λv H'=>v= .int (g z)/\Same Hj H') E0)/\
 ∀ (M:Int) (H2:Hp),Same H1 H2->M∈ns->(∀a∈ns,g M>=g a)->Q (.int M) H2
theorem lX{X:Cx}{e:Expr}{te:TA}{x:Str}{ps:List Str}{sp:Sp}{j k:Nat}{kpos p pos npos:Pos}(Cx:Cal X.prog X.w X.K X.mg X.base j x ps sp)(hr:Room (k+1) X.A)(hjk:j<=k)(hgx:Gl X x)(hc:X.calm=true)(hg:Gl X "max")(hm:X.mg "max"=none)(ha:PA X [e] te)
  (hdb:(x==("__debug__":Str))=false:=by decide) (he:starEach [e] X.env=(false,eval e X.env)::starEach [] X.env:=by rfl):
  PE X (.Call (.Name "max" p) [e] [⟨some "key", .Name x npos,kpos⟩] pos) (zL X.K sp te):=by
 intro pins s σ H Q I h;obtain⟨f,fd,F,m,kp,b⟩:=Cx.ex;refine E3 (dz I hg hm PyProof.Rows.boot_max ?_);refine Gu (by rw[he];rfl) rfl (evalArgs_kw2 rfl (thn (ha pos pins s σ H _ I h) λus s1 ⟨vs,H1,I1,rv,q1⟩=> ?_) he);obtain⟨l,ns,g,rfl,hl,hne,hbody,done⟩:=q1;obtain⟨u,rfl,ru⟩:=eD rv;obtain rfl:u=Value.ref l:=ru;show wpAny _ _ (evalAll [(do let v<-eval (.Name x npos) X.env;standAt pos;pure v)]) _ _ s1;refine GJ (Dj (jy I1 hgx m (Dj (FX (DA (GQ ?_)))) hdb));show wpAny _ _ (call (.builtin "max") [.ref l] [(Str.ofString "key", .ref f)]) _ _ _;refine Ay (ko:=[]) (g:=g) I1 hc hl hne (λp hp=>(nomatch hp)) (λi z t Hj sj hz J sm _=> ?_) λM H2 h1 h2 sm=>done M H2 sm h1 h2;have hsp:=hbody z Hj (Dv hz) sm;have hlen:=F.len _ _ _ _ hsp;refine HW (Gq (F.run X.A.in1 X.stack sj Hj ⟨[.int z t],[]⟩ [.int z t] [.int z] _ E0 (hr.in1.mono hjk) J.env0.in1 (by have:=b sj [.int z t] J.kIn (by simpa using hlen);simpa using this) (.cons ⟨t,rfl⟩ .nil) hsp) λr s' hq=> ?_);cases r with
 |error e=>exact False.elim hq
 |ok fl=>
  cases fl with
  |ret u=>exact hq
  |next=>exact False.elim hq
  |brk=>exact False.elim hq
  |cont=>exact False.elim hq
def C4(K:PySem.W.Frag)(te:TE)(tl th ts:TO):TE:=λσ H Q=>te σ H λx H1=>tl σ H1 λ_ H2=>th σ H2 λ_ H3=>ts σ H3 λst H4=>∃ (a:Addr) (ns:List Int),x= .ref a/\st≠some 0/\SqL K H4 a (ns.map V.int)/\∀ (p:Addr) (ms:List Int),H4 p=none->ms.length<=ns.length->Q (.ref p) (upd H4 p (.lst (ms.map V.int)))
theorem lM{ns:List Int}:∀ (us:List Value),(∀u∈us,∃z t,u=Value.int z t)->∃ms:List Int,Vals (ms.map V.int) us/\ms.length=us.length
 | [],_=>⟨[], .nil,rfl⟩
 |u::us,h=>by obtain⟨ms,h1,h2⟩:=lM (ns:=ns) us λv hv=>h v (DC _ hv);obtain⟨z,t,rfl⟩:=h u DE;exact⟨z::ms, .cons ⟨t,rfl⟩ h1,by rw[D6,D6,h2]⟩
theorem fU{X:Cx}{e:Expr}{te:TE}{lo hi:Option Expr}{st:Expr}{tl th ts:TO}{pos p2:Pos}(he:PE X e te)(hl:PO X lo tl)(hu:PO X hi th)(hst:PO X (some st) ts):PE X (.Subscript e (.Slice lo hi (some st) p2) pos) (C4 X.K te tl th ts):=by
 intro pins s σ H Q I h;refine Subscript_ (thn (he pins s σ H _ I h) λv s1 ⟨x,H1,I1,r1,q1⟩=> ?_);refine wpAny_Slice (thn (hl pins s1 σ H1 _ I1 q1) λvl s2 ⟨l,H2,I2,pl,q2⟩=>thn (hu pins s2 σ H2 _ I2 q2) λvu s3 ⟨u,H3,I3,pu,q3⟩=>thn (hst pins s3 σ H3 _ I3 q3) λvs s4 ⟨so,H4,I4,ps,q4⟩=> ?_);obtain⟨a,ns,rfl,h0,ha,q⟩:=q4;cases r1;have I5:Inv X pins σ H4 {s4 with heap:=s4.heap.push {cls:= .type "slice",data:= .fields #[vl,vu,vs]}}:=I4.kept (t':=s4.toks) λb ob q=>Dx _ q;obtain⟨its,r,ht,hz⟩:=I5.list ha;have hlen:=r.length;rw[Di]at hlen;have hit:∀y∈(slicePick its.toArray l u so).toList,∃z t,y=Value.int z t:=λy hy=>by unfold slicePick at hy;rw[List.toList_toArray]at hy;obtain⟨i,_,hi⟩:=Hz.mp hy;obtain⟨z,t,_,e⟩:=eS r (show its[i]?=some y by simpa using hi);exact⟨z,t,e⟩
 obtain⟨ms,hv,hml⟩:=lM (ns:=ns) _ hit;have hle:ms.length<=ns.length:=by rw[hml,EL];refine Du (slicePick_size_le _ _ _ _) ?_;rw[DI,<-hlen];exact Dl _
 show wpAny (model X.prog X.w) X.A (subscriptTail e (.Slice lo hi (some st) p2) (.ref a) (.ref s4.heap.objs.size)) (EP X pins σ Q) X.xe {s4 with heap:=s4.heap.push {cls:= .type "slice",data:= .fields #[vl,vu,vs]}};refine tail_any (ops:=[.ref a, .ref s4.heap.objs.size]) ht.isList.typeIs HP.lookup ?_ (by with_unfolding_all rfl);refine wpAny_getItem_list_slice ht.isList (Heap.IsSliceOf.new ..) pl pu ps h0 ?_ (by rw[DI];rw[Di]at hz;lia);refine⟨.ref _,_,I5.laid (t':=s4.toks) (o:= .lst (ms.map V.int)) (λb ob q=>Dx _ q) (Dl _) ?_,rfl,q _ ms (I5.hok.fresh (Dl _)) hle⟩;rw[Di]at hz;refine⟨by rw[Di];lia,(slicePick its.toArray l u so).toList,0,hv,?_⟩;rw[Hi];exact DP _ rfl
end L2
namespace L2
open PySem PySem.Spec PySem.W PyProof.Rows
theorem rK{M:Model}{A:Around}{E:Value->Shared->Prop}{s:Shared}{scope:Scope}{globals:Addr}{clos:List (Str×Addr)}{x:Str}{u:Value}{qual:Str}{func:Option Addr}{code:Value}{builtins:Addr}{Q:Env->Shared->Prop}(hk:scope.kind= .function)(hx:scope.names.lookup x=some .cell)
  (hc:cellsFrom (s.heap.objs.size+1) scope.names clos=(x,s.heap.objs.size+1)::clos) (hc0:cellsFrom (s.heap.objs.size+1) scope.names []=[(x,s.heap.objs.size+1)])
  (hQ:∀h',h'.Ns s.heap.objs.size (λ_=>none)->h'.IsCell (s.heap.objs.size+1) (some u)->(∀b o,s.heap.get? b=some o->h'.get? b=some o)->Q (newEnv scope s.heap.objs.size globals ((x,s.heap.objs.size+1)::clos) qual func code none builtins) {s with heap:=h'}):
  wpAny M A (newFunctionEnv scope globals clos [(x,u)] qual func code none builtins) Q E s:=by
 simp only[newFunctionEnv,Option.isSome_none,Fz,Gm];refine Dj (wpAny_alloc ?_);refine Dj (wpAny_layCells _ (λname kind cells=>by cases hkc:kind==NameKind.cell<;>simp[hkc]) _ _ _ _ ?_);have ok:=cellsFrom_ok scope.names (s.heap.push {cls:= .type "frame",data:= .dict #[]}) (s.heap.objs.size+1) [] ⟨λ_ _ hm=>(nomatch hm),HQ⟩ (by rw[Fy];exact Dl _);rw[Fy,hc0]at ok;rw[show({s with heap:=s.heap.push {cls:= .type "frame",data:= .dict #[]}}:Shared).heap.objs.size=s.heap.objs.size+1 from Fy ..,hc];have hce:=(ok.empty x (s.heap.objs.size+1) DE).1;have hns:(pushCells (s.heap.push {cls:= .type "frame",data:= .dict #[]}) scope.names).Ns s.heap.objs.size (λ_=>none):=(Heap.Ns.new s.heap (.type "frame")).keeps (GD _ _);have kp:∀b o,s.heap.get? b=some o->(pushCells (s.heap.push {cls:= .type "frame",data:= .dict #[]}) scope.names).get? b=some o:=λb o e=>GD _ _ b o (Dx _ e);refine Dj ?_;rw[List.forIn_cons];refine Dj (Dj (wpAny_storeName_cell (env:=newEnv scope s.heap.objs.size globals ((x,s.heap.objs.size+1)::clos) qual func code none builtins) hk hx (by show List.lookup x ((x,s.heap.objs.size+1)::clos)=some _;simp[List.lookup]) hce λh' hc' hs'=>DA ?_));dsimp only;rw[List.forIn_nil];refine DA (DA (hQ h' (hns.sameBut hs' (DQ (D9 _))) hc' λb o e=>hs'.extBut b o (DQ (GO (DF e))) (kp b o e)))
section
variable{X:Cx}{pins:List (Addr×Obj)}{σ:St}{H:Hp}{s:Shared}
theorem vH{A:Around}{scope:Scope}{clos:List (Str×Addr)}{N:List Str}{σ':St}(I:Inv X pins σ H s)(hA:A.frames=some X.stack)(hr:Room k A)
  (ho:s.heap.get? f=some (kla_obj "<lambda>" q params body scope clos pm c ctv)) (hcd:H c=some (gr c q)) (hbind:bindArgs (kla_fn "<lambda>" q params body scope clos pm (.ref c) ctv) ⟨[u],[]⟩=pure [(x,u)]) (hx:scope.names.lookup x=some .cell) (rv:aW v0 u)
  (hc:∀m,cellsFrom m scope.names clos=(x,m)::clos) (hc0:∀m,cellsFrom m scope.names []=[(x,m)])
  (hco:scope.isCoroutine=false) (hgen:scope.isGenerator=false) (hk:scope.kind= .function) (hcell:∀y∈scope.names,y.2= .cell->y.1=x) (hxc:clos.lookup x=none)
  (hin:∀x c,clos.lookup x=some c->X.env.cells.lookup x=some c) (hfree:∀x,scope.names.lookup x=some .free->∃c,clos.lookup x=some c)
  (hnames:∀ (i:Nat) (y:Str) (v:V),N[i]?=some y->σ'[i]?=some (some v)->(y=x/\v=v0)\/(scope.names.lookup y=some .free/\X.env.scope.names.lookup y=some .cell/\∃j:Nat,X.N[j]?=some y/\σ[j]?=some (some v)))
  (hlen:σ'.length=N.length) (hb:PE (fN X A N q scope f c ((x,s.heap.objs.size+1)::clos) s H) body t) (hq:t σ' H Q):
  wpAny (model X.prog X.w) A (call (.ref f) [u]) (CE X.stack X.prog X.w H s Q) (λ_ _=>False) s:=by
 obtain⟨hrec,_,_⟩:=I.hok c _ hcd;have lx:List.lookup x ((x,s.heap.objs.size+1)::clos)=some (s.heap.objs.size+1):=by simp[List.lookup]
 have ly:∀y d,List.lookup y ((x,s.heap.objs.size+1)::clos)=some d->(y=x/\d=s.heap.objs.size+1)\/(y≠x/\clos.lookup y=some d):=λy d h=>by
  rw[E6]at h;cases hyx:y==x with
  |true=>rw[hyx]at h;cases h;exact .inl ⟨HG hyx,rfl⟩
  |false=>rw[hyx]at h;exact .inr ⟨λz=>by rw[z]at hyx;simp at hyx,h⟩
 have lt:∀y d,clos.lookup y=some d->d<s.heap.objs.size:=λy d h=>by obtain⟨v,o,z1,_⟩:=I.cell y d (hin y d h);exact DF z1
 have lo:∀y d,clos.lookup y=some d->List.lookup y ((x,s.heap.objs.size+1)::clos)=some d:=λy d h=>by
  rw[E6];cases hyx:y==x with
  |true=>rw[HG hyx,hxc]at h;cases h
  |false=>exact h
 refine HW (Gq (R:=CR CX0 X.stack X.prog X.w H s Q E0) ?_ λr s' hq=> ?_)
 .refine kla_callFunE hr.depth ho rfl hco hgen rfl hrec ?_;rw[hbind];refine DA (rK hk hx (hc _) (hc0 _) λh₁ hns hcx hk₁=> ?_);refine⟨I.nolimit.keeps hk₁,?_⟩;have noA:∀b:Addr,b∉ (fN X A N q scope f c ((x,s.heap.objs.size+1)::clos) s H).ex:=λb z=>absurd (show b∈([]:List Addr)from z) (by simp);have J:Inv (fN X A N q scope f c ((x,s.heap.objs.size+1)::clos) s H) [] σ' H {s with heap:=h₁}:=by
   refine⟨⟨I.mod,hk,rfl,rfl,Dl _,λy z d h1 h2=> ?_,λy hy=> ?_,λx d h _=>(Dr h).elim,λ_=>hr.hd,Hg hA, .inr ⟨rfl,rfl⟩,λb z=>absurd z (noA b),I.bs,Du I.ok.bsz I.sz,λb _ _=>noA b,λb z=>absurd z (noA b),I.stack,I.stkFree⟩,
    rfl,I.bare,Un.kept hk₁,⟨_,hns,λi y v h1 h2 h3=> ?_⟩,λy d h=> ?_,I.hok.fresh (Dl _),λy d h=> ?_,λp hp=>absurd (show p∈([]:List (Addr×Obj))from hp) (by simp),I.hok.kept hk₁,hlen⟩
   .rcases ly y d h1 with ⟨e1,e2⟩|⟨e1,e2⟩<;>rcases ly z d h2 with ⟨e3,e4⟩|⟨e3,e4⟩
    .rw[e1,e3]
    .have:=lt z d e4;rw[e2]at this;exact absurd (Nat.lt_of_succ_lt this) (Eb _)
    .have:=lt y d e2;rw[e4]at this;exact absurd (Nat.lt_of_succ_lt this) (Eb _)
    .exact I.ok.inj y z d (hin y d e2) (hin z d e4)
   .have hy':scope.names.lookup y=some .cell\/scope.names.lookup y=some .free:=hy;rcases hy' with hy|hy
    .have:y=x:=hcell _ (Ed hy) rfl;subst this;exact⟨_,lx⟩
    .obtain⟨d,hd⟩:=hfree y hy;exact⟨d,lo y d hd⟩
   .rcases hnames i y v h1 h2 with ⟨rfl,rfl⟩|⟨k1,k2,j,e1,e2⟩
    .exact⟨u,rv, .inr ⟨.inl hx,_,lx,hcx⟩⟩
    .obtain⟨m,hm,hl⟩:=I.loc;obtain⟨u',ru,lk⟩:=hl j y v e1 e2 (.inr (.inl k2));refine⟨u',ru, .inr ⟨.inr k1,?_⟩⟩;rcases lk with ⟨z,_⟩|⟨_,d,e,z⟩
     .have z':X.env.scope.names.lookup y=some .local:=z;rw[k2]at z';cases z'
     .obtain⟨d',hd'⟩:=hfree y k1;have:=hin y d' hd';rw[e]at this;cases this;obtain⟨o,z1,z2⟩:=z;exact⟨d,lo y d hd',o,hk₁ _ _ z1,z2⟩
   .rcases ly y d h with ⟨e1,e2⟩|⟨e1,e2⟩
    .rw[e2];exact⟨_,hcx⟩
    .obtain⟨v,o,z1,z2⟩:=I.cell y d (hin y d e2);exact⟨v,o,hk₁ _ _ z1,z2⟩
   .rcases ly y d h with ⟨e1,e2⟩|⟨e1,e2⟩
    .rw[e2];exact I.hok.fresh (Gk _)
    .exact I.freeC y d (hin y d e2)
  show codeAny _ _ (.expr body (envX q scope s.heap.objs.size f (.ref c) ((x,s.heap.objs.size+1)::clos))) _ _;refine kla_codeExpr (Fl (hb [] _ σ' H Q J hq) (λu s' hu=> ?_) λ_ _ z=>z.elim);obtain⟨v,H',J',rv,qv⟩:=hu;exact⟨v,H',J'.os,J'.bare,J'.base,J'.hok,rv,qv⟩
 .cases r with
  |error e=>exact False.elim hq
  |ok fl=>
   cases fl with
   |ret u=>exact hq
   |next=>exact False.elim hq
   |brk=>exact False.elim hq
   |cont=>exact False.elim hq
end
structure uu(X:Cx)(params:Arguments)(body:Expr)(scope:Scope)(q x:Str)(fr:List Str)(idx:List Nat)(clos:List (Str×Addr)):Prop where
 dflt:defaultsOf params X.env=([],[])
 cl:closureFor scope X.env=pure clos
 loc:scope.names.lookup x=some .cell
 fre:∀y∈fr,scope.names.lookup y=some .free/\X.env.scope.names.lookup y=some .cell
 ix:idx.map (λj=>X.N[j]?)=fr.map some
 bind:∀ (c:Addr) (pm ctv u:Value),bindArgs (kla_fn "<lambda>" q params body scope clos pm (.ref c) ctv) ⟨[u],[]⟩=pure [(x,u)]
 co:scope.isCoroutine=false
 gen:scope.isGenerator=false
 kind:scope.kind= .function
 cell:∀y∈scope.names,y.2= .cell->y.1=x
 xc:clos.lookup x=none
 from1:∀m,cellsFrom m scope.names clos=(x,m)::clos
 from0:∀m,cellsFrom m scope.names []=[(x,m)]
 inn:∀p∈clos,X.env.cells.lookup p.1=some p.2
 has:∀y∈scope.names,y.2= .free->∃c,clos.lookup y.1=some c
theorem uu.call{X:Cx}{params:Arguments}{body:Expr}{scope:Scope}{q x:Str}{fr:List Str}{idx:List Nat}{clos:List (Str×Addr)}{pins:List (Addr×Obj)}{σ:St}{H:Hp}{s:Shared}{A:Around}{k:Nat}{f c:Addr}{pm ctv u:Value}{v:V}{tb:TE}{Q:VK}(L:uu X params body scope q x fr idx clos)
  (I:Inv X pins σ H s) (hA:A.frames=some X.stack) (hr:Room k A) (ho:s.heap.get? f=some (kla_obj "<lambda>" q params body scope clos pm c ctv)) (hcd:H c=some (gr c q)) (rv:aW v u)
  (hb:PE (fN X A (x::fr) q scope f c ((x,s.heap.objs.size+1)::clos) s H) body tb) (hq:tb (some v::idx.map λi=>σ.getD i none) H Q):
  wpAny (model X.prog X.w) A (call (.ref f) [u]) (CE X.stack X.prog X.w H s Q) (λ_ _=>False) s:=by
 have hl:idx.length=fr.length:=by have:=Es List.length L.ix;simpa using this
 refine vH (v0:=v) I hA hr ho hcd (L.bind c pm ctv u) L.loc rv L.from1 L.from0 L.co L.gen L.kind L.cell L.xc (λy d h=>L.inn _ (Ed h)) (λy h=>L.has _ (Ed h) rfl) (λi y w h1 h2=> ?_) ?_ hb hq
 .cases i with
  |zero=>
   have e1:x=y:=by simpa using h1
   have e2:v=w:=by simpa using h2
   exact .inl ⟨e1.symm,e2.symm⟩
  |succ i=>
   have h1':fr[i]?=some y:=by simpa using h1
   have h2':(idx.map λi=>σ.getD i none)[i]?=some (some w):=by simpa using h2
   obtain⟨k1,k2⟩:=L.fre y (Dv h1');refine .inr ⟨k1,k2,?_⟩;have hi:i<idx.length:=by rw[hl];exact(DB.mp h1').1
   have e3:(idx.map λj=>X.N[j]?)[i]?=(fr.map some)[i]?:=by rw[L.ix]
   rw[Dm,Dm,h1',Ds hi]at e3;rw[Dm,Ds hi]at h2';refine⟨idx[i],DS e3,?_⟩;have e4:σ.getD idx[i] none=some w:=DS h2';rw[Ee]at e4;cases z:σ[idx[i]]? with
   |none=>rw[z]at e4;cases e4
   |some w'=>rw[z]at e4;exact Es some e4
 .simp[hl]
theorem rz{X:Cx}{P c:Addr}{params:Arguments}{body:Expr}{scope:Scope}{lpos kpos p pos:Pos}{e:Expr}{te:TA}{tb:TE}{x q:Str}{fr:List Str}{idx:List Nat}{k:Nat}{clos:List (Str×Addr)}(L:uu X params body scope q x fr idx clos)
  (eq:q=X.env.qual++ "<lambda>") (hcode:X.env.code= .ref c) (C:CodeHd X.base c P) (BM:fS X.mg X.base) (hr:Room (k+1) X.A) (hc:X.calm=true) (hg:Gl X "min") (hm:X.mg "min"=none) (ha:PA X [e] te)
  (hb:∀ (f c':Addr) (s:Shared) (H:Hp),PE (fN X X.A.in1 (x::fr) q scope f c' ((x,s.heap.objs.size+1)::clos) s H) body tb) (he:starEach [e] X.env=(false,eval e X.env)::starEach [] X.env:=by rfl):
  PE X (.Call (.Name "min" p) [e] [⟨some "key", .Lambda params body scope lpos,kpos⟩] pos) (sJ X.K P lpos q te tb idx):=by
 intro pins s σ H Q I h;refine E3 (dz I hg hm FW ?_);refine Gu (by rw[he];rfl) rfl (evalArgs_kw2 rfl (thn (ha pos pins s σ H _ I h) λus s1 ⟨vs,H1,I1,rv,q1⟩=> ?_) he);obtain⟨l,ns,g,rfl,hl,hne,hT,hbody,done⟩:=q1;obtain⟨u,rfl,ru⟩:=eD rv;obtain rfl:u=Value.ref l:=ru;obtain⟨ps,hP⟩:=hT.tbl;show wpAny _ _ (evalAll [(do let v<-eval (.Lambda params body scope lpos) X.env;standAt pos;pure v)]) _ _ s1;refine GJ (Dj (ky I1 eq hT hcode C BM L.dflt L.cl λf c' pm ctv h' tk H' I' sB tS hcx hf0 hsz hobj=>Dj (FX (DA (GQ ?_)))));show wpAny _ _ (call (.builtin "min") [.ref l] [(Str.ofString "key", .ref f)]) _ _ _;refine t8 (ko:=[(f,kla_obj "<lambda>" q params body scope clos pm c' ctv)]) (g:=g) I' hc ((ba.n sB hP).seq hl) hne (λp hp=> ?_) (λj z t Hj sj hz J sm ko=> ?_) λM H2 h1 h2 sm=>done M H2 (sB.trans (ba.of sm)) (tS.same sm) h1 h2
 .rw[DN.mp hp];exact⟨hobj,hf0,I1.nostk hsz⟩
 .exact L.call (v:= .int z) J J.ok.frames hr.in1 (ko _ DE) (sm _ _ hcx) ⟨t,rfl⟩ (hb f c' sj Hj) (hbody z Hj (Dv hz) (sB.trans (ba.of sm)))
end L2
namespace L2
open PySem PySem.Spec PyProof.Rows PySem.W
def bK(ps:List (Int×V)):List (Key×V):=ps.map λp=>(Sum.inl p.1,p.2)
theorem o9{K:Type}[DecidableEq K]{prog:Program}{w:World}{knd:PySem.KeyKind prog w K}:∀ {es:List DictEntry} {kvs:List (K×Value)},Pairs knd es kvs->∀ {i:Nat} {e:DictEntry},es[i]?=some e->∃kv,kvs[i]?=some kv/\knd.is kv.1 e.key=true
 |_,_, .nil,i,e,h=>by simp at h
 |_,_, .cons h1 h2 t,0,e,h=>by simp only[Il,Option.some.injEq]at h;subst h;exact⟨_,rfl,h1⟩
 |_,_, .cons h1 h2 t,i+1,e,h=>by simp only[Im]at h⊢;exact o9 t h
def ItK(d:Addr)(o:Obj)(ns:List Int):It:=
 ⟨λi H=>(∃u,H d=some (.frz o u))/\i<ns.length,λi H x H'=>H'=H/\∃z,ns[i]?=some z/\x= .int z,λi H=>(∃u,H d=some (.frz o u))/\ns.length<=i⟩
theorem qT{P:Program}{w:World}{K:PySem.W.Frag}{tg:Expr}(d it:Addr){o:Obj}{ns:List Int}{es:Array DictEntry}{ep:Nat}(hdat:o.data= .dict es ep)(hsz:es.size=ns.length)(hks:∀ (i:Nat) (z:Int) (e:DictEntry),ns[i]?=some z->es[i]?=some e->∃t,e.key= .int z t):
  Turn P w K tg (ItK d o ns) [it] it (λi h=>h.IsKeyIter it d i ns.length ep) where
 mem:=by simp
 obj:=λi h st b hb=>by
  have e:b=it:=by simpa using hb
  subst e;obtain⟨ob,e,c,dd⟩:=st;exact⟨ob,e,λv z=>by rw[dd]at z;cases z⟩
 keep:=λi h h' st k=>st.at λob e=>k it (by simp) ob e
 item:=by
  intro X hP hw hK hc i pins s σ H E I hf st hg;subst hP hw hK;obtain⟨⟨u,hd⟩,hi⟩:=hg;obtain⟨hob,_⟩:=(show br X.prog X.w H s.heap d (.frz o u)from I.hok d _ hd);obtain⟨f0,f1,f2,f3,f4,f5⟩:=hf it (by simp);have hb:ns[i]?=some ns[i]:=Ds hi;have hl2:i<es.size:=by lia
  obtain⟨t,ht⟩:=hks i _ es[i] hb (Fc hl2);refine xm (kk:= .int ns[i] t) st hob hdat hsz hi (λe he=> ?_) λh' st' sb=> ?_
  .rw[Fc hl2]at he;rw[<-DS he];exact ht
  have I1:Inv X pins σ H {s with heap:=h'}:=I.turned (t':=s.toks) (λb o hb e=>(sb.2 b hb).trans e) f0 f1 f3 f4 f5;obtain⟨oi,e,c,dd⟩:=id st';exact⟨_,rfl,uh (s:={s with heap:=h'}) e c dd (by decide) ⟨.int ns[i],H,I1,⟨t,rfl⟩,⟨rfl,_,hb,rfl⟩,st',λb hb=>(hf b hb).1⟩⟩
 done:=by intro X hP hw hK hc i pins s σ H E I hf st hg;subst hP hw hK;obtain⟨⟨u,hd⟩,hi⟩:=hg;obtain⟨hob,_⟩:=(show br X.prog X.w H s.heap d (.frz o u)from I.hok d _ hd);obtain⟨f0,f1,f2,f3,f4,f5⟩:=hf it (by simp);refine zV (I.ok.hd hc) st hob hdat hsz hi λh' eb=>⟨rfl,?_⟩;exact I.turned (t':=s.toks) (λb o hb e=>eb b o hb e) f0 f1 f3 f4 f5
 self:=λA i s Q E st h=>wpAny_pyIter_keyiter st h
def BY(td:TE):TI:=λσ H R=>td σ H λx H1=>∃ (d:Addr) (ps:List (Int×V)),x= .ref d/\H1 d=some (.dK (bK ps))/\∀o:Obj,R (ItK d o (ps.map (·.1))) (upd H1 d (.frz o (.dK (bK ps))))
theorem xw(hl:PE X l td):PI X tg l (BY td):=by
 intro pins s σ H R I h;refine thn (hl pins s σ H _ I h) λv s1 ⟨x,H1,I1,r1,q1⟩=> ?_;obtain⟨d,ps,e,hd,q⟩:=q1;subst e;cases r1;obtain⟨z,y,vs,r,o,es,ep,h1,h2,h3,hko,h4,h5⟩:=(show br X.prog X.w H1 s1.heap d (.dK (bK ps))from I1.hok d _ hd);have hlen:(bK ps).length=vs.length:=Gy r;have hps:(bK ps).length=ps.length:=by unfold bK;rw[Di]
 have hsz:es.size=vs.length:=by rw[<-EL];exact h4.length
 have kn:∀ (i:Nat) (z:Int) (e:DictEntry),(ps.map (·.1))[i]?=some z->es[i]?=some e->∃t,e.key= .int z t:=λi z e hz he=>by
  rw[Dm]at hz;cases hp:ps[i]? with
  |none=>rw[hp]at hz;cases hz
  |some p=>
   rw[hp]at hz;cases hz;obtain⟨kv,g1,g2⟩:=o9 h4 (show es.toList[i]?=some e by rw[Fe];exact he);have hkv:(bK ps)[i]?=some (Sum.inl p.1,p.2):=by unfold bK;rw[Dm,hp];rfl
   obtain⟨kv',g3,g4⟩:=iD r hkv;rw[g1]at g3;cases g3;have g5:i9 kv.1 e.key=true:=g2;rw[<-g4.1]at g5;rcases bz g5 with ⟨j,t,e1,e2⟩|⟨j,t,e1,e2⟩
   .cases e1;exact⟨t,e2⟩
   .cases e1
 have hT:s1.TypeIs (.ref d) "dict":=⟨o,h1,h2.1⟩;refine wpAny_pyIter_slot hT F.slot_dict_iter (Ih F.slot_dict_iter hT F.entry_dict_iter ?_ (F.args_dict_iter_1 _));unfold Builtin.«dict.__iter__»;refine Dj (show wpAny _ _ (Builtin.Dict.dictSlotNone _ _) _ _ _ from ?_);unfold Builtin.Dict.dictSlotNone;refine Dj (wpAny_notOrdered_dict hT (show wpAny _ _ (pure (Value.ref d)) _ _ _ from DA ?_));show wpAny _ _ (Builtin.Dict.showsAll d>>=_) _ _ s1;unfold Builtin.Dict.showsAll;rw[Dt (by rw[y];exact Dr)];refine Dj (DA (Dj (HS h1 h3 (Dj (Ir h1 h3 ?_)))));refine Dj (GP (DA ⟨_,rfl,"dict_keyiterator",_,⟨_,DP _ rfl,rfl⟩,Fn.lookup,?_⟩));have If:Inv X pins σ (upd H1 d (.frz o (.dK (bK ps)))) {s1 with toks:=s1.toks}:=I1.write (x:=d) (e:=d) (t':=s1.toks) (by rw[hd];exact E5) (.inl rfl) (λb u _ q=>q) ⟨o,h1⟩ ⟨h1,z,y,vs,r,o,es,ep,h1,h2,h3,hko,h4,h5⟩;have q':=q o;have hn:upd H1 d (.frz o (.dK (bK ps))) s1.heap.objs.size=none:=If.hok.fresh (Dl _);have fin:PIE X pins σ tg R (.ref s1.heap.objs.size) {s1 with heap:=s1.heap.push {cls:= .type "dict_keyiterator",data:= .fields #[.ref d, .int 0 0, .int (ps.map (·.1)).length 0, .int ep 0]}}:=by
  refine⟨s1.heap.objs.size,[s1.heap.objs.size],_,_,_,rfl,If.kept (t':=s1.toks) λb o e=>Dx _ e,qT d _ h3 (by rw[Di];lia) kn,⟨_,DP _ rfl,rfl,rfl⟩,λb hb=> ?_,q'⟩;have e:b=s1.heap.objs.size:=by simpa using hb
  subst e;exact If.fpOk (Dl _) hn
 have hsz2:es.size=ps.length:=by lia
 simpa [rawInt,hsz2]using fin
theorem vT{d:Addr}{o:Obj}{ns:List Int}{g:TG}{tb:TS}{D:Ends}{σ:St}{H:Hp}(Pv:Nat->St->Hp->Prop)(h0:Pv 0 σ H)(hl:∀i σ H,Pv i σ H->∃u,H d=some (.frz o u))
  (hs:∀i z σ H,ns[i]?=some z->Pv i σ H->g (.int z) σ H λσ2 H2=>tb {D with nx:=Pv (i+1),ct:=Pv (i+1),bk:=D.nx} σ2 H2) (hd:∀σ H,Pv ns.length σ H->D.nx σ H):
  ∃W:Nat->Nat->St->Hp->Prop,(∃m,W 0 m σ H)/\∀i m σ H,W i m σ H->
   ((ItK d o ns).stop i H/\D.nx σ H)\/((ItK d o ns).go i H/\∃N:St->Hp->Prop,(∀σ' H',N σ' H'->∃m',m'<m/\W (i+1) m' σ' H')/\∀x H',(ItK d o ns).yld i H x H'->g x σ H' λσ2 H2=>tb {D with nx:=N,ct:=N,bk:=D.nx} σ2 H2):=by
 refine⟨λi m σ H=>m=ns.length-i/\i<=ns.length/\Pv i σ H,⟨ns.length,by simp,DV _,h0⟩,?_⟩;rintro i m σ H ⟨rfl,hi,p⟩;have q:=hl i σ H p;by_cases hlt:i<ns.length
 .refine .inr ⟨⟨q,hlt⟩,Pv (i+1),λσ' H' p'=>⟨ns.length- (i+1),Eh hlt (D9 _),rfl,hlt,p'⟩,λx H' y=> ?_⟩;obtain⟨e,b,hb,ex⟩:=y;subst e ex;exact hs i b σ _ hb p
 .have e:i=ns.length:=Ew hi (Ef hlt);subst e;exact .inl ⟨⟨q,Dl _⟩,hd σ H p⟩
def z5:List V->Hp->VK->Prop:=λxs H Q=>∃ (d:Addr) (ps:List (Int×V)),xs=[.ref d]/\H d=some (.dK (bK ps))/\∀l,H l=none->Q (.ref l) (upd H l (.lst ((ps.map (·.1)).map V.int)))
theorem qd{X:Cx}(hc:X.calm=true):bX X (.type "list") z5:=by
 intro pins s σ H xs us Q I rv h;obtain⟨d,ps,rfl,hd,q⟩:=h;obtain⟨u,rfl,ru⟩:=eD rv;cases ru;obtain⟨z,hds,vs,rel,dd⟩:=yY I.hok hd;obtain⟨ep,hat⟩:=dd.dictAt;have hlen:(bK ps).length=vs.length:=Gy rel;have hps:(bK ps).length=ps.length:=by unfold bK;rw[Di]
 refine kdl_call (kdl_dict (knd:=bO X.prog X.w) (kvs:=vs) (ep:=ep) hds) (I.ok.hd hc) hat (by lia) λh' tk acc c hk hD hacc=> ?_;have hv:Vals ((ps.map (·.1)).map V.int) acc.toList:=by
  have go:∀ (l:List Int) (us:List Value),l.length=us.length->(∀ (i:Nat) (z:Int) (u:Value),l[i]?=some z->us[i]?=some u->∃t,u= .int z t)->Vals (l.map V.int) us:=λl=>by
   induction l with
   |nil=>intro us hl _;have:us=[]:=Hr hl.symm;subst this;exact .nil
   |cons z l ih=>
    intro us hl hu;cases us with
    |nil=>cases hl
    |cons u us=>
     obtain⟨t,e⟩:=hu 0 z u rfl rfl;exact .cons ⟨t,e⟩ (ih us (Ig hl) λi z' u' h1 h2=>hu (i+1) z' u' (by simpa using h1) (by simpa using h2))
  refine go _ _ (by have h1:acc.toList.length=acc.size:=EL;rw[Di,h1,hacc.1];lia) λi z u h1 h2=> ?_;obtain⟨k,x,g1,g2⟩:=hacc.2 i u (by rw[<-Fe];exact h2);rw[Dm]at h1;cases hp:ps[i]? with
  |none=>rw[hp]at h1;cases h1
  |some p=>
   rw[hp]at h1;cases h1;have hkv:(bK ps)[i]?=some (Sum.inl p.1,p.2):=by unfold bK;rw[Dm,hp];rfl
   obtain⟨kv',g3,g4⟩:=iD rel hkv;rw[g1]at g3;cases g3;have g5:i9 k u=true:=g2;have g6:(Sum.inl p.1:Key)=k:=g4.1;rw[<-g6]at g5;rcases bz g5 with ⟨j,t,e1,e2⟩|⟨j,t,e1,e2⟩
   .cases e1;exact⟨t,e2⟩
   .cases e1
 refine⟨.ref s.heap.objs.size,_,I.laid (t':=tk) hk (Dl _) (show br X.prog X.w _ _ _ (.lst _)from⟨?_,acc.toList,c,hv,?_⟩),rfl,q _ (I.hok.fresh (Dl _))⟩
 .rw[Di,Di];lia
 .rw[Hi];exact hD
theorem wF(ps:List (Int×V))(z:Int):gv (bK ps) (Sum.inl z)=(ps.find? λp=>decide (p.1=z)).map (·.2):=by
 unfold gv bK;rw[List.find?_map];have:(λkv:Key×V=>decide (kv.1=Sum.inl z))∘(λp:Int×V=>((Sum.inl p.1:Key),p.2))=λp=>decide (p.1=z):=by funext p;show decide ((Sum.inl p.1:Key)=Sum.inl z)=_;rw[rZ];by_cases e:p.1=z<;>simp[e]
 rw[this];cases ps.find? λp=>decide (p.1=z)<;>rfl
def jS(ps:List (Int×V))(z:Int)(v:V):List (Int×V):=if(ps.any λp=>decide (p.1=z))=true then ps.map (λp=>if p.1=z then(p.1,v)else p)else ps++[(z,v)]
theorem Br(ps:List (Int×V))(z:Int)(v:V):fw (bK ps) (Sum.inl z) v=bK (jS ps z v):=by
 unfold fw jS;have e1:((bK ps).any λkv=>decide (kv.1=Sum.inl z))=ps.any λp=>decide (p.1=z):=by unfold bK;rw[List.any_map];congr 1;funext p;show decide ((Sum.inl p.1:Key)=Sum.inl z)=_;rw[rZ];by_cases e:p.1=z<;>simp[e]
 rw[e1];split
 .unfold bK;rw[Ez,Ez];refine EV λp _=> ?_;show(if(Sum.inl p.1:Key)=Sum.inl z then((Sum.inl p.1:Key),v)else(Sum.inl p.1,p.2))=((Sum.inl (if p.1=z then(p.1,v)else p).1:Key),(if p.1=z then(p.1,v)else p).2);by_cases e:p.1=z
  .rw[Dp e,Dp (by rw[e])]
  .rw[Dt e,Dt λq=>e (Sum.inl.inj q)]
 .unfold bK;rw[Ei];rfl
theorem yh(h:p∈jS ps z v):p∈ps\/p=(z,v):=by
 unfold jS at h;split at h
 .obtain⟨q,hq,rfl⟩:=DL.mp h;split
  .rename_i e;exact .inr (by rw[e])
  .exact .inl hq
 .rcases DW.mp h with h|h
  .exact .inl h
  .exact .inr (by simpa using h)
theorem yF(h:y=z\/∃p∈ps,p.1=y):∃p∈jS ps z v,p.1=y:=by
 unfold jS;split
 .rename_i ha;rcases h with rfl|⟨p,hp,rfl⟩
  .obtain⟨p,hp,e⟩:=GW.mp ha;refine⟨_,DL.mpr ⟨p,hp,rfl⟩,?_⟩;have:=DY e;rw[Dp this];exact this
  .refine⟨_,DL.mpr ⟨p,hp,rfl⟩,?_⟩;split<;>rfl
 .rcases h with rfl|⟨p,hp,rfl⟩
  .exact⟨_,D7 _ DE,rfl⟩
  .exact⟨p,Ep _ hp,rfl⟩
end L2
namespace L2
open PySem PySem.Spec PyProof.Rows PySem.W
theorem gY{K:PySem.W.Frag}{a:Addr}{xs:List V}{g:TG}{tc:TT}{te:TE}{nv:Nat}{fr:List Nat}{σ:St}{H:Hp}{Q:VK}(Rl:Nat->V->Hp->Prop)(hRl:∀i y H H',Same H H'->Rl i y H->Rl i y H')(ha:SqL K H a xs)(hn:xs.length<=sizeLine)
  (hs:∀ (i:Nat) (x:V) (vs:St) (D:Addr) (H':Hp) (R:V->St->Hp->Prop) (S:St->Hp->Prop),xs[i]?=some x->vs.length=nv->Same H H'->(∃l,H' D=some (.lst l))->
   (∀y vs' H'',Rl i y (hide H'' D)->vs'.length=nv->Same H' H''->R y (vs'++fr.map λj=>(σ[j]?).join) H'')->
    g x (vs++fr.map λj=>(σ[j]?).join) H' λσ2 H3=>tc σ2 H3 λb H4=>if b=true then te σ2 H4 λy H5=>R y σ2 H5 else S σ2 H4)
  (hd:∀D H' (ys:List V),H D=none->Same H H'->H' D=some (.lst ys)->ys.length=xs.length->(∀ (j:Nat) (y:V),ys[j]?=some y->Rl j y (hide H' D))->Q (.ref D) H'):LCW (Itl K a) g tc te nv fr σ H Q:=by
 intro D hD;refine⟨λi m σ' H'=>m=xs.length-i/\i<=xs.length/\∃ (vs:St) (ys:List V),vs.length=nv/\σ'=vs++(fr.map λj=>(σ[j]?).join)/\Same H H'/\H' D=some (.lst ys)/\ys.length=i/\(∀ (j:Nat) (y:V),ys[j]?=some y->Rl j y (hide H' D)),⟨xs.length,by simp,DV _,List.replicate nv none,[],by simp,rfl,Same.new hD,ag,rfl,by simp⟩,?_⟩;rintro i m σ' H' ⟨rfl,hi,vs,ys,hv,rfl,sm,hD',hl,hz⟩;have ha':SqL K H' a xs:=sm.seq ha;by_cases hlt:i<xs.length
 .refine .inr ⟨⟨xs,xs[i],ha',by simp[hlt]⟩,λσ'' H''=>∃ (vs:St) (ys:List V),vs.length=nv/\σ''=vs++(fr.map λj=>(σ[j]?).join)/\Same H H''/\H'' D=some (.lst ys)/\ys.length=i+1/\(∀ (j:Nat) (y:V),ys[j]?=some y->Rl j y (hide H'' D)),λσ'' H'' q=>⟨xs.length- (i+1),Eh hlt (D9 _),rfl,hlt,q⟩,λx H2 y=> ?_⟩;obtain⟨e1,e2⟩:=y;subst e1;have hx:=e2 xs ha';refine hs i x vs D _ (λy σ2 H5=>∃xs',H5 D=some (.lst xs')/\xs'.length<sizeLine/\∃ (vs:St) (ys:List V),vs.length=nv/\σ2=vs++(fr.map λj=>(σ[j]?).join)/\Same H (upd H5 D (.lst (xs'++[y])))/\upd H5 D (.lst (xs'++[y])) D=some (.lst ys)/\ys.length=i+1/\(∀ (j:Nat) (z:V),ys[j]?=some z->Rl j z (hide (upd H5 D (.lst (xs'++[y]))) D))) _ hx hv sm ⟨_,hD'⟩ (λy vs' H'' pz hv' sm'=> ?_);have hD2:=sm' D _ hD';refine⟨_,hD2,by rw[hl];exact Dq hlt hn,vs',ys++[y],hv',rfl,(sm.trans sm').upd hD,ag,by rw[DK,hl];rfl,λj z hz'=> ?_⟩;rw[hE];by_cases hj:j<ys.length
  .rw[Eg hj]at hz';exact hRl _ _ _ _ (fX sm') (hz j z hz')
  .rw[Ek (by lia)]at hz';have hj2:j-ys.length=0:=by
    cases e:j-ys.length with
    |zero=>rfl
    |succ n=>rw[e]at hz';simp at hz'
   rw[hj2]at hz';cases hz';have ej:j=i:=by lia
   subst ej;exact pz
 .have e:i=xs.length:=Ew hi (Ef hlt);subst e;exact .inl ⟨⟨xs,ha',Dl _⟩,hd D H' ys hD sm hD' hl hz⟩
end L2
namespace L2
open PySem PySem.Spec PyProof.Rows
theorem sc_of{N P:List Str}{sc:Scope}(a:sc.kind= .function:=by rfl)(b:sc.isCoroutine=false:=by rfl)(c:sc.isGenerator=false:=by rfl)(d:N.Nodup:=by decide+kernel)(e:N.take P.length=P:=by rfl)(f:∀x∈P,sc.names.lookup x=some .local\/sc.names.lookup x=some .cell:=by decide+kernel)(g:∀y∈sc.names,y.2≠ .free:=by decide+kernel):aB N P sc:=⟨a,b,c,d,e,f,g⟩
section
variable{X:Cx}{x:Str}{ps:List Str}{j k:Nat}{sp:Sp}{e a b tg:Expr}{es:List Expr}{t:TA}{p pos:Pos}{ta tb te:TE}
theorem wcal(C:Cal X.prog X.w X.K X.mg X.base j x ps sp)(hr:Room k X.A)(ha:PA X (e::es) t)(hjk:j<=k:=by first|decide|lia)(hg:Gl X x:=by rfl)(hdb:(x==("__debug__":Str))=false:=by decide)
  (he:starEach (e::es) X.env=(false,eval e X.env)::starEach es X.env:=by rfl) (hpl:(backTo pos (starEach es X.env)).any (·.1)=false:=by rfl):PE X (.Call (.Name x p) (e::es) [] pos) (wW sp [] E0 t):=BD C hr hjk hg ha hdb he hpl
theorem wset(i:Nat){pos':Pos}(hN:X.N.Nodup)(he:PE X e te)(hi:X.N[i]?=some x:=by rfl)(hx:Loc X.env.scope x:=by first|exact HE rfl|exact Or.inr rfl)(hs:swapsWith e (some (.Name x pos')) pos.line X.env=pure false:=by rfl)(hf:X.fn x=true\/X.env.scope.names.lookup x=some .local:=by first|exact .inl rfl|exact .inr rfl|assumption):PS X (.Assign [.Name x pos'] e pos) (uM te (a8 i)):=xp hN hi hx he hs hf
theorem wname(i:Nat)(hN:X.N.Nodup)(hi:X.N[i]?=some x:=by rfl)(hx:Loc X.env.scope x:=by first|exact HE rfl|exact Or.inr rfl)(hf:X.fn x=true\/X.env.scope.names.lookup x=some .local:=by first|exact .inl rfl|exact .inr rfl|assumption):PG X (.Name x pos) (a8 i):=tW hN hi hx hf
theorem bb(K:PySem.W.Frag)(ha:PE X a ta)(hb:PE X b tb)(h:X.K=K:=by rfl)(hs:ow b:=by intro _ _;rfl):PE X (.Subscript a b pos) (tOp (z6 K) ta tb):=xB (pN h) ha hb hs
theorem gu(K:PySem.W.Frag)(ha:PE X a ta)(hb:PE X b tb)(h:X.K=K:=by rfl)(hs:ow b:=by intro _ _;rfl):PE X (.Subscript a b pos) (tOp (Bq K) ta tb):=xB (AG h) ha hb hs
theorem wlen(K:PySem.W.Frag)(hm:X.mg "len"=none)(ha:PE X e te)(h:X.K=K:=by rfl)(hg:Gl X "len":=by rfl)(he:starEach [e] X.env=(false,eval e X.env)::starEach [] X.env:=by rfl)(hpl:(backTo pos (starEach [] X.env)).any (·.1)=false:=by rfl):PE X (.Call (.Name "len" p) [e] [] pos) (tCB (AX K) (wV te zK)):=
 bW (lK h) hg hm PySem.boot_len (aa ha ah he) (by decide) (by decide) he hpl
theorem wrng(hm:X.mg "range"=none)(ha:PE X a ta)(hg:Gl X "range":=by rfl)(hs:starEach [a] X.env=[(false,eval a X.env)]:=by rfl)(he:starEach [a] X.env=(false,eval a X.env)::starEach [] X.env:=by rfl):PI X tg (.Call (.Name "range" p) [a] [] pos) (A2 (wV ta zK)):=uY hg hm (aa ha ah he) hs
theorem wil(K:PySem.W.Frag)(hl:PE X e te)(h:X.K=K:=by rfl):PI X tg e (yJ K te):=xv h hl
theorem wit(K:PySem.W.Frag)(hl:PE X e te)(h:X.K=K:=by rfl):PI X tg e (BX K te):=Af h hl
theorem wfor{body:List Stmt}{wi:TI}{g:TG}{tb:TS}(hi:PI X tg e wi)(hg:PG X tg g)(hb:PSs X body tb)(hp:PassesOwn (model X.prog X.w) X.A X.env X.xe:=by exact PassesOwn.never)(hc:X.calm=true:=by rfl)(hs:∀x,foldedSetIterable e X.env x=pure x:=by intro _;rfl):PS X (.For tg e body [] pos) (Cm wi g tb):=Bs hp hc hi hg hb hs
theorem wpt{op:CmpOp}{r:R2}(ho:OpR X (compareOp op) r)(ha:PE X a ta)(hb:PE X b tb)(hm:behindInMarks op b=false:=by exact nomark _):PT X (.Compare a [op] [b] pos) (wQ (tOp r ta tb)):=z9 ho ha hb hm
theorem wpe{op:CmpOp}{r:R2}(ho:OpR X (compareOp op) r)(ha:PE X a ta)(hb:PE X b tb)(hm:behindInMarks op b=false:=by exact nomark _):PE X (.Compare a [op] [b] pos) (tOp r ta tb):=tY ho ha hb hm
theorem wfld(K:PySem.W.Frag){f:Str}(he:PE X e ta)(h:X.K=K:=by rfl)(hb:attributeBase e f X.env (eval e X.env)=eval e X.env:=by rfl):PE X (.Attribute e f pos) (Bd K ta f):=Ak h he hb
theorem wsf(K:PySem.W.Frag){f:Str}{pos':Pos}(ha:PE X a ta)(hv:PE X b tb)(h:X.K=K:=by rfl)(hs:swapsWith b (some (.Attribute a f pos')) pos.line X.env=pure false:=by rfl):PS X (.Assign [.Attribute a f pos'] b pos) (Bl K ta tb f):=Aa h ha hv hs
end
section
variable{X:Cx}{elt target iter:Expr}{ifs:List Expr}{sc:Scope}{pos:Pos}{wi:TI}{g:TG}{tc:TT}{te:TE}
theorem wnC(i:Nat){x:Str}{N N':List Str}{s₃:Shared}{H₃:Hp}{fp:List Addr}{pins:List (Addr×Obj)}(hN:(N++N').Nodup:=by decide+kernel)(hi:(N++N')[i]?=some x:=by rfl)(hx:Loc (bw X (N++N') sc s₃ H₃ fp pins).env.scope x:=by first|exact HE rfl|exact Or.inr rfl)(hf:(bw X (N++N') sc s₃ H₃ fp pins).fn x=true\/(bw X (N++N') sc s₃ H₃ fp pins).env.scope.names.lookup x=some .local:=by first|exact .inl rfl|exact .inr rfl|assumption):PG (bw X (N++N') sc s₃ H₃ fp pins) (.Name x pos) (a8 i):=tW hN hi hx hf
theorem wlc(vars frn:List Str)(fr:List Nat)(hi:PI X target iter wi)(hg:∀ {s₃ H₃ fp pins},PG (bw X (vars++frn) sc s₃ H₃ fp pins) target g)(ht:∀ {s₃ H₃ fp pins},PTs (bw X (vars++frn) sc s₃ H₃ fp pins) ifs tc)(he:∀ {s₃ H₃ fp pins},PE (bw X (vars++frn) sc s₃ H₃ fp pins) elt te)(hc:X.calm=true:=by rfl)
  (hfk0:sc.names.all (λy=> !(y.2== .free)||(X.env.kindOf y.1==some .cell||X.env.kindOf y.1==some .free))=true:=by rfl) (hno:sc.names.all (λy=> !(y.2== .cell)|| !(frn.contains y.1))=true:=by rfl) (hkind:sc.kind= .function:=by rfl) (hnames0:sc.names.all (λy=> !(y.2== .local)||(sc.names.lookup y.1==some .local))=true:=by rfl)
  (hfr:jm X sc fr frn:=by repeat (first|exact E5|refine⟨⟨by rfl,HE (by rfl),HE (by rfl)⟩,?_⟩)) (hs:∀x,foldedSetIterable iter X.env x=pure x:=by intro _;rfl):PE X (.ListComp elt [⟨target,iter,ifs,0⟩] sc pos) (tLC wi g tc te vars.length fr):=BB hc hfk0 hno hkind hnames0 hfr hi (λ_ _ _ _=>hg) (λ_ _ _ _=>ht) (λ_ _ _ _=>he) hs
theorem wls(i:Nat){x:Str}{px spos:Pos}(hN:X.N.Nodup)(vars frn:List Str)(fr:List Nat)(hi:PI X target iter wi)(hg:∀ {s₃ H₃ fp pins},PG (bw X (vars++frn) sc s₃ H₃ fp pins) target g)(ht:∀ {s₃ H₃ fp pins},PTs (bw X (vars++frn) sc s₃ H₃ fp pins) ifs tc)(he:∀ {s₃ H₃ fp pins},PE (bw X (vars++frn) sc s₃ H₃ fp pins) elt te)(hi0:X.N[i]?=some x:=by rfl)(hx:X.env.kindOf x=some .local:=by rfl)(hc:X.calm=true:=by rfl)
  (hfk0:sc.names.all (λy=> !(y.2== .free)||(X.env.kindOf y.1==some .cell||X.env.kindOf y.1==some .free))=true:=by rfl) (hno:sc.names.all (λy=> !(y.2== .cell)|| !(frn.contains y.1))=true:=by rfl) (hkind:sc.kind= .function:=by rfl) (hnames0:sc.names.all (λy=> !(y.2== .local)||(sc.names.lookup y.1==some .local))=true:=by rfl)
  (hfr:jm X sc fr frn:=by repeat (first|exact E5|refine⟨⟨by rfl,HE (by rfl),HE (by rfl)⟩,?_⟩)) (hsw:swapsWith (.ListComp elt [⟨target,iter,ifs,0⟩] sc pos) (some (.Name x px)) spos.line X.env=pure true:=by rfl)
  (hs:∀x,foldedSetIterable iter X.env x=pure x:=by intro _;rfl):PS X (.Assign [.Name x px] (.ListComp elt [⟨target,iter,ifs,0⟩] sc pos) spos) (uM (tLC wi g tc te vars.length fr) (a8 i)):=uV hN hi0 hx hc hfk0 hno hkind hnames0 hfr hi (λ_ _ _ _=>hg) (λ_ _ _ _=>ht) (λ_ _ _ _=>he) hsw hs
end
end L2
namespace Bh
def bits(n:Nat):List Int:=((List.range 8).filter n.testBit).map λ(k:Nat)=>(k:Int)
theorem eO{n:Nat}:z∈bits n↔∃k:Nat,k<8/\n.testBit k=true/\z=k:=by
 unfold bits;simp only[DL,Fb,DT];constructor
 .rintro⟨k,⟨h1,h2⟩,rfl⟩;exact⟨k,h1,h2,rfl⟩
 .rintro⟨k,h1,h2,rfl⟩;exact⟨k,⟨h1,h2⟩,rfl⟩
theorem kO(h:z∈bits n):0<=z/\z<8:=by obtain⟨k,h1,_,rfl⟩:=eO.mp h;lia
theorem dt(n:Nat):(bits n).length<=8:=by unfold bits;rw[Di];exact Du (FA _ _) (by simp)
theorem B7(hn:n<256):n&&&m<256:=Dw Hm hn
def zR(ns:List Int):Nat:=ns.foldl (λs t=>s|||2^t.toNat) 0
theorem tQ:∀ (ns:List Int) (s k:Nat),(∀z∈ns,0<=z)->((ns.foldl (λs (t:Int)=>s|||2^t.toNat) s).testBit k=true↔s.testBit k=true\/(k:Int)∈ns)
 | [],s,k,_=>by simp
 |z::r,s,k,h=>by
  rw[EG,tQ r _ k (λy hy=>h y (DC _ hy)),DX,ET,FL,Dz,F4];have hz:=h z DE;have:z.toNat=k↔(k:Int)=z:=by lia
  rw[this,or_assoc]
theorem d7{n k:Nat}:n.testBit k=decide (n/2^k % 2=1):=GX
theorem zl:∀n:Nat,n<256->(List.range (if n=0 then 0 else n.log2+1)).filter n.testBit=(List.range 8).filter n.testBit:=by decide+kernel
end Bh
namespace Bh
def picks(p:Nat->Int->Bool):Nat->List Int->List Int
 |_,[]=>[]
 |i,z::r=>if p i z=true then z::picks p (i+1) r else picks p (i+1) r
theorem md{p:Nat->Int->Bool}:∀ {hs:List Int} {i:Nat} {y:Int},y∈picks p i hs↔∃ (j:Nat),hs[j]?=some y/\p (i+j) y=true
 | [],i,y=>by simp[picks]
 |x::r,i,y=>by
  have ih:= @md p r (i+1) y;have key:(∃ (j:Nat),(x::r)[j]?=some y/\p (i+j) y=true)↔(p i x=true/\y=x)\/∃ (j:Nat),r[j]?=some y/\p (i+1+j) y=true:=by
   constructor
   .rintro⟨j,h1,h2⟩;cases j with
    |zero=>
     have:x=y:=by simpa using h1
     subst this;exact .inl ⟨h2,rfl⟩
    |succ j=>exact .inr ⟨j,by simpa using h1,by rw[show i+1+j=i+(j+1) by lia];exact h2⟩
   .rintro(⟨h1,h2⟩|⟨j,h1,h2⟩)
    .subst h2;exact⟨0,rfl,h1⟩
    .exact⟨j+1,by simpa using h1,by rw[show i+(j+1)=i+1+j by lia];exact h2⟩
  rw[key,picks];split
  .rename_i hp;rw[Dz,ih];constructor
   .rintro(h|h)
    .exact .inl ⟨hp,h⟩
    .exact .inr h
   .rintro(⟨_,h⟩|h)
    .exact .inl h
    .exact .inr h
  .rename_i hp;rw[ih];constructor
   .intro h;exact .inr h
   .rintro(⟨h,_⟩|h)
    .exact absurd h hp
    .exact h
theorem iC:∀ (hs:List Int) (i:Nat),(picks p i hs).Sublist hs
 | [],_=>List.Sublist.slnil
 |x::r,i=>by
  rw[picks];split
  .exact(iC r (i+1)).cons_cons x
  .exact(iC r (i+1)).cons x
def bG(s h:Nat):Nat:=zR (picks (λi _=>s.testBit i) 0 (bits h))
theorem i4:∀z∈picks p 0 (bits h),0<=z/\z<8:=λz hz=>kO ((iC _ _).mem hz)
theorem xh(h:∀z∈ns,0<=z)(k:Nat):(zR ns).testBit k=true↔(k:Int)∈ns:=by unfold zR;rw[tQ ns 0 k h,En];simp
end Bh
namespace Bh
def d8(f:List Int)(t:Int):List Int:=f++f.map λp=>((p.toNat|||2^t.toNat:Nat):Int)
def xF(n:Nat):List Int:=(bits n).foldl d8 [0]
theorem uP(f:List Int)(t:Int):(d8 f t).length=2*f.length:=by unfold d8;rw[DK,Di];lia
theorem mx:∀ (ts:List Int) (f:List Int),(ts.foldl d8 f).length=2^ts.length*f.length
 | [],f=>by simp
 |t::r,f=>by rw[EG,mx r,uP,D6,Nat.pow_succ,Nat.mul_assoc]
theorem w4(h:∀p∈f,0<=p):∀p∈d8 f t,0<=p:=λp hp=>by
 rcases DW.mp hp with q|q
 .exact h p q
 .obtain⟨x,_,rfl⟩:=DL.mp q;lia
theorem pU:∀ (ts:List Int) (f:List Int),(∀p∈f,0<=p)->∀p∈ts.foldl d8 f,0<=p
 | [],_,h=>h
 |t::r,f,h=>by rw[EG];exact pU r _ (w4 h)
end Bh
namespace Bh
end Bh
namespace Bh
end Bh
namespace Bh
abbrev sz(n:Nat):Nat:=(bits n).length
theorem dI(n:Nat):sz n=((List.range 8).filter n.testBit).length:=by show(bits n).length=_;unfold bits;rw[Di]
theorem my:∀ (l:List Nat),(∀x∈l,p x=true->q x=true)->(l.filter p).length<=(l.filter q).length
 | [],_=>Dl _
 |x::l,h=>by
  have ih:=my l λy hy=>h y (DC _ hy);have hx:=h x DE;cases hp:p x<;>cases hq:q x
  .simp only[Fx,hp,hq];exact ih
  .simp only[Fx,hp,hq,Dp,D6];exact HR ih
  .rw[hp]at hx;rw[hx rfl]at hq;cases hq
  .simp only[Fx,hp,hq,Dp,D6];lia
theorem sL{a b:Nat}(h:∀k,k<8->a.testBit k=true->b.testBit k=true):sz a<=sz b:=by rw[dI,dI];exact my _ λk hk=>h k (DT.mp hk)
theorem qW(a b:Nat):sz (a&&&b)<=sz b:=sL λk _ h=>by rw[DH,Ea]at h;exact h.2
def gM(ms:List Int)(s:Nat):Nat:=ms.foldl (λr m=>max r (sz (s&&&m.toNat))) 0
theorem nA:∀ (ms:List Int) (s r:Nat),r<=ms.foldl (λr (m:Int)=>max r (sz (s&&&m.toNat))) r/\(∀m∈ms,sz (s&&&m.toNat)<=ms.foldl (λr (m:Int)=>max r (sz (s&&&m.toNat))) r)/\
  (ms.foldl (λr (m:Int)=>max r (sz (s&&&m.toNat))) r=r\/∃m∈ms,sz (s&&&m.toNat)=ms.foldl (λr (m:Int)=>max r (sz (s&&&m.toNat))) r)
 | [],s,r=>⟨Dl _,λm hm=>(by cases hm), .inl rfl⟩
 |x::ms,s,r=>by
  obtain⟨h1,h2,h3⟩:=nA ms s (max r (sz (s&&&x.toNat)));rw[EG];refine⟨Du (Nat.le_max_left _ _) h1,λm hm=> ?_,?_⟩
  .rcases Dz.mp hm with rfl|hm
   .exact Du (Nat.le_max_right _ _) h1
   .exact h2 m hm
  .rcases h3 with h3|⟨m,hm,e⟩
   .rw[h3];rcases Nat.le_total r (sz (s&&&x.toNat))with h|h
    .rw[Nat.max_eq_right h];exact .inr ⟨x,DE,rfl⟩
    .rw[Nat.max_eq_left h];exact .inl rfl
   .exact .inr ⟨m,DC _ hm,e⟩
theorem tU{m:Int}(h:m∈ms):sz (s&&&m.toNat)<=gM ms s:=(nA ms s 0).2.1 m h
theorem zX(h:ms≠[]):∃m∈ms,sz (s&&&m.toNat)=gM ms s:=by
 rcases(nA ms s 0).2.2 with e|e
 .cases ms with
  |nil=>exact absurd rfl h
  |cons m r=>
   have:=tU (s:=s) (m:=m) (ms:=m::r) DE;have e':gM (m::r) s=0:=e;exact⟨m,DE,by lia⟩
 .exact e
theorem zW(h:ms≠[])(hb:∀m∈ms,sz (s&&&m.toNat)<=b):gM ms s<=b:=by obtain⟨m,hm,e⟩:=zX (s:=s) h;rw[<-e];exact hb m hm
theorem i3(h1:∃m∈ms,sz (s&&&m.toNat)=r)(h2:∀m∈ms,sz (s&&&m.toNat)<=r):gM ms s=r:=by obtain⟨m,hm,e⟩:=h1;have a:=tU (s:=s) hm;have b:=zW (s:=s) (ms:=ms) (by rintro rfl;cases hm) h2;lia
theorem fV:∀n:Nat,n<9->xF (2^n-1)=(List.range (2^n)).map λk:Nat=>(k:Int):=by decide+kernel
end Bh
namespace Bh
def Far(r:Int)(ps:List Int):Prop:=∀a∈ps,∀b∈ps,a≠b->(sz (a.toNat&&&b.toNat):Int)<=r-2
theorem ui(r:Int):Far r []:=λa ha=>by cases ha
theorem yP{z:Int}(h:Far r ps)(hz:∀a∈ps,¬((sz (a.toNat&&&z.toNat):Int)>r-2)):Far r (ps++[z]):=by
 intro a ha b hb ne;rcases DW.mp ha with ha1|ha1<;>rcases DW.mp hb with hb1|hb1
 .exact h a ha1 b hb1 ne
 .have:b=z:=by simpa using hb1
  subst this;have:=hz a ha1;lia
 .have:a=z:=by simpa using ha1
  subst this;have:=hz b hb1;rw[Nat.and_comm];lia
 .have e1:a=z:=by simpa using ha1
  have e2:b=z:=by simpa using hb1
  exact absurd (e1.trans e2.symm) ne
theorem wI:∀r:Nat,0<r->r<8->sz (2^r-1)=r/\sz (2^r-1-2^(r-1)+2^r)=r/\sz ((2^r-1)&&& (2^r-1-2^(r-1)+2^r))+1=r/\2^r-1≠2^r-1-2^(r-1)+2^r/\2^r-1-2^(r-1)+2^r<2^(r+1):=by
 intro r h0 h8
 match r,h0,h8 with
 |1,_,_=>decide+kernel
 |2,_,_=>decide+kernel
 |3,_,_=>decide+kernel
 |4,_,_=>decide+kernel
 |5,_,_=>decide+kernel
 |6,_,_=>decide+kernel
 |7,_,_=>decide+kernel
 |r+8,_,h8=>lia
theorem qV:∀r:Nat,r<9->sz (2^r-1)=r:=by decide+kernel
theorem zH{n r:Nat}{ps:List Int}(hn:n<=8)(hr:r<=n)(hp:ps=[]\/(0<r/\r<n/\Far r ps)):∃s,s<2^n/\sz s=r/\(s:Int)∉ps:=by
 have lowlt:2^r-1<2^n:=by have h1:2^r<=2^n:=DM (by lia) hr;have h2:0<2^r:=DZ (by lia);lia
 rcases hp with rfl|⟨r0,r1,hf⟩
 .exact⟨2^r-1,lowlt,qV r (by lia),by simp⟩
 .obtain⟨a1,a2,a3,a4,a5⟩:=wI r r0 (by lia);by_cases hA:((2^r-1:Nat):Int)∈ps
  .refine⟨2^r-1-2^(r-1)+2^r,Dq a5 (DM (by lia) (by lia)),a2,λhB=> ?_⟩;have:=hf _ hA _ hB (by lia);rw[Dk,Dk]at this;lia
  .exact⟨2^r-1,lowlt,a1,hA⟩
section
variable{n r:Nat}{ps ms:List Int}
end
end Bh
namespace Bh
end Bh
namespace Bh
theorem fP:∀ (n x y:Nat),x<=n->(x&&&y)+(x^^^ (x&&&y))=x:=by
 intro n
 induction n with
 |zero=>
  intro x y h;have:x=0:=by lia
  subst this;simp
 |succ n ih=>
  intro x y h;by_cases h0:x=0
  .subst h0;simp
  have i:=ih (x/2) (y/2) (by lia);rw[<-Nat.and_div_two,<-Nat.xor_div_two]at i;have a2:(x&&&y) % 2=1↔x % 2=1/\y % 2=1:=Nat.and_mod_two_eq_one;have b2:(x^^^ (x&&&y)) % 2=1↔¬((x % 2=1)↔((x&&&y) % 2=1)):=Nat.xor_mod_two_eq_one;by_cases hx:x % 2=1<;>by_cases hy:y % 2=1
  .have a:=a2.mpr ⟨hx,hy⟩;have b:¬(x^^^ (x&&&y)) % 2=1:=λz=>(b2.mp z) ⟨λ_=>a,λ_=>hx⟩;lia
  .have a:¬(x&&&y) % 2=1:=λz=>hy (a2.mp z).2;have b:=b2.mpr λz=>a (z.mp hx);lia
  .have a:¬(x&&&y) % 2=1:=λz=>hx (a2.mp z).1;have b:¬(x^^^ (x&&&y)) % 2=1:=λz=>(b2.mp z) ⟨λq=>absurd q hx,λq=>absurd q a⟩;lia
  .have a:¬(x&&&y) % 2=1:=λz=>hx (a2.mp z).1;have b:¬(x^^^ (x&&&y)) % 2=1:=λz=>(b2.mp z) ⟨λq=>absurd q hx,λq=>absurd q a⟩;lia
def aX(s t:Nat):Nat:=s^^^ (s&&&t)
theorem Az(s t:Nat):(s||| (s&&&t)) - (s&&& (s&&&t))=aX s t:=by
 have h:=fP s s t (Dl _);have e1:s||| (s&&&t)=s:=DJ λj=>by rw[DX,DH];cases s.testBit j<;>simp
 have e2:s&&& (s&&&t)=s&&&t:=DJ λj=>by rw[DH,DH];cases s.testBit j<;>simp
 rw[e1,e2];unfold aX;lia
theorem pI(s t j:Nat):(aX s t).testBit j=(s.testBit j&& !t.testBit j):=by unfold aX;rw[EH,DH];cases s.testBit j<;>cases t.testBit j<;>rfl
theorem jx(s t:Nat):aX s t<=s:=by have:=fP s s t (Dl _);unfold aX;lia
end Bh
namespace Bh
end Bh
namespace Bh
end Bh
namespace Bh
def mrg(ms:List Int)(x y:Nat):List Int:=ms.map λm=>if m=ms.getD x 0 then ms.getD y 0 else m
theorem fh(ms:List Int)(x y:Nat):(mrg ms x y).length=ms.length:=Di ..
theorem fW{ms:List Int}(hz:z<ms.length):(mrg ms x y).getD z 0=if ms.getD z 0=ms.getD x 0 then ms.getD y 0 else ms.getD z 0:=by
 have e:ms.getD z 0=ms[z]:=by simp[hz]
 have e2:(mrg ms x y).getD z 0=(mrg ms x y)[z]'(by rw[fh];exact hz):=by simp[fh,hz]
 rw[e2,e];unfold mrg;rw[List.getElem_map]
structure Mks(p:Nat)(ts:List (Nat×Nat))(S:Nat->Prop)(ms:List Int):Prop where
 len:ms.length=p
 eq:∀k t,ts[k]?=some t->S k->ms.getD t.1 0=ms.getD t.2 0
 cl:∀P:Nat->Prop,(∀k t,ts[k]?=some t->S k->(P t.1↔P t.2))->∀x y,x<p->y<p->ms.getD x 0=ms.getD y 0->(P x↔P y)
def start(p:Nat):List Int:=(List.range p).map λi:Nat=>(i:Int)
theorem Mks.start(p:Nat)(ts:List (Nat×Nat)):Mks p ts (λ_=>False) (start p):=by
 refine⟨by simp[Bh.start],λ_ _ _ h=>h.elim,λP _ x y hx hy e=> ?_⟩;have ex:(Bh.start p).getD x 0=(x:Int):=by simp[Bh.start,hx]
 have ey:(Bh.start p).getD y 0=(y:Int):=by simp[Bh.start,hy]
 rw[ex,ey]at e;have:x=y:=by lia
 rw[this]
theorem Mks.step(h:Mks p ts S ms)(hb:∀t∈ts,t.1<p/\t.2<p)(hk:ts[k]?=some t):
  Mks p ts (λj=>S j\/j=k) (mrg ms t.1 t.2):=by
 have b:=hb t (Dv hk);refine⟨by rw[fh];exact h.len,λj u hj hs=> ?_,λP hP x y hx hy e=> ?_⟩
 .have bu:=hb u (Dv hj);rw[fW (by rw[h.len];exact bu.1),fW (by rw[h.len];exact bu.2)];rcases hs with hs|rfl
  .rw[h.eq j u hj hs]
  .rw[hk]at hj;cases hj;rw[Dp rfl];split<;>rfl
 .have h1:=h.cl P λj u hj hs=>hP j u hj (.inl hs);have ht:=hP k t hk (.inr rfl);rw[fW (by rw[h.len];exact hx),fW (by rw[h.len];exact hy)]at e;by_cases c1:ms.getD x 0=ms.getD t.1 0
  .by_cases c2:ms.getD y 0=ms.getD t.1 0
   .exact h1 x y hx hy (c1.trans c2.symm)
   .rw[Dp c1,Dt c2]at e;exact(h1 x t.1 hx b.1 c1).trans (ht.trans (h1 t.2 y b.2 hy e))
  .by_cases c2:ms.getD y 0=ms.getD t.1 0
   .rw[Dt c1,Dp c2]at e;exact(h1 x t.2 hx b.2 e).trans (ht.symm.trans (h1 t.1 y b.1 hy c2.symm))
   .rw[Dt c1,Dt c2]at e;exact h1 x y hx hy e
theorem Mks.congr(h:Mks p ts S ms)(e:∀j t,ts[j]?=some t->(S j↔S' j)):Mks p ts S' ms:=
 ⟨h.len,λk t hk hs=>h.eq k t hk ((e k t hk).mpr hs),λP hP x y hx hy=>h.cl P (λk t hk hs=>hP k t hk ((e k t hk).mp hs)) x y hx hy⟩
structure Wk(p:Nat)(ts:List (Nat×Nat))(S:Nat->Prop)(ms:List Int)(pt:Nat)(seen row:List Nat)(here:Option (Nat×Nat)):Prop where
 self:pt∈seen
 sub:∀x∈row,x∈seen
 nd:seen.Nodup
 cls:∀x∈seen,x<p/\ms.getD x 0=ms.getD pt 0
 done:∀x∈seen,x∈row\/(∀k t,ts[k]?=some t->S k->(∀hi,here=some hi->x=hi.1->k<hi.2)->(t.1=x->t.2∈seen)/\(t.2=x->t.1∈seen))
theorem Wk.start(hp:pt<p):Wk p ts S ms pt [pt] [pt] none:=
 ⟨DN.mpr rfl,λ_ h=>h,by simp,λx hx=>by rw[DN.mp hx];exact⟨hp,rfl⟩,λx hx=> .inl hx⟩
theorem Wk.pop(w:Wk p ts S ms pt seen (row++[h]) none):Wk p ts S ms pt seen row (some (h,0)):=by
 refine⟨w.self,λx hx=>w.sub x (Ep _ hx),w.nd,w.cls,λx hx=> ?_⟩;rcases w.done x hx with hr|hd
 .rcases DW.mp hr with hr|hr
  .exact .inl hr
  .refine .inr λk t hk hs hh=> ?_;have:=hh (h,0) rfl (DN.mp hr);exact absurd this (EZ _)
 .exact .inr λk t hk hs _=>hd k t hk hs λ_ e=>nomatch e
theorem Wk.push{ms:List Int}(w:Wk p ts S ms pt seen row (some (h,i)))
  (hy:y∉seen) (hp:y<p) (hc:ms.getD y 0=ms.getD pt 0):Wk p ts S ms pt (seen++[y]) (row++[y]) (some (h,i)):=by
 refine⟨Ep _ w.self,λx hx=> ?_,?_,λx hx=> ?_,λx hx=> ?_⟩
 .rcases DW.mp hx with hx|hx
  .exact Ep _ (w.sub x hx)
  .exact D7 _ hx
 .rw[GR];exact⟨w.nd,by simp,λa ha b hb e=>by rw[DN.mp hb]at e;rw[e]at ha;exact hy ha⟩
 .rcases DW.mp hx with hx|hx
  .exact w.cls x hx
  .rw[DN.mp hx];exact⟨hp,hc⟩
 .rcases DW.mp hx with hx|hx
  .rcases w.done x hx with hr|hd
   .exact .inl (Ep _ hr)
   .exact .inr λk t hk hs hh=>⟨λe=>Ep _ ((hd k t hk hs hh).1 e),λe=>Ep _ ((hd k t hk hs hh).2 e)⟩
  .exact .inl (D7 _ hx)
theorem Wk.over{ts:List (Nat×Nat)}(w:Wk p ts S ms pt seen row (some (h,n)))(hn:ts.length<=n):Wk p ts S ms pt seen row none:=by
 refine⟨w.self,w.sub,w.nd,w.cls,λx hx=> ?_⟩;rcases w.done x hx with hr|hd
 .exact .inl hr
 .refine .inr λk t hk hs _=>hd k t hk hs λz ez _=> ?_;cases ez;show k<n;exact Dq (DB.mp hk).1 hn
theorem Wk.fin{ms:List Int}(m:Mks p ts S ms)(hpt:pt<p)(w:Wk p ts S ms pt seen [] none)(z:Nat)(hz:z<p):z∈seen↔ms.getD z 0=ms.getD pt 0:=by
 refine⟨λh=>(w.cls z h).2,λe=> ?_⟩;have:=m.cl (λx=>x∈seen) (λk t hk hs=> ?_) pt z hpt hz e.symm
 .exact this.mp w.self
 .refine⟨λh=> ?_,λh=> ?_⟩
  .rcases w.done _ h with hr|hd
   .cases hr
   .exact(hd k t hk hs λ_ ez=>nomatch ez).1 rfl
  .rcases w.done _ h with hr|hd
   .cases hr
   .exact(hd k t hk hs λ_ ez=>nomatch ez).2 rfl
def pA(p:Nat)(ts:List (Nat×Nat))(l:List Int):List Int:=l.foldl (λms k=>mrg ms (ts.getD k.toNat (0,0)).1 (ts.getD k.toNat (0,0)).2) (start p)
theorem vo(p:Nat)(ts:List (Nat×Nat))(l:List Int)(k:Int):pA p ts (l++[k])=mrg (pA p ts l) (ts.getD k.toNat (0,0)).1 (ts.getD k.toNat (0,0)).2:=by unfold pA;rw[ER];rfl
theorem i8(p:Nat)(ts:List (Nat×Nat)):∀l:List Int,(pA p ts l).length=p:=by
 intro l;unfold pA;have:∀ (l:List Int) (ms:List Int),ms.length=p->(l.foldl (λms k=>mrg ms (ts.getD k.toNat (0,0)).1 (ts.getD k.toNat (0,0)).2) ms).length=p:=by
  intro l
  induction l with
  |nil=>intro ms h;exact h
  |cons k r ih=>intro ms h;rw[EG];exact ih _ (by rw[fh];exact h)
 exact this l _ (by simp[start])
def yd(p:Nat)(ts:List (Nat×Nat))(s:Nat):List Int:=pA p ts (bits s)
theorem dZ(hs:s<2^n){k:Int}(h:k∈bits s):0<=k/\k.toNat<n:=by obtain⟨j,hj,hb,rfl⟩:=eO.mp h;refine⟨E2 _,?_⟩;rw[Dk];refine Gv λhn=> ?_;have:s.testBit j=false:=D8 (Dq hs (DM (by lia) hn));rw[this]at hb;cases hb
def gC(val:Nat->Int):Nat->Nat
 |0=>0
 |i+1=>if(List.range i).any (λj=>val j==val i)=true then gC val i else gC val i+1
theorem zd(h:∃j,j<i/\val j=val i):gC val (i+1)=gC val i:=by obtain⟨j,hj,e⟩:=h;show(if _ then _ else _)=_;rw[Dp];rw[GW];exact⟨j,DT.mpr hj,by rw[e];simp⟩
theorem qb(h:¬∃j,j<i/\val j=val i):gC val (i+1)=gC val i+1:=by show(if _ then _ else _)=_;rw[Dt];rw[GW];rintro⟨j,hj,e⟩;exact h ⟨j,DT.mp hj,by simpa using e⟩
def pcs(p:Nat)(ts:List (Nat×Nat))(s:Nat):Nat:=gC (λi=>(yd p ts s).getD i 0) p
end Bh
namespace Bh
theorem sd(i l:Nat):min i l+(l- (i+1))<=l:=by lia
def mn(l st:Nat):Nat:=if l^^^st<l then l^^^st else l
theorem kr{x y i:Nat}(hx:x.testBit i=false)(hy:y.testBit i=true)(h:∀j,i<j->x.testBit j=y.testBit j):x<y:=by
 have e:x/2^(i+1)=y/2^(i+1):=DJ λj=>by rw[Fp,Fp];exact h _ (by lia)
 rw[GX]at hx hy;have hx':=Gj hx;have hy':=DY hy;rw[Nat.pow_succ,<-Nat.div_div_eq_div_mul,<-Nat.div_div_eq_div_mul]at e;refine Gv λhle=> ?_;have:=Nat.div_le_div_right (c:=2^i) hle;lia
theorem ku{st:Nat}(h:0<st):st.testBit st.log2=true:=Nat.testBit_log2 (by lia)
theorem mI{st j:Nat}(h:st.log2<j):st.testBit j=false:=
 D8 (Dq (Nat.lt_log2_self (n:=st)) (DM (by lia) h))
theorem t7{l st:Nat}(h:0<st):mn l st=if l.testBit st.log2=true then l^^^st else l:=by
 unfold mn;cases hb:l.testBit st.log2 with
 |true=>
  rw[Dp rfl,Dp];refine kr (i:=st.log2) ?_ hb λj hj=> ?_
  .rw[EH,hb,ku h];rfl
  .rw[EH,mI hj,FO]
 |false=>
  rw[Dt Dr,Dt];refine Nat.not_lt_of_le (F8 (kr (i:=st.log2) hb ?_ λj hj=> ?_))
  .rw[EH,hb,ku h];rfl
  .rw[EH,mI hj,FO]
theorem Cf(u v w:Nat):(u^^^w)^^^ (v^^^w)=u^^^v:=by rw[Ge v w,Ec,<-Ec w w v,EO,GK]
theorem BL(h:0<st):mn (u^^^v) st=mn u st^^^mn v st:=by
 rw[t7 h,t7 h,t7 h,EH];cases u.testBit st.log2<;>cases v.testBit st.log2
 .rfl
 .show(u^^^v)^^^st=u^^^ (v^^^st);rw[Ec]
 .show(u^^^v)^^^st=(u^^^st)^^^v;rw[Ec,Ge v st,<-Ec]
 .show u^^^v=(u^^^st)^^^ (v^^^st);rw[Cf]
theorem t6(st:Nat):mn 0 st=0:=by unfold mn;rw[Dt (by lia)]
theorem Aw(h:0<w):mn w w=0:=by rw[t7 h,ku h,Dp rfl,EO]
def red(ss:List Nat)(v:Nat):Nat:=ss.foldl mn v
theorem oY(ss:List Nat)(w v:Nat):red (ss++[w]) v=mn (red ss v) w:=by unfold red;rw[ER];rfl
theorem oW(ss:List Nat):red ss 0=0:=by
 induction ss with
 |nil=>rfl
 |cons s r ih=>show red r (mn 0 s)=0;rw[t6];exact ih
theorem tT(h:∀s∈ss,0<s)(u v:Nat):red ss (u^^^v)=red ss u^^^red ss v:=by
 induction ss generalizing u v with
 |nil=>rfl
 |cons s r ih=>
  show red r (mn (u^^^v) s)=red r (mn u s)^^^red r (mn v s);rw[BL (h s DE),ih λz hz=>h z (DC _ hz)]
inductive bD(vs:List Nat):Nat->Prop
 |zero:bD vs 0
 |add {x v:Nat}:bD vs x->v∈vs->bD vs (x^^^v)
theorem bD.of_mem(h:v∈vs):bD vs v:=by
 have:=bD.add bD.zero h
 rwa [GK]at this
theorem bD.xor(hx:bD vs x)(hy:bD vs y):bD vs (x^^^y):=by
 induction hy with
 |zero=>rw[Fh];exact hx
 |add _ hv ih=>rw[<-Ec];exact ih.add hv
theorem bD.sub(h:∀v∈vs,bD ws v)(hx:bD vs x):bD ws x:=by
 induction hx with
 |zero=>exact .zero
 |add _ hv ih=>exact ih.xor (h _ hv)
theorem bD.snoc:bD (vs++[w]) x↔bD vs x\/bD vs (x^^^w):=by
 constructor
 .intro h
  induction h with
  |zero=>exact .inl .zero
  | @add x v _ hv ih=>
   rcases DW.mp hv with hv|hv
   .rcases ih with ih|ih
    .exact .inl (ih.add hv)
    .refine .inr ?_;rw[Ec,Ge v w,<-Ec];exact ih.add hv
   .rw[DN.mp hv];rcases ih with ih|ih
    .refine .inr ?_;rw[Ec,EO,Fh];exact ih
    .exact .inl ih
 .rintro(h|h)
  .exact h.sub λv hv=> .of_mem (Ep _ hv)
  .have h1:=(h.sub (ws:=vs++[w]) λv hv=> .of_mem (Ep _ hv)).add (v:=w) (D7 _ (DN.mpr rfl));rw[Ec,EO,Fh]at h1;exact h1
theorem rh(v:Nat):bD ss (red ss v^^^v):=by
 have gen:∀ (r ss:List Nat) (u v:Nat),(∀s∈r,s∈ss)->bD ss (u^^^v)->bD ss (red r u^^^v):=by
  intro r
  induction r with
  |nil=>intro ss u v _ h;exact h
  |cons s r ih=>
   intro ss u v hs h;show bD ss (red r (mn u s)^^^v);refine ih ss _ v (λz hz=>hs z (DC _ hz)) ?_;unfold mn;split
   .rw[Ec,Ge s v,<-Ec];exact h.add (hs s DE)
   .exact h
 refine gen ss ss v v (λ_ h=>h) ?_;rw[EO];exact .zero
def stp(ss:List Nat)(v:Nat):List Nat:=if 0<red ss v then ss++[red ss v]else ss
def cI(vs:List Nat):List Nat:=vs.foldl stp []
theorem eX(vs:List Nat)(v:Nat):cI (vs++[v])=stp (cI vs) v:=by unfold cI;rw[ER];rfl
structure Ech(vs ss:List Nat):Prop where
 pos:∀s∈ss,0<s
 kill:∀s∈ss,red ss s=0
 span:∀x,bD ss x↔bD vs x
theorem oX(hp:∀s∈ss,0<s)(hk:∀s∈ss,red ss s=0)(h:bD ss x):red ss x=0:=by
 induction h with
 |zero=>exact oW ss
 |add _ hv ih=>rw[tT hp,ih,hk _ hv];rfl
theorem Ech.red{vs ss:List Nat}(h:Ech vs ss)(v:Nat):red ss v=0↔bD vs v:=by
 rw[<-h.span v];constructor
 .intro e;have:=rh (ss:=ss) v;rw[e,GK]at this;exact this
 .exact oX h.pos h.kill
theorem Ech.step(h:Ech vs ss)(v:Nat):Ech (vs++[v]) (stp ss v):=by
 unfold stp;by_cases h0:0<Bh.red ss v
 .rw[Dp h0];have idem:Bh.red ss (Bh.red ss v)=Bh.red ss v:=by have e:=oX h.pos h.kill (rh (ss:=ss) v);rw[tT h.pos]at e;have:=Es (· ^^^Bh.red ss v) e;simpa [Ec]using this
  refine⟨λs hs=> ?_,λs hs=> ?_,λx=> ?_⟩
  .rcases DW.mp hs with hs|hs
   .exact h.pos s hs
   .rw[DN.mp hs];exact h0
  .rw[oY];rcases DW.mp hs with hs|hs
   .rw[h.kill s hs,t6]
   .rw[DN.mp hs,idem,Aw h0]
  .have hv:=(h.span _).mp (rh (ss:=ss) v);rw[bD.snoc,bD.snoc,h.span,h.span];have key:∀y,bD vs (y^^^Bh.red ss v)↔bD vs (y^^^v):=λy=>by
    constructor
    .intro hy;have:=hy.xor hv;rw[Ec,<-Ec (Bh.red ss v),EO,GK]at this;exact this
    .intro hy;have:=hy.xor hv;rw[Ge (Bh.red ss v) v,Ec,<-Ec v,EO,GK]at this;exact this
   rw[key]
 .rw[Dt h0];have hin:bD vs v:=(h.red v).mp (by lia);refine⟨h.pos,h.kill,λx=> ?_⟩;rw[h.span,bD.snoc];constructor
  .exact λhx=> .inl hx
  .rintro(hx|hx)
   .exact hx
   .have:=hx.xor hin;rw[Ec,EO,Fh]at this;exact this
theorem mz(vs:List Nat):Ech vs (cI vs):=by
 have gen:∀ (r vs ss:List Nat),Ech vs ss->Ech (vs++r) (r.foldl stp ss):=by
  intro r
  induction r with
  |nil=>intro vs ss h;rw[GC];exact h
  |cons v r ih=>
   intro vs ss h;have:=ih _ _ (h.step v);rw[List.append_assoc]at this;exact this
 exact gen vs [] [] ⟨by simp,by simp,λx=>Iff.rfl⟩
def rkX(vs:List Nat):Nat:=(cI vs).length
theorem iy(h:bD vs v):rkX (vs++[v])=rkX vs:=by unfold rkX;rw[eX,stp,Dt];have:=((mz vs).red v).mpr h;lia
theorem e6(h:¬bD vs v):rkX (vs++[v])=rkX vs+1:=by
 unfold rkX;rw[eX,stp,Dp]
 .rw[DK];rfl
 .refine Nat.pos_of_ne_zero λe=>h (((mz vs).red v).mp e)
def dN(vs:List Nat):List Nat:=vs.foldl (λacc v=>if v∈acc then acc else acc++acc.map (· ^^^v)) [0]
theorem jM(vs:List Nat)(v:Nat):dN (vs++[v])=if v∈dN vs then dN vs else dN vs++(dN vs).map (· ^^^v):=by unfold dN;rw[ER];rfl
theorem gK{α:Type}{P:List α->Prop}(h0:P [])(h1:∀l a,P l->P (l++[a])):∀l,P l:=by
 have:∀l:List α,P l.reverse:=by
  intro l
  induction l with
  |nil=>exact h0
  |cons a r ih=>rw[List.reverse_cons];exact h1 _ _ ih
 intro l;have:=this l.reverse
 rwa [List.reverse_reverse]at this
theorem dG(vs:List Nat):∀x,x∈dN vs↔bD vs x:=by
 refine gK (P:=λvs=>∀x,x∈dN vs↔bD vs x) ?_ ?_ vs
 .intro x;constructor
  .intro h;rw[DN.mp h];exact .zero
  .intro h;cases h with
   |zero=>exact DN.mpr rfl
   |add _ hv=>cases hv
 .intro vs v ih x;rw[jM,bD.snoc];by_cases hv:v∈dN vs
  .rw[Dp hv,ih x];have hv':=(ih v).mp hv;constructor
   .exact λh=> .inl h
   .rintro(h|h)
    .exact h
    .have:=h.xor hv';rw[Ec,EO,Fh]at this;exact this
  .rw[Dt hv,DW,ih x,DL];constructor
   .rintro(h|⟨y,hy,rfl⟩)
    .exact .inl h
    .refine .inr ?_;rw[Ec,EO,Fh];exact(ih y).mp hy
   .rintro(h|h)
    .exact .inl h
    .refine .inr ⟨x^^^v,(ih _).mpr h,?_⟩;rw[Ec,EO,Fh]
theorem i7(vs:List Nat):(dN vs).Nodup/\(dN vs).length=2^rkX vs:=by
 refine gK (P:=λvs=>(dN vs).Nodup/\(dN vs).length=2^rkX vs) ⟨by simp[dN],rfl⟩ ?_ vs;rintro vs v ⟨h1,h2⟩;rw[jM];by_cases hv:v∈dN vs
 .rw[Dp hv,iy ((dG vs v).mp hv)];exact⟨h1,h2⟩
 .have hv':¬bD vs v:=λh=>hv ((dG vs v).mpr h);rw[Dt hv,e6 hv',DK,Di,h2,Nat.pow_succ,Nat.mul_two];refine⟨GR.mpr ⟨h1,?_,?_⟩,rfl⟩
  .rw[List.Nodup,List.pairwise_map];refine h1.imp λ{a b} hab e=>hab ?_;have:=Es (· ^^^v) e;simpa [Ec]using this
  .intro a ha b hb e;obtain⟨y,hy,rfl⟩:=DL.mp hb;subst e;have:=((dG vs _).mp ha).xor ((dG vs _).mp hy);rw[Ge y v,Ec,EO,Fh]at this;exact hv' this
theorem gh:∀ {a b:List Nat},a.Nodup->(∀x∈a,x∈b)->a.length<=b.length
 | [],_,_,_=>DV _
 |x::r,b,nd,h=>by have hx:=h x DE;rw[Ft]at nd;have ih:=gh (a:=r) (b:=b.erase x) nd.2 λy hy=>(List.mem_erase_of_ne (λe=>by rw[e]at hy;exact nd.1 hy)).mpr (h y (DC _ hy));rw[Fi hx]at ih;have:0<b.length:=FQ hx;rw[D6];lia
theorem xr(h:2^a<=2^b):a<=b:=(Nat.pow_le_pow_iff_right (by lia)).mp h
theorem xj(h:∀v∈vs,bD ws v):rkX vs<=rkX ws:=by have h1:=i7 vs;have h2:=i7 ws;have:=gh h1.1 λx hx=>(dG ws x).mpr (((dG vs x).mp hx).sub h);rw[h1.2,h2.2]at this;exact xr this
theorem zT(vs:List Nat):rkX vs<=vs.length:=by
 refine gK (P:=λvs=>rkX vs<=vs.length) (Dl _) (λvs v ih=> ?_) vs;rw[DK];show _<=vs.length+1;by_cases h:bD vs v
 .rw[iy h];lia
 .rw[e6 h];lia
end Bh
namespace Bh
def par(p:Nat)(ms:List Int)(c:Int)(z:Nat):Bool:=(List.range p).foldl (λb i=>b^^ (z.testBit i&&decide (ms.getD i 0=c))) false
theorem BF(ms:List Int)(c:Int):∀ (l:List Nat) (z w:Nat) (a b:Bool),
  l.foldl (λb i=>b^^ ((z^^^w).testBit i&&decide (ms.getD i 0=c))) (a^^b)=(l.foldl (λb i=>b^^ (z.testBit i&&decide (ms.getD i 0=c))) a^^l.foldl (λb i=>b^^ (w.testBit i&&decide (ms.getD i 0=c))) b):=by
 intro l
 induction l with
 |nil=>intros;rfl
 |cons i r ih=>
  intro z w a b;rw[EG,EG,EG,<-ih,EH];congr 1;cases a<;>cases b<;>cases z.testBit i<;>cases w.testBit i<;>cases decide (ms.getD i 0=c)<;>rfl
theorem jt(p:Nat)(ms:List Int)(c:Int)(z w:Nat):par p ms c (z^^^w)=(par p ms c z^^par p ms c w):=BF ms c (List.range p) z w false false
theorem xG(p:Nat)(ms:List Int)(c:Int):par p ms c 0=false:=by
 unfold par
 induction (List.range p)with
 |nil=>rfl
 |cons i r ih=>rw[EG,En];exact ih
theorem gQ(ms:List Int)(c:Int)(hx:x<p):par p ms c (2^x)=decide (ms.getD x 0=c):=by
 unfold par;have gen:∀n,(List.range n).foldl (λb i=>b^^ ((2^x).testBit i&&decide (ms.getD i 0=c))) false=(decide (x<n)&&decide (ms.getD x 0=c)):=by
  intro n
  induction n with
  |zero=>rfl
  |succ n ih=>
   rw[ES,ER,ih];show((decide (x<n)&&decide (ms.getD x 0=c))^^ ((2^x).testBit n&&decide (ms.getD n 0=c)))=_;rw[FL];by_cases e:x=n
   .subst e;simp
   .have h1:decide (x=n)=false:=Dy e;have h2:decide (x<n+1)=decide (x<n):=by
     by_cases h:x<n
     .rw[DG h,DG (by lia)]
     .rw[Dy h,Dy (by lia)]
    rw[h1,h2];simp
 rw[gen,DG hx,Fw]
def de(t:Nat×Nat):Nat:=2^t.1^^^2^t.2
theorem pP{ts:List (Nat×Nat)}{ms:List Int}(h:Mks p ts (λ_=>True) ms)(hb:∀t∈ts,t.1<p/\t.2<p)(hx:x<p)(hy:y<p):bD (ts.map de) (2^x^^^2^y)↔ms.getD x 0=ms.getD y 0:=by
 constructor
 .intro hs;have hz:∀c z,bD (ts.map de) z->par p ms c z=false:=by
   intro c z hz
   induction hz with
   |zero=>exact xG p ms c
   |add _ hv ih=>
    obtain⟨t,ht,rfl⟩:=DL.mp hv;obtain⟨k,hk⟩:=Fm ht;have e:=h.eq k t hk trivial;have bt:=hb t ht;rw[jt,ih,de,jt,gQ ms c bt.1,gQ ms c bt.2,e];simp
  have h1:=hz (ms.getD x 0) _ hs;rw[jt,gQ _ _ hx,gQ _ _ hy,DG rfl]at h1;have:decide (ms.getD y 0=ms.getD x 0)=true:=by simpa using h1
  exact(DY this).symm
 .intro e;have:=h.cl (λz=>bD (ts.map de) (2^x^^^2^z)) (λk t hk _=> ?_) x y hx hy e
  .refine this.mp ?_;rw[EO];exact .zero
  .have hm:de t∈ts.map de:=DL.mpr ⟨t,Dv hk,rfl⟩;have e1:∀a b c:Nat,a^^^b^^^ (b^^^c)=a^^^c:=λa b c=>by rw[Ec,<-Ec b b c,EO,GK]
   constructor
   .intro h1;have:=h1.add hm;rw[de,e1]at this;exact this
   .intro h1;have:=h1.add hm;rw[de,Ge (2^t.1),e1]at this;exact this
theorem dX:∀ {a b:List Int},a.Nodup->(∀x∈a,x∈b)->a.length<=b.length
 | [],_,_,_=>DV _
 |x::r,b,nd,h=>by have hx:=h x DE;rw[Ft]at nd;have ih:=dX (a:=r) (b:=b.erase x) nd.2 λy hy=>(List.mem_erase_of_ne (λe=>by rw[e]at hy;exact nd.1 hy)).mpr (h y (DC _ hy));rw[Fi hx]at ih;have:0<b.length:=FQ hx;rw[D6];lia
theorem iR(val:Nat->Int):∀p,∃L:List Int,L.Nodup/\(∀v,v∈L↔∃i,i<p/\val i=v)/\L.length=gC val p
 |0=>⟨[],by simp,λv=>by simp,rfl⟩
 |p+1=>by
  obtain⟨L,nd,hm,hl⟩:=iR val p;by_cases h:∃j,j<p/\val j=val p
  .refine⟨L,nd,λv=> ?_,by rw[zd h];exact hl⟩;rw[hm v];obtain⟨j,hj,e⟩:=h;constructor
   .rintro⟨i,hi,e'⟩;exact⟨i,by lia,e'⟩
   .rintro⟨i,hi,e'⟩;by_cases hip:i=p
    .subst hip;exact⟨j,hj,e.trans e'⟩
    .exact⟨i,by lia,e'⟩
  .refine⟨L++[val p],?_,λv=> ?_,by rw[qb h,DK,hl];rfl⟩
   .rw[GR];refine⟨nd,by simp,λa ha b hb e=> ?_⟩;rw[DN.mp hb]at e;rw[e]at ha;exact h ((hm _).mp ha)
   .rw[DW,hm v,DN];constructor
    .rintro(⟨i,hi,e⟩|e)
     .exact⟨i,by lia,e⟩
     .exact⟨p,by lia,e.symm⟩
    .rintro⟨i,hi,e⟩;by_cases hip:i=p
     .subst hip;exact .inr e.symm
     .exact .inl ⟨i,by lia,e⟩
theorem we{ms:List Int}(hl:ms.length=p)(hx:x<p)(hy:y<p)(hne:¬ms.getD x 0=ms.getD y 0):gC (λi=>(mrg ms x y).getD i 0) p+1=gC (λi=>ms.getD i 0) p:=by
 obtain⟨L,nd,hm,hL⟩:=iR (λi=>ms.getD i 0) p;obtain⟨L',nd',hm',hL'⟩:=iR (λi=>(mrg ms x y).getD i 0) p;have hxL:ms.getD x 0∈L:=(hm _).mpr ⟨x,hx,rfl⟩;have key:∀v,v∈L'↔v∈L.erase (ms.getD x 0):=by
  intro v;rw[nd.mem_erase_iff,hm' v,hm v];constructor
  .rintro⟨i,hi,e⟩;have e2:(mrg ms x y).getD i 0=v:=e;rw[fW (by rw[hl];exact hi)]at e2;split at e2
   .rw[<-e2];exact⟨λe3=>hne e3.symm,y,hy,rfl⟩
   .rename_i hc;rw[<-e2];exact⟨hc,i,hi,rfl⟩
  .rintro⟨hv,i,hi,e⟩;refine⟨i,hi,?_⟩;show(mrg ms x y).getD i 0=v;have e2:ms.getD i 0=v:=e;rw[fW (by rw[hl];exact hi),Dt (by rw[e2];exact hv)];exact e2
 have h1:=dX nd' λv hv=>(key v).mp hv;have h2:=dX (nd.erase _) λv hv=>(key v).mpr hv;rw[Fi hxL]at h1 h2;have:0<L.length:=FQ hxL;lia
theorem yb{ms:List Int}(hl:ms.length=p)(e:ms.getD x 0=ms.getD y 0):mrg ms x y=ms:=by
 unfold mrg;rw[<-e]
 conv=>rhs;rw[<-List.map_id ms]
 refine EV λm _=> ?_;show(if m=_ then _ else m)=m;split
 .rename_i h;exact h.symm
 .rfl
def mkA(p:Nat)(ts:List (Nat×Nat)):List Int:=ts.foldl (λms t=>mrg ms t.1 t.2) (start p)
theorem pB(p:Nat)(ts:List (Nat×Nat))(t:Nat×Nat):mkA p (ts++[t])=mrg (mkA p ts) t.1 t.2:=by unfold mkA;rw[ER];rfl
theorem BN(ts:List (Nat×Nat))(hb:∀t∈ts,t.1<p/\t.2<p):Mks p ts (λ_=>True) (mkA p ts):=by
 revert hb
 refine gK (P:=λts=>(∀t∈ts,t.1<p/\t.2<p)->Mks p ts (λ_=>True) (mkA p ts)) ?_ ?_ ts
 .intro _;exact⟨by simp[mkA,start],λk t hk=>by simp at hk,λP _=>(Mks.start p []).cl P λk t hk=>by simp at hk⟩
 .intro ts t ih hb;have h:=ih λu hu=>hb u (Ep _ hu);have hbt:=hb t (D7 _ (DN.mpr rfl));rw[pB];have hk:(ts++[t])[ts.length]?=some t:=by simp
  have h':Mks p (ts++[t]) (λj=>j<ts.length) (mkA p ts):=by refine⟨h.len,λk u hku hs=>h.eq k u (by rw[Eg hs]at hku;exact hku) trivial,λP hP=>h.cl P λk u hku _=> ?_⟩;have hkl:k<ts.length:=(DB.mp hku).1;exact hP k u (by rw[Eg hkl];exact hku) hkl
  refine(h'.step hb hk).congr λj u hj=> ?_;have:=(DB.mp hj).1;rw[DK]at this;have:j<ts.length+1:=this;constructor
  .intro _;trivial
  .intro _;lia
theorem wc(p:Nat):gC (λi=>(start p).getD i 0) p=p:=by
 have gen:∀n,n<=p->gC (λi=>(start p).getD i 0) n=n:=by
  intro n
  induction n with
  |zero=>intro _;rfl
  |succ n ih=>
   intro hn;rw[qb,ih (by lia)];rintro⟨j,hj,e⟩;have e2:(start p).getD j 0=(start p).getD n 0:=e;have e3:(start p).getD j 0=(j:Int):=by
    have:j<p:=by lia
    simp[start,this]
   have e4:(start p).getD n 0=(n:Int):=by
    have:n<p:=by lia
    simp[start,this]
   rw[e3,e4]at e2;lia
 exact gen p (Dl _)
theorem xW(ts:List (Nat×Nat))(hb:∀t∈ts,t.1<p/\t.2<p):gC (λi=>(mkA p ts).getD i 0) p+rkX (ts.map de)=p:=by
 revert hb
 refine gK (P:=λts=>(∀t∈ts,t.1<p/\t.2<p)->gC (λi=>(mkA p ts).getD i 0) p+rkX (ts.map de)=p) ?_ ?_ ts
 .intro _;exact wc p
 .intro ts t ih hb;have hb0:∀u∈ts,u.1<p/\u.2<p:=λu hu=>hb u (Ep _ hu);have h:=ih hb0;have hM:=BN ts hb0;have hbt:=hb t (D7 _ (DN.mpr rfl));have hi:bD (ts.map de) (de t)↔_:=pP hM hb0 hbt.1 hbt.2;rw[pB,Ei];show _+rkX (ts.map de++[de t])=p;by_cases e:(mkA p ts).getD t.1 0=(mkA p ts).getD t.2 0
  .rw[yb hM.len e,iy (hi.mpr e)];exact h
  .rw[e6 λz=>e (hi.mp z)];have:=we hM.len hbt.1 hbt.2 e;lia
end Bh
namespace Bh
def dot(n:Nat)(r:List Int)(x:Nat):Bool:=par n r 1 x
theorem fZ(n:Nat)(r:List Int)(x y:Nat):dot n r (x^^^y)=(dot n r x^^dot n r y):=jt n r 1 x y
theorem eg(r:List Int)(hj:j<n):dot n r (2^j)=decide (r.getD j 0=1):=gQ r 1 hj
def Bin(n:Nat)(r:List Int):Prop:=r.length=n/\∀z∈r,z=0\/z=1
theorem Bin.at{r:List Int}(h:Bin n r)(hj:j<n):r.getD j 0=0\/r.getD j 0=1:=by
 have:j<r.length:=by rw[h.1];exact hj
 have e:r.getD j 0=r[j]:=by simp[this]
 rw[e];exact h.2 _ (E7 this)
structure Clr(n:Nat)(pv r r':List Int)(c:Nat):Prop where
 bin:Bin n r'
 at_:∀j,j<n->(decide (r'.getD j 0=1))=(decide (r.getD j 0=1)^^ (decide (pv.getD j 0=1)&&decide (r.getD c 0=1)))
theorem nX{pv r r':List Int}(h:Clr n pv r r' c)(x:Nat):dot n r' x=(dot n r x^^ (dot n pv x&&decide (r.getD c 0=1))):=by
 unfold dot par;have gen:∀ (l:List Nat),(∀j∈l,j<n)->∀ (a b d:Bool),a=(b^^ (d&&decide (r.getD c 0=1)))->
   l.foldl (λb i=>b^^ (x.testBit i&&decide (r'.getD i 0=1))) a=(l.foldl (λb i=>b^^ (x.testBit i&&decide (r.getD i 0=1))) b^^ (l.foldl (λb i=>b^^ (x.testBit i&&decide (pv.getD i 0=1))) d&&decide (r.getD c 0=1))):=by
  intro l
  induction l with
  |nil=>intro _ a b d e;exact e
  |cons i t ih=>
   intro hl a b d e;rw[EG,EG,EG];refine ih (λj hj=>hl j (DC _ hj)) _ _ _ ?_;rw[h.at_ i (hl i DE),e];cases b<;>cases d<;>cases x.testBit i<;>cases decide (r.getD i 0=1)<;>cases decide (pv.getD i 0=1)<;>cases decide (r.getD c 0=1)<;>rfl
 exact gen (List.range n) (λj hj=>DT.mp hj) false false false rfl
def El(n:Nat)(M L:List (List Int))(c:Nat):Prop:=∀x,(∀j,j<c->x.testBit j=false)->((∀r∈L,dot n r x=false)↔∃y,y<2^c/\∀r∈M,dot n r (x^^^y)=false)
theorem El.start(n:Nat)(M:List (List Int)):El n M M 0:=by
 intro x _;constructor
 .intro h;exact⟨0,by decide,by rw[Fh];exact h⟩
 .rintro⟨y,hy,h⟩;have:y=0:=by have:(2:Nat)^0=1:=rfl;lia
  rw[this,Fh]at h;exact h
theorem iU{y c:Nat}(hy:y<2^(c+1)):(y<2^c/\y.testBit c=false)\/((y^^^2^c)<2^c/\y.testBit c=true):=by
 cases hb:y.testBit c with
 |false=>
  refine .inl ⟨F6 _ λi hi=> ?_,rfl⟩;by_cases e:i=c
  .rw[e];exact hb
  .exact D8 (Dq hy (DM (by lia) (by lia)))
 |true=>
  refine .inr ⟨F6 _ λi hi=> ?_,rfl⟩;rw[EH,FL];by_cases e:c=i
  .subst e;rw[hb];simp
  .rw[Dy e,D8 (Dq hy (DM (by lia) (by lia)))];rfl
theorem dg(c:Nat):2^c<2^(c+1):=Gw (by lia) (by lia)
theorem sH(hy:y<2^c):y^^^2^c<2^(c+1):=Nat.xor_lt_two_pow (FF hy (dg c)) (dg c)
theorem nU{x c:Nat}(h:∀j,j<c+1->x.testBit j=false):∀j,j<c->(x^^^2^c).testBit j=false:=λj hj=>by rw[EH,h j (by lia),FC (by lia)];rfl
theorem xx(x y z:Nat):x^^^z^^^ (y^^^z)=x^^^y:=Cf x y z
theorem El.skip(h:El n M L c)(hc:c<n)(hz:∀r∈L,¬r.getD c 0=1):El n M L (c+1):=by
 intro x hx;have hx':∀j,j<c->x.testBit j=false:=λj hj=>hx j (by lia);constructor
 .intro h1;obtain⟨y,hy,h2⟩:=(h x hx').mp h1;exact⟨y,FF hy (dg c),h2⟩
 .rintro⟨y,hy,h2⟩;rcases iU hy with ⟨hy',_⟩|⟨hy',_⟩
  .exact(h x hx').mpr ⟨y,hy',h2⟩
  .have h3:=(h (x^^^2^c) (nU hx)).mpr ⟨y^^^2^c,hy',λr hr=>by rw[xx];exact h2 r hr⟩;intro r hr;have:=h3 r hr;rw[fZ,eg r hc,Dy (hz r hr),FO]at this;exact this
theorem El.pivot{pv:List Int}(h:El n M L c)(hc:c<n)(hp:pv∈L)(h1:pv.getD c 0=1)
  (hL':∀r'∈L',∃r∈L,Clr n pv r r' c) (hL:∀r∈L,r=pv\/∃r'∈L',Clr n pv r r' c):El n M L' (c+1):=by
 intro x hx;have hx':∀j,j<c->x.testBit j=false:=λj hj=>hx j (by lia);have dp:dot n pv (2^c)=true:=by rw[eg pv hc];exact DG h1
 constructor
 .intro hz;cases hb:dot n pv x with
  |false=>
   obtain⟨y,hy,h2⟩:=(h x hx').mp λr hr=>by
    rcases hL r hr with rfl|⟨r',hr',hcl⟩
    .exact hb
    .have:=nX hcl x;rw[hz r' hr',hb,Gp,FO]at this;exact this.symm
   exact⟨y,FF hy (dg c),h2⟩
  |true=>
   obtain⟨y,hy,h2⟩:=(h (x^^^2^c) (nU hx)).mp λr hr=>by
    rw[fZ];rcases hL r hr with rfl|⟨r',hr',hcl⟩
    .rw[hb,dp];rfl
    .have:=nX hcl x;rw[hz r' hr',hb,Fw]at this;rw[eg r hc];exact this.symm
   refine⟨y^^^2^c,sH hy,λr hr=> ?_⟩;have:=h2 r hr;rw[Ec,Ge (2^c) y]at this;exact this
 .rintro⟨y,hy,h2⟩ r' hr';obtain⟨r,hr,hcl⟩:=hL' r' hr';rw[nX hcl x];rcases iU hy with ⟨hy',_⟩|⟨hy',_⟩
  .have h3:=(h x hx').mpr ⟨y,hy',h2⟩;rw[h3 r hr,h3 pv hp];rfl
  .have h3:=(h (x^^^2^c) (nU hx)).mpr ⟨y^^^2^c,hy',λr hr=>by rw[xx];exact h2 r hr⟩;have h4:=h3 r hr;have h5:=h3 pv hp;rw[fZ,dp]at h5;rw[fZ,eg r hc]at h4;have h6:dot n pv x=true:=by simpa using h5
   rw[h6,Fw];exact h4
def comb(cols:List Nat):Nat->Nat->Nat
 |0,_=>0
 |c+1,y=>if y.testBit c=true then comb cols c y^^^cols.getD c 0 else comb cols c y
theorem cR(cols:List Nat)(c y:Nat):comb cols (c+1) y=if y.testBit c=true then comb cols c y^^^cols.getD c 0 else comb cols c y:=rfl
theorem kL(cols:List Nat):∀ (c y z:Nat),(∀j,j<c->y.testBit j=z.testBit j)->comb cols c y=comb cols c z
 |0,_,_,_=>rfl
 |c+1,y,z,h=>by rw[cR,cR,h c (by lia),kL cols c y z λj hj=>h j (by lia)]
theorem nW(cols:List Nat):∀ (c v:Nat),c<=cols.length->(bD (cols.take c) v↔∃y,y<2^c/\comb cols c y=v)
 |0,v,_=>by
  constructor
  .intro h;cases h with
   |zero=>exact⟨0,by decide,rfl⟩
   |add _ hv=>simp at hv
  .rintro⟨y,_,rfl⟩;exact .zero
 |c+1,v,hc=>by
  have e:cols.take (c+1)=cols.take c++[cols.getD c 0]:=by
   rw[EB];have:c<cols.length:=by lia
   simp[this]
  rw[e,bD.snoc,nW cols c v (by lia),nW cols c _ (by lia)];constructor
  .rintro(⟨y,hy,rfl⟩|⟨y,hy,h⟩)
   .refine⟨y,FF hy (dg c),?_⟩;rw[cR,Dt (by rw[D8 hy];exact Dr)]
   .refine⟨y^^^2^c,sH hy,?_⟩;have hb:(y^^^2^c).testBit c=true:=by rw[EH,D8 hy,Nat.testBit_two_pow_self];rfl
    rw[cR,Dp hb,kL cols c (y^^^2^c) y λj hj=>by rw[EH,FC (by lia),FO],h,Ec,EO,Fh]
  .rintro⟨y,hy,h⟩;rcases iU hy with ⟨hy',hb⟩|⟨hy',hb⟩
   .refine .inl ⟨y,hy',?_⟩;rw[cR,Dt (by rw[hb];exact Dr)]at h;exact h
   .refine .inr ⟨y^^^2^c,hy',?_⟩;rw[cR,Dp hb]at h;rw[kL cols c (y^^^2^c) y λj hj=>by rw[EH,FC (by lia),FO],<-h,Ec,EO,Fh]
def ou(h:Nat)(cols:List Nat)(M:List (List Int)):Prop:=M.length=h/\∀i,i<h->∃r,M[i]?=some r/\∀j,j<cols.length->decide (r.getD j 0=1)=(cols.getD j 0).testBit i
theorem pV{cols:List Nat}{r:List Int}(hr:∀j,j<cols.length->decide (r.getD j 0=1)=(cols.getD j 0).testBit i):∀ (c y:Nat),c<=cols.length->y<2^c->dot cols.length r y=(comb cols c y).testBit i:=by
 intro c y hc hy;have gen:∀c,c<=cols.length->(List.range c).foldl (λb j=>b^^ (y.testBit j&&decide (r.getD j 0=1))) false=(comb cols c y).testBit i:=by
  intro c
  induction c with
  |zero=>intro _;exact(En i).symm
  |succ c ih=>
   intro hc;rw[ES,ER,ih (by lia)];show((comb cols c y).testBit i^^ (y.testBit c&&decide (r.getD c 0=1)))=_;rw[hr c (by lia),cR];cases y.testBit c with
   |true=>rw[Dp rfl,EH,Fw]
   |false=>rw[Dt Dr,Gp,FO]
 rw[<-gen c hc];unfold dot par;have gen2:∀n,c<=n->(List.range n).foldl (λb j=>b^^ (y.testBit j&&decide (r.getD j 0=1))) false=(List.range c).foldl (λb j=>b^^ (y.testBit j&&decide (r.getD j 0=1))) false:=by
  intro n hn
  induction n with
  |zero=>
       have:c=0:=by lia
       subst this;rfl
  |succ n ih=>
   by_cases e:c=n+1
   .rw[e]
   .rw[ES,ER,ih (by lia)];show(_^^ (y.testBit n&&_))=_;rw[D8 (Dq hy (DM (by lia) (show c<=n by lia))),Gp,FO]
 exact gen2 _ hc
theorem El.iff{cols:List Nat}(e:El cols.length M L c)(hM:ou h cols M)(hb:∀v∈cols,v<2^h)(hc:c<cols.length):(∀r∈L,¬r.getD c 0=1)↔bD (cols.take c) (cols.getD c 0):=by
 rw[nW cols c _ (by lia)];have hx:∀j,j<c->(2^c).testBit j=false:=λj hj=>FC (by lia);have e1:=e (2^c) hx;have e2:(∀r∈L,dot cols.length r (2^c)=false)↔∀r∈L,¬r.getD c 0=1:=by
  constructor
  .intro hz r hr;have:=hz r hr;rw[eg r hc]at this;exact Gj this
  .intro hz r hr;rw[eg r hc];exact Dy (hz r hr)
 rw[<-e2,e1];have below:∀y,y<2^c->comb cols c y<2^h:=by
  intro y _;have gen:∀c,c<=cols.length->comb cols c y<2^h:=by
   intro c
   induction c with
   |zero=>intro _;exact DZ (by lia)
   |succ c ih=>
    intro hc;rw[cR];split
    .refine Nat.xor_lt_two_pow (ih (by lia)) ?_;have:c<cols.length:=by lia
     have e:cols.getD c 0=cols[c]:=by simp[this]
     rw[e];exact hb _ (E7 this)
    .exact ih (by lia)
  exact gen c (by lia)
 have ec:cols.getD c 0=cols[c]:=by simp[hc]
 have cb:cols.getD c 0<2^h:=by rw[ec];exact hb _ (E7 hc)
 constructor
 .rintro⟨y,hy,hz⟩;refine⟨y,hy,DJ λi=> ?_⟩;by_cases hi:i<h
  .obtain⟨r,hr,hrr⟩:=hM.2 i hi;have:=hz r (Dv hr);rw[fZ,eg r hc,hrr c hc,pV hrr c y (by lia) hy]at this;cases h1:(cols.getD c 0).testBit i<;>cases h2:(comb cols c y).testBit i<;>simp_all
  .rw[D8 (Dq (below y hy) (DM (by lia) (by lia))),D8 (Dq cb (DM (by lia) (by lia)))]
 .rintro⟨y,hy,hz⟩;refine⟨y,hy,λr hr=> ?_⟩;obtain⟨i,hi⟩:=Fm hr;have hih:i<h:=by rw[<-hM.1];exact(DB.mp hi).1
  obtain⟨r',hr',hrr⟩:=hM.2 i hih;rw[hi]at hr';cases hr';rw[fZ,eg r hc,hrr c hc,pV hrr c y (by lia) hy,hz];simp
end Bh
namespace Bh
structure Mat(n:Nat)(r:Nat->Nat):Prop where
 n8:n<=8
 zero:r 0=0
 step:∀s k,s<2^n->k<n->r s<=r (s|||2^k)/\r (s|||2^k)<=r s+1
 sub:∀s j k,s<2^n->j<n->k<n->r (s|||2^j)=r s->r (s|||2^k)=r s->r (s|||2^j|||2^k)=r s
def Sub(a b:Nat):Prop:=∀k,a.testBit k=true->b.testBit k=true
theorem Sub.refl(a:Nat):Sub a a:=λ_ h=>h
theorem Sub.trans(h:Sub a b)(g:Sub b c):Sub a c:=λk hk=>g k (h k hk)
theorem Sub.lt(h:Sub a b)(hb:b<2^n):a<2^n:=F6 _ λi hi=>by
 cases e:a.testBit i with
 |false=>rfl
 |true=>
  have:=h i e;rw[D8 (Dq hb (DM (by lia) hi))]at this;cases this
theorem bN(hs:s<2^n)(hk:k<n):s|||2^k<2^n:=EC hs (Gw (by lia) hk)
theorem aO(s k j:Nat):(s|||2^k).testBit j=(s.testBit j||decide (k=j)):=by rw[DX,FL]
theorem dW{s k:Nat}(h:s.testBit k=true):s|||2^k=s:=DJ λj=>by
 rw[aO];by_cases e:k=j
 .subst e;rw[h];rfl
 .rw[Dy e,FI]
def upto(s t:Nat):Nat->Nat
 |0=>s
 |i+1=>if t.testBit i=true then upto s t i|||2^i else upto s t i
theorem cv(s t i:Nat):upto s t (i+1)=if t.testBit i=true then upto s t i|||2^i else upto s t i:=rfl
theorem eF(s t j:Nat):∀i,(upto s t i).testBit j=(s.testBit j||(decide (j<i)&&t.testBit j))
 |0=>by simp[upto]
 |i+1=>by
  rw[cv];by_cases hb:t.testBit i=true
  .rw[Dp hb,aO,eF s t j i];by_cases e:i=j
   .subst e;simp[hb]
   .have h2:decide (j<i+1)=decide (j<i):=by
     by_cases h:j<i
     .rw[DG h,DG (by lia)]
     .rw[Dy h,Dy (by lia)]
    rw[Dy e,h2,FI]
  .rw[Dt hb,eF s t j i];by_cases e:i=j
   .subst e;simp[hb]
   .have h2:decide (j<i+1)=decide (j<i):=by
     by_cases h:j<i
     .rw[DG h,DG (by lia)]
     .rw[Dy h,Dy (by lia)]
    rw[h2]
theorem dH(ht:t<2^n):upto s t n=s|||t:=DJ λj=>by
 rw[eF,DX];by_cases h:j<n
 .rw[DG h,Fw]
 .rw[D8 (Dq ht (DM (by lia) (by lia))),Bool.and_false]
theorem d6(hs:s<2^n):∀i,i<=n->upto s t i<2^n
 |0,_=>hs
 |i+1,hi=>by
  rw[cv];split
  .exact bN (d6 hs i (by lia)) (by lia)
  .exact d6 hs i (by lia)
theorem nE(h:Sub s t):s|||t=t:=DJ λj=>by
 rw[DX];cases e:s.testBit j with
 |false=>rfl
 |true=>rw[h j e];rfl
namespace Mat
variable{n:Nat}{r:Nat->Nat}(M:Mat n r)
include M
theorem mono(h:Sub s t)(ht:t<2^n):r s<=r t:=by
 have hs:=h.lt ht;have gen:∀i,i<=n->r s<=r (upto s t i):=by
  intro i
  induction i with
  |zero=>intro _;exact Dl _
  |succ i ih=>
   intro hi;rw[cv];split
   .exact Du (ih (by lia)) (M.step _ i (d6 hs i (by lia)) (by lia)).1
   .exact ih (by lia)
 have:=gen n (Dl _);rw[dH ht,nE h]at this;exact this
theorem keep(h:Sub s t)(ht:t<2^n)(hk:k<n)(e:r (s|||2^k)=r s):r (t|||2^k)=r t:=by
 have hs:=h.lt ht;have gen:∀i,i<=n->r (upto s t i|||2^k)=r (upto s t i):=by
  intro i
  induction i with
  |zero=>intro _;exact e
  |succ i ih=>
   intro hi;have ih:=ih (by lia);rw[cv];split
   .have hl:=d6 (t:=t) hs i (by lia);generalize upto s t i=u at*;have s1:=M.step u i hl (by lia);have s2:=M.step (u|||2^i) k (bN hl (by lia)) hk;have s3:=M.step (u|||2^k) i (bN hl hk) (by lia);have ec:u|||2^k|||2^i=u|||2^i|||2^k:=by rw[EU,Hy (2^k),<-EU]
    rw[ec]at s3;by_cases e1:r (u|||2^i)=r u
    .have:=M.sub u i k hl (by lia) hk e1 ih;lia
    .lia
   .exact ih
 have:=gen n (Dl _);rw[dH ht,nE h]at this;exact this
theorem closed{s t:Nat}(hs:s<2^n)(ht:t<2^n)(h:∀k,t.testBit k=true->r (s|||2^k)=r s):r (s|||t)=r s:=by
 have gen:∀i,i<=n->r (upto s t i)=r s:=by
  intro i
  induction i with
  |zero=>intro _;rfl
  |succ i ih=>
   intro hi;have ih:=ih (by lia);rw[cv];split
   .rename_i hb;have hsu:Sub s (upto s t i):=λj hj=>by rw[eF,hj];rfl
    rw[M.keep hsu (d6 hs i (by lia)) (by lia) (h i hb)];exact ih
   .exact ih
 have:=gen n (Dl _)
 rwa [dH ht]at this
end Mat
def grow(r:Nat->Nat)(s t:Nat):Nat->Nat
 |0=>s
 |i+1=>if t.testBit i=true/\r (grow r s t i)<r (grow r s t i|||2^i)then grow r s t i|||2^i else grow r s t i
theorem vR(r:Nat->Nat)(s t i:Nat):grow r s t (i+1)=if t.testBit i=true/\r (grow r s t i)<r (grow r s t i|||2^i)then grow r s t i|||2^i else grow r s t i:=rfl
theorem bY:∀s:Nat,s<256->∀k:Nat,k<8->s.testBit k=false->sz (s|||2^k)=sz s+1:=by decide+kernel
theorem AY(h:n<=8):2^n<=256:=DM (n:=2) (by lia) h
namespace Mat
variable{n:Nat}{r:Nat->Nat}(M:Mat n r)
include M
theorem c7(hs:s<2^n):s<256:=Dq hs (AY M.n8)
theorem CI:∀s,s<2^n->r s<=sz s:=by
 intro s hs;have gen:∀i,i<=n->r (upto 0 s i)<=sz (upto 0 s i):=by
  intro i
  induction i with
  |zero=>intro _;show r 0<=_;rw[M.zero];exact DV _
  |succ i ih=>
   intro hi;have ih:=ih (by lia);rw[cv];have hl:upto 0 s i<2^n:=d6 (DZ (by lia)) i (by lia);split
   .have hb:(upto 0 s i).testBit i=false:=by rw[eF];simp
    rw[bY _ (M.c7 hl) i (by have:=M.n8;lia) hb];have:=(M.step _ i hl (by lia)).2;lia
   .exact ih
 have:=gen n (Dl _);rw[dH hs,Iu]at this;exact this
theorem r6{s t:Nat}(hst:Sub s t)(ht:t<2^n)(hf:r s=sz s):∀i,i<=n->Sub s (grow r s t i)/\Sub (grow r s t i) t/\r (grow r s t i)=sz (grow r s t i)/\
  ∀k,k<i->t.testBit k=true->r (grow r s t i|||2^k)=r (grow r s t i):=by
 intro i
 induction i with
 |zero=>intro _;exact⟨Sub.refl _,hst,hf,λk hk=>absurd hk (EZ _)⟩
 |succ i ih=>
  intro hi;obtain⟨h1,h2,h3,h4⟩:=ih (by lia);rw[vR];have hl:=h2.lt ht;generalize grow r s t i=g at*;have n8:=M.n8;by_cases c:t.testBit i=true/\r g<r (g|||2^i)
  .rw[Dp c];have hb:g.testBit i=false:=by
    cases e:g.testBit i with
    |false=>rfl
    |true=>rw[dW e]at c;exact absurd c.2 (Eb _)
   have st:=M.step g i hl (by lia);have hl2:=bN (k:=i) hl (by lia);have hsub:Sub g (g|||2^i):=λj hj=>by rw[aO,hj];rfl
   refine⟨h1.trans hsub,λj hj=> ?_,?_,λk hk hk2=> ?_⟩
   .rw[aO]at hj;by_cases e:i=j
    .subst e;exact c.1
    .rw[Dy e,FI]at hj;exact h2 j hj
   .rw[bY g (M.c7 hl) i (by lia) hb];lia
   .by_cases e:k=i
    .subst e;rw[dW];rw[aO];simp
    .exact M.keep hsub hl2 (by lia) (h4 k (by lia) hk2)
  .rw[Dt c];refine⟨h1,h2,h3,λk hk hk2=> ?_⟩;by_cases e:k=i
   .subst e;have st:=M.step g k hl (by lia);have:¬r g<r (g|||2^k):=λz=>c ⟨hk2,z⟩;lia
   .exact h4 k (by lia) hk2
theorem extend(hst:Sub s t)(ht:t<2^n)(hf:r s=sz s):∃g,Sub s g/\Sub g t/\r g=sz g/\r g=r t:=by
 obtain⟨h1,h2,h3,h4⟩:=M.r6 hst ht hf n (Dl _);refine⟨grow r s t n,h1,h2,h3,?_⟩;have hl:=h2.lt ht;have:=M.closed hl ht λk hk=>h4 k (by
  refine Gv λhn=> ?_;rw[D8 (Dq ht (DM (by lia) hn))]at hk;cases hk) hk
 rw[nE h2]at this;exact this.symm
end Mat
end Bh
namespace Bh
theorem uO(a b:Nat):Sub (a&&&b) a:=λk h=>by rw[DH,Ea]at h;exact h.1
theorem uN(a b:Nat):Sub (a&&&b) b:=λk h=>by rw[DH,Ea]at h;exact h.2
theorem zM(h:Sub a b)(g:Sub a c):Sub a (b&&&c):=λk hk=>by rw[DH,h k hk,g k hk];rfl
theorem oF(hs:s<2^n):Sub s (2^n-1):=λk hk=>by rw[E4];refine DG (Gv λh=> ?_);rw[D8 (Dq hs (DM (by lia) h))]at hk;cases hk
theorem fY(n:Nat):2^n-1<2^n:=by have:0<2^n:=DZ (by lia);lia
theorem cw:sz 0=0:=by decide
namespace Mat
variable{n:Nat}{r:Nat->Nat}(M:Mat n r)
include M
theorem ug(h:Sub x b)(hb:b<2^n):r b+sz x<=r x+sz b:=by
 have hx:=h.lt hb;have gen:∀i,i<=n->r (upto x b i)+sz x<=r x+sz (upto x b i):=by
  intro i
  induction i with
  |zero=>intro _;exact Dl _
  |succ i ih=>
   intro hi;have ih:=ih (by lia);rw[cv];have hl:=d6 (t:=b) hx i (by lia);split
   .generalize upto x b i=u at*;cases e:u.testBit i with
    |true=>rw[dW e];exact ih
    |false=>
     rw[bY u (M.c7 hl) i (by have:=M.n8;lia) e];have:=(M.step u i hl (by lia)).2;lia
   .exact ih
 have:=gen n (Dl _);rw[dH hb,nE h]at this;exact this
theorem hU(h:Sub x b)(hb:b<2^n)(hf:r b=sz b):r x=sz x:=by have h1:=M.ug h hb;have h2:=M.CI x (h.lt hb);lia
theorem zi(hm:∀z,z∈ms↔∃b:Nat,b<2^n/\z=(b:Int)/\r b=sz b/\r b=r (2^n-1))(hs:s<2^n):gM ms s=r s:=by
 obtain⟨g,_,hgs,hgf,hgr⟩:=M.extend (s:=0) (t:=s) (λk h=>by rw[En]at h;cases h) hs (by rw[M.zero,cw]);obtain⟨b,hgb,hbf,hbz,hbr⟩:=M.extend (t:=2^n-1) (oF (hgs.lt hs)) (fY n) hgf;have hbl:b<2^n:=hbf.lt (fY n);have key:∀b:Nat,b<2^n->r b=sz b->sz (s&&&b)<=r s:=λb hb hf=>by rw[<-M.hU (uN s b) hb hf];exact M.mono (uO s b) hs
 refine i3 ⟨(b:Int),(hm _).mpr ⟨b,hbl,rfl,hbz,hbr⟩,?_⟩ λm hmm=> ?_
 .rw[Dk];have h1:=key b hbl hbz;have h2:sz g<=sz (s&&&b):=sL λk _ hk=>zM hgs hgb k hk;lia
 .obtain⟨b',hb',rfl,hf',_⟩:=(hm m).mp hmm;rw[Dk];exact key b' hb' hf'
theorem AM(hm:∀z,z∈ms↔∃b:Nat,b<2^n/\z=(b:Int)/\r b=sz b/\r b=r (2^n-1)):ms≠[]:=by obtain⟨b,_,hbf,hbz,hbr⟩:=M.extend (s:=0) (t:=2^n-1) (λk h=>by rw[En]at h;cases h) (fY n) (by rw[M.zero,cw]);intro e;have:=(hm (b:Int)).mpr ⟨b,hbf.lt (fY n),rfl,hbz,hbr⟩;rw[e]at this;cases this
end Mat
def bc(cols:List Nat)(s:Nat):List Nat:=(bits s).map λz:Int=>cols.getD z.toNat 0
theorem cp{cols:List Nat}{s v:Nat}:v∈bc cols s↔∃k,k<8/\s.testBit k=true/\v=cols.getD k 0:=by
 unfold bc;rw[DL];constructor
 .rintro⟨z,hz,rfl⟩;obtain⟨k,hk,hb,rfl⟩:=eO.mp hz;exact⟨k,hk,hb,by rw[Dk]⟩
 .rintro⟨k,hk,hb,rfl⟩;exact⟨(k:Int),eO.mpr ⟨k,hk,hb,rfl⟩,by rw[Dk]⟩
def rkC(cols:List Nat)(s:Nat):Nat:=rkX (bc cols s)
theorem rg(cols:List Nat)(hk:k<8):rkC cols (s|||2^k)=rkX (bc cols s++[cols.getD k 0]):=by
 refine Ew (xj λv hv=> ?_) (xj λv hv=> ?_)
 .obtain⟨j,hj,hb,rfl⟩:=cp.mp hv;rw[aO]at hb;by_cases e:k=j
  .subst e;exact .of_mem (D7 _ (DN.mpr rfl))
  .rw[Dy e,FI]at hb;exact .of_mem (Ep _ (cp.mpr ⟨j,hj,hb,rfl⟩))
 .rcases DW.mp hv with hv|hv
  .obtain⟨j,hj,hb,rfl⟩:=cp.mp hv;exact .of_mem (cp.mpr ⟨j,hj,by rw[aO,hb];rfl,rfl⟩)
  .rw[DN.mp hv];exact .of_mem (cp.mpr ⟨k,hk,by rw[aO];simp,rfl⟩)
theorem gW(cols:List Nat)(h8:n<=8):Mat n (rkC cols):=by
 refine⟨h8,?_,λs k hs hk=> ?_,λs j k hs hj hk e1 e2=> ?_⟩
 .show rkX (bc cols 0)=0;have:bits 0=[]:=by decide
  have:bc cols 0=[]:=by unfold bc;rw[this];rfl
  rw[this];rfl
 .rw[rg cols (by lia)];show rkX _<=_/\_<=rkX _+1;by_cases h:bD (bc cols s) (cols.getD k 0)
  .rw[iy h];lia
  .rw[e6 h];lia
 .rw[rg cols (by lia)]at e1 e2⊢;have in1:bD (bc cols s) (cols.getD j 0):=by refine Fd λh=> ?_;rw[e6 h]at e1;have:rkX (bc cols s)+1=rkX (bc cols s):=e1;lia
  have in2:bD (bc cols s) (cols.getD k 0):=by refine Fd λh=> ?_;rw[e6 h]at e2;have:rkX (bc cols s)+1=rkX (bc cols s):=e2;lia
  have sub:∀v∈bc cols s,v∈bc cols (s|||2^j):=λv hv=>by obtain⟨i,hi,hb,rfl⟩:=cp.mp hv;exact cp.mpr ⟨i,hi,by rw[aO,hb];rfl,rfl⟩
  rw[iy (in2.sub λv hv=> .of_mem (sub v hv))];show rkC cols (s|||2^j)=_;rw[rg cols (by lia)];exact e1
def rkG(m:Nat)(gone:List Int)(s:Nat):Nat:=min (sz s) m- (if(s:Int)∈gone then 1 else 0)
structure fR(n m:Nat)(gone:List Int):Prop where
 size:∀z∈gone,∃s:Nat,s<2^n/\z=(s:Int)/\sz s=m
 far:Far (m:Int) gone
 mid:gone=[]\/(0<m/\m<n)
theorem fR.not(h:fR n m gone)(hs:¬sz s=m):¬(s:Int)∈gone:=λhm=>by
 obtain⟨t,_,e,ht⟩:=h.size _ hm;have:s=t:=by lia
 rw[this]at hs;exact hs ht
theorem sy{s j k:Nat}(hj:s.testBit j=false)(hk:s.testBit k=false)(hjk:j≠k):(s|||2^j)&&& (s|||2^k)=s:=DJ λi=>by
 rw[DH,aO,aO];by_cases e1:j=i
 .subst e1;rw[hj,Dy (E8 hjk)];simp
 .by_cases e2:k=i
  .subst e2;rw[hk,Dy e1];simp
  .rw[Dy e1,Dy e2];simp
theorem pE(h8:n<=8)(h:fR n m gone):Mat n (rkG m gone):=by
 have b256:∀ {s},s<2^n->s<256:=λhs=>Dq hs (AY h8);have one:∀ (s:Nat),(if(s:Int)∈gone then 1 else 0)<=1:=λs=>by split<;>lia
 have off:∀ {s:Nat},¬sz s=m->rkG m gone s=min (sz s) m:=λhs=>by unfold rkG;rw[Dt (h.not hs)];rfl
 have low:∀ (s:Nat),rkG m gone s<=min (sz s) m/\min (sz s) m<=rkG m gone s+1:=λs=>by unfold rkG;have:=one s;lia
 refine⟨h8,?_,λs k hs hk=> ?_,λs j k hs hj hk e1 e2=> ?_⟩
 .unfold rkG;rw[cw];lia
 .cases e:s.testBit k with
  |true=>rw[dW e];lia
  |false=>
   have hz:=bY s (b256 hs) k (by lia) e;have l1:=low s;have l2:=low (s|||2^k);by_cases c1:sz s=m
   .have o2:=off (s:=s|||2^k) (by lia);lia
   .have o1:=off c1;by_cases c2:sz (s|||2^k)=m
    .lia
    .have o2:=off c2;lia
 .cases ej:s.testBit j with
  |true=>rw[dW ej];exact e2
  |false=>
   cases ek:s.testBit k with
   |true=>
    have hk2:(s|||2^j).testBit k=true:=by rw[aO,ek];rfl
    rw[dW hk2];exact e1
   |false=>
    by_cases hjk:j=k
    .subst hjk;rw[dW (by rw[aO];simp)];exact e1
    .have zj:=bY s (b256 hs) j (by lia) ej;have zk:=bY s (b256 hs) k (by lia) ek;have ek2:(s|||2^j).testBit k=false:=by rw[aO,ek,Dy hjk];rfl
     have zjk:=bY (s|||2^j) (b256 (bN hs hj)) k (by lia) ek2;by_cases c1:sz s=m
     .have oj:=off (s:=s|||2^j) (by lia);have ojk:=off (s:=s|||2^j|||2^k) (by lia);lia
     .have o1:=off c1;by_cases c2:sz (s|||2^j)=m
      .exfalso;have gj:((s|||2^j:Nat):Int)∈gone:=by
        refine Fd λhn=> ?_;have:rkG m gone (s|||2^j)=min (sz (s|||2^j)) m:=by unfold rkG;rw[Dt hn];rfl
        lia
       have gk:((s|||2^k:Nat):Int)∈gone:=by
        refine Fd λhn=> ?_;have:rkG m gone (s|||2^k)=min (sz (s|||2^k)) m:=by unfold rkG;rw[Dt hn];rfl
        lia
       have hne:((s|||2^j:Nat):Int)≠((s|||2^k:Nat):Int):=λe=>by
        have e':s|||2^j=s|||2^k:=by lia
        have:(s|||2^j).testBit k=(s|||2^k).testBit k:=by rw[e']
        rw[ek2,aO]at this;simp at this
       have:=h.far _ gj _ gk hne;rw[Dk,Dk,sy ej ek hjk]at this;lia
      .have oj:=off c2;have ok:=off (s:=s|||2^k) (by lia);by_cases c3:sz (s|||2^j|||2^k)=m
       .lia
       .have:=off c3;lia
theorem yi(h8:n<=8):Mat n λ_=>0:=⟨h8,rfl,λ_ _ _ _=>⟨Dl _,DV _⟩,λ_ _ _ _ _ _ _ _=>rfl⟩
end Bh
namespace Bh
theorem ia(p q:Nat->Bool):∀l:List Nat,(l.filter λk=>p k&&q k).length+(l.filter λk=>p k&& !q k).length=(l.filter p).length
 | []=>rfl
 |k::l=>by have ih:=ia p q l;rw[Fx,Fx,Fx];cases hp:p k<;>cases hq:q k<;>simp[hp,hq]<;>lia
theorem gH{s a b:Nat}(q:Nat->Bool)(ha:∀k,k<8->a.testBit k=(s.testBit k&&q k))(hb:∀k,k<8->b.testBit k=(s.testBit k&& !q k)):sz a+sz b=sz s:=by rw[dI,dI,dI,<-ia s.testBit q (List.range 8)];have e1:(List.range 8).filter a.testBit=(List.range 8).filter λk=>s.testBit k&&q k:=HV λk hk=>ha k (DT.mp hk);have e2:(List.range 8).filter b.testBit=(List.range 8).filter λk=>s.testBit k&& !q k:=HV λk hk=>hb k (DT.mp hk);rw[e1,e2]
theorem vS(hb:b<2^n):2^n-1-b=aX (2^n-1) b:=DJ λi=>by rw[pI,E4,show 2^n-1-b=2^n- (b+1) by lia,FP hb]
theorem cH{n s:Nat}(k:Nat):(aX (2^n-1) s).testBit k=(decide (k<n)&& !s.testBit k):=by rw[pI,E4]
theorem f7{n s k:Nat}(hs:s<2^n)(h:s.testBit k=true):k<n:=by refine Gv λhn=> ?_;rw[D8 (Dq hs (DM (by lia) hn))]at h;cases h
theorem sM(hn:n<=8)(hs:s<2^n):sz s+sz (aX (2^n-1) s)=n:=by
 have h:=gH (s:=2^n-1) (a:=s) (b:=aX (2^n-1) s) s.testBit (λk _=> ?_) λk _=> ?_
 .rw[h];exact qV n (by lia)
 .rw[E4];cases hb:s.testBit k with
  |false=>rw[Bool.and_false]
  |true=>rw[DG (f7 hs hb)];rfl
 .rw[cH,E4]
def ib(n:Nat)(r:Nat->Nat)(s:Nat):Nat:=sz s+r (aX (2^n-1) s) -r (2^n-1)
namespace Mat
variable{n:Nat}{r:Nat->Nat}(M:Mat n r)
include M
theorem AL(hs:s<2^n):r (2^n-1)<=sz s+r (aX (2^n-1) s):=by have hl:aX (2^n-1) s<2^n:=Dw (jx _ _) (fY n);have h:=M.ug (oF hl) (fY n);have h1:=sM M.n8 hs;have h2:=qV n (by have:=M.n8;lia);lia
theorem dq(hs:s<2^n):((ib n r s:Nat):Int)=(sz s:Int)+(r (aX (2^n-1) s):Nat) - (r (2^n-1):Nat):=by have:=M.AL hs;unfold ib;lia
end Mat
end Bh
namespace Bh
theorem eY{s h t:Nat}:(bG s h).testBit t=true↔∃j,(bits h)[j]?=some (t:Int)/\s.testBit j=true:=by
 unfold bG;rw[xh λz hz=>(i4 z hz).1,md];constructor
 .rintro⟨j,h1,h2⟩;exact⟨j,h1,by rw[Hh]at h2;exact h2⟩
 .rintro⟨j,h1,h2⟩;exact⟨j,h1,by rw[Hh];exact h2⟩
theorem B5{h j t:Nat}(hj:(bits h)[j]?=some (t:Int)):h.testBit t=true:=by
 obtain⟨k,_,hb,e⟩:=eO.mp (Dv hj);have:t=k:=by lia
 rw[this];exact hb
theorem gx(s h:Nat):Sub (bG s h) h:=λt ht=>by obtain⟨j,hj,_⟩:=eY.mp ht;exact B5 hj
def wd(ks:List Int)(s low:Nat):Nat->Nat
 |0=>low
 |j+1=>if s.testBit j=true then wd ks s low j|||2^(ks.getD j 0).toNat else wd ks s low j
def vq(r:Nat->Nat)(k w:Nat)(s:Nat):Nat:=r (bG s k|||w) -r w
theorem Mat.min_int(M:Mat n r)(hk:k<2^n)(hw:w<2^n)(s:Nat):((vq r k w s:Nat):Int)=(r (bG s k|||w):Nat) - (r w:Nat):=by
 have h1:bG s k|||w<2^n:=EC ((gx s k).lt hk) hw;have h2:Sub w (bG s k|||w):=λt h=>by rw[DX,h,Hn]
 have:=M.mono h2 h1;unfold vq;lia
end Bh
namespace Bh
theorem nF{s k:Nat}(h:s.testBit k=true):s|||2^k=s:=DJ λj=>by
 rw[aO];by_cases e:k=j
 .subst e;rw[h];rfl
 .rw[Dy e,FI]
theorem rC(s k:Nat):s|||2^k|||2^k=s|||2^k:=by rw[EU,Nat.or_self]
theorem t5(s j k:Nat):s|||2^j|||2^k=s|||2^k|||2^j:=by rw[EU,Hy (2^j),<-EU]
theorem eN(hs:s<2^n)(hk:k<n):s|||2^k<2^n:=EC hs (Gw (by lia) hk)
theorem jw{n s k:Nat}(hk:k<n)(h:s.testBit k=false):aX (2^n-1) (s|||2^k)|||2^k=aX (2^n-1) s:=DJ λj=>by
 rw[aO,cH,cH,aO];by_cases e:k=j
 .subst e;rw[h,DG hk,DG rfl];rfl
 .rw[Dy e,FI,FI]
theorem vF(n:Nat):aX (2^n-1) 0=2^n-1:=DJ λj=>by rw[cH,En,E4];simp
theorem jI{s k:Nat}(hs:s<256)(hk:k<8)(h:s.testBit k=false):sz (s|||2^k)=sz s+1:=bY s hs k hk h
theorem kx:aX (2^n-1) s<2^n:=Dw (jx _ _) (by have:0<2^n:=DZ (by lia);lia)
theorem sz0:sz 0=0:=by decide
theorem Mat.dual(M:Mat n r):Mat n (ib n r):=by
 have n8:=M.n8;refine⟨n8,?_,λs k hs hk=> ?_,λs j k hs hj hk h1 h2=> ?_⟩
 .unfold ib;rw[vF,sz0];lia
 .by_cases hb:s.testBit k=true
  .rw[nF hb];lia
  .have hb':s.testBit k=false:=by simpa using hb
   have e1:=M.dq hs;have e2:=M.dq (eN hs hk);have e3:=jw hk hb';have e4:=(M.step (aX (2^n-1) (s|||2^k)) k kx hk);rw[e3]at e4;rw[jI (M.c7 hs) (by lia) hb']at e2;lia
 .by_cases hjs:s.testBit j=true
  .rw[nF hjs];exact h2
  by_cases hks:s.testBit k=true
  .rw[t5,nF hks];exact h1
  by_cases hjk:j=k
  .subst hjk;rw[rC];exact h1
  have hjs':s.testBit j=false:=by simpa using hjs
  have hks':s.testBit k=false:=by simpa using hks
  have hjk1:(s|||2^k).testBit j=false:=by rw[aO,hjs',Dy (λe=>hjk e.symm)];rfl
  have hkj1:(s|||2^j).testBit k=false:=by rw[aO,hks',Dy hjk];rfl
  have ls:=eN hs hj;have lk:=eN hs hk;have lsk:=eN ls hk;have d0:=M.dq hs;have dj:=M.dq ls;have dk:=M.dq lk;have djk:=M.dq lsk;have s1:=jI (M.c7 hs) (show j<8 by lia) hjs';have s2:=jI (M.c7 hs) (show k<8 by lia) hks';have s3:=jI (M.c7 ls) (show k<8 by lia) hkj1;have u1:=jw (n:=n) hk hkj1;have u2:=jw (n:=n) hj hjk1;rw[<-t5 s j k]at u2;have u3:=jw (n:=n) hj hjs';have ul:aX (2^n-1) (s|||2^j|||2^k)<2^n:=kx;generalize aX (2^n-1) (s|||2^j|||2^k)=u at*;rw[<-u3,<-u1]at d0;rw[<-u1]at dj;rw[<-u2]at dk;have sub:=M.sub u k j ul hk hj;have stj:=M.step u j ul hj;have stk:=M.step u k ul hk;have stkj:=M.step (u|||2^k) j (eN ul hk) hj;lia
theorem iw{k i:Nat}(hi:i<sz k):∃t,k.testBit t=true/\∀s,bG (s|||2^i) k=bG s k|||2^t:=by
 have hil:i<(bits k).length:=hi;have hz:(bits k)[i]?=some (bits k)[i]:=Ds hil;generalize (bits k)[i]=z at hz;obtain⟨t,_,hb,rfl⟩:=eO.mp (Dv hz);refine⟨t,hb,λs=>DJ λj=> ?_⟩;rw[FE,eY,aO,ET,eY];constructor
 .rintro⟨m,h1,h2⟩;rw[aO,ET]at h2;rcases h2 with h2|h2
  .exact .inl ⟨m,h1,h2⟩
  .have e:=DY h2;subst e;rw[hz]at h1;have:=DS h1;exact .inr (DG (by lia))
 .rintro(⟨m,h1,h2⟩|h)
  .exact⟨m,h1,by rw[aO,h2];rfl⟩
  .have e:=DY h;subst e;exact⟨i,hz,by rw[aO,DG rfl,Hn]⟩
theorem oH(k:Nat):bG 0 k=0:=DJ λt=>by
 rw[En];cases h:(bG 0 k).testBit t with
 |false=>rfl
 |true=>
  obtain⟨j,_,h2⟩:=eY.mp h;rw[En]at h2;cases h2
theorem j6(a b w:Nat):a|||b|||w=a|||w|||b:=by rw[EU,Hy b w,<-EU]
theorem Mat.minor(M:Mat n r)(hk:k<2^n)(hw:w<2^n):Mat (sz k) (vq r k w):=by
 have xl:∀s,bG s k|||w<2^n:=λs=>EC ((gx s k).lt hk) hw;refine⟨dt k,?_,λs i hs hi=> ?_,λs i j hs hi hj h1 h2=> ?_⟩
 .unfold vq;rw[oH,Iu];lia
 .obtain⟨t,ht,e⟩:=iw hi;have tn:=f7 hk ht;have a1:=M.min_int hk hw s;have a2:=M.min_int hk hw (s|||2^i);rw[e,j6]at a2;have:=M.step _ t (xl s) tn;lia
 .obtain⟨t,ht,e⟩:=iw hi;obtain⟨u,hu,e2⟩:=iw hj;have tn:=f7 hk ht;have un:=f7 hk hu;have a0:=M.min_int hk hw s;have a1:=M.min_int hk hw (s|||2^i);have a2:=M.min_int hk hw (s|||2^j);have a3:=M.min_int hk hw (s|||2^i|||2^j);rw[e,j6]at a1;rw[e2,j6]at a2;have e5:bG (s|||2^i|||2^j) k|||w=bG s k|||w|||2^t|||2^u:=by rw[e2,e,j6 _ (2^u) w,j6 _ (2^t) w]
  rw[e5]at a3;have:=M.sub _ t u (xl s) tn un (by lia) (by lia);lia
theorem ju{n s j:Nat}:(s % 2^n).testBit j=(decide (j<n)&&s.testBit j):=by rw[Nat.testBit_mod_two_pow]
theorem gy(hk:k<n):(s|||2^k) % 2^n=s % 2^n|||2^k/\(s|||2^k) /2^n=s/2^n:=by
 refine⟨DJ λj=> ?_,DJ λj=> ?_⟩
 .rw[ju,aO,aO,ju];by_cases e:k=j
  .subst e;simp[hk]
  .simp[e]
 .rw[Fp,Fp,aO,Dy (by lia),FI]
theorem fg(hk:n<=k):(s|||2^k) % 2^n=s % 2^n/\(s|||2^k) /2^n=s/2^n|||2^(k-n):=by
 refine⟨DJ λj=> ?_,DJ λj=> ?_⟩
 .rw[ju,aO,ju];by_cases hj:j<n
  .rw[Dy (show¬k=j by lia),FI]
  .rw[Dy hj];rfl
 .rw[Fp,aO,aO,Fp];congr 1;exact decide_eq_decide.mpr ⟨λh=>by lia,λh=>by lia⟩
def fH(n1:Nat)(r1 r2:Nat->Nat)(s:Nat):Nat:=r1 (s % 2^n1)+r2 (s/2^n1)
theorem Mat.side(M1:Mat n1 r1)(M2:Mat n2 r2)(h8:n1+n2<=8):Mat (n1+n2) (fH n1 r1 r2):=by
 have p1:0<2^n1:=DZ (by lia);have lo:∀s,s % 2^n1<2^n1:=λs=>Nat.mod_lt _ p1;have hi:∀s,s<2^(n1+n2)->s/2^n1<2^n2:=λs hs=>by rw[Nat.div_lt_iff_lt_mul p1,<-Nat.pow_add,Nat.add_comm n2 n1];exact hs
 refine⟨h8,?_,λs k hs hk=> ?_,λs j k hs hj hk e1 e2=> ?_⟩
 .unfold fH;rw[Nat.zero_mod,Nat.zero_div,M1.zero,M2.zero]
 .unfold fH;by_cases h:k<n1
  .obtain⟨a,b⟩:=gy (s:=s) h;rw[a,b];have:=M1.step _ k (lo s) h;lia
  .obtain⟨a,b⟩:=fg (n:=n1) (s:=s) (k:=k) (by lia);rw[a,b];have:=M2.step _ (k-n1) (hi s hs) (by lia);lia
 .unfold fH at*;by_cases hjn:j<n1<;>by_cases hkn:k<n1
  .obtain⟨a,b⟩:=gy (s:=s) hjn;obtain⟨c,d⟩:=gy (s:=s) hkn;obtain⟨e,f⟩:=gy (s:=s|||2^j) hkn;rw[a,b]at e1;rw[c,d]at e2;rw[e,f,a,b];have:=M1.sub _ j k (lo s) hjn hkn (by lia) (by lia);lia
  .obtain⟨a,b⟩:=gy (s:=s) hjn;obtain⟨c,d⟩:=fg (n:=n1) (s:=s) (k:=k) (by lia);obtain⟨e,f⟩:=fg (n:=n1) (s:=s|||2^j) (k:=k) (by lia);rw[a,b]at e1;rw[c,d]at e2;rw[e,f,a,b];lia
  .obtain⟨a,b⟩:=fg (n:=n1) (s:=s) (k:=j) (by lia);obtain⟨c,d⟩:=gy (s:=s) hkn;obtain⟨e,f⟩:=gy (s:=s|||2^j) hkn;rw[a,b]at e1;rw[c,d]at e2;rw[e,f,a,b];lia
  .obtain⟨a,b⟩:=fg (n:=n1) (s:=s) (k:=j) (by lia);obtain⟨c,d⟩:=fg (n:=n1) (s:=s) (k:=k) (by lia);obtain⟨e,f⟩:=fg (n:=n1) (s:=s|||2^j) (k:=k) (by lia);rw[a,b]at e1;rw[c,d]at e2;rw[e,f,a,b];have:=M2.sub _ (j-n1) (k-n1) (hi s hs) (by lia) (by lia) (by lia) (by lia);lia
theorem wX{a b:Nat}(h:∀t,a.testBit t=true->b.testBit t=true->False):sz (a|||b)=sz a+sz b:=by
 refine(gH (s:=a|||b) (a:=a) (b:=b) a.testBit (λk _=> ?_) λk _=> ?_).symm
 .rw[DX];cases a.testBit k<;>simp
 .rw[DX];have:=h k;cases h1:a.testBit k<;>cases h2:b.testBit k<;>simp_all
end Bh
namespace Bh
namespace Mat
variable{n:Nat}{r:Nat->Nat}(M:Mat n r)
include M
end Mat
end Bh
namespace Bh
end Bh
namespace Bh
end Bh
namespace Bh
def greedy(r:Nat->Nat):Nat->List Nat->Nat
 |s,[]=>s
 |s,t::l=>greedy r (if r (s|||2^t)>r s then s|||2^t else s) l
end Bh
namespace Bh
def gs(w:Nat->Int)(t u:Nat):Prop:=w u<w t\/(w u=w t/\t<u)
theorem gs.irrefl(h:gs w t u)(g:gs w u t):False:=by unfold gs at*;lia
theorem ig:∀ {l m:List Nat},l.Perm m->l.Pairwise (gs w)->m.Pairwise (gs w)->l=m
 | [],m,hp,_,_=>(List.nil_perm.mp hp).symm
 |x::l,[],hp,_,_=>absurd hp.length_eq (by simp)
 |x::l,y::m,hp,hl,hm=>by
  obtain⟨h1,h2⟩:=FR.mp hl;obtain⟨g1,g2⟩:=FR.mp hm;have e:x=y:=by
   refine Fd λne=> ?_;have hx:x∈m:=by
    rcases Dz.mp (hp.mem_iff.mp (DE (a:=x)))with h|h
    .exact absurd h ne
    .exact h
   have hy:y∈l:=by
    rcases Dz.mp (hp.mem_iff.mpr (DE (a:=y)))with h|h
    .exact absurd h.symm ne
    .exact h
   exact(h1 y hy).irrefl (g1 x hx)
  subst e;rw[ig (List.Perm.cons_inv hp) h2 g2]
def aV(w:Nat->Int)(l:List Nat)(b:Nat):Nat:=l.foldl (λb k=>if w k>w b then k else b) b
theorem eh(w:Nat->Int):∀ (l:List Nat) (b:Nat),(aV w l b=b\/aV w l b∈l)/\w b<=w (aV w l b)/\(∀k∈l,w k<=w (aV w l b))/\(aV w l b≠b->w b<w (aV w l b))/\
  (l.Pairwise (· < ·)->∀k∈l,w k=w (aV w l b)->w b<w k->aV w l b<=k)
 | [],b=>⟨.inl rfl,Hx _,λk hk=>(nomatch hk),λh=>absurd rfl h,λ_ k hk=>(nomatch hk)⟩
 |x::l,b=>by
  obtain⟨h1,h2,h3,h4,h5⟩:=eh w l (if w x>w b then x else b);have e:aV w (x::l) b=aV w l (if w x>w b then x else b):=rfl;rw[e];by_cases hx:w x>w b
  .rw[Dp hx]at*;refine⟨.inr ?_,by lia,λk hk=> ?_,λ_=>by lia,λhp k hk ek hb=> ?_⟩
   .rcases h1 with h|h
    .rw[h];exact DE
    .exact DC _ h
   .rcases Dz.mp hk with rfl|hk
    .exact h2
    .exact h3 k hk
   .obtain⟨p1,p2⟩:=FR.mp hp;by_cases ex:aV w l x=x
    .rw[ex];rcases Dz.mp hk with rfl|hk
     .exact Dl _
     .exact F8 (p1 k hk)
    .have hlt:=h4 ex;rcases Dz.mp hk with rfl|hk
     .lia
     .exact h5 p2 k hk ek (by lia)
  .rw[Dt hx]at*;refine⟨?_,h2,λk hk=> ?_,h4,λhp k hk ek hb=> ?_⟩
   .rcases h1 with h|h
    .exact .inl h
    .exact .inr (DC _ h)
   .rcases Dz.mp hk with rfl|hk
    .lia
    .exact h3 k hk
   .obtain⟨p1,p2⟩:=FR.mp hp;rcases Dz.mp hk with rfl|hk
    .lia
    .exact h5 p2 k hk ek hb
end Bh
namespace Bh
def cX(w:Nat->Int):Nat->List Nat->List Nat
 |0,_=>[]
 |_+1,[]=>[]
 |f+1,x::l=>aV w (x::l) x::cX w f ((x::l).erase (aV w (x::l) x))
theorem sr(hp:(x::l).Pairwise (· < ·)):aV w (x::l) x∈x::l/\∀k∈x::l,k≠aV w (x::l) x->gs w (aV w (x::l) x) k:=by
 obtain⟨h1,h2,h3,h4,h5⟩:=eh w (x::l) x;have hm:aV w (x::l) x∈x::l:=by
  rcases h1 with h|h
  .rw[h];exact DE
  .exact h
 refine⟨hm,λk hk ne=> ?_⟩;have hle:=h3 k hk;generalize aV w (x::l) x=b at*;by_cases e:w k=w b
 .refine .inr ⟨e,?_⟩;by_cases ex:b=x
  .subst ex;rcases Dz.mp hk with h|h
   .exact absurd h ne
   .exact(FR.mp hp).1 k h
  .have:=h4 ex;have:=h5 hp k hk e (by lia);lia
 .exact .inl (by lia)
theorem gN(w:Nat->Int):∀ (f:Nat) (l:List Nat),l.length<=f->l.Pairwise (· < ·)->(cX w f l).Perm l/\(cX w f l).Pairwise (gs w)
 |0,l,hl,_=>by have:l=[]:=Hr (by lia);subst this;exact⟨.nil, .nil⟩
 |f+1,[],_,_=>⟨.nil, .nil⟩
 |f+1,x::l,hl,hp=>by
  obtain⟨hm,ha⟩:=sr (w:=w) hp;show(aV w (x::l) x::cX w f ((x::l).erase (aV w (x::l) x))).Perm (x::l)/\(aV w (x::l) x::cX w f ((x::l).erase (aV w (x::l) x))).Pairwise (gs w);generalize aV w (x::l) x=b at*;have hlen:((x::l).erase b).length<=f:=by rw[Fi hm];simp only[D6]at hl⊢;lia
  obtain⟨i1,i2⟩:=gN w f _ hlen (hp.sublist HH);have nd:(x::l).Nodup:=hp.imp λh=>DQ h;refine⟨(i1.cons b).trans (List.perm_cons_erase hm).symm,FR.mpr ⟨λk hk=> ?_,i2⟩⟩;have hk':=i1.mem_iff.mp hk;obtain⟨n1,n2⟩:=(Ii nd).mp hk';exact ha k n2 n1
end Bh
namespace Bh
end Bh
namespace Bh
end Bh
namespace Bh
theorem Mat.gain_le(M:Mat n r)(h:Sub s t)(ht:t<2^n)(hk:k<n):r (t|||2^k)+r s<=r (s|||2^k)+r t:=by
 have s1:=M.step s k (h.lt ht) hk;have s2:=M.step t k ht hk;by_cases e:r (s|||2^k)=r s
 .rw[M.keep h ht hk e,e];lia
 .lia
theorem uE(h:Sub a b)(i:Nat):Sub (upto a c i) (upto b c i):=λj hj=>by
 rw[eF]at hj⊢;cases e:a.testBit j with
 |true=>rw[h j e];rfl
 |false=>rw[e,Bool.false_or]at hj;rw[hj,Hn]
theorem Mat.submod(M:Mat n r)(ha:a<2^n)(hb:b<2^n):r (a|||b)+r (a&&&b)<=r a+r b:=by
 have hab:a&&&b<2^n:=Dw Hm ha;have hs:Sub (a&&&b) a:=λj hj=>by rw[DH,Ea]at hj;exact hj.1
 have gen:∀i,i<=n->r (upto a b i)+r (a&&&b)<=r a+r (upto (a&&&b) b i):=by
  intro i
  induction i with
  |zero=>intro _;exact Dl _
  |succ i ih=>
   intro hi;have ih:=ih (by lia);rw[cv,cv];split
   .have:=M.gain_le (uE (c:=b) hs i) (d6 ha i (by lia)) (show i<n by lia);lia
   .exact ih
 have:=gen n (Dl _);rw[dH hb,dH hb]at this;rw[show(a&&&b)|||b=b from DJ λj=>by rw[DX,DH];cases a.testBit j<;>cases b.testBit j<;>rfl]at this;exact this
def Cov(r1 r2:Nat->Nat)(l:List Nat)(c k:Nat):Prop:=∀a b:Nat,(∀j,a.testBit j=true->j∈l)->(∀j,b.testBit j=true->j∈l)->(∀j∈l,a.testBit j=true\/b.testBit j=true)->k+2*sz c<=r1 (a|||c)+r2 (b|||c)
theorem fO{n a:Nat}{l:List Nat}(hl:∀j∈l,j<n)(h:∀j,a.testBit j=true->j∈l):a<2^n:=F6 _ λi hi=>by
 cases e:a.testBit i with
 |false=>rfl
 |true=>have:=hl i (h i e);lia
theorem j5(a c e:Nat):a|||2^e|||c=a|||c|||2^e:=by rw[EU,Hy (2^e),<-EU]
theorem iQ(M1:Mat n r1)(M2:Mat n r2):∀ (l:List Nat) (c k:Nat),l.Nodup->(∀j∈l,j<n/\c.testBit j=false)->c<2^n->r1 c=sz c->r2 c=sz c->Cov r1 r2 l c k->
  ∃J,J<2^n/\r1 J=sz J/\r2 J=sz J/\k+sz c<=sz J
 | [],c,k,_,_,hc,h1,h2,hv=>by have:=hv 0 0 (λj hj=>by rw[En]at hj;cases hj) (λj hj=>by rw[En]at hj;cases hj) λj hj=>(nomatch hj);rw[Iu]at this;exact⟨c,hc,h1,h2,by lia⟩
 |e::l,c,k,nd,hl,hc,h1,h2,hv=>by
  have n8:=M1.n8;have he:=hl e DE;have nd':=Ft.mp nd;have hl':∀j∈l,j<n/\c.testBit j=false:=λj hj=>hl j (DC _ hj);have hln:∀j∈l,j<n:=λj hj=>(hl' j hj).1;have up:∀a:Nat,(∀j,a.testBit j=true->j∈l)->a|||c<2^n:=λa ha=>EC (fO hln ha) hc;have memA:∀a:Nat,(∀j,a.testBit j=true->j∈l)->∀j,a.testBit j=true->j∈e::l:=λa ha j hj=>DC _ (ha j hj);have memE:∀a:Nat,(∀j,a.testBit j=true->j∈l)->∀j,(a|||2^e).testBit j=true->j∈e::l:=λa ha j hj=>by
   rw[aO,ET]at hj;rcases hj with hj|hj
   .exact DC _ (ha j hj)
   .rw[<-DY hj];exact DE
  have subc:∀a:Nat,Sub c (a|||c):=λa j hj=>by rw[DX,hj,Hn]
  have del:Cov r1 r2 l c k->∃J,J<2^n/\r1 J=sz J/\r2 J=sz J/\k+sz c<=sz J:=λq=>iQ M1 M2 l c k nd'.2 hl' hc h1 h2 q;have be:∀a:Nat,(a|||2^e).testBit e=true:=λa=>by rw[aO];simp
  have bj:∀a j:Nat,a.testBit j=true->(a|||2^e).testBit j=true:=λa j h=>by rw[aO,h];rfl
  by_cases e1:r1 (c|||2^e)=r1 c
  .refine del λa b ha hb hab=> ?_;have q:=hv (a|||2^e) b (memE a ha) (memA b hb) λj hj=>by
    rcases Dz.mp hj with rfl|hj
    .exact .inl (be a)
    .exact(hab j hj).imp (bj a j) id
   rw[j5,M1.keep (subc a) (up a ha) he.1 e1]at q;exact q
  .by_cases e2:r2 (c|||2^e)=r2 c
   .refine del λa b ha hb hab=> ?_;have q:=hv a (b|||2^e) (memA a ha) (memE b hb) λj hj=>by
     rcases Dz.mp hj with rfl|hj
     .exact .inr (be b)
     .exact(hab j hj).imp id (bj b j)
    rw[j5,M2.keep (subc b) (up b hb) he.1 e2]at q;exact q
   .have s1:=M1.step c e hc he.1;have s2:=M2.step c e hc he.1;have hce:=bN hc he.1;have esz:=bY c (M1.c7 hc) e (by lia) he.2;by_cases hd:Cov r1 r2 l c k
    .exact del hd
    .by_cases hk:k=0
     .exact⟨c,hc,h1,h2,by lia⟩
     .have hcc:∀j∈l,j<n/\(c|||2^e).testBit j=false:=λj hj=>by refine⟨hln j hj,?_⟩;rw[aO,(hl' j hj).2];have:e≠j:=λz=>nd'.1 (z▸hj);simp[this]
      by_cases hq:Cov r1 r2 l (c|||2^e) (k-1)
      .obtain⟨J,j1,j2,j3,j4⟩:=iQ M1 M2 l (c|||2^e) (k-1) nd'.2 hcc hce (by lia) (by lia) hq;exact⟨J,j1,j2,j3,by lia⟩
      .exfalso;unfold Cov at hd hq;obtain⟨a,hd⟩:=Et.mp hd;obtain⟨b,hd⟩:=Et.mp hd;obtain⟨ha,hd⟩:=Et.mp hd;obtain⟨hb,hd⟩:=Et.mp hd;obtain⟨hab,hd⟩:=Et.mp hd;obtain⟨a',hq⟩:=Et.mp hq;obtain⟨b',hq⟩:=Et.mp hq;obtain⟨ha',hq⟩:=Et.mp hq;obtain⟨hb',hq⟩:=Et.mp hq;obtain⟨hab',hq⟩:=Et.mp hq;have lt1:=up a ha;have lt2:=up b hb;have lt3:=bN (up a' ha') he.1;have lt4:=bN (up b' hb') he.1;have f1:=M1.submod lt1 lt3;have f2:=M2.submod lt2 lt4;have ce:∀x y:Nat,(x|||c)||| (y|||c|||2^e)=(x|||y|||2^e)|||c:=λx y=>DJ λj=>by simp only[DX];cases x.testBit j<;>cases y.testBit j<;>cases c.testBit j<;>cases (2^e).testBit j<;>rfl
       have bE:∀x:Nat,(∀j,x.testBit j=true->j∈l)->∀j,x.testBit j=true->(2^e).testBit j=false:=λx hx j hj=>by rw[FL];exact Dy λz=>nd'.1 (z▸hx j hj)
       have cE:∀j,c.testBit j=true->(2^e).testBit j=false:=λj hj=>by rw[FL];refine Dy λz=> ?_;subst z;rw[he.2]at hj;cases hj
       have ca:∀x y:Nat,(∀j,x.testBit j=true->j∈l)->(x|||c)&&& (y|||c|||2^e)=(x&&&y)|||c:=λx y hx=>DJ λj=>by
        simp only[DX,DH];cases ex:x.testBit j with
        |true=>rw[bE x hx j ex];cases y.testBit j<;>cases c.testBit j<;>rfl
        |false=>
         cases ec:c.testBit j with
         |true=>rw[cE j ec];cases y.testBit j<;>rfl
         |false=>cases y.testBit j<;>rfl
       rw[ce,ca a a' ha]at f1;rw[ce,ca b b' hb]at f2;have mem2:∀x y:Nat,(∀j,x.testBit j=true->j∈l)->(∀j,y.testBit j=true->j∈l)->∀j,(x|||y).testBit j=true->j∈l:=λx y hx hy j hj=>by rw[DX,ET]at hj;exact hj.elim (hx j) (hy j)
       have mem3:∀x y:Nat,(∀j,x.testBit j=true->j∈l)->∀j,(x&&&y).testBit j=true->j∈l:=λx y hx j hj=>by rw[DH,Ea]at hj;exact hx j hj.1
       have g1:=hv (a|||a'|||2^e) (b&&&b') (memE _ (mem2 a a' ha ha')) (memA _ (mem3 b b' hb)) λj hj=>by
        rcases Dz.mp hj with rfl|hj
        .exact .inl (be _)
        .rw[aO,DX,DH];rcases hab j hj with z|z
         .rw[z];simp
         .rcases hab' j hj with z'|z'
          .rw[z'];simp
          .rw[z,z'];simp
       have g2:=hv (a&&&a') (b|||b'|||2^e) (memA _ (mem3 a a' ha)) (memE _ (mem2 b b' hb hb')) λj hj=>by
        rcases Dz.mp hj with rfl|hj
        .exact .inr (be _)
        .rw[aO,DX,DH];rcases hab j hj with z|z
         .rcases hab' j hj with z'|z'
          .rw[z,z'];simp
          .rw[z'];simp
         .rw[z];simp
       rw[show a'||| (c|||2^e)=a'|||c|||2^e from(EU _ _ _).symm,show b'||| (c|||2^e)=b'|||c|||2^e from(EU _ _ _).symm]at hq;lia
theorem se(M1:Mat n r1)(M2:Mat n r2)(hI:I<2^n)(h1:r1 I=sz I)(h2:r2 I=sz I)(hmax:∀J,J<2^n->r1 J=sz J->r2 J=sz J->sz J<=sz I)
  (hA:A<2^n) (hmin:∀B,B<2^n->r1 A+r2 (2^n-1-A)<=r1 B+r2 (2^n-1-B)):sz I=r1 A+r2 (2^n-1-A):=by
 have n8:=M1.n8;have cb:∀B j,B<2^n->(2^n-1-B).testBit j=(decide (j<n)&& !B.testBit j):=λB j hB=>by rw[show 2^n-1-B=2^n- (B+1) by lia,FP hB]
 have cl:∀B,2^n-1-B<2^n:=λB=>by have:0<2^n:=DZ (by lia);lia
 obtain⟨J,j1,j2,j3,j4⟩:=iQ M1 M2 (List.range n) 0 (r1 A+r2 (2^n-1-A)) Ij (λj hj=>⟨DT.mp hj,En _⟩) (DZ (by lia)) (by rw[M1.zero,cw]) (by rw[M2.zero,cw]) λa b ha hb hab=>by
  rw[cw,Nat.or_zero,Nat.or_zero];have la:=fO (λj hj=>DT.mp hj) ha;have lb:=fO (λj hj=>DT.mp hj) hb;have q:=hmin a la;have m:=M2.mono (s:=2^n-1-a) (t:=b) (λj hj=>by
   rw[cb a j la,Ea]at hj;rcases hab j (DT.mpr (DY hj.1))with z|z
   .rw[z]at hj;cases hj.2
   .exact z) lb
  lia
 rw[cw]at j4;have hle:=hmax J j1 j2 j3;have iA:r1 (I&&&A)=sz (I&&&A):=M1.hU (λj hj=>by rw[DH,Ea]at hj;exact hj.1) hI h1;have iB:r2 (I&&& (2^n-1-A))=sz (I&&& (2^n-1-A)):=M2.hU (λj hj=>by rw[DH,Ea]at hj;exact hj.1) hI h2;have mA:=M1.mono (s:=I&&&A) (t:=A) (λj hj=>by rw[DH,Ea]at hj;exact hj.2) hA;have mB:=M2.mono (s:=I&&& (2^n-1-A)) (t:=2^n-1-A) (λj hj=>by rw[DH,Ea]at hj;exact hj.2) (cl A);have split:sz (I&&&A)+sz (I&&& (2^n-1-A))=sz I:=gH (λk=>A.testBit k) (λk _=>DH _ _ _) λk _=>by
  rw[DH,cb A k hA];by_cases hk:k<n
  .rw[DG hk,Fw]
  .rw[D8 (Dq hI (DM (by lia) (by lia)))];rfl
 lia
end Bh
namespace Bh
def aZ(f:Nat->Nat):Nat->Nat
 |0=>0
 |k+1=>aZ f k+f k
theorem dJ:∀ {k:Nat},(∀i,i<k->f i=g i)->aZ f k=aZ g k
 |0,_=>rfl
 |k+1,h=>by show aZ f k+f k=aZ g k+g k;rw[dJ λi hi=>h i (by lia),h k (by lia)]
theorem sO:∀ {k:Nat},(∀i,i<k->f i<=g i)->aZ f k<=aZ g k
 |0,_=>Dl _
 |k+1,h=>by show aZ f k+f k<=aZ g k+g k;have:=sO (k:=k) λi hi=>h i (by lia);have:=h k (by lia);lia
theorem oE:∀ {k:Nat},(∀i,i<k->f i+g i<=a i+b i)->aZ f k+aZ g k<=aZ a k+aZ b k
 |0,_=>Dl _
 |k+1,h=>by show aZ f k+f k+(aZ g k+g k)<=aZ a k+a k+(aZ b k+b k);have:=oE (k:=k) λi hi=>h i (by lia);have:=h k (by lia);lia
theorem jK:∀ {k:Nat},m<k->(∀i,i<k->i≠m->f i=g i)->aZ f k+g m=aZ g k+f m
 |k+1,hm,h=>by
  show aZ f k+f k+g m=aZ g k+g k+f m;by_cases e:m=k
  .subst e;rw[dJ (k:=m) λi hi=>h i (by lia) (by lia)];lia
  .have:=jK (k:=k) (by lia) λi hi ne=>h i (by lia) ne;have:=h k (by lia) (λz=>e z.symm);lia
def fA(a:Nat)(l:List Nat):Nat:=(l.filter λj=> !a.testBit j).length
theorem cP(a e:Nat)(l:List Nat):fA a (e::l)=fA a l+if a.testBit e=true then 0 else 1:=by
 unfold fA;cases h:a.testBit e with
 |true=>rw[EF (by rw[h];decide)];rfl
 |false=>rw[EE (by rw[h];rfl)];rfl
theorem pb(a b:Nat):∀l:List Nat,fA (a|||b) l+fA (a&&&b) l=fA a l+fA b l
 | []=>rfl
 |e::l=>by rw[cP,cP,cP,cP,DX,DH];have:=pb a b l;cases a.testBit e<;>cases b.testBit e<;>simp<;>lia
theorem tZ:∀ {l:List Nat},e∉l->fA (a|||2^e) l=fA a l
 | [],_=>rfl
 |x::l,h=>by rw[cP,cP,tZ λz=>h (DC _ z),aO];have:e≠x:=λz=>h (z▸DE);simp[this]
structure cC(n k:Nat)(r:Nat->Nat->Nat)(J:Nat->Nat):Prop where
 lt:∀i,i<k->J i<2^n
 free:∀i,i<k->r i (J i)=sz (J i)
 apart:∀i j,i<k->j<k->i≠j->∀b,(J i).testBit b=true->(J j).testBit b=false
def Cd(k:Nat)(r:Nat->Nat->Nat)(C:Nat->Nat)(l:List Nat)(t:Nat):Prop:=∀a:Nat,(∀j,a.testBit j=true->j∈l)->t+aZ (λi=>sz (C i)) k<=fA a l+aZ (λi=>r i (a|||C i)) k
theorem kJ(M:∀i,i<k->Mat n (r i))(n8:n<=8):∀ (l:List Nat) (C:Nat->Nat) (t:Nat),l.Nodup->(∀j∈l,j<n/\∀i,i<k->(C i).testBit j=false)->cC n k r C->Cd k r C l t->
  ∃J,cC n k r J/\t+aZ (λi=>sz (C i)) k<=aZ (λi=>sz (J i)) k
 | [],C,t,_,_,hC,hv=>by
  have:=hv 0 λj hj=>by rw[En]at hj;cases hj
  refine⟨C,hC,?_⟩;have e:aZ (λi=>r i (0|||C i)) k=aZ (λi=>sz (C i)) k:=dJ λi hi=>by rw[Iu];exact hC.free i hi
  rw[e]at this;have z:fA 0 []=0:=rfl;lia
 |e::l,C,t,nd,hl,hC,hv=>by
  have he:=hl e DE;have nd':=Ft.mp nd;have hl':∀j∈l,j<n/\∀i,i<k->(C i).testBit j=false:=λj hj=>hl j (DC _ hj);have hln:∀j∈l,j<n:=λj hj=>(hl' j hj).1;have up:∀a:Nat,(∀j,a.testBit j=true->j∈l)->∀i,i<k->a|||C i<2^n:=λa ha i hi=>EC (fO hln ha) (hC.lt i hi);have ae:∀a:Nat,(∀j,a.testBit j=true->j∈l)->a.testBit e=false:=λa ha=>by
   cases h:a.testBit e with
   |false=>rfl
   |true=>exact absurd (ha e h) nd'.1
  have memA:∀a:Nat,(∀j,a.testBit j=true->j∈l)->∀j,a.testBit j=true->j∈e::l:=λa ha j hj=>DC _ (ha j hj);have memE:∀a:Nat,(∀j,a.testBit j=true->j∈l)->∀j,(a|||2^e).testBit j=true->j∈e::l:=λa ha j hj=>by
   rw[aO,ET]at hj;rcases hj with hj|hj
   .exact DC _ (ha j hj)
   .rw[<-DY hj];exact DE
  have low:∀a:Nat,(∀j,a.testBit j=true->j∈l)->t+aZ (λi=>sz (C i)) k<=fA a l+1+aZ (λi=>r i (a|||C i)) k:=λa ha=>by have:=hv a (memA a ha);rw[cP,ae a ha]at this;simpa using this
  by_cases hd:Cd k r C l t
  .exact kJ M n8 l C t nd'.2 hl' hC hd
  by_cases hg:∃m,m<k/\∀a:Nat,(∀j,a.testBit j=true->j∈l)->t+aZ (λi=>sz (C i)) k+r m (a|||C m)<=fA a l+aZ (λi=>r i (a|||C i)) k+r m (a|||C m|||2^e)
  .obtain⟨m,hm,hg⟩:=hg;have nb:r m (C m|||2^e)≠r m (C m):=λz=>hd λa ha=>by have q:=hg a ha;rw[(M m hm).keep (s:=C m) (t:=a|||C m) (λj hj=>by rw[DX,hj,Hn]) (up a ha m hm) he.1 z]at q;lia
   have st:=(M m hm).step (C m) e (hC.lt m hm) he.1;have hfree:=hC.free m hm;have esz:=bY (C m) ((M m hm).c7 (hC.lt m hm)) e (by lia) (he.2 m hm);have D':cC n k r (λi=>if i=m then C m|||2^e else C i):=by
    refine⟨λi hi=> ?_,λi hi=> ?_,λi j hi hj ne b hb=> ?_⟩
    .by_cases z:i=m
     .simp only[Dp z];exact bN (hC.lt m hm) he.1
     .simp only[Dt z];exact hC.lt i hi
    .by_cases z:i=m
     .simp only[Dp z];subst z;lia
     .simp only[Dt z];exact hC.free i hi
    .by_cases z:i=m
     .have z2:¬j=m:=λq=>ne (z.trans q.symm);simp only[Dp z,Dt z2]at hb⊢;rw[aO,ET]at hb;rcases hb with hb|hb
      .exact hC.apart m j hm hj (λq=>z2 q.symm) b hb
      .rw[<-DY hb];exact he.2 j hj
     .by_cases z2:j=m
      .simp only[Dt z,Dp z2]at hb⊢;rw[aO,hC.apart i m hi hm z b hb];have:e≠b:=λq=>by have:=he.2 i hi;rw[q,hb]at this;cases this
       simp[this]
      .simp only[Dt z,Dt z2]at hb⊢;exact hC.apart i j hi hj ne b hb
   have s1:=jK (f:=λi=>sz (if i=m then C m|||2^e else C i)) (g:=λi=>sz (C i)) hm λi _ ne=>by simp only[Dt ne]
   simp only[Dp]at s1;by_cases t0:t=0
   .exact⟨C,hC,by lia⟩
   obtain⟨J,j1,j2⟩:=kJ M n8 l (λi=>if i=m then C m|||2^e else C i) (t-1) nd'.2 (λj hj=>⟨hln j hj,λi hi=>by
    by_cases z:i=m
    .simp only[Dp z];rw[aO,(hl' j hj).2 m hm];have:e≠j:=λq=>nd'.1 (q▸hj);simp[this]
    .simp only[Dt z];exact(hl' j hj).2 i hi⟩) D' λa ha=>by
     have q:=hg a ha;have s2:=jK (f:=λi=>r i (a||| (if i=m then C m|||2^e else C i))) (g:=λi=>r i (a|||C i)) hm λi _ ne=>by simp only[Dt ne]
     simp only[Dp]at s2;rw[<-EU]at s2;show t-1+aZ (λi=>sz (if i=m then C m|||2^e else C i)) k<=fA a l+aZ (λi=>r i (a||| (if i=m then C m|||2^e else C i))) k;lia
   have j3:t-1+aZ (λi=>sz (if i=m then C m|||2^e else C i)) k<=aZ (λi=>sz (J i)) k:=j2;exact⟨J,j1,by lia⟩
  .exfalso;have tight:∀m,m<=k->∃a:Nat,(∀j,a.testBit j=true->j∈l)/\fA a l+1+aZ (λi=>r i (a|||C i)) k=t+aZ (λi=>sz (C i)) k/\∀i,i<m->r i (a|||C i|||2^e)=r i (a|||C i):=by
    intro m
    induction m with
    |zero=>
     intro _;unfold Cd at hd;obtain⟨a,hd⟩:=Et.mp hd;obtain⟨ha,hd⟩:=Et.mp hd;have:=low a ha;exact⟨a,ha,by lia,λi hi=>absurd hi (EZ _)⟩
    |succ m ih=>
     intro hm;obtain⟨a,ha,hta,hka⟩:=ih (by lia);have hnm:¬∀a:Nat,(∀j,a.testBit j=true->j∈l)->t+aZ (λi=>sz (C i)) k+r m (a|||C m)<=fA a l+aZ (λi=>r i (a|||C i)) k+r m (a|||C m|||2^e):=λz=>hg ⟨m,by lia,z⟩;obtain⟨b,hb'⟩:=Et.mp hnm;obtain⟨hb,hb'⟩:=Et.mp hb';have lb:=low b hb;have sb:=(M m (by lia)).step (b|||C m) e (up b hb m (by lia)) he.1;have hub:∀j,(a|||b).testBit j=true->j∈l:=λj hj=>by rw[DX,ET]at hj;exact hj.elim (ha j) (hb j)
     have hin:∀j,(a&&&b).testBit j=true->j∈l:=λj hj=>by rw[DH,Ea]at hj;exact ha j hj.1
     have lu:=low _ hub;have li:=low _ hin;have mo:=pb a b l;have sm:=oE (k:=k) (f:=λi=>r i (a|||b|||C i)) (g:=λi=>r i (a&&&b|||C i)) (a:=λi=>r i (a|||C i)) (b:=λi=>r i (b|||C i)) λi hi=>by
      have q:=(M i hi).submod (up a ha i hi) (up b hb i hi);rw[show(a|||C i)||| (b|||C i)=a|||b|||C i from DJ λj=>by simp only[DX];cases a.testBit j<;>cases b.testBit j<;>cases (C i).testBit j<;>rfl,
       show(a|||C i)&&& (b|||C i)=a&&&b|||C i from DJ λj=>by simp only[DX,DH];cases a.testBit j<;>cases b.testBit j<;>cases (C i).testBit j<;>rfl]at q
      exact q
     have subA:∀i,Sub (a|||C i) (a|||b|||C i):=λi j hj=>by simp only[DX]at hj⊢;cases h1:a.testBit j<;>cases h2:b.testBit j<;>cases h3:(C i).testBit j<;>simp[h1,h3]at hj⊢
     have subB:∀i,Sub (b|||C i) (a|||b|||C i):=λi j hj=>by simp only[DX]at hj⊢;cases h1:a.testBit j<;>cases h2:b.testBit j<;>cases h3:(C i).testBit j<;>simp[h2,h3]at hj⊢
     refine⟨a|||b,hub,by lia,λi hi=> ?_⟩;by_cases z:i=m
     .subst z;exact(M i (by lia)).keep (subB i) (up _ hub i (by lia)) he.1 (by lia)
     .exact(M i (by lia)).keep (subA i) (up _ hub i (by lia)) he.1 (hka i (by lia))
   obtain⟨a,ha,hta,hka⟩:=tight k (Dl _);have q:=hv (a|||2^e) (memE a ha);rw[cP,tZ nd'.1,show(a|||2^e).testBit e=true by rw[aO];simp]at q;have es:aZ (λi=>r i (a|||2^e|||C i)) k=aZ (λi=>r i (a|||C i)) k:=dJ λi hi=>by rw[j5];exact hka i hi
   rw[es]at q;simp only[Dp]at q;lia
def bL(J:Nat->Nat):Nat->Nat
 |0=>0
 |k+1=>bL J k|||J k
theorem eV(J:Nat->Nat)(b:Nat):∀k,(bL J k).testBit b=true↔∃i,i<k/\(J i).testBit b=true
 |0=>by show(0:Nat).testBit b=true↔_;rw[En];exact⟨λh=>absurd h Dr,λ⟨i,hi,_⟩=>absurd hi (EZ _)⟩
 |k+1=>by
  show(bL J k|||J k).testBit b=true↔_;rw[DX,ET,eV J b k];constructor
  .rintro(⟨i,hi,h⟩|h)
   .exact⟨i,by lia,h⟩
   .exact⟨k,by lia,h⟩
  .rintro⟨i,hi,h⟩;by_cases e:i=k
   .subst e;exact .inr h
   .exact .inl ⟨i,by lia,h⟩
theorem ie:∀k,(∀i,i<k->J i<2^n)->bL J k<2^n
 |0,_=>DZ (by lia)
 |k+1,h=>EC (ie k λi hi=>h i (by lia)) (h k (by lia))
theorem ot:∀k,(∀i j,i<k->j<k->i≠j->∀b,(J i).testBit b=true->(J j).testBit b=false)->sz (bL J k)=aZ (λi=>sz (J i)) k
 |0,_=>cw
 |k+1,h=>by show sz (bL J k|||J k)=aZ (λi=>sz (J i)) k+sz (J k);rw[wX λb h1 h2=> ?_,ot k λi j hi hj=>h i j (by lia) (by lia)];obtain⟨i,hi,h3⟩:=(eV J b k).mp h1;rw[h i k (by lia) (by lia) (by lia) b h3]at h2;cases h2
theorem vW(n8:n<=8)(M:∀i,i<k->Mat n (r i))(hJ:cC n k r J)(hmax:∀J',cC n k r J'->sz (bL J' k)<=sz (bL J k))
   (hA:A<2^n) (hmin:∀B,B<2^n->sz (2^n-1-A)+aZ (λi=>r i A) k<=sz (2^n-1-B)+aZ (λi=>r i B) k):sz (bL J k)=sz (2^n-1-A)+aZ (λi=>r i A) k:=by
 have cb:∀B j,B<2^n->(2^n-1-B).testBit j=(decide (j<n)&& !B.testBit j):=λB j hB=>by rw[show 2^n-1-B=2^n- (B+1) by lia,FP hB]
 have osz:∀B,B<2^n->fA B (List.range n)=sz (2^n-1-B):=λB hB=>by
  unfold fA;rw[dI];have gen:∀d,n+d<=8->((List.range (n+d)).filter (2^n-1-B).testBit).length=((List.range n).filter λj=> !B.testBit j).length:=by
   intro d
   induction d with
   |zero=>
    intro _;congr 1;refine HV λj hj=> ?_;rw[cb B j hB,DG (show j<n from DT.mp hj),Fw]
   |succ d ih=>
    intro hd;rw[show n+(d+1)=n+d+1 from rfl,ES,Gf,DK,ih (by lia)];have:(2^n-1-B).testBit (n+d)=false:=by rw[cb B _ hB,Dy (by lia)];rfl
    rw[EF (by rw[this];exact Dr)];rfl
  have:=gen (8-n) (by lia);rw[show n+(8-n)=8 by lia]at this;exact this.symm
 have D0:cC n k r (λ_=>0):=⟨λi _=>DZ (by lia),λi hi=>by rw[(M i hi).zero,cw],λi j _ _ _ b hb=>by rw[En]at hb;cases hb⟩;have s0:aZ (λ_=>sz 0) k=0:=by
  have:∀k,aZ (λ_=>sz 0) k=0:=λk=>by
   induction k with
   |zero=>rfl
   |succ k ih=>show aZ (λ_=>sz 0) k+sz 0=0;rw[ih,cw]
  exact this k
 obtain⟨J',d1,d2⟩:=kJ M n8 (List.range n) (λ_=>0) (sz (2^n-1-A)+aZ (λi=>r i A) k) Ij (λj hj=>⟨DT.mp hj,λ_ _=>En _⟩) D0 λa ha=>by
  have la:=fO (λj hj=>DT.mp hj) ha;have q:=hmin a la;have e:aZ (λi=>r i (a|||0)) k=aZ (λi=>r i a) k:=dJ λi _=>by rw[Nat.or_zero]
  rw[osz a la];show _+aZ (λ_=>sz 0) k<=_+aZ (λi=>r i (a|||0)) k;rw[s0,e];exact q
 have d3:sz (2^n-1-A)+aZ (λi=>r i A) k+aZ (λ_=>sz 0) k<=aZ (λi=>sz (J' i)) k:=d2;rw[s0,<-ot k d1.apart]at d3;have hle:=hmax J' d1;have hlt:=ie k hJ.lt;have split:sz (bL J k&&&A)+sz (bL J k&&& (2^n-1-A))=sz (bL J k):=gH (λb=>A.testBit b) (λb _=>DH _ _ _) λb _=>by
  rw[DH,cb A b hA];by_cases hb:b<n
  .rw[DG hb,Fw]
  .rw[D8 (Dq hlt (DM (by lia) (by lia)))];rfl
 have m1:=qW (bL J k) (2^n-1-A);have eA:bL J k&&&A=bL (λi=>J i&&&A) k:=DJ λb=>by
  rw[FE,DH,Ea,eV,eV];constructor
  .rintro⟨⟨i,hi,h1⟩,h2⟩;exact⟨i,hi,by rw[DH,h1,h2];rfl⟩
  .rintro⟨i,hi,h⟩;rw[DH,Ea]at h;exact⟨⟨i,hi,h.1⟩,h.2⟩
 have m2:sz (bL J k&&&A)<=aZ (λi=>r i A) k:=by
  rw[eA,ot k λi j hi hj ne b hb=> ?_]
  .refine sO λi hi=> ?_;have q:=(M i hi).hU (x:=J i&&&A) (λj hj=>by rw[DH,Ea]at hj;exact hj.1) (hJ.lt i hi) (hJ.free i hi);have m:=(M i hi).mono (s:=J i&&&A) (t:=A) (λj hj=>by rw[DH,Ea]at hj;exact hj.2) hA;show sz (J i&&&A)<=r i A;lia
  .rw[DH,Ea]at hb;rw[DH,hJ.apart i j hi hj ne b hb.1];rfl
 lia
end Bh
set_option maxHeartbeats 4000000
namespace BhK
def top(i:Nat):PySem.Stmt:=PySem.Challenge.pw_basehouse_k34_whole_bounds.main.body.getD i (.Pass ⟨0,0,0,0⟩)
abbrev s_holds:=top 1
abbrev s_things:=top 2
abbrev s_size:=top 3
abbrev s_set_of:=top 4
abbrev s_parts:=top 5
abbrev s_spread:=top 6
abbrev s_all_of:=top 7
abbrev s_less:=top 8
abbrev s_ranks:=top 14
abbrev s_frees:=top 15
abbrev s_dealt_further:=top 17
abbrev s_dealt:=top 18
abbrev s_common:=top 20
abbrev s_tied:=top 22
abbrev s_rests:=top 25
abbrev s_pivot_place:=top 26
abbrev s_cleared:=top 27
abbrev s_all_cleared:=top 28
abbrev s_rank_of:=top 29
abbrev s_heaviest:=top 37
abbrev s__law_whole:=top 39
abbrev s__law_at:=top 40
abbrev s__law_mixed:=top 41
abbrev s__law_numbers:=top 42
abbrev s__law_counts:=top 43
abbrev s__law_even:=top 44
abbrev s__law_folds:=top 45
abbrev s__law_rank:=top 46
abbrev s__law_listed:=top 47
abbrev s__law_tied:=top 48
abbrev s__law_rows:=top 49
abbrev s__law_drawn:=top 50
abbrev s__law_parts:=top 51
abbrev s__law_dealt:=top 52
abbrev s__law_weights:=top 53
abbrev s__law_heaviest:=top 54
abbrev s__law_other:=top 55
abbrev s__law_minor:=top 56
abbrev s__law_side:=top 57
abbrev s__law_less:=top 58
abbrev s__law_four:=top 59
abbrev s__law_common:=top 60
abbrev s_law:=top 61
abbrev s_House___init__:PySem.Stmt:=L2.bI (top 10) 0
abbrev s_House_rank:PySem.Stmt:=L2.bI (top 10) 1
abbrev s_House_everything:PySem.Stmt:=L2.bI (top 10) 2
abbrev s_Even___init__:PySem.Stmt:=L2.bI (top 11) 0
abbrev s_Even_rank:PySem.Stmt:=L2.bI (top 11) 1
abbrev s_Listed___init__:PySem.Stmt:=L2.bI (top 12) 0
abbrev s_Listed_rank:PySem.Stmt:=L2.bI (top 12) 1
abbrev s_Net___init__:PySem.Stmt:=L2.bI (top 23) 0
abbrev s_Net_pieces:PySem.Stmt:=L2.bI (top 23) 1
abbrev s_Net_rank:PySem.Stmt:=L2.bI (top 23) 2
abbrev s_Tabled___init__:PySem.Stmt:=L2.bI (top 31) 0
abbrev s_Tabled_rank:PySem.Stmt:=L2.bI (top 31) 1
abbrev s_Other___init__:PySem.Stmt:=L2.bI (top 33) 0
abbrev s_Other_rank:PySem.Stmt:=L2.bI (top 33) 1
abbrev s_Minor___init__:PySem.Stmt:=L2.bI (top 34) 0
abbrev s_Minor_rank:PySem.Stmt:=L2.bI (top 34) 1
abbrev s_Side___init__:PySem.Stmt:=L2.bI (top 35) 0
abbrev s_Side_rank:PySem.Stmt:=L2.bI (top 35) 1
open PySem L2 Bh
structure Tb(K:PySem.W.Frag)(mg:Str->Option Value):Prop where
 len_:mg "len"=none
 range_:mg "range"=none
 isinstance_:mg "isinstance"=none
 int_:mg "int"=none
 bool_:mg "bool"=none
 list_:mg "list"=none
 set_:mg "set"=none
 tuple_:mg "tuple"=none
 max_:mg "max"=none
 min_:mg "min"=none
 zip_:mg "zip"=none
 enumerate_:mg "enumerate"=none
 sum_:mg "sum"=none
 sorted_:mg "sorted"=none
 kII:kitOne K (.type "int") (.type "int")=some true
 kIB:kitOne K (.type "int") (.type "bool")=some false
 kTT:kitOne K (.type "tuple") (.type "tuple")=some true
 kLL:kitOne K (.type "list") (.type "list")=some true
theorem aR{vs:St}(h:vs.length=1):∃v,vs=[v]:=List.length_eq_one_iff.mp h
theorem vU(ns:List Int):(ns.map V.int).all hV=true:=by
 induction ns with
 |nil=>rfl
 |cons n r ih=>rw[Ej,Iw,ih];rfl
theorem yI(z:Int)(ns:List Int):inV (.int z) (ns.map V.int)=decide (z∈ns):=by
 unfold inV
 induction ns with
 |nil=>rfl
 |cons n r ih=>
  rw[Ej,Gz,ih];by_cases h:n=z
  .subst h;simp[eqV]
  .have h2:¬z=n:=λe=>h e.symm;simp[eqV,h,h2]
theorem bH{ns:List Int}{i:Nat}{y:V}(h:(ns.map V.int)[i]?=some y):∃z,y= .int z/\ns[i]?=some z:=by
 rw[Dm]at h;cases e:ns[i]? with
 |none=>rw[e]at h;cases h
 |some z=>rw[e]at h;exact⟨z,(DS h).symm,rfl⟩
theorem eU{x y:Int}(hx:0<=x)(hy:0<=y):Builtin.bitAnd x y=((x.toNat&&&y.toNat:Nat):Int):=by unfold Builtin.bitAnd;rw[DG hx,DG hy]
theorem kQ{x y:Int}(hx:0<=x)(hy:0<=y):Builtin.bitOr x y=((x.toNat|||y.toNat:Nat):Int):=by
 have hx':¬(0<=Builtin.bitNot x):=by unfold Builtin.bitNot;lia
 have hy':¬(0<=Builtin.bitNot y):=by unfold Builtin.bitNot;lia
 have ex:Builtin.bitNot (Builtin.bitNot x)=x:=by unfold Builtin.bitNot;lia
 have ey:Builtin.bitNot (Builtin.bitNot y)=y:=by unfold Builtin.bitNot;lia
 unfold Builtin.bitOr Builtin.bitAnd;rw[Dy hx',Dy hy'];show Builtin.bitNot (Builtin.bitNot (((Builtin.bitNot (Builtin.bitNot x)).toNat||| (Builtin.bitNot (Builtin.bitNot y)).toNat:Nat):Int))=_;rw[ex,ey];unfold Builtin.bitNot;lia
theorem yL{s:Int}(h:0<=s):decide (V.int (s/2^k % 2)=V.int 1)=s.toNat.testBit k:=by
 obtain⟨n,rfl⟩:=Eu h;rw[d7];have e:((n:Int) /2^k % 2)=((n/2^k % 2:Nat):Int):=by simp
 rw[e];by_cases h1:n/2^k % 2=1
 .rw[h1];simp[h1]
 .have h2:¬((n/2^k % 2:Nat):Int)=1:=by lia
  have h3:¬V.int ((n/2^k % 2:Nat):Int)=V.int 1:=λe=>h2 (V.int.inj e);rw[Dy h3];simp[h1]
theorem uJ{s:Int}(h0:0<=s)(h1:s<256):b9 (λi=>s.toNat.testBit i) (λi=> .int (0+(i:Nat))) ((Builtin.Int.intBits s:Nat):Int).toNat=(bits s.toNat).map V.int:=by
 obtain⟨n,rfl⟩:=Eu h0;have e:Builtin.Int.intBits (n:Int)=if n=0 then 0 else n.log2+1:=by
  unfold Builtin.Int.intBits;by_cases hn:n=0
  .subst hn;rfl
  .have h2:((n:Int)==0)=false:=by simpa using hn
   rw[h2,Dt hn];simp
 have b:=zl n (by lia);unfold b9 bits;rw[e,Dk,Ez];show List.map (λi:Nat=>V.int (0+(i:Int))) (List.filter (λi=>n.testBit i) (List.range (if n=0 then 0 else n.log2+1)))=_;rw[show(λi=>n.testBit i)=n.testBit from rfl,b];refine EV λk _=> ?_;show V.int (0+(k:Int))=V.int (k:Int);rw[EA]
inductive qH(vs:List V)(H:Hp)(Q:VK):Prop
 |mk (s t:Int) (y_0:vs=[.int s, .int t]) (y_1:0<=s) (y_2:0<=t) (y_3:Q (.bl (s.toNat.testBit t.toNat)) H):qH vs H Q
def nr:Sp:=λvs H Q _=>qH vs H Q
inductive mK(vs:List V)(H:Hp)(Q:VK):Prop
 |mk (s:Int) (y_0:vs=[.int s]) (y_1:0<=s) (y_2:s<256) (y_3:∀p H',Same H H'->H p=none->H' p=some (.lst ((bits s.toNat).map V.int))->Q (.ref p) H'):mK vs H Q
def eG:Sp:=λvs H Q _=>mK vs H Q
inductive uw(vs:List V)(H:Hp)(Q:VK):Prop
 |mk (s:Int) (y_0:vs=[.int s]) (y_1:0<=s) (y_2:s<256) (y_3:∀H',Same H H'->Q (.int ((bits s.toNat).length:Nat)) H'):uw vs H Q
def fE:Sp:=λvs H Q _=>uw vs H Q
inductive ql(K:PySem.W.Frag)(vs:List V)(H:Hp)(Q:VK):Prop
 |mk (a:Addr) (ns:List Int) (y_0:vs=[.ref a]) (y_1:SqL K H a (ns.map V.int)) (y_2:(∀z∈ns,0<=z/\z<8)) (y_3:Q (.int (zR ns:Nat)) H):ql K vs H Q
def sQ(K:PySem.W.Frag):Sp:=λvs H Q _=>ql K vs H Q
inductive qj(vs:List V)(H:Hp)(Q:VK):Prop
 |mk (i:Int) (y_0:vs=[.int i]) (y_1:Q (.bl true) H):qj vs H Q
def jn:Sp:=λvs H Q _=>qj vs H Q
def bB:V->Int
 | .int z=>z
 |_=>0
theorem bC(p:Int->Bool)(f:Int->Int)(zs:List Int):dn (λx=>p (bB x)) (λx=> .int (f (bB x))) (zs.map V.int)=((zs.filter p).map f).map V.int:=by unfold dn;rw[List.filter_map,Ez,Ez];rfl
theorem pZ(ns:List Int)(lo hi:Option Int):∃cs:List Int,lG (ns.map V.int) lo hi=cs.map V.int/\cs.length<=ns.length:=by
 refine⟨(ns.drop (HT.sIx ns.length 0 lo)).take (HT.sIx ns.length ns.length hi-HT.sIx ns.length 0 lo),?_,?_⟩
 .unfold lG;rw[Di,<-List.map_drop,<-List.map_take]
 .rw[Em,Ff];exact Du (Nat.min_le_right _ _) (Nat.sub_le _ _)
theorem zP{n j:Nat}:decide (V.int (Builtin.bitAnd ((n:Int) /2^(0+(j:Int)).toNat) 1)=V.int 1)=n.testBit j:=by
 have e1:(0+(j:Int)).toNat=j:=by lia
 have e2:((n:Int) /2^j)=((n/2^j:Nat):Int):=by simp
 rw[e1,e2,eU (E2 _) (by decide),Dk];have h1:((1:Int).toNat)=1:=rfl;rw[h1,HJ,d7];by_cases hb:n/2^j % 2=1
 .rw[hb];rfl
 .have:¬V.int ((n/2^j % 2:Nat):Int)=V.int 1:=λz=>hb (by have:=V.int.inj z;lia);rw[Dy this,Dy hb]
theorem jX(p:Nat->Bool)(N:Nat):b9 p (λi=>V.int (0+(i:Nat))) N=(((List.range N).filter p).map λs:Nat=>(s:Int)).map V.int:=by unfold b9;rw[Ez];refine EV λk _=> ?_;show V.int (0+(k:Int))=V.int (k:Int);rw[EA]
theorem bx(n:Nat):(1*2^((n:Nat):Int).toNat:Int)=((2^n:Nat):Int):=by rw[Dk,GS];simp
theorem rN{l:List Int}{j:Nat}{z:Int}(h:l[j]?=some z):atI (l.map V.int) (j:Int)=some (.int z):=aK (by rw[Dm,h];rfl)
theorem du{l:List Int}(h:j<l.length):atI (l.map V.int) (j:Int)=some (.int (l.getD j 0)):=rN (by simp[h])
inductive qO(vs:List V)(H:Hp)(Q:VK):Prop
 |mk (n:Int) (y_0:vs=[.int n]) (y_1:0<=n) (y_2:n<=1000) (y_3:Q (.int (1*2^n.toNat-1)) H):qO vs H Q
def tN:Sp:=λvs H Q _=>qO vs H Q
inductive qF(K:PySem.W.Frag)(vs:List V)(H:Hp)(Q:VK):Prop
 |mk (p C dx:Addr) (n:V) (y_0:vs=[.ref p,n]) (y_1:H p=some (.ins C dx [])) (y_2:Cls K C) (y_3:aH K C "many") (y_4:Q .non (upd H p (.ins C dx (aJ "many" n [])))):qF K vs H Q
def dC(K:PySem.W.Frag):Sp:=λvs H Q _=>qF K vs H Q
inductive qu(vs:List V)(H:Hp)(Q:VK):Prop
 |mk (a:V) (s:V) (y_0:vs=[a,s]) (y_1:Q (.int 0) H):qu vs H Q
def sW:Sp:=λvs H Q _=>qu vs H Q
inductive qJ(K:PySem.W.Frag)(vs:List V)(H:Hp)(Q:VK):Prop
 |mk (a C dx:Addr) (fs:List (Str×V)) (n:Int) (y_0:vs=[.ref a]) (y_1:H a=some (.ins C dx fs)) (y_2:Cls K C) (y_3:aH K C "many") (y_4:fs.lookup ("many":Str)=some (.int n)) (y_5:0<=n) (y_6:n<=1000) (y_7:Q (.int (1*2^n.toNat-1)) H):qJ K vs H Q
def cV(K:PySem.W.Frag):Sp:=λvs H Q _=>qJ K vs H Q
def evF(n k:Int):List (Str×V):=aJ "most" (.int k) (aJ "many" (.int n) [])
inductive qG(C:Addr)(vs:List V)(H:Hp)(Q:VK):Prop
 |mk (p dx:Addr) (n k:Int) (y_0:vs=[.ref p, .int n, .int k]) (y_1:H p=some (.ins C dx [])) (y_2:Q .non (upd H p (.ins C dx (evF n k)))):qG C vs H Q
def tE(C:Addr):Sp:=λvs H Q _=>qG C vs H Q
def CF(a b:Int):Int:=if b<a then b else a
inductive qw(C:Addr)(vs:List V)(H:Hp)(Q:VK):Prop
 |mk (a dx:Addr) (n k s:Int) (y_0:vs=[.ref a, .int s]) (y_1:H a=some (.ins C dx (evF n k))) (y_2:0<=s) (y_3:s<256) (y_4:∀H',Same H H'->Q (.int (CF ((bits s.toNat).length:Nat) k)) H'):qw C vs H Q
def sX(C:Addr):Sp:=λvs H Q _=>qw C vs H Q
theorem vB:¬(("many":Str)= "most"):=by decide+kernel
theorem yU(n k:Int):(evF n k).lookup ("many":Str)=some (.int n):=by unfold evF;rw[aj _ _ vB,aA]
theorem yT(n k:Int):(evF n k).lookup ("most":Str)=some (.int k):=aA _ _ _
theorem yS(n k:Int){m:Str}(h1:¬m= "most")(h2:¬m= "many"):(evF n k).lookup m=none:=by unfold evF;rw[aj _ _ h1,aj _ _ h2];rfl
theorem zq(n:V){m:Str}(h2:¬m= "many"):(aJ "many" n []).lookup m=none:=by rw[aj _ _ h2];rfl
def liF(n:Int)(t:Addr):List (Str×V):=aJ "listed" (.ref t) (aJ "many" (.int n) [])
theorem pH:¬(("many":Str)= "listed"):=by decide+kernel
theorem yn(n:Int)(t:Addr):(liF n t).lookup ("many":Str)=some (.int n):=by unfold liF;rw[aj _ _ pH,aA]
theorem rX(n:Int)(t:Addr):(liF n t).lookup ("listed":Str)=some (.ref t):=aA _ _ _
theorem ym(n:Int)(t:Addr){m:Str}(h1:¬m= "listed")(h2:¬m= "many"):(liF n t).lookup m=none:=by unfold liF;rw[aj _ _ h1,aj _ _ h2];rfl
theorem yl(n:Int)(t:Addr):(liF n t).lookup ("rank":Str)=none:=ym _ _ (by decide+kernel) (by decide+kernel)
theorem vE(n:Int)(t:Addr):(liF n t).lookup ("everything":Str)=none:=ym _ _ (by decide+kernel) (by decide+kernel)
def zy(C:Addr)(H:Hp)(a:Addr)(n:Int)(ms:List Int):Prop:=∃dx t,H a=some (.ins C dx (liF n t))/\H t=some (.tup (ms.map V.int))/\ms.length<=1000
theorem zy.same(h:zy C H a n ms)(e:Same H H'):zy C H' a n ms:=by obtain⟨dx,t,h1,h2,h3⟩:=h;exact⟨dx,t,e.at h1,e.at h2,h3⟩
inductive qE(K:PySem.W.Frag)(C:Addr)(vs:List V)(H:Hp)(Q:VK):Prop
 |mk (p dx a:Addr) (n:Int) (ms:List Int) (y_0:vs=[.ref p, .int n, .ref a]) (y_1:H p=some (.ins C dx [])) (y_2:SqL K H a (ms.map V.int)) (y_3:ms.length<=1000) (y_4:∀t H',H t=none->(∀b o,H b=some o->b≠p->H' b=some o)->H' p=some (.ins C dx (liF n t))->H' t=some (.tup (ms.map V.int))->Q .non H'):qE K C vs H Q
def tw(K:PySem.W.Frag)(C:Addr):Sp:=λvs H Q _=>qE K C vs H Q
inductive qt(C:Addr)(vs:List V)(H:Hp)(Q:VK):Prop
 |mk (a:Addr) (n s:Int) (ms:List Int) (y_0:vs=[.ref a, .int s]) (y_1:zy C H a n ms) (y_2:ms≠[]) (y_3:(∀m∈ms,0<=m/\m<256)) (y_4:0<=s) (y_5:s<256) (y_6:∀H',Same H H'->Q (.int (gM ms s.toNat:Nat)) H'):qt C vs H Q
def sV(C:Addr):Sp:=λvs H Q _=>qt C vs H Q
theorem jH{vs:St}(h:vs.length=2):∃v w,vs=[v,w]:=by
 match vs,h with
 | [v,w],_=>exact⟨v,w,rfl⟩
def m2(r:List Int):List Int:=r.map λz=>z % 2
theorem rV(r:List Int):Bin r.length (m2 r):=by refine⟨Di ..,λz hz=> ?_⟩;obtain⟨y,_,rfl⟩:=DL.mp hz;lia
inductive qo(K:PySem.W.Frag)(vs:List V)(H:Hp)(Q:VK):Prop
 |mk (a:Addr) (r:List Int) (y_0:vs=[.ref a, .int 2]) (y_1:SqL K H a (r.map V.int)) (y_2:r.length<=1000) (y_3:∀q H',Same H H'->H q=none->H' q=some (.lst ((m2 r).map V.int))->Q (.ref q) H'):qo K vs H Q
def sS(K:PySem.W.Frag):Sp:=λvs H Q _=>qo K vs H Q
inductive qx(K:PySem.W.Frag)(vs:List V)(H:Hp)(Q:VK):Prop
 |mk (a:Addr) (xs:List V) (L:List (List Int)) (c n:Nat) (y_0:vs=[.ref a, .int (c:Int)]) (y_1:H a=some (.lst xs)) (y_2:bq H xs L) (y_3:(∀r∈L,r.length=n)) (y_4:c<n) (y_5:(∀ (i:Nat) (r:List Int) (H':Hp),Same H H'->L[i]?=some r->¬r.getD c 0=0->Q (.int (i:Int)) H')) (y_6:((∀r∈L,r.getD c 0=0)->∀H',Same H H'->Q .non H')):qx K vs H Q
def sY(K:PySem.W.Frag):Sp:=λvs H Q _=>qx K vs H Q
def clr(pr r:List Int)(c:Nat):List Int:=(List.range r.length).map λj=>(r.getD j 0*pr.getD c 0-pr.getD j 0*r.getD c 0) /1
theorem B3{pr r:List Int}(hp:Bin n pr)(hr:Bin n r)(hc:c<n)(pc:pr.getD c 0=1):Clr n pr r (m2 (clr pr r c)) c:=by
 have hl:(clr pr r c).length=n:=by unfold clr;rw[Di,DU];exact hr.1
 refine⟨by rw[<-hl];exact rV _,λj hj=> ?_⟩;have e:(m2 (clr pr r c)).getD j 0=((r.getD j 0*pr.getD c 0-pr.getD j 0*r.getD c 0) /1) % 2:=by
  have hjr:j<r.length:=by rw[hr.1];exact hj
  unfold m2 clr;rw[Ee,Dm,Dm,EM hjr];rfl
 rw[e,pc];rcases hr.at hj with h1|h1<;>rcases hp.at hj with h2|h2<;>rcases hr.at hc with h3|h3<;>rw[h1,h2,h3]<;>decide
inductive k4(K:PySem.W.Frag)(vs:List V)(H:Hp)(Q:VK):Prop
 |mk (a b:Addr) (r pr:List Int) (c n:Nat) (y_0:vs=[.ref a, .ref b, .int (c:Int), .int 1]) (y_1:SqL K H a (r.map V.int)) (y_2:SqL K H b (pr.map V.int)) (y_3:Bin n r) (y_4:Bin n pr) (y_5:c<n) (y_6:n<=1000) (y_7:∀q H',Same H H'->H q=none->H' q=some (.lst ((clr pr r c).map V.int))->Q (.ref q) H'):k4 K vs H Q
def lV(K:PySem.W.Frag):Sp:=λvs H Q _=>k4 K vs H Q
inductive qP(K:PySem.W.Frag)(vs:List V)(H:Hp)(Q:VK):Prop
 |mk (a:Addr) (xs:List V) (L:List (List Int)) (i c n:Nat) (pr:List Int) (y_0:vs=[.ref a, .int (i:Int), .int (c:Int), .int 1]) (y_1:H a=some (.lst xs)) (y_2:bq H xs L) (y_3:(∀r∈L,Bin n r)) (y_4:L.length<=1000) (y_5:L[i]?=some pr) (y_6:c<n) (y_7:n<=1000) (y_8:∀q H' ys,Same H H'->H q=none->H' q=some (.lst ys)->bq H' ys ((L.take i++L.drop (i+1)).map λr=>clr pr r c)->Q (.ref q) H'):qP K vs H Q
def tO(K:PySem.W.Frag):Sp:=λvs H Q _=>qP K vs H Q
inductive mN(K:PySem.W.Frag)(vs:List V)(H:Hp)(Q:VK):Prop
 |mk (a:Addr) (xs:List V) (M:List (List Int)) (cols:List Nat) (y_0:vs=[.ref a, .int 2]) (y_1:H a=some (.lst xs)) (y_2:bq H xs M) (y_3:0<M.length) (y_4:M.length<=100) (y_5:cols.length<=100) (y_6:(∀r∈M,r.length=cols.length)) (y_7:ou M.length cols (M.map m2)) (y_8:(∀v∈cols,v<2^M.length)) (y_9:∀H',Same H H'->Q (.int (rkX cols:Nat)) H'):mN K vs H Q
def oK(K:PySem.W.Frag):Sp:=λvs H Q _=>mN K vs H Q
def neF(n p:Int)(t:Addr):List (Str×V):=aJ "ties" (.ref t) (aJ "points" (.int p) (aJ "many" (.int n) []))
theorem o5:¬(("points":Str)= "ties"):=by decide+kernel
theorem vz:¬(("many":Str)= "ties"):=by decide+kernel
theorem pG:¬(("many":Str)= "points"):=by decide+kernel
theorem xZ(n p:Int)(t:Addr):(neF n p t).lookup ("many":Str)=some (.int n):=by unfold neF;rw[aj _ _ vz,aj _ _ pG,aA]
theorem ki(n p:Int)(t:Addr):(neF n p t).lookup ("points":Str)=some (.int p):=by unfold neF;rw[aj _ _ o5,aA]
theorem xX(n p:Int)(t:Addr):(neF n p t).lookup ("ties":Str)=some (.ref t):=aA _ _ _
theorem rM(n p:Int)(t:Addr){m:Str}(h1:¬m= "ties")(h2:¬m= "points")(h3:¬m= "many"):(neF n p t).lookup m=none:=by unfold neF;rw[aj _ _ h1,aj _ _ h2,aj _ _ h3];rfl
theorem xY(n p:Int)(t:Addr):(neF n p t).lookup ("rank":Str)=none:=rM _ _ _ (by decide+kernel) (by decide+kernel) (by decide+kernel)
theorem rL(n p:Int)(t:Addr):(neF n p t).lookup ("pieces":Str)=none:=rM _ _ _ (by decide+kernel) (by decide+kernel) (by decide+kernel)
def wz(C:Addr)(H:Hp)(a:Addr)(n:Int)(p:Nat)(ts:List (Nat×Nat)):Prop:=∃dx t xs,H a=some (.ins C dx (neF n p t))/\H t=some (.tup xs)/\ck H xs ts
theorem wz.same(h:wz C H a n p ts)(e:Same H H'):wz C H' a n p ts:=by obtain⟨dx,t,xs,h1,h2,h3⟩:=h;exact⟨dx,t,xs,e.at h1,e.at h2,h3.ts (cT.of e)⟩
def cq(l:List Nat):List Int:=l.map λk:Nat=>(k:Int)
def iV(p:Nat)(ts:List (Nat×Nat)):Prop:=∀t∈ts,t.1<p/\t.2<p
inductive uv(K:PySem.W.Frag)(vs:List V)(H:Hp)(Q:VK):Prop
 |mk (a b:Addr) (ms:List Int) (t:Nat×Nat) (y_0:vs=[.ref a, .ref b]) (y_1:SqL K H a (ms.map V.int)) (y_2:H b=some (.tup [.int t.1, .int t.2])) (y_3:t.1<ms.length) (y_4:t.2<ms.length) (y_5:ms.length<=1000) (y_6:∀q H',Same H H'->H q=none->H' q=some (.lst ((mrg ms t.1 t.2).map V.int))->Q (.ref q) H'):uv K vs H Q
def w6(K:PySem.W.Frag):Sp:=λvs H Q _=>uv K vs H Q
inductive qD(K:PySem.W.Frag)(C:Addr)(vs:List V)(H:Hp)(Q:VK):Prop
 |mk (p dx a:Addr) (n pt:Int) (xs:List V) (ts:List (Nat×Nat)) (y_0:vs=[.ref p, .int n, .int pt, .ref a]) (y_1:H p=some (.ins C dx [])) (y_2:SqL K H a xs) (y_3:ck H xs ts) (y_4:xs.length<=1000) (y_5:∀t ys H',H t=none->(∀b o,H b=some o->b≠p->H' b=some o)->H' p=some (.ins C dx (neF n pt t))->H' t=some (.tup ys)->ck H' ys ts->Q .non H'):qD K C vs H Q
def tu(K:PySem.W.Frag)(C:Addr):Sp:=λvs H Q _=>qD K C vs H Q
inductive zE(C:Addr)(vs:List V)(H:Hp)(Q:VK):Prop
 |mk (a:Addr) (n:Int) (p:Nat) (s:Nat) (ts:List (Nat×Nat)) (y_0:vs=[.ref a, .int (s:Int)]) (y_1:wz C H a n p ts) (y_2:iV p ts) (y_3:p<=1000) (y_4:ts.length<=8) (y_5:s<2^ts.length) (y_6:∀H',Same H H'->Q (.int (pcs p ts s:Nat)) H'):zE C vs H Q
def AU(C:Addr):Sp:=λvs H Q _=>zE C vs H Q
inductive qr(C:Addr)(vs:List V)(H:Hp)(Q:VK):Prop
 |mk (a:Addr) (n:Int) (p:Nat) (s:Nat) (ts:List (Nat×Nat)) (y_0:vs=[.ref a, .int (s:Int)]) (y_1:wz C H a n p ts) (y_2:iV p ts) (y_3:p<=1000) (y_4:ts.length<=8) (y_5:s<2^ts.length) (y_6:∀H',Same H H'->Q (.int ((p:Int) - (pcs p ts s:Nat))) H'):qr C vs H Q
def sU(C:Addr):Sp:=λvs H Q _=>qr C vs H Q
theorem hZ(val:Nat->Int):∀i,(PyProof.Rows.firstMet val i).length=gC val i
 |0=>rfl
 |i+1=>by rw[PyProof.Rows.firstMet_succ,PyProof.Rows.step_length,PyProof.Rows.firstMet_any,hZ val i];show _=if _ then _ else _;rw[List.any_map];rfl
theorem cK:decide (V.int a=V.int b)=decide (a=b):=by
 by_cases h:a=b
 .subst h;simp
 .rw[Dy h,Dy λe=>h (V.int.inj e)]
def taF(n p:Int)(t:Addr):List (Str×V):=aJ "rows" (.ref t) (aJ "prime" (.int p) (aJ "many" (.int n) []))
theorem rl:¬(("prime":Str)= "rows"):=by decide+kernel
theorem vA:¬(("many":Str)= "rows"):=by decide+kernel
theorem rR:¬(("many":Str)= "prime"):=by decide+kernel
theorem wN(n p:Int)(t:Addr):(taF n p t).lookup ("many":Str)=some (.int n):=by unfold taF;rw[aj _ _ vA,aj _ _ rR,aA]
theorem uK(n p:Int)(t:Addr):(taF n p t).lookup ("prime":Str)=some (.int p):=by unfold taF;rw[aj _ _ rl,aA]
theorem wK(n p:Int)(t:Addr):(taF n p t).lookup ("rows":Str)=some (.ref t):=aA _ _ _
theorem wM(n p:Int)(t:Addr){m:Str}(h1:¬m= "rows")(h2:¬m= "prime")(h3:¬m= "many"):(taF n p t).lookup m=none:=by unfold taF;rw[aj _ _ h1,aj _ _ h2,aj _ _ h3];rfl
theorem wL(n p:Int)(t:Addr):(taF n p t).lookup ("rank":Str)=none:=wM _ _ _ (by decide+kernel) (by decide+kernel) (by decide+kernel)
theorem uL(n p:Int)(t:Addr):(taF n p t).lookup ("everything":Str)=none:=wM _ _ _ (by decide+kernel) (by decide+kernel) (by decide+kernel)
def zv(C:Addr)(H:Hp)(a:Addr)(n:Int)(M:List (List Int)):Prop:=∃dx t xs,H a=some (.ins C dx (taF n 2 t))/\H t=some (.tup xs)/\fQ H xs M
theorem zv.same(h:zv C H a n M)(e:Same H H'):zv C H' a n M:=by obtain⟨dx,t,xs,h1,h2,h3⟩:=h;exact⟨dx,t,xs,e.at h1,e.at h2,h3.ts (cT.of e)⟩
inductive qC(K:PySem.W.Frag)(C:Addr)(vs:List V)(H:Hp)(Q:VK):Prop
 |mk (p dx a:Addr) (n:Int) (xs:List V) (M:List (List Int)) (y_0:vs=[.ref p, .int n, .int 2, .ref a]) (y_1:H p=some (.ins C dx [])) (y_2:H a=some (.lst xs)) (y_3:bq H xs M) (y_4:xs.length<=100) (y_5:∀t ys H',H t=none->(∀b o,H b=some o->b≠p->H' b=some o)->H' p=some (.ins C dx (taF n 2 t))->H' t=some (.tup ys)->fQ H' ys M->Q .non H'):qC K C vs H Q
def tj(K:PySem.W.Frag)(C:Addr):Sp:=λvs H Q _=>qC K C vs H Q
structure qi(n:Nat)(M:List (List Int))(cols:List Nat):Prop where
 n8:n<=8
 len:cols.length=n
 rows:∀r∈M,r.length=n
 pos:0<M.length
 few:M.length<=100
 of:ou M.length cols (M.map m2)
 below:∀v∈cols,v<2^M.length
inductive qp(C:Addr)(vs:List V)(H:Hp)(Q:VK):Prop
 |mk (a:Addr) (n s:Nat) (M:List (List Int)) (cols:List Nat) (y_0:vs=[.ref a, .int (s:Int)]) (y_1:zv C H a n M) (y_2:qi n M cols) (y_3:s<2^n) (y_4:∀H',Same H H'->Q (.int (rkC cols s:Nat)) H'):qp C vs H Q
def sT(C:Addr):Sp:=λvs H Q _=>qp C vs H Q
def pick(s:Nat)(r:List Int):List Int:=(bits s).map λz=>r.getD z.toNat 0
theorem wb{cols:List Nat}{z:Int}(h:(bits s)[j]?=some z):(bc cols s).getD j 0=cols.getD z.toNat 0:=by unfold bc;rw[Ee,Dm,h];rfl
theorem Ad{M:List (List Int)}(h:qi n M cols)(hs:s<2^n):
  (∀r∈M.map (pick s),r.length=(bc cols s).length)/\ou (M.map (pick s)).length (bc cols s) ((M.map (pick s)).map m2)/\(∀v∈bc cols s,v<2^(M.map (pick s)).length)/\(bc cols s).length<=100:=by
 have hcl:(bc cols s).length=(bits s).length:=by unfold bc;rw[Di]
 refine⟨λr hr=> ?_,⟨by rw[Di],λi hi=> ?_⟩,λv hv=> ?_,?_⟩
 .obtain⟨r0,_,rfl⟩:=DL.mp hr;unfold pick;rw[Di,hcl]
 .rw[Di]at hi;obtain⟨r,hr,hrr⟩:=h.of.2 i hi;rw[Dm]at hr;cases hM:M[i]? with
  |none=>rw[hM]at hr;cases hr
  |some r0=>
   rw[hM]at hr;cases hr;refine⟨m2 (pick s r0),by rw[Dm,Dm,hM];rfl,λj hj=> ?_⟩;rw[hcl]at hj;have hz:(bits s)[j]?=some (bits s)[j]:=Ds hj;generalize (bits s)[j]=z at hz;obtain⟨z0,z1⟩:=dZ hs (Dv hz);rw[wb hz,<-hrr z.toNat (by rw[h.len];exact z1)];have l0:=h.rows r0 (Dv hM);have e:(m2 (pick s r0)).getD j 0=(m2 r0).getD z.toNat 0:=by
    unfold m2 pick;rw[Ee,Dm,Dm,hz,Ee,Dm];show(r0.getD z.toNat 0 % 2)=_;have:z.toNat<r0.length:=by rw[l0];exact z1
    simp[this]
   rw[e]
 .rw[Di];obtain⟨k,hk,hb,rfl⟩:=cp.mp hv;by_cases hkl:k<cols.length
  .have e:cols.getD k 0=cols[k]:=by simp[hkl]
   rw[e];exact h.below _ (E7 hkl)
  .have e:cols.getD k 0=0:=by simp[Ef hkl]
   rw[e];exact DZ (by lia)
 .rw[hcl];exact Du (dt s) (by decide)
inductive T5 where
 |bare|even|listed|net|tabled
structure Cs where
 h:Addr
 e:Addr
 l:Addr
 n:Addr
 t:Addr
def Cs.at(c:Cs):T5->Addr
 | .bare=>c.h
 | .even=>c.e
 | .listed=>c.l
 | .net=>c.n
 | .tabled=>c.t
def Cs.Inj(c:Cs):Prop:=∀x y,c.at x=c.at y->x=y
theorem Cs.inj_of{c:Cs}(h:(c.h≠c.e/\c.h≠c.l/\c.h≠c.n/\c.h≠c.t)/\(c.e≠c.l/\c.e≠c.n/\c.e≠c.t)/\(c.l≠c.n/\c.l≠c.t)/\c.n≠c.t):c.Inj:=by obtain⟨⟨h1,h2,h3,h4⟩,⟨h5,h6,h7⟩,⟨h8,h9⟩,h10⟩:=h;intro x y e;cases x<;>cases y<;>first|rfl|(exfalso;first|exact h1 e|exact h2 e|exact h3 e|exact h4 e|exact h5 e|exact h6 e|exact h7 e|exact h8 e|exact h9 e|exact h10 e|exact h1 e.symm|exact h2 e.symm|exact h3 e.symm|exact h4 e.symm|exact h5 e.symm|exact h6 e.symm|exact h7 e.symm|exact h8 e.symm|exact h9 e.symm|exact h10 e.symm)
def HoB(c:Cs)(H:Hp)(a:Addr)(n:Nat)(r:Nat->Nat):T5->Prop
 | .bare=>∃dx,H a=some (.ins c.h dx (aJ "many" (.int (n:Int)) []))/\∀s,s<2^n->r s=0
 | .even=>∃ (dx:Addr) (m:Nat),H a=some (.ins c.e dx (evF n m))/\∀s,s<2^n->r s=min (sz s) m
 | .listed=>∃ms:List Int,zy c.l H a n ms/\ms≠[]/\(∀m∈ms,0<=m/\m<256)/\∀s,s<2^n->r s=gM ms s
 | .net=>∃ (p:Nat) (ts:List (Nat×Nat)),wz c.n H a n p ts/\iV p ts/\p<=1000/\ts.length=n/\∀s,s<2^n->(r s:Int)=(p:Int) - (pcs p ts s:Nat)
 | .tabled=>∃ (M:List (List Int)) (cols:List Nat),zv c.t H a n M/\qi n M cols/\∀s,s<2^n->r s=rkC cols s
theorem HoB.same(h:HoB c H a n r t)(e:Same H H'):HoB c H' a n r t:=by
 cases t with
 |bare=>obtain⟨dx,h1,h2⟩:=h;exact⟨dx,e.at h1,h2⟩
 |even=>obtain⟨dx,m,h1,h2⟩:=h;exact⟨dx,m,e.at h1,h2⟩
 |listed=>obtain⟨ms,h1,h2⟩:=h;exact⟨ms,h1.same e,h2⟩
 |net=>obtain⟨p,ts,h1,h2⟩:=h;exact⟨p,ts,h1.same e,h2⟩
 |tabled=>obtain⟨M,cols,h1,h2⟩:=h;exact⟨M,cols,h1.same e,h2⟩
theorem zp(n:V):(aJ "many" n []).lookup ("rank":Str)=none:=zq _ (by decide+kernel)
theorem wu(n:V):(aJ "many" n []).lookup ("everything":Str)=none:=zq _ (by decide+kernel)
theorem yR(n k:Int):(evF n k).lookup ("rank":Str)=none:=yS _ _ (by decide+kernel) (by decide+kernel)
theorem vV(n k:Int):(evF n k).lookup ("everything":Str)=none:=yS _ _ (by decide+kernel) (by decide+kernel)
theorem vm(n p:Int)(t:Addr):(neF n p t).lookup ("everything":Str)=none:=rM _ _ _ (by decide+kernel) (by decide+kernel) (by decide+kernel)
structure zw(H:Hp)(a C:Addr)(n:Nat):Prop where
 ex:∃dx fs,H a=some (.ins C dx fs)/\fs.lookup ("rank":Str)=none/\fs.lookup ("everything":Str)=none/\fs.lookup ("many":Str)=some (.int (n:Int))
theorem HoB.shown{c:Cs}(h:HoB c H a n r t):zw H a (c.at t) n:=by
 cases t with
 |bare=>obtain⟨dx,h1,_⟩:=h;exact⟨dx,_,h1,zp _,wu _,aA _ _ _⟩
 |even=>obtain⟨dx,m,h1,_⟩:=h;exact⟨dx,_,h1,yR _ _,vV _ _,yU _ _⟩
 |listed=>obtain⟨ms,⟨dx,t,h1,_⟩,_⟩:=h;exact⟨dx,_,h1,yl _ _,vE _ _,yn _ _⟩
 |net=>obtain⟨p,ts,⟨dx,t,xs,h1,_⟩,_⟩:=h;exact⟨dx,_,h1,xY _ _ _,vm _ _ _,xZ _ _ _⟩
 |tabled=>obtain⟨M,cols,⟨dx,t,xs,h1,_⟩,_⟩:=h;exact⟨dx,_,h1,wL _ _ _,uL _ _ _,wN _ _ _⟩
inductive zD(c:Cs)(C:Addr)(vs:List V)(H:Hp)(Q:VK):Prop
 |mk (a:Addr) (n s:Nat) (r:Nat->Nat) (t:T5) (y_0:vs=[.ref a, .int (s:Int)]) (y_1:HoB c H a n r t) (y_2:c.at t=C) (y_3:n<=8) (y_4:s<2^n) (y_5:∀H',Same H H'->Q (.int (r s:Nat)) H'):zD c C vs H Q
def jN(c:Cs)(C:Addr):Sp:=λvs H Q _=>zD c C vs H Q
theorem qY{c:Cs}(hi:c.Inj)(vs:List V)(H:Hp)(Q:VK)(E:XK)(h:jN c c.h vs H Q E):sW vs H Q E:=by obtain⟨a,n,s,r,t,rfl,hB,et,n8,hs,k⟩:=h;have:t= .bare:=hi t .bare et;subst this;obtain⟨dx,_,h2⟩:=hB;have:=k H (Same.refl _);rw[h2 s hs]at this;exact⟨_,_,rfl,this⟩
theorem s_lt(h8:n<=8)(hs:s<2^n):s<256:=Dq hs (DM (n:=2) (by lia) h8)
theorem qX{c:Cs}(hi:c.Inj)(vs:List V)(H:Hp)(Q:VK)(E:XK)(h:jN c c.e vs H Q E):sX c.e vs H Q E:=by
 obtain⟨a,n,s,r,t,rfl,hB,et,n8,hs,k⟩:=h;have:t= .even:=hi t .even et;subst this;obtain⟨dx,m,h1,h2⟩:=hB;have s2:=s_lt n8 hs;refine⟨a,dx,_,_,_,rfl,h1,by lia,by lia,λH' sm=> ?_⟩;have:=k H' sm;rw[h2 s hs]at this;have e:CF ((bits (s:Int).toNat).length:Nat) (m:Int)=((min (sz s) m:Nat):Int):=by rw[Dk];show(if(m:Int)<((sz s:Nat):Int)then(m:Int)else((sz s:Nat):Int))=_;split<;>lia
 rw[e];exact this
theorem ni{c:Cs}(hi:c.Inj)(vs:List V)(H:Hp)(Q:VK)(E:XK)(h:jN c c.l vs H Q E):sV c.l vs H Q E:=by obtain⟨a,n,s,r,t,rfl,hB,et,n8,hs,k⟩:=h;have:t= .listed:=hi t .listed et;subst this;obtain⟨ms,h1,h2,h3,h4⟩:=hB;have s2:=s_lt n8 hs;refine⟨a,_,_,ms,rfl,h1,h2,h3,by lia,by lia,λH' sm=> ?_⟩;have:=k H' sm;rw[h4 s hs]at this;rw[Dk];exact this
theorem uQ{c:Cs}(hi:c.Inj)(vs:List V)(H:Hp)(Q:VK)(E:XK)(h:jN c c.n vs H Q E):sU c.n vs H Q E:=by obtain⟨a,n,s,r,t,rfl,hB,et,n8,hs,k⟩:=h;have:t= .net:=hi t .net et;subst this;obtain⟨p,ts,h1,h2,h3,h4,h5⟩:=hB;refine⟨a,_,p,s,ts,rfl,h1,h2,h3,by lia,by rw[h4];exact hs,λH' sm=> ?_⟩;rw[<-h5 s hs];exact k H' sm
theorem nh{c:Cs}(hi:c.Inj)(vs:List V)(H:Hp)(Q:VK)(E:XK)(h:jN c c.t vs H Q E):sT c.t vs H Q E:=by obtain⟨a,n,s,r,t,rfl,hB,et,n8,hs,k⟩:=h;have:t= .tabled:=hi t .tabled et;subst this;obtain⟨M,cols,h1,h2,h3⟩:=hB;refine⟨a,n,s,M,cols,rfl,h1,h2,hs,λH' sm=> ?_⟩;rw[<-h3 s hs];exact k H' sm
theorem b7.imp(F:b7 P w K mg base k f ps sp)(h:∀vs H Q E,sp' vs H Q E->sp vs H Q E):b7 P w K mg base k f ps sp':=by obtain⟨⟨fd,F1,b⟩,kp⟩:=F;exact⟨⟨fd,F1.imp h,b⟩,kp⟩
structure HC(K:PySem.W.Frag)(C_House C:Addr):Prop where
 cl:Cls K C
 nM:aH K C "many"
 ty:TyC K C
 isH:kitOne K (.ref C) (.ref C_House)=some true
theorem cn.mono(M:cn P w K mg base j C m ps sp)(h:j<=k):cn P w K mg base k C m ps sp:=by obtain⟨c,f,hm,F⟩:=M;exact⟨c,f,hm,b7.mono F h⟩
theorem cn.imp(M:cn P w K mg base k C m ps sp)(h:∀vs H Q E,sp' vs H Q E->sp vs H Q E):cn P w K mg base k C m ps sp':=by obtain⟨c,f,hm,F⟩:=M;exact⟨c,f,hm,b7.imp F h⟩
inductive uy(vs:List V)(H:Hp)(Q:VK):Prop
 |mk (s t:Nat) (y_0:vs=[.int (s:Int), .int (t:Int)]) (y_1:Q (.int (aX s t:Nat)) H):uy vs H Q
def jP:Sp:=λvs H Q _=>uy vs H Q
inductive qy(vs:List V)(H:Hp)(Q:VK):Prop
 |mk (s:Int) (y_0:vs=[.int s]) (y_1:0<=s) (y_2:s<256) (y_3:∀p H',Same H H'->H p=none->H' p=some (.lst ((xF s.toNat).map V.int))->Q (.ref p) H'):qy vs H Q
def gI:Sp:=λvs H Q _=>qy vs H Q
inductive mL(vs:List V)(H:Hp)(Q:VK):Prop
 |mk (s h:Int) (y_0:vs=[.int s, .int h]) (y_1:0<=s) (y_2:0<=h) (y_3:h<256) (y_4:∀H',Same H H'->Q (.int (bG s.toNat h.toNat:Nat)) H'):mL vs H Q
def oJ:Sp:=λvs H Q _=>mL vs H Q
theorem i5(p:Nat->Int->Bool):∀ (hs:List Int) (i:Nat),cN (λi x=>p i (bB x)) (λ_ x=>x) i (hs.map V.int)=(picks p i hs).map V.int
 | [],_=>rfl
 |z::r,i=>by rw[Ej,cN,picks,i5 p r (i+1)];show(if p i z=true then _ else _)=_;split<;>rfl
inductive qB(vs:List V)(H:Hp)(Q:VK):Prop
 |mk (c k:Int) (y_0:vs=[.int c, .int k]) (y_1:0<=k) (y_2:k<64) (y_3:∀m:Int,0<=m->Q (.int m) H):qB vs H Q
def jo:Sp:=λvs H Q _=>qB vs H Q
inductive Ba(K:PySem.W.Frag)(vs:List V)(H:Hp)(Q:VK):Prop
 |mk (a:Addr) (ns:List Int) (i:Int) (y_0:vs=[.ref a, .int i]) (y_1:0<=i) (y_2:SqL K H a (ns.map V.int)) (y_3:Q (.int (ns.getD i.toNat 0)) H):Ba K vs H Q
def Bi(K:PySem.W.Frag):Sp:=λvs H Q _=>Ba K vs H Q
inductive qA(K:PySem.W.Frag)(vs:List V)(H:Hp)(Q:VK):Prop
 |mk (a:Addr) (ns:List Int) (st:Int) (y_0:vs=[.ref a, .int st]) (y_1:0<=st) (y_2:st<=10) (y_3:SqL K H a (ns.map V.int)) (y_4:ns.length<=63) (y_5:∀p H' zs,Same H H'->H p=none->H' p=some (.lst (List.map V.int zs))->zs.length<=63->Q (.ref p) H'):qA K vs H Q
def tf(K:PySem.W.Frag):Sp:=λvs H Q _=>qA K vs H Q
def szI(n:Nat):List Int:=(List.range (2^n)).map λs=>(sz s:Int)
def aG(n:Nat)(r:Nat->Nat):List Int:=(List.range (2^n)).map λs=>(r s:Int)
theorem wY:∀n:Nat,n<8->szI (n+1)=szI n++(szI n).map λz=>z+1:=by decide+kernel
theorem jJ(n:Nat):(szI n).length=2^n:=by unfold szI;rw[Di,DU]
theorem bF(n:Nat)(r:Nat->Nat):(aG n r).length=2^n:=by unfold aG;rw[Di,DU]
theorem bg{n s:Nat}(r:Nat->Nat)(hs:s<2^n):atI ((aG n r).map V.int) (s:Int)=some (.int (r s:Nat)):=aK (by unfold aG;rw[Dm,Dm,EM hs];rfl)
theorem fD{n s:Nat}(hs:s<2^n):atI ((szI n).map V.int) (s:Int)=some (.int (sz s:Nat)):=aK (by unfold szI;rw[Dm,Dm,EM hs];rfl)
theorem dB(h:n<=8):2^n<=256:=DM (n:=2) (by lia) h
theorem bZ(x y:Nat):Builtin.bitOr (x:Int) (y:Int)=((x|||y:Nat):Int):=by rw[kQ (E2 _) (E2 _),Dk,Dk]
theorem cu(x y:Nat):Builtin.bitAnd (x:Int) (y:Int)=((x&&&y:Nat):Int):=by rw[eU (E2 _) (E2 _),Dk,Dk]
theorem xO(x y:Nat):(x&&&y)+(x^^^y)=x|||y:=by
 have h:=fP (x|||y) (x|||y) (x&&&y) (Dl _);have e1:(x|||y)&&& (x&&&y)=x&&&y:=DJ λi=>by rw[DH,DH,DX];cases x.testBit i<;>cases y.testBit i<;>rfl
 have e2:(x|||y)^^^ (x&&&y)=x^^^y:=DJ λi=>by rw[EH,EH,DH,DX];cases x.testBit i<;>cases y.testBit i<;>rfl
 rw[e1,e2]at h;exact h
theorem kP(x y:Nat):Builtin.bitXor (x:Int) (y:Int)=((x^^^y:Nat):Int):=by unfold Builtin.bitXor;rw[bZ,cu];have:=xO x y;lia
inductive mW(vs:List V)(H:Hp)(Q:VK):Prop
 |mk (n:Nat) (y_0:vs=[.int (n:Int)]) (y_1:n<=8) (y_2:∀p H',Same H H'->H p=none->H' p=some (.lst ((szI n).map V.int))->Q (.ref p) H'):mW vs H Q
def fG:Sp:=λvs H Q _=>mW vs H Q
inductive zC(K:PySem.W.Frag)(vs:List V)(H:Hp)(Q:VK):Prop
 |mk (a:Addr) (cols:List Nat) (s:Nat) (y_0:vs=[.ref a, .int (s:Int)]) (y_1:SqL K H a ((cq cols).map V.int)) (y_2:cols.length<=8) (y_3:s<2^cols.length) (y_4:∀H',Same H H'->Q (.int (rkC cols s:Nat)) H'):zC K vs H Q
def w8(K:PySem.W.Frag):Sp:=λvs H Q _=>zC K vs H Q
def ft(cols:List Nat)(s i:Nat):List Nat:=(List.range i).map λk=>if s.testBit k=true then cols.getD k 0 else 0
theorem wZ(ss:List Nat):stp ss 0=ss:=by unfold stp;rw[oW,Dt (Eb 0)]
theorem eW(g:Nat->Nat)(p:Nat->Bool):∀ (l:List Nat) (ss:List Nat),(l.map λk=>if p k=true then g k else 0).foldl stp ss=((l.filter p).map g).foldl stp ss
 | [],_=>rfl
 |k::l,ss=>by
  rw[Ej,EG];cases hp:p k with
  |true=>rw[Dp rfl,EE hp,Ej,EG];exact eW g p l _
  |false=>rw[Dt Dr,wZ,EF (by rw[hp];exact Dr)];exact eW g p l _
theorem vy{cols:List Nat}(h8:cols.length<=8)(hs:s<2^cols.length):(cI (ft cols s cols.length)).length=rkC cols s:=by
 unfold rkC rkX;congr 1;unfold cI ft;rw[eW (λk=>cols.getD k 0) s.testBit];congr 1;unfold bc bits;rw[Ez];have e:∀n,n<=8->s<2^n->(List.range n).filter s.testBit=(List.range 8).filter s.testBit:=by
  intro n hn hs;have gen:∀d,n+d<=8->(List.range (n+d)).filter s.testBit=(List.range n).filter s.testBit:=by
   intro d
   induction d with
   |zero=>intro _;rfl
   |succ d ih=>
    intro hd;rw[show n+(d+1)=n+d+1 from rfl,ES,Gf,ih (by lia)];have hb:s.testBit (n+d)=false:=D8 (Dq hs (DM (by lia) (by lia)));rw[EF (by rw[hb];exact Dr)];simp
  have:=gen (8-n) (by lia);rw[show n+(8-n)=8 by lia]at this;exact this.symm
 rw[e _ h8 hs];refine EV λk _=> ?_;show cols.getD k 0=cols.getD ((k:Nat):Int).toNat 0;rw[Dk]
theorem xk(ss:List Nat)(v j:Nat)(h:ss[j]?=some w):red (ss.take (j+1)) v=mn (red (ss.take j) v) w:=by rw[EB,h];exact oY _ _ _
inductive qK(K:PySem.W.Frag)(vs:List V)(H:Hp)(Q:VK):Prop
 |mk (n m:Nat) (b:Addr) (ns:List Int) (y_0:vs=[.int (n:Int), .int (m:Int), .ref b]) (y_1:n<=8) (y_2:m<=n) (y_3:SqL K H b (ns.map V.int)) (y_4:ns.length<=63) (y_5:∀p H' gone,Same H H'->H p=none->H' p=some (.lst ((aG n (rkG m gone)).map V.int))->fR n m gone->(ns=[]->gone=[])->Q (.ref p) H'):qK K vs H Q
def tG(K:PySem.W.Frag):Sp:=λvs H Q _=>qK K vs H Q
inductive qI(K:PySem.W.Frag)(vs:List V)(H:Hp)(Q:VK):Prop
 |mk (n:Nat) (b:Addr) (ns:List Int) (y_0:vs=[.int (n:Int), .ref b]) (y_1:n<=8) (y_2:SqL K H b (ns.map V.int)) (y_3:ns.length<=63) (y_4:∀p H' zs,Same H H'->H p=none->H' p=some (.lst (List.map V.int zs))->zs.length=n->Q (.ref p) H'):qI K vs H Q
def tF(K:PySem.W.Frag):Sp:=λvs H Q _=>qI K vs H Q
inductive kY(K:PySem.W.Frag)(c:Cs)(vs:List V)(H:Hp)(Q:VK):Prop
 |mk (n:Nat) (b:Addr) (r:Nat->Nat) (y_0:vs=[.int (n:Int), .ref b]) (y_1:SqL K H b ((aG n r).map V.int)) (y_2:Mat n r) (y_3:∀p H',Same H H'->H p=none->HoB c H' p n r .listed->Q (.ref p) H'):kY K c vs H Q
def lT(K:PySem.W.Frag)(c:Cs):Sp:=λvs H Q _=>kY K c vs H Q
theorem zU(h:fR n m gone)(s:Nat):(if(m:Int)<((sz s:Nat):Int)then(m:Int)else((sz s:Nat):Int)) - (if decide ((s:Int)∈gone)=true then 1 else 0)=((rkG m gone s:Nat):Int):=by
 unfold rkG;have e:(if(m:Int)<((sz s:Nat):Int)then(m:Int)else((sz s:Nat):Int))=((min (sz s) m:Nat):Int):=by split<;>lia
 rw[e];by_cases hg:(s:Int)∈gone
 .rw[DG hg,Dp rfl,Dp hg];obtain⟨t,_,e2,ht⟩:=h.size _ hg;have est:s=t:=by lia
  rw[<-est]at ht;rcases h.mid with h0|h0
  .rw[h0]at hg;cases hg
  .lia
 .rw[Dy hg,Dt Dr,Dt hg];lia
theorem wt{n:Nat}{r:Nat->Nat}(s:Nat):(decide (V.int ((sz s:Nat):Int)=V.int ((r s:Nat):Int))&&decide (V.int ((r s:Nat):Int)=V.int ((r (2^n-1):Nat):Int)))=decide (r s=sz s/\r s=r (2^n-1)):=by rw[cK,cK];by_cases h1:r s=sz s<;>by_cases h2:r s=r (2^n-1)<;>simp[h1,h2]<;>lia
def gE(n:Nat)(r:Nat->Nat):List Int:=((List.range (2^n)).filter λs=>decide (r s=sz s/\r s=r (2^n-1))).map λs:Nat=>(s:Int)
theorem gB(z:Int):z∈gE n r↔∃b:Nat,b<2^n/\z=(b:Int)/\r b=sz b/\r b=r (2^n-1):=by
 unfold gE;rw[DL];constructor
 .rintro⟨b,hb,rfl⟩;obtain⟨h1,h2⟩:=Fb.mp hb;have:=DY h2;exact⟨b,DT.mp h1,rfl,this.1,this.2⟩
 .rintro⟨b,h1,rfl,h2,h3⟩;exact⟨b,Fb.mpr ⟨DT.mpr h1,DG ⟨h2,h3⟩⟩,rfl⟩
theorem uI(r:Nat->Nat):atI ((aG n r).map V.int) (-1)=some (.int ((r (2^n-1):Nat):Int)):=by
 have hp:0<2^n:=DZ (by lia);unfold atI;have hl:((aG n r).map V.int).length=2^n:=by rw[Di,bF]
 have e:ixN ((aG n r).map V.int).length (-1)=some (2^n-1):=by unfold ixN;rw[hl,Dt (by lia),Dp (by lia)];congr 1;lia
 rw[e];show((aG n r).map V.int)[2^n-1]?=_;unfold aG;rw[Dm,Dm,EM (by lia)];rfl
def CW(c:Cs)(H:Hp)(q:Addr)(n:Nat):Prop:=∃ (p b:Addr) (r:Nat->Nat) (t:T5),H q=some (.tup [.ref p, .ref b])/\HoB c H p n r t/\H b=some (.lst ((aG n r).map V.int))/\Mat n r
inductive qk(K:PySem.W.Frag)(c:Cs)(vs:List V)(H:Hp)(Q:VK):Prop
 |mk (n:Nat) (a:Addr) (zs:List Int) (m:Int) (y_0:vs=[.int (n:Int), .ref a, .int m]) (y_1:n<=8) (y_2:SqL K H a (zs.map V.int)) (y_3:zs.length=n) (y_4:0<=m) (y_5:∀q H',Same H H'->H q=none->CW c H' q n->Q (.ref q) H'):qk K c vs H Q
def sP(K:PySem.W.Frag)(c:Cs):Sp:=λvs H Q _=>qk K c vs H Q
theorem jW:∀ (ys:List V),(∀y∈ys,∃ (c:Addr) (t:Nat×Nat),y= .ref c/\H c=some (.tup [.int t.1, .int t.2])/\t.1<p/\t.2<p)->∃ts,ck H ys ts/\iV p ts
 | [],_=>⟨[],ck.nil,λt ht=>by cases ht⟩
 |y::ys,h=>by
  obtain⟨ts,h1,h2⟩:=jW ys λz hz=>h z (DC _ hz);obtain⟨c,t,rfl,hc,t1,t2⟩:=h y DE;refine⟨t::ts,⟨by rw[D6,D6,h1.1],λi u hu=> ?_⟩,λu hu=> ?_⟩
  .cases i with
   |zero=>cases hu;exact⟨c,rfl,hc⟩
   |succ i=>exact h1.2 i u (by simpa using hu)
  .rcases Dz.mp hu with rfl|hu
   .exact⟨t1,t2⟩
   .exact h2 u hu
theorem yQ{ys:List V}{l:List Int}(hl:ys.length=l.length)(h:∀ (j:Nat) (z:Int) (y:V),l[j]?=some z->ys[j]?=some y->y= .int z):ys=l.map V.int:=by
 refine HU λj=> ?_;rw[Dm];by_cases hj:j<l.length
 .have e1:l[j]?=some l[j]:=Ds hj;have e2:ys[j]?=some (ys[j]'(by lia)):=Ds _;rw[e2,e1,h j _ _ e1 e2];rfl
 .rw[GH.mpr (by lia),GH.mpr (by lia)];rfl
theorem BK{ts:List (Nat×Nat)}(hok:iV p ts)(hs:s<2^ts.length):((rkC (ts.map de) s:Nat):Int)=(p:Int) - (pcs p ts s:Nat):=by
 have hb:∀t∈(bits s).map (λz:Int=>ts.getD z.toNat (0,0)),t.1<p/\t.2<p:=λt ht=>by
  obtain⟨z,hz,rfl⟩:=DL.mp ht;obtain⟨z0,z1⟩:=dZ hs hz;have e:ts.getD z.toNat (0,0)=ts[z.toNat]:=by simp[z1]
  rw[e];exact hok _ (E7 z1)
 have h:=xW _ hb;have e1:mkA p ((bits s).map (λz:Int=>ts.getD z.toNat (0,0)))=yd p ts s:=by unfold mkA yd pA;rw[List.foldl_map]
 have e2:((bits s).map (λz:Int=>ts.getD z.toNat (0,0))).map de=bc (ts.map de) s:=by unfold bc;rw[Ez];refine EV λz hz=> ?_;obtain⟨z0,z1⟩:=dZ hs hz;show de (ts.getD z.toNat (0,0))=(ts.map de).getD z.toNat 0;simp[z1]
 rw[e1,e2]at h;have h2:pcs p ts s+rkC (ts.map de) s=p:=h;lia
inductive qm(K:PySem.W.Frag)(vs:List V)(H:Hp)(Q:VK):Prop
 |mk (a:Addr) (cols:List Nat) (h:Nat) (y_0:vs=[.ref a, .int (h:Int)]) (y_1:SqL K H a ((cq cols).map V.int)) (y_2:cols.length<=8) (y_3:0<h) (y_4:h<=16) (y_5:(∀v∈cols,v<2^h)) (y_6:∀q H' xs M,Same H H'->H q=none->H' q=some (.lst xs)->bq H' xs M->qi cols.length M cols->M.length=h->Q (.ref q) H'):qm K vs H Q
def sR(K:PySem.W.Frag):Sp:=λvs H Q _=>qm K vs H Q
def nz(cols:List Nat)(j:Nat):List Int:=(List.range cols.length).map λk=>((if(cols.getD k 0).testBit j=true then 1 else 0)+2*((j:Int) - (k:Int)))
theorem zS{cols:List Nat}(h8:cols.length<=8)(h0:0<h)(h16:h<=16)(hb:∀v∈cols,v<2^h):qi cols.length ((List.range h).map (nz cols)) cols:=by
 have hl:((List.range h).map (nz cols)).length=h:=by rw[Di,DU]
 refine⟨h8,rfl,λr hr=> ?_,by rw[hl];exact h0,by rw[hl];lia,⟨by rw[Di],λi hi=> ?_⟩,by rw[hl];exact hb⟩
 .obtain⟨j,_,rfl⟩:=DL.mp hr;unfold nz;rw[Di,DU]
 .rw[hl]at hi;refine⟨m2 (nz cols i),?_,λj hj=> ?_⟩
  .rw[Dm,Dm,EM hi];rfl
  .have e:(m2 (nz cols i)).getD j 0=((if(cols.getD j 0).testBit i=true then 1 else 0)+2*((i:Int) - (j:Int))) % 2:=by unfold m2 nz;rw[Ee,Dm,Dm,EM hj];rfl
   rw[e];cases (cols.getD j 0).testBit i with
   |true=>rw[Dp rfl];exact DG (by lia)
   |false=>rw[Dt Dr];exact Dy (by lia)
inductive qM(K:PySem.W.Frag)(c:Cs)(vs:List V)(H:Hp)(Q:VK):Prop
 |mk (n:Nat) (x:Int) (a:Addr) (ns:List Int) (y_0:vs=[.int (n:Int), .int x, .ref a]) (y_1:n<=8) (y_2:SqL K H a (ns.map V.int)) (y_3:ns.length<=63) (y_4:∀q H',Same H H'->H q=none->CW c H' q n->Q (.ref q) H'):qM K c vs H Q
def tJ(K:PySem.W.Frag)(c:Cs):Sp:=λvs H Q _=>qM K c vs H Q
def otF(n:Int)(h:Addr)(fu fr:Int):List (Str×V):=aJ "full_rank" (.int fr) (aJ "full" (.int fu) (aJ "house" (.ref h) (aJ "many" (.int n) [])))
theorem BG(n:Int)(h:Addr)(fu fr:Int):(otF n h fu fr).lookup ("full_rank":Str)=some (.int fr):=aA _ _ _
theorem xK(n:Int)(h:Addr)(fu fr:Int):(otF n h fu fr).lookup ("full":Str)=some (.int fu):=by unfold otF;rw[aj _ _ (by decide+kernel),aA]
theorem vd(n:Int)(h:Addr)(fu fr:Int):(otF n h fu fr).lookup ("house":Str)=some (.ref h):=by unfold otF;rw[aj _ _ (by decide+kernel),aj _ _ (by decide+kernel),aA]
theorem xJ(n:Int)(h:Addr)(fu fr:Int):(otF n h fu fr).lookup ("many":Str)=some (.int n):=by unfold otF;rw[aj _ _ (by decide+kernel),aj _ _ (by decide+kernel),aj _ _ (by decide+kernel),aA]
theorem xI(n:Int)(h:Addr)(fu fr:Int){m:Str}(h1:¬m= "full_rank")(h2:¬m= "full")(h3:¬m= "house")(h4:¬m= "many"):(otF n h fu fr).lookup m=none:=by unfold otF;rw[aj _ _ h1,aj _ _ h2,aj _ _ h3,aj _ _ h4];rfl
def miF(n:Int)(h:Addr)(kp dr fr:Int):List (Str×V):=aJ "drawn_rank" (.int fr) (aJ "drawn" (.int dr) (aJ "kept" (.int kp) (aJ "house" (.ref h) (aJ "many" (.int n) []))))
theorem BO(n:Int)(h:Addr)(kp dr fr:Int):(miF n h kp dr fr).lookup ("drawn_rank":Str)=some (.int fr):=aA _ _ _
theorem vv(n:Int)(h:Addr)(kp dr fr:Int):(miF n h kp dr fr).lookup ("drawn":Str)=some (.int dr):=by unfold miF;rw[aj _ _ (by decide+kernel),aA]
theorem yg(n:Int)(h:Addr)(kp dr fr:Int):(miF n h kp dr fr).lookup ("kept":Str)=some (.int kp):=by unfold miF;rw[aj _ _ (by decide+kernel),aj _ _ (by decide+kernel),aA]
theorem vt(n:Int)(h:Addr)(kp dr fr:Int):(miF n h kp dr fr).lookup ("house":Str)=some (.ref h):=by unfold miF;rw[aj _ _ (by decide+kernel),aj _ _ (by decide+kernel),aj _ _ (by decide+kernel),aA]
theorem yf(n:Int)(h:Addr)(kp dr fr:Int):(miF n h kp dr fr).lookup ("many":Str)=some (.int n):=by unfold miF;rw[aj _ _ (by decide+kernel),aj _ _ (by decide+kernel),aj _ _ (by decide+kernel),aj _ _ (by decide+kernel),aA]
theorem ye(n:Int)(h:Addr)(kp dr fr:Int){m:Str}(h1:¬m= "drawn_rank")(h2:¬m= "drawn")(h3:¬m= "kept")(h4:¬m= "house")(h5:¬m= "many"):(miF n h kp dr fr).lookup m=none:=by unfold miF;rw[aj _ _ h1,aj _ _ h2,aj _ _ h3,aj _ _ h4,aj _ _ h5];rfl
def siF(n:Int)(h1 h2:Addr)(n1 f1:Int):List (Str×V):=aJ "first_full" (.int f1) (aJ "first_many" (.int n1) (aJ "second" (.ref h2) (aJ "first" (.ref h1) (aJ "many" (.int n) []))))
theorem Bk(n:Int)(h1 h2:Addr)(n1 f1:Int):(siF n h1 h2 n1 f1).lookup ("first_full":Str)=some (.int f1):=aA _ _ _
theorem Bj(n:Int)(h1 h2:Addr)(n1 f1:Int):(siF n h1 h2 n1 f1).lookup ("first_many":Str)=some (.int n1):=by unfold siF;rw[aj _ _ (by decide+kernel),aA]
theorem rb(n:Int)(h1 h2:Addr)(n1 f1:Int):(siF n h1 h2 n1 f1).lookup ("second":Str)=some (.ref h2):=by unfold siF;rw[aj _ _ (by decide+kernel),aj _ _ (by decide+kernel),aA]
theorem uT(n:Int)(h1 h2:Addr)(n1 f1:Int):(siF n h1 h2 n1 f1).lookup ("first":Str)=some (.ref h1):=by unfold siF;rw[aj _ _ (by decide+kernel),aj _ _ (by decide+kernel),aj _ _ (by decide+kernel),aA]
theorem xg(n:Int)(h1 h2:Addr)(n1 f1:Int):(siF n h1 h2 n1 f1).lookup ("many":Str)=some (.int n):=by unfold siF;rw[aj _ _ (by decide+kernel),aj _ _ (by decide+kernel),aj _ _ (by decide+kernel),aj _ _ (by decide+kernel),aA]
theorem xf(n:Int)(h1 h2:Addr)(n1 f1:Int){m:Str}(g1:¬m= "first_full")(g2:¬m= "first_many")(g3:¬m= "second")(g4:¬m= "first")(g5:¬m= "many"):(siF n h1 h2 n1 f1).lookup m=none:=by unfold siF;rw[aj _ _ g1,aj _ _ g2,aj _ _ g3,aj _ _ g4,aj _ _ g5];rfl
structure Gs where
 o:Addr
 m:Addr
 s:Addr
abbrev HsP:=Addr->Nat->(Nat->Nat)->Prop
def Ca(cO:Addr)(H:Hp)(X:HsP)(a:Addr)(n:Nat)(r:Nat->Nat):Prop:=∃ (dx h:Addr) (r':Nat->Nat),H a=some (.ins cO dx (otF n h ((2^n-1:Nat):Int) (r' (2^n-1):Nat)))/\X h n r'/\∀s,s<2^n->(r s:Int)=(sz s:Int)+(r' (aX (2^n-1) s):Nat) - (r' (2^n-1):Nat)
def Cb(cM:Addr)(H:Hp)(X:HsP)(a:Addr)(n:Nat)(r:Nat->Nat):Prop:=∃ (dx h:Addr) (n' k w:Nat) (r':Nat->Nat),H a=some (.ins cM dx (miF n h k w (r' w:Nat)))/\X h n' r'/\n=sz k/\n'<=8/\k<2^n'/\w<2^n'/\∀s,s<2^n->(r s:Int)=(r' (bG s k|||w):Nat) - (r' w:Nat)
def B9(cS:Addr)(H:Hp)(X:HsP)(a:Addr)(n:Nat)(r:Nat->Nat):Prop:=∃ (dx h1 h2:Addr) (n1 n2:Nat) (r1 r2:Nat->Nat),n=n1+n2/\H a=some (.ins cS dx (siF n h1 h2 n1 ((2^n1-1:Nat):Int)))/\X h1 n1 r1/\X h2 n2 r2/\∀s,s<2^n->r s=r1 (s % 2^n1)+r2 (s/2^n1)
structure Hs where
 ho:Hp->Addr->Nat->(Nat->Nat)->Prop
 dom:Addr->Prop
structure d5(Z:Hs):Prop where
 same:∀ {H H':Hp} {a:Addr} {n:Nat} {r:Nat->Nat},Same H H'->Z.ho H a n r->Z.ho H' a n r
 shown:∀ {H:Hp} {a:Addr} {n:Nat} {r:Nat->Nat},Z.ho H a n r->∃C,Z.dom C/\zw H a C n
inductive A9(Z:Hs)(C:Addr)(vs:List V)(H:Hp)(Q:VK):Prop
 |mk (a:Addr) (n s:Nat) (r:Nat->Nat) (y_0:vs=[.ref a, .int (s:Int)]) (y_1:Z.ho H a n r) (y_2:(∃dx fs,H a=some (.ins C dx fs))) (y_3:n<=8) (y_4:s<2^n) (y_5:∀H',Same H H'->Q (.int (r s:Nat)) H'):A9 Z C vs H Q
def fF(Z:Hs)(C:Addr):Sp:=λvs H Q _=>A9 Z C vs H Q
def hsX(Z:Hs)(g:Gs):Hs:=⟨λH a n r=>Z.ho H a n r\/Ca g.o H (Z.ho H) a n r\/Cb g.m H (Z.ho H) a n r\/B9 g.s H (Z.ho H) a n r,λC=>Z.dom C\/C=g.o\/C=g.m\/C=g.s⟩
theorem iL(z:d5 Z)(g:Gs):d5 (hsX Z g) where
 same:=λe h=>by
  rcases h with h|⟨dx,h',r',h1,h2,h3⟩|⟨dx,h',n',k,w,r',h1,h2,h3⟩|⟨dx,h1',h2',n1,n2,r1,r2,en,h1,hx,hy,hr⟩
  .exact .inl (z.same e h)
  .exact .inr (.inl ⟨dx,h',r',e.at h1,z.same e h2,h3⟩)
  .exact .inr (.inr (.inl ⟨dx,h',n',k,w,r',e.at h1,z.same e h2,h3⟩))
  .exact .inr (.inr (.inr ⟨dx,h1',h2',n1,n2,r1,r2,en,e.at h1,z.same e hx,z.same e hy,hr⟩))
 shown:=λh=>by
  rcases h with h|⟨dx,h',r',h1,_⟩|⟨dx,h',n',k,w,r',h1,_⟩|⟨dx,h1',h2',n1,n2,r1,r2,en,h1,_⟩
  .obtain⟨C,dm,hs⟩:=z.shown h;exact⟨C, .inl dm,hs⟩
  .exact⟨g.o, .inr (.inl rfl),dx,_,h1,xI _ _ _ _ (by decide+kernel) (by decide+kernel) (by decide+kernel) (by decide+kernel),xI _ _ _ _ (by decide+kernel) (by decide+kernel) (by decide+kernel) (by decide+kernel),xJ _ _ _ _⟩
  .exact⟨g.m, .inr (.inr (.inl rfl)),dx,_,h1,ye _ _ _ _ _ (by decide+kernel) (by decide+kernel) (by decide+kernel) (by decide+kernel) (by decide+kernel),ye _ _ _ _ _ (by decide+kernel) (by decide+kernel) (by decide+kernel) (by decide+kernel) (by decide+kernel),yf _ _ _ _ _⟩
  .exact⟨g.s, .inr (.inr (.inr rfl)),dx,_,h1,xf _ _ _ _ _ (by decide+kernel) (by decide+kernel) (by decide+kernel) (by decide+kernel) (by decide+kernel),xf _ _ _ _ _ (by decide+kernel) (by decide+kernel) (by decide+kernel) (by decide+kernel) (by decide+kernel),xg _ _ _ _ _⟩
theorem cZ{H:Hp}{a C C' dx dx':Addr}{fs fs':List (Str×V)}(h:H a=some (.ins C dx fs))(h':H a=some (.ins C' dx' fs')):C=C':=by
 rw[h]at h';injection h' with h'
 injection h'
structure GdX(Z:Hs)(g:Gs):Prop where
 hO:∀ {H:Hp} {a n r dx fs},Z.ho H a n r->H a=some (.ins g.o dx fs)->Ca g.o H (Z.ho H) a n r
 hM:∀ {H:Hp} {a n r dx fs},Z.ho H a n r->H a=some (.ins g.m dx fs)->Cb g.m H (Z.ho H) a n r
 hS:∀ {H:Hp} {a n r dx fs},Z.ho H a n r->H a=some (.ins g.s dx fs)->B9 g.s H (Z.ho H) a n r
 om:g.o≠g.m
 os:g.o≠g.s
 ms:g.m≠g.s
theorem GdX.of{Z:Hs}{g:Gs}(z:d5 Z)(no:¬Z.dom g.o)(nm:¬Z.dom g.m)(ns:¬Z.dom g.s)(om:g.o≠g.m)(os:g.o≠g.s)(ms:g.m≠g.s):GdX Z g:=by
 have no':∀ (C:Addr),¬Z.dom C->∀ (H:Hp) (a n r dx fs),Z.ho H a n r->H a=some (.ins C dx fs)->False:=λC nd H a n r dx fs h ha=>by obtain⟨C',dm,hsh⟩:=z.shown h;obtain⟨_,_,e,_⟩:=hsh.ex;rw[cZ ha e]at nd;exact nd dm
 exact⟨λh ha=>(no' _ no _ _ _ _ _ _ h ha).elim,λh ha=>(no' _ nm _ _ _ _ _ _ h ha).elim,λh ha=>(no' _ ns _ _ _ _ _ _ h ha).elim,om,os,ms⟩
theorem pR{Z:Hs}{g:Gs}(G:GdX Z g){a n r dx fs}(h:(hsX Z g).ho H a n r)(ha:H a=some (.ins g.o dx fs)):Ca g.o H (Z.ho H) a n r:=by
 rcases h with h|h|⟨dx',h',n',k,w,r',h1,_⟩|⟨dx',h1',h2',n1,n2,r1,r2,en,h1,_⟩
 .exact G.hO h ha
 .exact h
 .exact absurd (cZ ha h1) G.om
 .exact absurd (cZ ha h1) G.os
theorem pT{Z:Hs}{g:Gs}(G:GdX Z g){a n r dx fs}(h:(hsX Z g).ho H a n r)(ha:H a=some (.ins g.m dx fs)):Cb g.m H (Z.ho H) a n r:=by
 rcases h with h|⟨dx',h',r',h1,_⟩|h|⟨dx',h1',h2',n1,n2,r1,r2,en,h1,_⟩
 .exact G.hM h ha
 .exact absurd (cZ h1 ha) G.om
 .exact h
 .exact absurd (cZ ha h1) G.ms
theorem pQ{Z:Hs}{g:Gs}(G:GdX Z g){a n r dx fs}(h:(hsX Z g).ho H a n r)(ha:H a=some (.ins g.s dx fs)):B9 g.s H (Z.ho H) a n r:=by
 rcases h with h|⟨dx',h',r',h1,_⟩|⟨dx',h',n',k,w,r',h1,_⟩|h
 .exact G.hS h ha
 .exact absurd (cZ h1 ha) G.os
 .exact absurd (cZ h1 ha) G.ms
 .exact h
theorem lR{g:Gs}(n1:g.o≠C)(n2:g.m≠C)(n3:g.s≠C)(vs:List V)(H:Hp)(Q:VK)(E:XK)(h:fF (hsX Z g) C vs H Q E):fF Z C vs H Q E:=by
 obtain⟨a,n,s,r,rfl,hB,⟨dx0,fs0,ha0⟩,n8,hs,k⟩:=h;rcases hB with hB|⟨dx,h',r',h1,_⟩|⟨dx',h',n',k',w,r',h1,_⟩|⟨dx',h1',h2',n1',n2',r1,r2,en,h1,_⟩
 .exact⟨a,n,s,r,rfl,hB,⟨dx0,fs0,ha0⟩,n8,hs,k⟩
 .exact absurd (cZ h1 ha0) n1
 .exact absurd (cZ h1 ha0) n2
 .exact absurd (cZ h1 ha0) n3
inductive mR(Z:Hs)(g:Gs)(vs:List V)(H:Hp)(Q:VK):Prop
 |mk (p dx h:Addr) (n:Nat) (r:Nat->Nat) (y_0:vs=[.ref p, .ref h]) (y_1:H p=some (.ins g.o dx [])) (y_2:Z.ho (hide H p) h n r) (y_3:n<=8) (y_4:∀H',(∀b o,H b=some o->b≠p->H' b=some o)->H' p=some (.ins g.o dx (otF n h ((2^n-1:Nat):Int) (r (2^n-1):Nat)))->Q .non H'):mR Z g vs H Q
def oP(Z:Hs)(g:Gs):Sp:=λvs H Q _=>mR Z g vs H Q
inductive mS(Z:Hs)(g:Gs)(vs:List V)(H:Hp)(Q:VK):Prop
 |mk (p dx h:Addr) (n o w:Nat) (r:Nat->Nat) (y_0:vs=[.ref p, .ref h, .int (o:Int), .int (w:Int)]) (y_1:H p=some (.ins g.m dx [])) (y_2:Z.ho (hide H p) h n r) (y_3:n<=8) (y_4:w<2^n) (y_5:∀H',(∀b o,H b=some o->b≠p->H' b=some o)->H' p=some (.ins g.m dx (miF (sz (aX (2^n-1) (o|||w)):Nat) h (aX (2^n-1) (o|||w):Nat) w (r w:Nat)))->Q .non H'):mS Z g vs H Q
def oQ(Z:Hs)(g:Gs):Sp:=λvs H Q _=>mS Z g vs H Q
inductive mQ(Z:Hs)(g:Gs)(vs:List V)(H:Hp)(Q:VK):Prop
 |mk (p dx h1 h2:Addr) (n1 n2:Nat) (r1 r2:Nat->Nat) (y_0:vs=[.ref p, .ref h1, .ref h2]) (y_1:H p=some (.ins g.s dx [])) (y_2:Z.ho (hide H p) h1 n1 r1) (y_3:Z.ho (hide H p) h2 n2 r2) (y_4:n1+n2<=8) (y_5:∀H',(∀b o,H b=some o->b≠p->H' b=some o)->H' p=some (.ins g.s dx (siF ((n1+n2:Nat):Int) h1 h2 n1 ((2^n1-1:Nat):Int)))->Q .non H'):mQ Z g vs H Q
def oO(Z:Hs)(g:Gs):Sp:=λvs H Q _=>mQ Z g vs H Q
theorem gJ(h:zw (hide H p) a C n):a≠p:=by obtain⟨dx,fs,ha,_⟩:=h.ex;intro e;subst e;unfold hide at ha;rw[Dp rfl]at ha;cases ha
theorem gX:aX (2^n-1) s<2^n:=Dw (jx _ _) (by have:0<2^n:=DZ (by lia);lia)
theorem eM(hp:H p=none)(hd:H dx=none):Same H (hide (upd (upd H dx x) p y) p):=λb o e=>by have h1:b≠p:=au e hp;have h2:b≠dx:=au e hd;rw[cg h1,aw h1,aw h2];exact e
def Cc(c:Cs)(C:Addr):Prop:=∃t,C=c.at t
theorem HoB.sameN(h:HoB c H a n r t)(e:a9 H H'):HoB c H' a n r t:=by
 cases t with
 |bare=>obtain⟨dx,h1,h2⟩:=h;exact⟨dx,e.ins h1,h2⟩
 |even=>obtain⟨dx,m,h1,h2⟩:=h;exact⟨dx,m,e.ins h1,h2⟩
 |listed=>obtain⟨ms,⟨dx,t,h1,h3,h4⟩,h2⟩:=h;exact⟨ms,⟨dx,t,e.ins h1,e.tup h3,h4⟩,h2⟩
 |net=>obtain⟨p,ts,⟨dx,t,xs,h1,h3,h4⟩,h2⟩:=h;exact⟨p,ts,⟨dx,t,xs,e.ins h1,e.tup h3,h4.ts e.tups⟩,h2⟩
 |tabled=>obtain⟨M,cols,⟨dx,t,xs,h1,h3,h4⟩,h2⟩:=h;exact⟨M,cols,⟨dx,t,xs,e.ins h1,e.tup h3,h4.ts e.tups⟩,h2⟩
def kT(H H':Hp):Prop:=∀b o,(∀xs,o≠ .lst xs)->H b=some o->H' b=some o
theorem kT.upd(h:H l=some (.lst xs)):kT H (L2.upd H l (.lst zs)):=λb o n e=>(aw (c8 e h (n xs))).trans e
theorem HoB.sameI(h:HoB c H a n r t)(e:kT H H'):HoB c H' a n r t:=by
 have ins:∀ {b C dx:Addr} {fs:List (Str×V)},H b=some (.ins C dx fs)->H' b=some (.ins C dx fs):=λh=>e _ _ (λ_ z=>by cases z) h;have tup:∀ {b:Addr} {xs:List V},H b=some (.tup xs)->H' b=some (.tup xs):=λh=>e _ _ (λ_ z=>by cases z) h;have tups:cT H H':=λb xs h=>tup h;cases t with
 |bare=>obtain⟨dx,h1,h2⟩:=h;exact⟨dx,ins h1,h2⟩
 |even=>obtain⟨dx,m,h1,h2⟩:=h;exact⟨dx,m,ins h1,h2⟩
 |listed=>obtain⟨ms,⟨dx,t,h1,h3,h4⟩,h2⟩:=h;exact⟨ms,⟨dx,t,ins h1,tup h3,h4⟩,h2⟩
 |net=>obtain⟨p,ts,⟨dx,t,xs,h1,h3,h4⟩,h2⟩:=h;exact⟨p,ts,⟨dx,t,xs,ins h1,tup h3,h4.ts tups⟩,h2⟩
 |tabled=>obtain⟨M,cols,⟨dx,t,xs,h1,h3,h4⟩,h2⟩:=h;exact⟨M,cols,⟨dx,t,xs,ins h1,tup h3,h4.ts tups⟩,h2⟩
structure HsK(Z:Hs):Prop where
 N:∀ {H H':Hp} {a:Addr} {n:Nat} {r:Nat->Nat},a9 H H'->Z.ho H a n r->Z.ho H' a n r
 I:∀ {H H':Hp} {a:Addr} {n:Nat} {r:Nat->Nat},kT H H'->Z.ho H a n r->Z.ho H' a n r
def hs5(c:Cs):Hs:=⟨λH a n r=>∃t,HoB c H a n r t,Cc c⟩
theorem kC(c:Cs):d5 (hs5 c) where
 same:=λe ⟨t,h⟩=>⟨t,h.same e⟩
 shown:=λ⟨t,h⟩=>⟨c.at t,⟨t,rfl⟩,h.shown⟩
theorem A4(c:Cs):HsK (hs5 c):=⟨λe ⟨t,h⟩=>⟨t,h.sameN e⟩,λe ⟨t,h⟩=>⟨t,h.sameI e⟩⟩
theorem yK(z:HsK Z)(g:Gs):HsK (hsX Z g) where
 N:=λe h=>by
  rcases h with h|⟨dx,h',r',h1,h2,h3⟩|⟨dx,h',n',k,w,r',h1,h2,h3⟩|⟨dx,h1',h2',n1,n2,r1,r2,en,h1,hx,hy,hr⟩
  .exact .inl (z.N e h)
  .exact .inr (.inl ⟨dx,h',r',e.ins h1,z.N e h2,h3⟩)
  .exact .inr (.inr (.inl ⟨dx,h',n',k,w,r',e.ins h1,z.N e h2,h3⟩))
  .exact .inr (.inr (.inr ⟨dx,h1',h2',n1,n2,r1,r2,en,e.ins h1,z.N e hx,z.N e hy,hr⟩))
 I:=λ{H H' _ _ _} e h=>by
  have ins:∀ {b C dx:Addr} {fs:List (Str×V)},H b=some (.ins C dx fs)->H' b=some (.ins C dx fs):=λh=>e _ _ (λ_ z=>by cases z) h;rcases h with h|⟨dx,h',r',h1,h2,h3⟩|⟨dx,h',n',k,w,r',h1,h2,h3⟩|⟨dx,h1',h2',n1,n2,r1,r2,en,h1,hx,hy,hr⟩
  .exact .inl (z.I e h)
  .exact .inr (.inl ⟨dx,h',r',ins h1,z.I e h2,h3⟩)
  .exact .inr (.inr (.inl ⟨dx,h',n',k,w,r',ins h1,z.I e h2,h3⟩))
  .exact .inr (.inr (.inr ⟨dx,h1',h2',n1,n2,r1,r2,en,ins h1,z.I e hx,z.I e hy,hr⟩))
theorem GdX.up(G:GdX Z g):GdX (hsX Z g) g:=
 ⟨λh ha=>by obtain⟨dx,h',r',h1,h2,h3⟩:=pR G h ha;exact⟨dx,h',r',h1, .inl h2,h3⟩,
  λh ha=>by obtain⟨dx,h',n',k,w,r',h1,h2,h3⟩:=pT G h ha;exact⟨dx,h',n',k,w,r',h1, .inl h2,h3⟩,
  λh ha=>by obtain⟨dx,h1',h2',n1,n2,r1,r2,en,h1,hx,hy,hr⟩:=pQ G h ha;exact⟨dx,h1',h2',n1,n2,r1,r2,en,h1, .inl hx, .inl hy,hr⟩,G.om,G.os,G.ms⟩
theorem Bg(vs:List V)(H:Hp)(Q:VK)(E:XK)(h:fF (hs5 c) C vs H Q E):jN c C vs H Q E:=by obtain⟨a,n,s,r,rfl,⟨t,hB⟩,⟨dx,fs,ha⟩,n8,hs,k⟩:=h;obtain⟨_,_,e,_⟩:=hB.shown.ex;exact⟨a,n,s,r,t,rfl,hB,cZ e ha,n8,hs,k⟩
theorem cU.sameB(h:cU H P pos q)(e:ba P' H H')(ne:P≠P')(h':H P'=some (.tbl ps)):cU H' P pos q:=by
 rcases h with h|⟨c,h1,h2⟩
 .exact .inl (e _ _ ne h)
 .exact .inr ⟨c,e _ _ ne h1,e _ _ (λz=>by rw[z,h']at h2;cases h2) h2⟩
inductive mM(Z:Hs)(vs:List V)(H:Hp)(Q:VK):Prop
 |mk (h:Addr) (n:Nat) (r:Nat->Nat) (y_0:vs=[.ref h]) (y_1:Z.ho H h n r) (y_2:n<=8) (y_3:∀p H',Same H H'->H p=none->H' p=some (.lst ((aG n r).map V.int))->Q (.ref p) H'):mM Z vs H Q
def jO(Z:Hs):Sp:=λvs H Q _=>mM Z vs H Q
def jz:Pos:=⟨182,42,182,80⟩
def pJ:Str:= "heaviest"++ ".<locals>."++ "<lambda>"
def AF(W:List Int)(j:Nat):Int×Int:=(-(W.getD j 0),(j:Int))
def wOf(W:List Int)(t:Nat):Int:=W.getD t 0
def jd(n:Nat)(r:Nat->Nat)(W:List Int):Nat:=greedy r 0 (cX (wOf W) n (List.range n))
theorem oZ:∀n:Nat,(List.range n).Pairwise (· < ·):=λn=>List.pairwise_lt_range
theorem xM(h:wy n (AF W) ord):ord=cX (wOf W) n (List.range n):=by obtain⟨p1,p2⟩:=gN (wOf W) n (List.range n) (by rw[DU];exact Dl _) (oZ n);refine ig (w:=wOf W) (h.1.trans p1.symm) (h.2.imp λ{i j} hl=> ?_) p2;unfold ltP AF at hl;unfold gs wOf;simp only[ET,Ea,F4]at hl;lia
theorem mv(r:Nat->Nat):∀ (l:List Nat) (s:Nat),s<2^n->(∀t∈l,t<n)->greedy r s l<2^n
 | [],s,h,_=>h
 |t::l,s,h,hl=>by
  refine mv r l _ ?_ λu hu=>hl u (DC _ hu);split
  .exact bN h (hl t DE)
  .exact h
theorem ja(r:Nat->Nat)(t:Nat):∀ (l:List Nat) (s:Nat),greedy r s (l++[t])=if r (greedy r s l|||2^t)>r (greedy r s l)then greedy r s l|||2^t else greedy r s l
 | [],s=>rfl
 |x::l,s=>ja r t l _
inductive jf(K:PySem.W.Frag)(Z:Hs)(P:Addr)(vs:List V)(H:Hp)(Q:VK):Prop
 |mk (h a:Addr) (n:Nat) (r:Nat->Nat) (W:List Int) (y_0:vs=[.ref h, .ref a]) (y_1:Z.ho H h n r) (y_2:n<=8) (y_3:SqL K H a (W.map V.int)) (y_4:W.length=n) (y_5:cU H P jz pJ) (y_6:∀H',ba P H H'->cU H' P jz pJ->Q (.int (jd n r W:Nat)) H'):jf K Z P vs H Q
def jQ(K:PySem.W.Frag)(Z:Hs)(P:Addr):Sp:=λvs H Q _=>jf K Z P vs H Q
def ua:Expr:=match lW ((aF s_heaviest).getD 0 (.Pass ⟨0,0,0,0⟩))with
 | .Call _ _ (⟨_,v,_⟩::_) _=>v
 |_=> .Constant .none 0 ⟨0,0,0,0⟩
def yA:Arguments:=match ua with
 | .Lambda a _ _ _=>a
 |_=>a6 s_heaviest
def yx:Expr:=match ua with
 | .Lambda _ b _ _=>b
 |_=>ua
def vI:Scope:=match ua with
 | .Lambda _ _ s _=>s
 |_=>ao s_heaviest
inductive ip(K:PySem.W.Frag)(vs:List V)(H:Hp)(Q:VK):Prop
 |mk (m:Nat) (a:Addr) (cs:List Int) (x:Int) (y_0:vs=[.int (m:Int), .ref a, .int x]) (y_1:m<=8) (y_2:SqL K H a (cs.map V.int)) (y_3:cs.length<=63) (y_4:∀p H' W,Same H H'->H p=none->H' p=some (.lst (List.map V.int W))->W.length=m->Q (.ref p) H'):ip K vs H Q
def iZ(K:PySem.W.Frag):Sp:=λvs H Q _=>ip K vs H Q
inductive qL(K:PySem.W.Frag)(vs:List V)(H:Hp)(Q:VK):Prop
 |mk (b a:Addr) (n:Nat) (r:Nat->Nat) (W:List Int) (y_0:vs=[.ref b, .ref a]) (y_1:n<=8) (y_2:SqL K H b ((aG n r).map V.int)) (y_3:SqL K H a (W.map V.int)) (y_4:W.length=n) (y_5:∀H',Same H H'->Q (.int (jd n r W:Nat)) H'):qL K vs H Q
def tI(K:PySem.W.Frag):Sp:=λvs H Q _=>qL K vs H Q
def jB:Pos:=⟨79,26,79,74⟩
def pL:Str:= "common"++ ".<locals>."++ "<lambda>"
def ud:Expr:=match lW ((aF s_common).getD 5 (.Pass ⟨0,0,0,0⟩))with
 | .Call _ _ (⟨_,v,_⟩::_) _=>v
 |_=> .Constant .none 0 ⟨0,0,0,0⟩
def yC:Arguments:=match ud with
 | .Lambda a _ _ _=>a
 |_=>a6 s_common
def yz:Expr:=match ud with
 | .Lambda _ b _ _=>b
 |_=>ud
def vK:Scope:=match ud with
 | .Lambda _ _ s _=>s
 |_=>ao s_common
def Bb(n:Nat)(r1 r2:Nat->Nat)(I A:Nat):Prop:=I<2^n/\r1 I=sz I/\r2 I=sz I/\A<2^n/\sz I=r1 A+r2 (2^n-1-A)
inductive mX(Z:Hs)(P:Addr)(vs:List V)(H:Hp)(Q:VK):Prop
 |mk (h1 h2:Addr) (n:Nat) (r1 r2:Nat->Nat) (y_0:vs=[.ref h1, .ref h2]) (y_1:Z.ho H h1 n r1) (y_2:Z.ho H h2 n r2) (y_3:n<=8) (y_4:Mat n r1) (y_5:Mat n r2) (y_6:cU H P jB pL) (y_7:∀p H' I A,ba P H H'->cU H' P jB pL->H' p=some (.tup [.int ((I:Nat):Int), .int ((A:Nat):Int)])->Bb n r1 r2 I A->Q (.ref p) H'):mX Z P vs H Q
def oU(Z:Hs)(P:Addr):Sp:=λvs H Q _=>mX Z P vs H Q
inductive mU(K:PySem.W.Frag)(vs:List V)(H:Hp)(Q:VK):Prop
 |mk (q b1 b2:Addr) (n:Nat) (r1 r2:Nat->Nat) (I A:Nat) (y_0:vs=[.ref q, .ref b1, .ref b2]) (y_1:n<=8) (y_2:H q=some (.tup [.int (I:Int), .int (A:Int)])) (y_3:SqL K H b1 ((aG n r1).map V.int)) (y_4:SqL K H b2 ((aG n r2).map V.int)) (y_5:Bb n r1 r2 I A) (y_6:∀H',Same H H'->Q (.bl true) H'):mU K vs H Q
def oS(K:PySem.W.Frag):Sp:=λvs H Q _=>mU K vs H Q
theorem mh(hk:k<2^n):aX (2^n-1) k=2^n-1-k:=DJ λj=>by rw[cH,show 2^n-1-k=2^n- (k+1) by lia,FP hk]
def jg(n:Nat):List Int:=(List.range (2^n)).map λk:Nat=>(k:Int)
theorem cG:z∈jg n↔∃k:Nat,k<2^n/\z=(k:Int):=by unfold jg;rw[DL];exact⟨λ⟨k,h1,h2⟩=>⟨k,DT.mp h1,h2.symm⟩,λ⟨k,h1,h2⟩=>⟨k,DT.mpr h1,h2.symm⟩⟩
theorem ic:(1*2^((n:Nat):Int).toNat-1:Int)=((2^n-1:Nat):Int):=by
 have h:0<2^n:=DZ (by lia);have e:((2:Int)^n)=((2^n:Nat):Int):=by simp
 rw[Dk,GS,e];lia
def jA:Pos:=⟨70,39,70,108⟩
def pK:Str:= "dealt"++ ".<locals>."++ "<lambda>"
def uc:Expr:=match lW ((aF s_dealt).getD 4 (.Pass ⟨0,0,0,0⟩))with
 | .Call _ _ (⟨_,v,_⟩::_) _=>v
 |_=> .Constant .none 0 ⟨0,0,0,0⟩
def yB:Arguments:=match uc with
 | .Lambda a _ _ _=>a
 |_=>a6 s_dealt
def yy:Expr:=match uc with
 | .Lambda _ b _ _=>b
 |_=>uc
def vJ:Scope:=match uc with
 | .Lambda _ _ s _=>s
 |_=>ao s_dealt
inductive mV(Z:Hs)(vs:List V)(H:Hp)(Q:VK):Prop
 |mk (h:Addr) (n:Nat) (r:Nat->Nat) (y_0:vs=[.ref h]) (y_1:Z.ho H h n r) (y_2:n<=8) (y_3:∀p H' (fs:List Nat),Same H H'->H p=none->H' p=some (.lst ((fs.map λs:Nat=>(s:Int)).map V.int))->fs.length<=256->(∀s,s∈fs↔s<2^n/\r s=sz s)->Q (.ref p) H'):mV Z vs H Q
def oT(Z:Hs):Sp:=λvs H Q _=>mV Z vs H Q
structure gq(n k:Nat)(r:Nat->Nat->Nat)(H:Hp)(ps:List (Int×V)):Prop where
 has:∀p∈ps,∃ (q:Addr) (J:Nat->Nat),p.2= .ref q/\H q=some (.lst (((List.range k).map λj=>(J j:Int)).map V.int))/\cC n k r J/\p.1=(bL J k:Int)
 nd:(ps.map (·.1)).Nodup
 all:∀J,cC n k r J->∃p∈ps,p.1=(bL J k:Int)
def A8(d:Addr)(H H':Hp):Prop:=∀b o,b≠d->H b=some o->H' b=some o
inductive kZ(K:PySem.W.Frag)(vs:List V)(H:Hp)(Q:VK):Prop
 |mk (d b:Addr) (n k:Nat) (r:Nat->Nat->Nat) (ps:List (Int×V)) (fs:List Nat) (y_0:vs=[.ref d, .ref b]) (y_1:n<=8) (y_2:k<=8) (y_3:H d=some (.dK (bK ps))) (y_4:gq n k r H ps) (y_5:SqL K H b ((fs.map λs:Nat=>(s:Int)).map V.int)) (y_6:(∀s,s∈fs↔s<2^n/\r k s=sz s)) (y_7:∀e H' ps',A8 d H H'->H e=none->H' e=some (.dK (bK ps'))->gq n (k+1) r H' ps'->Q (.ref e) H'):kZ K vs H Q
def lU(K:PySem.W.Frag):Sp:=λvs H Q _=>kZ K vs H Q
theorem rj{ps:List (Int×V)}(h:(ps.map (·.1)).Nodup):((jS ps z v).map (·.1)).Nodup:=by
 unfold jS;split
 .rw[Ez];have:(λp:Int×V=>p.1)∘(λp=>if p.1=z then(p.1,v)else p)=λp=>p.1:=by funext p;show(if p.1=z then(p.1,v)else p).1=p.1;split<;>rfl
  rw[this];exact h
 .rename_i hn;rw[Ei,GR];refine⟨h,by simp,λa ha b hb=> ?_⟩;obtain⟨p,hp,rfl⟩:=DL.mp ha;have:b=z:=by simpa using hb
  subst this;intro e;exact hn (GW.mpr ⟨p,hp,DG e⟩)
theorem pk:∀ (m:Nat) (l:List Int),l.Nodup->(∀z∈l,0<=z/\z<m)->l.length<=m
 |0,l,_,h=>by
  cases l with
  |nil=>exact Dl _
  |cons x l=>have:=h x DE;lia
 |m+1,l,nd,h=>by
  have h1:(l.erase (m:Int)).length<=m:=pk m _ (nd.sublist HH) λz hz=>by have:=(Ii nd).mp hz;have:=h z this.2;lia
  have:=List.length_erase_le (a:=(m:Int)) (l:=l);have h2:l.length<=(l.erase (m:Int)).length+1:=by
   by_cases hm:(m:Int)∈l
   .rw[Fi hm];lia
   .rw[List.erase_of_not_mem hm];lia
  lia
theorem kR:∀k,(∀i,i<k->J i=J' i)->bL J k=bL J' k
 |0,_=>rfl
 |k+1,h=>by show bL J k|||J k=bL J' k|||J' k;rw[kR k λi hi=>h i (by lia),h k (by lia)]
theorem cC.more(h:cC n k r J)(hs:s<2^n)(hf:r k s=sz s)(ha:bL J k&&&s=0):cC n (k+1) r (λi=>if i=k then s else J i):=by
 have apart:∀i,i<k->∀b,(J i).testBit b=true->s.testBit b=false:=λi hi b hb=>by
  cases e:s.testBit b with
  |false=>rfl
  |true=>
   have h1:=(eV J b k).mpr ⟨i,hi,hb⟩;have h2:(bL J k&&&s).testBit b=true:=by rw[DH,h1,e];rfl
   rw[ha,En]at h2;cases h2
 refine⟨λi hi=> ?_,λi hi=> ?_,λi j hi hj ne b hb=> ?_⟩
 .by_cases z:i=k
  .simp only[Dp z];exact hs
  .simp only[Dt z];exact h.lt i (by lia)
 .by_cases z:i=k
  .simp only[Dp z];rw[z];exact hf
  .simp only[Dt z];exact h.free i (by lia)
 .by_cases z:i=k
  .have z2:¬j=k:=λq=>ne (z.trans q.symm);simp only[Dp z,Dt z2]at hb⊢;cases e:(J j).testBit b with
   |false=>rfl
   |true=>rw[apart j (by lia) b e]at hb;cases hb
  .by_cases z2:j=k
   .simp only[Dt z,Dp z2]at hb⊢;exact apart i (by lia) b hb
   .simp only[Dt z,Dt z2]at hb⊢;exact h.apart i j (by lia) (by lia) ne b hb
theorem cC.less(h:cC n (k+1) r J):cC n k r J/\bL J k&&&J k=0:=by
 refine⟨⟨λi hi=>h.lt i (by lia),λi hi=>h.free i (by lia),λi j hi hj=>h.apart i j (by lia) (by lia)⟩,DJ λb=> ?_⟩;rw[DH,En];cases e:(bL J k).testBit b with
 |false=>rfl
 |true=>
  obtain⟨i,hi,hb⟩:=(eV J b k).mp e;rw[h.apart i k (by lia) (by lia) (by lia) b hb];rfl
structure oz(n k:Nat)(r:Nat->Nat->Nat)(H:Hp)(d e:Addr)(o:Obj)(ps ps':List (Int×V))(C:Nat->Nat->Prop)(H':Hp):Prop where
 sm:A8 d H H'
 fz:H' d=some (.frz o (.dK (bK ps)))
 at_:H' e=some (.dK (bK ps'))
 has:∀p∈ps',∃ (q:Addr) (J:Nat->Nat),p.2= .ref q/\H' q=some (.lst (((List.range (k+1)).map λj=>(J j:Int)).map V.int))/\cC n (k+1) r J/\p.1=(bL J (k+1):Int)
 nd:(ps'.map (·.1)).Nodup
 all:∀x s,C x s->x&&&s=0->∃p∈ps',p.1=((x|||s:Nat):Int)
theorem oz.len{ps ps':List (Int×V)}(h:oz n k r H d e o ps ps' C H')(n8:n<=8):ps'.length<=256:=by
 have:=pk 256 (ps'.map (·.1)) h.nd λz hz=>by obtain⟨p,hp,rfl⟩:=DL.mp hz;obtain⟨q,J,_,_,hJ,e⟩:=h.has p hp;have:=ie (k+1) hJ.lt;have h8:2^n<=256:=DM (n:=2) (by lia) n8;lia
 rw[Di]at this;exact this
theorem oz.imp(h:oz n k r H d e o ps ps' C H')(hc:∀x s,C' x s->x&&&s=0->C x s):oz n k r H d e o ps ps' C' H':=
 ⟨h.sm,h.fz,h.at_,h.has,h.nd,λx s h1 h2=>h.all x s (hc x s h1 h2) h2⟩
def iq(Z:Hs)(H:Hp)(n k:Nat)(r:Nat->Nat->Nat)(xs:List V):Prop:=xs.length=k/\∀i,i<k->∃a,xs[i]?=some (.ref a)/\Z.ho H a n (r i)
theorem iq.at{Z:Hs}(h:iq Z H n k r xs)(hy:xs[i]?=some y):i<k/\∃a,y= .ref a/\Z.ho H a n (r i):=by
 have hi:i<k:=by rw[<-h.1];exact(DB.mp hy).1
 obtain⟨a,h1,h2⟩:=h.2 i hi;rw[hy]at h1;exact⟨hi,a,DS h1,h2⟩
def sD(n k:Nat)(r:Nat->Nat->Nat)(J:Nat->Nat)(B:Nat):Prop:=cC n k r J/\B<2^n/\sz (bL J k)=sz (2^n-1-B)+aZ (λi=>r i B) k
inductive qN(K:PySem.W.Frag)(Z:Hs)(P:Addr)(vs:List V)(H:Hp)(Q:VK):Prop
 |mk (a:Addr) (n k:Nat) (r:Nat->Nat->Nat) (xs:List V) (y_0:vs=[.ref a]) (y_1:n<=8) (y_2:0<k) (y_3:k<=8) (y_4:SqL K H a xs) (y_5:iq Z H n k r xs) (y_6:(∀i,i<k->Mat n (r i))) (y_7:cU H P jA pK) (y_8:∀u q H' J B,a9 H H'->H' u=some (.tup [.ref q, .int ((B:Nat):Int)])->H' q=some (.lst (((List.range k).map λj=>((J j:Nat):Int)).map V.int))->sD n k r J B->Q (.ref u) H'):qN K Z P vs H Q
def tK(K:PySem.W.Frag)(Z:Hs)(P:Addr):Sp:=λvs H Q _=>qN K Z P vs H Q
theorem gq.same(h:gq n k r H ps)(e:Same H H'):gq n k r H' ps:=⟨λp hp=>by obtain⟨q,J,h1,h2,h3⟩:=h.has p hp;exact⟨q,J,h1,e.at h2,h3⟩,h.nd,h.all⟩
theorem jL(g:Nat->Nat):∀k:Nat,((List.range k).map λi=>((g i:Nat):Int)).sum=((aZ g k:Nat):Int)
 |0=>rfl
 |k+1=>by rw[ES,Ei,List.sum_append,jL g k];show _+(((g k:Nat):Int)+0)=((aZ g k+g k:Nat):Int);lia
theorem gq.sameN(h:gq n k r H ps)(e:a9 H H'):gq n k r H' ps:=⟨λp hp=>by obtain⟨q,J,h1,h2,h3⟩:=h.has p hp;exact⟨q,J,h1,e.lst h2,h3⟩,h.nd,h.all⟩
theorem AI{g:Nat->Nat}{k:Nat}{ys:List V}(hl:ys.length=k)(h:∀ (j:Nat) (y:V),ys[j]?=some y->y= .int ((g j:Nat):Int)):ys=((List.range k).map λi=>((g i:Nat):Int)).map V.int:=by
 refine HU λi=> ?_;rw[Dm,Dm];by_cases hi:i<k
 .have hy:i<ys.length:=by lia
  rw[Ds hy,EM hi,h i _ (Ds hy)];rfl
 .rw[List.getElem?_eq_none (by lia),List.getElem?_eq_none (by rw[DU];lia)];rfl
theorem nT:∀n:Nat,n<8->∀m:Nat,m<2^n->(List.range (2^n)).filter (λs=>decide (s&&&m=0))=(List.range (2^sz (aX (2^n-1) m))).map λi=>bG i (aX (2^n-1) m):=by decide+kernel
inductive uB(K:PySem.W.Frag)(vs:List V)(H:Hp)(Q:VK):Prop
 |mk (a b:Addr) (n1 n2:Nat) (r1 r2:Nat->Nat) (y_0:vs=[.ref a, .ref b]) (y_1:SqL K H a ((aG n1 r1).map V.int)) (y_2:SqL K H b ((aG n2 r2).map V.int)) (y_3:n1+n2<=8) (y_4:∀p H',Same H H'->H p=none->H' p=some (.lst ((aG (n1+n2) (fH n1 r1 r2)).map V.int))->Q (.ref p) H'):uB K vs H Q
def xa(K:PySem.W.Frag):Sp:=λvs H Q _=>uB K vs H Q
def jV(r:Nat->Nat)(m:Nat):List Int:=(List.range m).map λs=>(r s:Int)
theorem rA(r:Nat->Nat)(m:Nat):jV r (m+1)=jV r m++[(r m:Int)]:=by unfold jV;rw[ES,Ei];rfl
inductive qz(K:PySem.W.Frag)(vs:List V)(H:Hp)(Q:VK):Prop
 |mk (b:Addr) (n:Nat) (r:Nat->Nat) (y_0:vs=[.ref b]) (y_1:SqL K H b ((aG n r).map V.int)) (y_2:Mat n r) (y_3:∀p H',Same H H'->H p=none->H' p=some (.lst ((aG n (ib n r)).map V.int))->Q (.ref p) H'):qz K vs H Q
def sZ(K:PySem.W.Frag):Sp:=λvs H Q _=>qz K vs H Q
inductive mO(K:PySem.W.Frag)(vs:List V)(H:Hp)(Q:VK):Prop
 |mk (b:Addr) (n o w:Nat) (r:Nat->Nat) (y_0:vs=[.ref b, .int (o:Int), .int (w:Int)]) (y_1:SqL K H b ((aG n r).map V.int)) (y_2:Mat n r) (y_3:n<=7) (y_4:o<2^n) (y_5:w<2^n) (y_6:∀p H',Same H H'->H p=none->H' p=some (.lst ((aG (sz (aX (2^n-1) (o|||w))) (vq r (aX (2^n-1) (o|||w)) w)).map V.int))->Q (.ref p) H'):mO K vs H Q
def oM(K:PySem.W.Frag):Sp:=λvs H Q _=>mO K vs H Q
def mnL(n m:Nat)(r:Nat->Nat)(w i:Nat):List Int:=((List.range i).filter λs=>decide (s&&&m=0)).map λs=>(r (s|||w):Int) - (r w:Int)
theorem yc(n m:Nat)(r:Nat->Nat)(w i:Nat):mnL n m r w (i+1)=if i&&&m=0 then mnL n m r w i++[(r (i|||w):Int) - (r w:Int)]else mnL n m r w i:=by
 unfold mnL;rw[ES,Gf,Ei];by_cases h:i&&&m=0
 .rw[Dp h,EE (p:=λs=>decide (s&&&m=0)) (DG h)];rfl
 .rw[Dt h,EF (p:=λs=>decide (s&&&m=0)) (by rw[Dy h];exact Dr)];simp
theorem rO(n m:Nat)(r:Nat->Nat)(w i:Nat):(mnL n m r w i).length<=i:=by unfold mnL;rw[Di];have:=FA (λs=>decide (s&&&m=0)) (List.range i);rw[DU]at this;exact this
theorem Ax(M:Mat n r)(hn:n<=7)(hm:m<2^n)(hw:w<2^n):mnL n m r w (2^n)=aG (sz (aX (2^n-1) m)) (vq r (aX (2^n-1) m) w):=by unfold mnL aG;rw[nT n (by lia) m hm,Ez];refine EV λi _=> ?_;exact(M.min_int gX hw i).symm
theorem iO{α β:Type}(f:α->β):∀ (l:List α) (j:Nat),(l.map f).eraseIdx j=(l.eraseIdx j).map f
 | [],_=>rfl
 |_::_,0=>rfl
 |a::l,j+1=>by show f a::(l.map f).eraseIdx j=f a::(l.eraseIdx j).map f;rw[iO f l j]
theorem kG{α:Type}:∀ (l:List α) (j:Nat) (h:j<l.length),(l[j]::l.eraseIdx j).Perm l
 | [],_,h=>absurd h (EZ _)
 |a::l,0,_=>List.Perm.refl _
 |a::l,j+1,h=>by show(l[j]'(by simpa using h)::a::l.eraseIdx j).Perm (a::l);exact(List.Perm.swap _ _ _).trans ((kG l j (by simpa using h)).cons _)
theorem ur:∀o:Nat,o<128->∀t:Nat,t<7->o.testBit t=false->o+2^t=o|||2^t:=by decide+kernel
def d4(Z:Hs)(H:Hp)(n:Nat)(v:V):Prop:=∃ (q p b:Addr) (r:Nat->Nat),v= .ref q/\H q=some (.tup [.ref p, .ref b])/\Z.ho H p n r/\H b=some (.lst ((aG n r).map V.int))/\Mat n r
theorem d4.same(z:d5 Z)(h:d4 Z H n v)(e:Same H H'):d4 Z H' n v:=by obtain⟨q,p,b,r,rfl,h1,h2,h3,M⟩:=h;exact⟨q,p,b,r,rfl,e.at h1,z.same e h2,e.at h3,M⟩
theorem d4.N(zk:HsK Z)(h:d4 Z H n v)(e:a9 H H'):d4 Z H' n v:=by obtain⟨q,p,b,r,rfl,h1,h2,h3,M⟩:=h;exact⟨q,p,b,r,rfl,e.tup h1,zk.N e h2,e.lst h3,M⟩
theorem lO:HO.lst ((aG n r).map V.int)≠ .lst (.ref q::xs):=λe=>by
 injection e with e
 cases h:aG n r with
 |nil=>rw[h]at e;cases e
 |cons x l=>rw[h,Ej]at e;injection e with e;cases e
theorem d4.upd(zk:HsK Z)(h:d4 Z H n v)(hl:H l=some (.lst (.ref q0::xs))):d4 Z (L2.upd H l (.lst ys)) n v:=by obtain⟨q,p,b,r,rfl,h1,h2,h3,M⟩:=h;have e:kT H (L2.upd H l (.lst ys)):=kT.upd hl;exact⟨q,p,b,r,rfl,e _ _ (λ_ z=>by cases z) h1,zk.I e h2,(aw (c8 h3 hl lO)).trans h3,M⟩
def fB(L:List Nat):List V:=(L.map λi:Nat=>(i:Int)).map V.int
inductive mP(vs:List V)(H:Hp)(Q:VK):Prop
 |mk (wd m:Nat) (x:Int) (y_0:vs=[.int (wd:Int), .int (m:Int), .int x]) (y_1:wd<=7) (y_2:m<=wd) (y_3:∀l H' (o d:Nat),Same H H'->H l=none->H' l=some (.lst [.int (o:Int), .int (d:Int)])->o<2^wd->d<2^wd->sz (aX (2^wd-1) (o|||d))=wd-m->Q (.ref l) H'):mP vs H Q
def oN:Sp:=λvs H Q _=>mP vs H Q
structure zA(H:Hp)(l q:Addr)(wd i:Nat)(L:List Nat)(o d:Nat)(H':Hp):Prop where
 sm:Same H H'
 hl:H' l=some (.lst (fB L))
 hq:H' q=some (.lst [.int (o:Int), .int (d:Int)])
 len:L.length=wd-i
 nd:L.Nodup
 mem:∀t∈L,t<wd/\(o|||d).testBit t=false
 o2:o<2^wd
 d2:d<2^wd
 sz:sz (o|||d)=i
inductive uA(K:PySem.W.Frag)(Z:Hs)(vs:List V)(H:Hp)(Q:VK):Prop
 |mk (n:Nat) (a:Addr) (ns:List Int) (y_0:vs=[.int (n:Int), .ref a]) (y_1:n<=5) (y_2:SqL K H a (ns.map V.int)) (y_3:ns.length<=63) (y_4:∀l H' xs,Same H H'->H l=none->H' l=some (.lst xs)->xs.length=4->(∀v∈xs,d4 Z H' n v)->Q (.ref l) H'):uA K Z vs H Q
def w9(K:PySem.W.Frag)(Z:Hs):Sp:=λvs H Q _=>uA K Z vs H Q
theorem fT(npo:H po=none)(ndo:H dxo=none)(oth:∀b o,upd (upd H dxo (.own po)) po (.ins C dxo []) b=some o->b≠po->H5 b=some o):Same H H5:=
 λb o e=>oth b o (by rw[aw (au e npo),aw (au e ndo)];exact e) (au e npo)
theorem d4.other{Z:Hs}{g:Gs}(hu:H u=some (.tup [.ref p, .ref b]))(hp:H p=some (.ins g.o dx (otF n h ((2^n-1:Nat):Int) (r (2^n-1):Nat))))(hX:Z.ho H h n r)(hb:H b=some (.lst ((aG n (ib n r)).map V.int)))(M:Mat n r):d4 (hsX Z g) H n (.ref u):=
 ⟨u,p,b,ib n r,rfl,hu, .inr (.inl ⟨dx,h,r,hp,hX,λs hs=>M.dq hs⟩),hb,M.dual⟩
structure k6(Z:Hs)(n:Nat)(H:Hp)(l:Addr)(q0:Addr)(xs:List V)(H':Hp):Prop where
 sm:Same H H'
 hl:H' l=some (.lst (.ref q0::xs))
 pr:∀v∈V.ref q0::xs,d4 Z H' n v
theorem k6.same(z:d5 Z)(h:k6 Z n H l q0 xs H')(e:Same H' H2):k6 Z n H l q0 xs H2:=⟨h.sm.trans e,e.at h.hl,λv hv=>(h.pr v hv).same z e⟩
theorem k6.more(zk:HsK Z)(h:k6 Z n H l q0 xs H')(h0:H l=none)(hv:d4 Z H' n v):k6 Z n H l q0 (xs++[v]) (upd H' l (.lst (.ref q0::xs++[v]))):=
 ⟨h.sm.upd h0,ag,λu hu=>by
  rcases Dz.mp hu with rfl|hu
  .exact(h.pr _ DE).upd zk h.hl
  rcases DW.mp hu with hu|hu
  .exact(h.pr u (DC _ hu)).upd zk h.hl
  .rw[DN.mp hu];exact hv.upd zk h.hl⟩
def ik(H:Hp)(n k:Nat)(r:Nat->Nat->Nat)(ys:List V):Prop:=ys.length=k/\∀i,i<k->∃b,ys[i]?=some (.ref b)/\H b=some (.lst ((aG n (r i)).map V.int))
theorem ik.sameN(h:ik H n k r ys)(e:a9 H H'):ik H' n k r ys:=⟨h.1,λi hi=>by obtain⟨b,h1,h2⟩:=h.2 i hi;exact⟨b,h1,e.lst h2⟩⟩
theorem ik.same(h:ik H n k r ys)(e:Same H H'):ik H' n k r ys:=h.sameN (a9.of e)
theorem sE(h:cC n k r J)(hj:j<=k):cC n j r J:=⟨λi hi=>h.lt i (by lia),λi hi=>h.free i (by lia),λi i' hi hi'=>h.apart i i' (by lia) (by lia)⟩
inductive kX(K:PySem.W.Frag)(vs:List V)(H:Hp)(Q:VK):Prop
 |mk (u q a:Addr) (n k:Nat) (r:Nat->Nat->Nat) (J:Nat->Nat) (B:Nat) (ys:List V) (y_0:vs=[.ref u, .ref a]) (y_1:n<=8) (y_2:0<k) (y_3:k<=8) (y_4:H u=some (.tup [.ref q, .int (B:Int)])) (y_5:H q=some (.lst (((List.range k).map λj=>((J j:Nat):Int)).map V.int))) (y_6:H a=some (.lst ys)) (y_7:ik H n k r ys) (y_8:sD n k r J B) (y_9:∀H',Same H H'->Q (.bl true) H'):kX K vs H Q
def lS(K:PySem.W.Frag):Sp:=λvs H Q _=>kX K vs H Q
inductive mT(K:PySem.W.Frag)(vs:List V)(H:Hp)(Q:VK):Prop
 |mk (u q a z:Addr) (n k:Nat) (r:Nat->Nat->Nat) (J:Nat->Nat) (B:Nat) (ys:List V) (y_0:vs=[.ref u, .ref a, .ref z]) (y_1:n<=8) (y_2:0<k) (y_3:k<=8) (y_4:H u=some (.tup [.ref q, .int (B:Int)])) (y_5:H q=some (.lst (((List.range k).map λj=>((J j:Nat):Int)).map V.int))) (y_6:H a=some (.lst ys)) (y_7:H z=some (.lst ((szI n).map V.int))) (y_8:ik H n k r ys) (y_9:sD n k r J B) (y_10:Q (.bl true) H):mT K vs H Q
def oR(K:PySem.W.Frag):Sp:=λvs H Q _=>mT K vs H Q
section
variable(P:Program)(w:World){K:PySem.W.Frag}{mg:Str->Option Value}(base:Heap)
theorem sc_holds:aB ["s","thing"] ["s","thing"] (ao s_holds):=sc_of
theorem xT(D:aY K mg "holds" s_holds ["s","thing"]):Cal P w K mg base 1 "holds" ["s","thing"] nr:=by refine D.cal sc_holds (λvs H Q E h=>by obtain⟨s,t,rfl,_⟩:=h;rfl) λf cdv A outer σs H vs Q E hr h=> ?_;obtain⟨s,t,rfl,h0,h1,k⟩:=h;refine⟨_,(aq (aE (wpe bP (av aP (av j7 (pv 0) (pv 1)) ai) ai))),?_⟩;refine⟨_,rfl,_,rfl,_,_,rfl,rfl,h1,_,_,rfl,rfl,(by show(0:Int)<2;decide),rfl,?_⟩;show Q (.bl (decide (V.int (s/2^t.toNat % 2)=V.int 1))) H;rw[yL h0];exact k
theorem sc_things:aB ["s"] ["s"] (ao s_things):=sc_of
theorem vf(T:Tb K mg)(D:aY K mg "things" s_things ["s"])(ae:Cal P w K mg base 1 "holds" ["s","thing"] nr):Cal P w K mg base 2 "things" ["s"] eG:=by
 refine D.cal sc_things (λvs H Q E h=>by obtain⟨s,rfl,_⟩:=h;rfl) λf cdv A outer σs H vs Q E hr h=> ?_;obtain⟨s,rfl,h0,h1,k⟩:=h;refine⟨_,(aq (aE (wlc ["thing"] ["s"] [0] (wrng T.range_ (An (K:=K) (by rfl) PySem.F.plainAttrs_int PySem.F.slot_int_bit_length PySem.F.type_int_bit_length Av (pv 0))) (wnC 0) (dD (dQ (wcal ae hr (aa (pv 1) (aa (pv 0) ah))))) (pv 0)))),?_⟩;have hb:Builtin.Int.intBits s<=8:=by
  obtain⟨n,rfl⟩:=Eu h0;unfold Builtin.Int.intBits;split
  .lia
  .rename_i hn;have hn':n≠0:=by intro e;subst e;exact hn rfl
   have:n.log2<8:=(Nat.log2_lt hn').mpr (by lia);show(n:Int).natAbs.log2+1<=8;rw[Int.natAbs_natCast];lia
 refine⟨_,rfl,rfl,_,rfl,rfl,_,rfl,(by lia),(by lia),?_⟩;refine bQ (λi=>s.toNat.testBit i) (λi=> .int (0+(i:Nat))) (by rw[Dk];exact Du hb (by decide)) (λi vs H' R S hi hv sm hk=> ?_) λD H' hD sm hl=> ?_
 .obtain⟨v,rfl⟩:=aR hv;refine⟨_,rfl,_,rfl,s,_,rfl,h0,(by lia),_,rfl,?_⟩;have e:(0+(i:Int)).toNat=i:=by lia
  have q:=hk [some (.int (0+(i:Nat)))] H' rfl (Same.refl _);rw[e];cases hb:s.toNat.testBit i with
  |true=>
   rw[hb,Dp rfl]at q;exact yG ⟨_,rfl,q⟩
  |false=>
   rw[hb,Dt Dr]at q;exact cL q
 .rw[uJ h0 h1]at hl;exact k D H' sm hD hl
theorem sc_size:aB ["s"] ["s"] (ao s_size):=sc_of
theorem Ar(T:Tb K mg)(D:aY K mg "size" s_size ["s"])(ae:Cal P w K mg base 2 "things" ["s"] eG):Cal P w K mg base 3 "size" ["s"] fE:=by refine D.cal sc_size (λvs H Q E h=>by obtain⟨s,rfl,_⟩:=h;rfl) λf cdv A outer σs H vs Q E hr h=> ?_;obtain⟨s,rfl,h0,h1,k⟩:=h;refine⟨_,(aq (aE (wlen K T.len_ (wcal ae hr (aa (pv 0) ah))))),?_⟩;refine⟨_,rfl,s,rfl,h0,h1,λp H' sm hp hl=>⟨p,_,rfl, .inl (SqL.of hl),?_⟩⟩;have q:=k H' sm;rw[<-Di (f:=V.int)]at q;exact q
theorem sc_set_of:aB ["some","s","thing"] ["some"] (ao s_set_of):=sc_of
theorem vh(D:aY K mg "set_of" s_set_of ["some"]):Cal P w K mg base 1 "set_of" ["some"] (sQ K):=by
 refine D.cal sc_set_of (λvs H Q E h=>by obtain⟨a,ns,rfl,_⟩:=h;rfl) λf cdv A outer σs H vs Q E hr h=> ?_;obtain⟨a,ns,rfl,hS,hz,k⟩:=h;refine⟨_,(ab (wset 1 sc_set_of.nd ai)
   (ab (wfor (wil K (pv 0)) (wname 2 sc_set_of.nd)
     (aq (wset 1 sc_set_of.nd (av fL (pv 1) (av cF ai (pv 2))))))
   (aq (aE (pv 1))))),?_⟩
 refine⟨_,rfl,a,rfl,⟨_,hS⟩,bT (K:=K) (a:=a) (xs:=ns.map V.int) (λi σ H2=>H2=H/\∃v,σ=[some (.ref a),some (.int (((ns.take i).foldl (λ(s:Nat) (t:Int)=>s|||2^t.toNat) 0:Nat):Int)),v])
  ⟨rfl,none,rfl⟩ (λi σ H2 _ q=>by rw[q.1];exact hS) ?_ ?_⟩
 .rintro i y σ H2 hi ⟨rfl,v,rfl⟩;obtain⟨z,rfl,hz1⟩:=bH hi;obtain⟨z0,z8⟩:=hz z (Dv hz1);refine⟨_,rfl,_,rfl,_,_,rfl,rfl,⟨z0,by lia,by decide⟩,_,_,rfl,rfl,?_⟩;refine⟨rfl,some (.int z),?_⟩;have e:Builtin.bitOr ((((ns.take i).foldl (λ(s:Nat) (t:Int)=>s|||2^t.toNat) 0:Nat):Int)) (1*2^z.toNat)=((((ns.take (i+1)).foldl (λ(s:Nat) (t:Int)=>s|||2^t.toNat) 0:Nat):Int)):=by
   rw[kQ (by lia) (by rw[GS];exact gw _),EB,hz1];have e2:((2:Int)^z.toNat)=((2^z.toNat:Nat):Int):=by simp
   rw[GS,e2,Dk,Dk];simp only[Option.toList_some,ER,EG,List.foldl_nil]
  rw[<-e];rfl
 .rintro σ H2 ⟨rfl,v,rfl⟩;refine⟨_,rfl,?_⟩;rw[Di,Fg];exact k
theorem sc_parts:aB ["s","found","thing"] ["s"] (ao s_parts):=sc_of
theorem xS(T:Tb K mg)(D:aY K mg "parts" s_parts ["s"])(ae:Cal P w K mg base 2 "things" ["s"] eG):Cal P w K mg base 3 "parts" ["s"] gI:=by
 refine D.cal sc_parts (λvs H Q E h=>by obtain⟨s,rfl,_⟩:=h;rfl) λf cdv A outer σs H vs Q E hr h=> ?_;obtain⟨s,rfl,h0,h1,k⟩:=h;refine⟨_,(ab (wset 1 sc_parts.nd (c9 (aa ai ah)))
   (ab (wfor (wil K (wcal ae hr (aa (pv 0) ah))) (wname 2 sc_parts.nd)
     (aq (wset 1 sc_parts.nd (av iE (pv 1) (wlc ["part"] ["thing"] [2] (wil K (pv 1)) (wnC 0) aM (av fL (pv 0) (av cF ai (pv 1))))))))
   (aq (aE (pv 1))))),?_⟩
 refine⟨by show 1<=sizeLine;decide,λq0 hq0=> ?_⟩;refine⟨_,rfl,s,rfl,h0,h1,λp H1 sm1 hp1 hl1=>⟨p,rfl,⟨_,SqL.of hl1⟩,?_⟩⟩;generalize hn:s.toNat=n at*;refine bT (K:=K) (a:=p) (xs:=(bits n).map V.int) (λi σ H2=>∃ (q:Addr) (v:Option V),Same H H2/\H2 p=some (.lst ((bits n).map V.int))/\H q=none/\H2 q=some (.lst ((((bits n).take i).foldl d8 [0]).map V.int))/\σ=[some (.int s),some (.ref q),v])
  ⟨q0,none,(Same.new hq0).trans sm1,hl1,hq0,sm1.at ag,rfl⟩ (λi σ H2 _ ⟨_,_,_,hp,_⟩=>SqL.of hp) ?_ ?_
 .rintro i y σ H2 hi ⟨q,v,sm2,hp2,hq,hq2,rfl⟩;obtain⟨z,rfl,hz⟩:=bH hi;have zr:=kO (Dv hz);have hil:i<(bits n).length:=(DB.mp hz).1;have hb8:=dt n;have hlen:(((bits n).take i).foldl d8 [0]).length<=128:=by rw[mx,Em];have h2:2^min i (bits n).length<=2^7:=DM (by lia) (by lia);simp;lia
  have hnn:∀x∈((bits n).take i).foldl d8 [0],0<=x:=pU _ _ (by simp);have est:((bits n).take (i+1)).foldl d8 [0]=d8 (((bits n).take i).foldl d8 [0]) z:=by rw[EB,hz,ER];rfl
  rw[est];generalize ((bits n).take i).foldl d8 [0]=fl at*;refine⟨_,rfl,_,rfl,q,rfl,⟨_,SqL.of hq2⟩,?_⟩;refine bR (λx=>(λ_=>true) (bB x)) (λx=> .int ((λt:Int=>((t.toNat|||2^z.toNat:Nat):Int)) (bB x))) (SqL.of hq2) (by rw[Di];exact Du hlen (by decide)) (λi x vs H' R S hx hv sm hk=> ?_) λD H' hD sm hl=> ?_
  .obtain⟨v,rfl⟩:=aR hv;obtain⟨t,rfl,ht⟩:=bH hx;have t0:=hnn t (Dv ht);have q:=hk [some (.int t)] H' rfl (Same.refl _);rw[Dp rfl]at q;simp only[a8,cm,Dp];refine⟨_,rfl,_,rfl,_,_,rfl,rfl,⟨zr.1,by lia,by decide⟩,_,_,rfl,rfl,?_⟩;have e:Builtin.bitOr t (1*2^z.toNat)=((t.toNat|||2^z.toNat:Nat):Int):=by
    have e2:((2:Int)^z.toNat)=((2^z.toNat:Nat):Int):=by simp
    rw[kQ t0 (by rw[GS];exact gw _),GS,e2,Dk]
   show R (.int (Builtin.bitOr t (1*2^z.toNat))) _ H';rw[e];exact q
  replace hl:=hl.trans (Es (λl=>some (HO.lst l)) (bC (λ_=>true) (λt:Int=>((t.toNat|||2^z.toNat:Nat):Int)) fl));rw[Eo.mpr (λ_ _=>rfl)]at hl;refine⟨q,D,_,_,rfl,rfl,sm.at hq2,hl,?_,λq3 hq3=> ?_⟩
  .rw[Di,Di,Di];exact Du (show fl.length+fl.length<=256 by lia) (by decide)
  have sm3:Same H H':=sm2.trans sm;refine⟨q3,some (.int z),sm3.upd (sm3.free hq3),?_,sm3.free hq3,?_,rfl⟩
  .have:=sm.at hp2;rw[aw (au this hq3)];exact this
  .rw[ag];unfold Bh.d8;rw[Ei]
 .rintro σ H2 ⟨q,v,sm2,hp2,hq,hq2,rfl⟩;rw[Di,Fg]at hq2;exact⟨_,rfl,k q H2 sm2 hq hq2⟩
theorem sc_less:aB ["s","t"] ["s","t"] (ao s_less):=sc_of
theorem As(D:aY K mg "less" s_less ["s","t"]):Cal P w K mg base 1 "less" ["s","t"] jP:=by
 refine D.cal sc_less (λvs H Q E h=>by obtain⟨s,t,rfl,_⟩:=h;rfl) λf cdv A outer σs H vs Q E hr h=> ?_;obtain⟨s,t,rfl,k⟩:=h;refine⟨_,(aq (aE (av rD (pv 0) (av eC (pv 0) (pv 1))))),?_⟩;refine⟨_,rfl,_,rfl,_,rfl,_,_,rfl,rfl,_,_,rfl,rfl,?_⟩;show Q (.int (Builtin.bitXor (s:Int) (Builtin.bitAnd (s:Int) (t:Int)))) H;have e:Builtin.bitXor (s:Int) (Builtin.bitAnd (s:Int) (t:Int))=((aX s t:Nat):Int):=by
  unfold Builtin.bitXor;rw[cu,bZ,cu];have h:=Az s t;have l:=jx s t;have e1:s||| (s&&&t)=s:=DJ λj=>by rw[DX,DH];cases s.testBit j<;>simp
  have e2:s&&& (s&&&t)=s&&&t:=DJ λj=>by rw[DH,DH];cases s.testBit j<;>simp
  have l2:s&&&t<=s:=Hm;rw[e1,e2]at h⊢;lia
 rw[e];exact k
theorem sc_spread:aB ["s","kept"] ["s","kept"] (ao s_spread):=sc_of
theorem vg(T:Tb K mg)(D:aY K mg "spread" s_spread ["s","kept"])(ae:Cal P w K mg base 1 "set_of" ["some"] (sQ K))(af:Cal P w K mg base 2 "things" ["s"] eG)(ak:Cal P w K mg base 1 "holds" ["s","thing"] nr):
  Cal P w K mg base 3 "spread" ["s","kept"] oJ:=by
 refine D.cal sc_spread (λvs H Q E h=>by obtain⟨s,t,rfl,_⟩:=h;rfl) λf cdv A outer σs H vs Q E hr h=> ?_;obtain⟨s,t,rfl,s0,t0,t1,k⟩:=h;refine⟨_,(aq (aE (wcal ae hr (aa (wlc ["number","thing"] ["s"] [0] (o7 (K:=K) (by rfl) (by rfl) T.enumerate_ (aa (wcal af hr (aa (pv 1) ah)) ah)) (cJ (K:=K) (n:=2) (by rfl) (by rfl) (aQ (wnC 0) (aQ (wnC 1) cx))) (dD (dQ (wcal ak hr (aa (pv 2) (aa (pv 0) ah))))) (pv 1)) ah)))),?_⟩;refine⟨_,rfl,t,rfl,t0,t1,λp H1 sm1 hp1 hl1=>⟨p,rfl,⟨_,hl1⟩,?_⟩⟩;refine yu (λi _=>s.toNat.testBit i) (λ_ x=>x) (SqL.of hl1) (by rw[Di];exact Du (dt _) (by decide)) (λi x tt vs H' R S hx hv sm ht hk=> ?_) λD H' hD sm hl=> ?_
 .obtain⟨v0,v1,rfl⟩:=jH hv;obtain⟨z,rfl,hz⟩:=bH hx;have q:=hk [some (.int (i:Nat)),some (.int z)] H' rfl (Same.refl _);refine⟨tt,_,rfl,SqT.of ht,rfl,_,_,rfl,_,_,rfl,rfl,_,rfl,_,rfl,s,_,rfl,s0,(by lia),_,rfl,?_⟩;rw[Dk];cases hb:s.toNat.testBit i with
  |true=>
   rw[hb,Dp rfl]at q;exact yG ⟨_,rfl,q⟩
  |false=>
   rw[hb,Dt Dr]at q;exact cL q
 .rw[i5 (λi _=>s.toNat.testBit i)]at hl;exact⟨D,_,rfl,SqL.of hl,i4,k H' (sm1.trans sm)⟩
theorem sc_all_of:aB ["n"] ["n"] (ao s_all_of):=sc_of
theorem vj(D:aY K mg "all_of" s_all_of ["n"]):Cal P w K mg base 1 "all_of" ["n"] tN:=by refine D.cal sc_all_of (λvs H Q E h=>by obtain⟨n,rfl,_⟩:=h;rfl) λf cdv A outer σs H vs Q E hr h=> ?_;obtain⟨n,rfl,h0,h1,k⟩:=h;refine⟨_,(aq (aE (av bJ (av cF ai (pv 0)) ai))),?_⟩;exact⟨_,rfl,_,_,rfl,rfl,⟨h0,by lia,by decide⟩,_,_,rfl,rfl,k⟩
theorem sc_House___init__:aB ["self","n"] ["self","n"] (ao s_House___init__):=sc_of
theorem gU(D:cB K "__init__" "House.__init__" s_House___init__ ["self","n"] f):b7 P w K mg base 1 f ["self","n"] (dC K):=by refine D.fn sc_House___init__ (λvs H Q E h=>by obtain⟨p,C,dx,n,rfl,_⟩:=h;rfl) λcdv A outer σs H vs Q E hr h=> ?_;obtain⟨p,C,dx,n,rfl,hp,cl,na,k⟩:=h;refine⟨_,(aq (wsf K (pv 0) (pv 1))),?_⟩;exact⟨_,rfl,_,rfl,p,C,dx,_,rfl,hp,cl,na,(by show 0<1000;decide),k⟩
theorem sc_House_everything:aB ["self"] ["self"] (ao s_House_everything):=sc_of
theorem f9(D:cB K "everything" "House.everything" s_House_everything ["self"] f)(ae:Cal P w K mg base 1 "all_of" ["n"] tN):b7 P w K mg base 2 f ["self"] (cV K):=by refine D.fn sc_House_everything (λvs H Q E h=>by obtain⟨a,C,dx,fs,n,rfl,_⟩:=h;rfl) λcdv A outer σs H vs Q E hr h=> ?_;obtain⟨a,C,dx,fs,n,rfl,ha,cl,na,lk,n0,n1,k⟩:=h;refine⟨_,(aq (aE (wcal ae hr (aa (wfld K (pv 0)) ah)))),?_⟩;exact⟨_,rfl,a,C,dx,fs,_,rfl,ha,cl,na,lk,n,rfl,n0,n1,k⟩
theorem sc_House_rank:aB ["self","s"] ["self","s"] (ao s_House_rank):=sc_of
theorem lE(D:cB K "rank" "House.rank" s_House_rank ["self","s"] f):b7 P w K mg base 1 f ["self","s"] sW:=by refine D.fn sc_House_rank (λvs H Q E h=>by obtain⟨a,s,rfl,_⟩:=h;rfl) λcdv A outer σs H vs Q E hr h=> ?_;obtain⟨a,s,rfl,k⟩:=h;exact⟨_,(aq (aE ai)),k⟩
theorem sc_Even___init__:aB ["self","n","k"] ["self","n","k"] (ao s_Even___init__):=sc_of
theorem iI(D:cB K "__init__" "Even.__init__" s_Even___init__ ["self","n","k"] f)(ak:mg "House"=some (.ref af))(cl:Cls K C)(n1:aH K C "many")(n2:aH K C "most")
  (ae:qQ P w K mg base 1 af "__init__" ["self","n"] (dC K)):b7 P w K mg base 2 f ["self","n","k"] (tE C):=by
 refine D.fn sc_Even___init__ (λvs H Q E h=>by obtain⟨p,dx,n,k,rfl,_⟩:=h;rfl) λcdv A outer σs H vs Q E hr h=> ?_;obtain⟨p,dx,n,kk,rfl,hp,k⟩:=h;refine⟨_,(ab (bU (fb ae hr (by decide) (e9 (v:= .ref af) (by rfl) ak rfl) (aa (pv 0) (aa (pv 1) ah))))
   (aq (wsf K (pv 0) (pv 2)))),?_⟩
 refine⟨rfl,_,rfl,_,rfl,p,C,dx,_,rfl,hp,cl,n1,?_⟩;refine⟨_,rfl,_,rfl,p,C,dx,_,rfl,ag,cl,n2,?_,?_⟩
 .exact Dw (aC _ _ _) (by show 0+1<1000;decide)
 rw[b8];exact k
theorem sc_Even_rank:aB ["self","s"] ["self","s"] (ao s_Even_rank):=sc_of
theorem nR(T:Tb K mg)(D:cB K "rank" "Even.rank" s_Even_rank ["self","s"] f)(cl:Cls K C)(n2:aH K C "most")(ae:Cal P w K mg base 3 "size" ["s"] fE):b7 P w K mg base 4 f ["self","s"] (sX C):=by refine D.fn sc_Even_rank (λvs H Q E h=>by obtain⟨a,dx,n,k,s,rfl,_⟩:=h;rfl) λcdv A outer σs H vs Q E hr h=> ?_;obtain⟨a,dx,n,kk,s,rfl,ha,s0,s1,k⟩:=h;refine⟨_,(aq (aE (bW (iT (by rfl)) (by rfl) T.min_ FW (aa (wcal ae hr (aa (pv 1) ah)) (aa (wfld K (pv 0)) ah))))),?_⟩;refine⟨_,rfl,s,rfl,s0,s1,λH1 sm1=> ?_⟩;exact⟨_,rfl,a,C,dx,_,_,rfl,sm1.at ha,cl,n2,yT _ _,_,_,rfl,k H1 sm1⟩
theorem sc_Listed___init__:aB ["self","n","some"] ["self","n","some"] (ao s_Listed___init__):=sc_of
theorem gA(T:Tb K mg)(D:cB K "__init__" "Listed.__init__" s_Listed___init__ ["self","n","some"] f)(ak:mg "House"=some (.ref af))(cl:Cls K C)(n1:aH K C "many")(n2:aH K C "listed")
  (ae:qQ P w K mg base 1 af "__init__" ["self","n"] (dC K)):b7 P w K mg base 2 f ["self","n","some"] (tw K C):=by
 refine D.fn sc_Listed___init__ (λvs H Q E h=>by obtain⟨p,dx,a,n,ms,rfl,_⟩:=h;rfl) λcdv A outer σs H vs Q E hr h=> ?_;obtain⟨p,dx,a,n,ms,rfl,hp,ha,hl,k⟩:=h;refine⟨_,(ab (bU (fb ae hr (by decide) (e9 (v:= .ref af) (by rfl) ak rfl) (aa (pv 0) (aa (pv 1) ah))))
   (aq (wsf K (pv 0) (bM (c5 (K:=K) (by rfl)) (by rfl) T.tuple_ Fq (aa (pv 2) ah))))),?_⟩
 refine⟨rfl,_,rfl,_,rfl,p,C,dx,_,rfl,hp,cl,n1,?_⟩;have hp1:upd H p (.ins C dx (aJ "many" (.int n) [])) p=some (.ins C dx (aJ "many" (.int n) [])):=ag;have oth:∀b o,H b=some o->b≠p->upd H p (.ins C dx (aJ "many" (.int n) [])) b=some o:=λb o e hb=>by rw[aw hb];exact e
 have ha1:SqL K (upd H p (.ins C dx (aJ "many" (.int n) []))) a (ms.map V.int):=by
  rcases ha with (h|⟨o,h⟩)|h
  .exact .inl (.inl (oth _ _ h (c8 h hp (by intro z;cases z))))
  .exact .inl (.inr ⟨o,oth _ _ h (c8 h hp (by intro z;cases z))⟩)
  .exact .inr h
 refine⟨_,rfl,a,_,rfl, .inl ⟨ha1,λt ht=> ?_⟩⟩;have tp:t≠p:=λe=>by rw[e,ag]at ht;cases ht
 have ht0:H t=none:=by rw[aw tp]at ht;exact ht
 refine⟨_,rfl,p,C,dx,_,rfl,(by rw[aw tp.symm];exact hp1),cl,n2,?_,?_⟩
 .exact Dw (aC _ _ _) (by show 0+1<1000;decide)
 refine k t _ ht0 (λb o e hb=> ?_) ag ?_
 .rw[aw hb,aw (au e ht0)];exact oth b o e hb
 .rw[aw tp,ag]
theorem sc_Listed_rank:aB ["self","s"] ["self","s"] (ao s_Listed_rank):=sc_of
theorem kh(T:Tb K mg)(D:cB K "rank" "Listed.rank" s_Listed_rank ["self","s"] f)(cl:Cls K C)(n2:aH K C "listed")(ae:Cal P w K mg base 3 "size" ["s"] fE):b7 P w K mg base 4 f ["self","s"] (sV C):=by
 refine D.fn sc_Listed_rank (λvs H Q E h=>by obtain⟨a,n,s,ms,rfl,_⟩:=h;rfl) λcdv A outer σs H vs Q E hr h=> ?_;obtain⟨a,n,s,ms,rfl,⟨dx,t,ha,ht,hl⟩,hne,hms,s0,s1,k⟩:=h;refine⟨_,(aq (aE (bW (sk (K:=K) (by rfl) (by rfl)) (by rfl) T.max_ PyProof.Rows.boot_max (aa (wlc ["one"] ["s"] [1] (wit K (wfld K (pv 0))) (wnC 0) aM (wcal ae hr (aa (av eC (pv 1) (pv 0)) ah))) ah)))),?_⟩;refine⟨_,rfl,a,C,dx,_,_,rfl,ha,cl,n2,rX _ _,t,rfl,⟨_,SqT.of ht⟩,?_⟩;have s2:s.toNat<256:=by lia
 refine AE (λx=>(λ_=>true) (bB x)) (λx=> .int ((λm:Int=>((sz (s.toNat&&&m.toNat):Nat):Int)) (bB x))) ht (by rw[Di];exact Du hl (by decide)) (λi x vs H' R S hx hv sm hk=> ?_) λD H' hD sm hl=> ?_
 .obtain⟨v,rfl⟩:=aR hv;obtain⟨m,rfl,hm⟩:=bH hx;obtain⟨m0,m1⟩:=hms m (Dv hm);simp only[a8,cm,Dp];have ea:Builtin.bitAnd s m=((s.toNat&&&m.toNat:Nat):Int):=eU s0 m0;have la:s.toNat&&&m.toNat<256:=B7 s2;refine⟨_,rfl,_,rfl,_,_,rfl,rfl,Builtin.bitAnd s m,rfl,(by rw[ea];lia),(by rw[ea];lia),λH2 sm2=> ?_⟩;rw[ea,Dk];have q:=hk [some (.int m)] H2 rfl sm2;rw[Dp rfl]at q;exact q
 replace hl:=hl.trans (Es (λl=>some (HO.lst l)) (bC (λ_=>true) (λm:Int=>((sz (s.toNat&&&m.toNat):Nat):Int)) ms));rw[Eo.mpr (λ_ _=>rfl)]at hl;refine⟨D,_,rfl,SqL.of hl,?_,λz hz hmax=> ?_⟩
 .intro e;rw[List.map_eq_nil_iff]at e;exact hne e
 have ez:z=((gM ms s.toNat:Nat):Int):=by obtain⟨m,hm,rfl⟩:=DL.mp hz;rw[i3 (ms:=ms) (s:=s.toNat) (r:=sz (s.toNat&&&m.toNat)) ⟨m,hm,rfl⟩ λm' hm'=> ?_];have:=hmax _ (DL.mpr ⟨m',hm',rfl⟩);lia
 rw[ez];exact k H' sm
theorem sc_tied:aB ["marks","tie","old","new"] ["marks","tie"] (ao s_tied):=sc_of
theorem Aq(D:aY K mg "tied" s_tied ["marks","tie"]):Cal P w K mg base 1 "tied" ["marks","tie"] (w6 K):=by
 refine D.cal sc_tied (λvs H Q E h=>by obtain⟨a,b,ms,t,rfl,_⟩:=h;rfl) λf cdv A outer σs H vs Q E hr h=> ?_;obtain⟨a,b,ms,t,rfl,ha,hb,hx,hy,hl,k⟩:=h;refine⟨_,(ab (wset 2 sc_tied.nd (bb K (pv 0) (gu K (pv 1) ai)))
   (ab (wset 3 sc_tied.nd (bb K (pv 0) (gu K (pv 1) ai)))
   (aq (aE (wlc ["mark"] ["new","old"] [3,2] (wil K (pv 0)) (wnC 0) aM (xC (wpt bP (pv 0) (pv 2)) (pv 1) (pv 0))))))),?_⟩
 have t0:atI [V.int (t.1:Int),V.int (t.2:Int)] 0=some (.int t.1):=aK (j:=0) rfl;have t1:atI [V.int (t.1:Int),V.int (t.2:Int)] 1=some (.int t.2):=aK (j:=1) rfl;have ax:atI (ms.map V.int) (t.1:Int)=some (.int (ms.getD t.1 0)):=du hx;have ay:atI (ms.map V.int) (t.2:Int)=some (.int (ms.getD t.2 0)):=du hy;refine⟨_,rfl,_,rfl,b,_,_,_,rfl,rfl,SqT.of hb,t0,a,_,_,_,rfl,rfl,ha,ax,?_⟩;refine⟨_,rfl,_,rfl,b,_,_,_,rfl,rfl,SqT.of hb,t1,a,_,_,_,rfl,rfl,ha,ay,?_⟩;refine⟨_,rfl,a,rfl,⟨_,ha⟩,?_⟩;refine bR (λx=>(λ_=>true) (bB x)) (λv=> .int ((λm:Int=>if m=ms.getD t.1 0 then ms.getD t.2 0 else m) (bB v))) ha (by rw[Di];exact Du hl (by decide)) (λi v vs H' R S hv' hv sm hk=> ?_) λD H' hD sm hl'=> ?_
 .obtain⟨v,rfl⟩:=aR hv;obtain⟨m,rfl,hm⟩:=bH hv';have q:=hk [some (.int m)] H' rfl (Same.refl _);rw[Dp rfl]at q;simp only[a8,cm,Dp];refine⟨_,rfl,_,rfl,rfl,_,rfl,?_⟩;rw[cK];refine dE (λhc=> ?_) λhc=> ?_
  .have e:=DY hc;replace q:R (V.int (if m=ms.getD t.1 0 then ms.getD t.2 0 else m)) _ _:=q;rw[Dp e]at q;exact⟨_,rfl,q⟩
  .have e:=Gj (FH.mpr hc);replace q:R (V.int (if m=ms.getD t.1 0 then ms.getD t.2 0 else m)) _ _:=q;rw[Dt e]at q;exact⟨_,rfl,q⟩
 replace hl':=hl'.trans (Es (λl=>some (HO.lst l)) (bC (λ_=>true) (λm:Int=>if m=ms.getD t.1 0 then ms.getD t.2 0 else m) ms));rw[Eo.mpr (λ_ _=>rfl)]at hl';exact k D H' sm hD hl'
theorem sc_Net___init__:aB ["self","n","points","ties"] ["self","n","points","ties"] (ao s_Net___init__):=sc_of
theorem jj(T:Tb K mg)(D:cB K "__init__" "Net.__init__" s_Net___init__ ["self","n","points","ties"] f)(ak:mg "House"=some (.ref af))(cl:Cls K C)(n1:aH K C "many")(n2:aH K C "points")(n3:aH K C "ties")
  (ae:qQ P w K mg base 1 af "__init__" ["self","n"] (dC K)):b7 P w K mg base 2 f ["self","n","points","ties"] (tu K C):=by
 refine D.fn sc_Net___init__ (λvs H Q E h=>by obtain⟨p,dx,a,n,pt,xs,ts,rfl,_⟩:=h;rfl) λcdv A outer σs H vs Q E hr h=> ?_;obtain⟨p,dx,a,n,pt,xs,ts,rfl,hp,ha,hx,hl,k⟩:=h;refine⟨_,(ab (bU (fb ae hr (by decide) (e9 (v:= .ref af) (by rfl) ak rfl) (aa (pv 0) (aa (pv 1) ah))))
   (ab (wsf K (pv 0) (pv 2))
   (aq (wsf K (pv 0) (bM (c5 (K:=K) (by rfl)) (by rfl) T.tuple_ Fq (aa (wlc ["tie"] [] [] (wil K (pv 3)) (wnC 0) aM (cD (aa (gu K (pv 0) ai) (aa (gu K (pv 0) ai) ah)))) ah)))))),?_⟩
 refine⟨rfl,_,rfl,_,rfl,p,C,dx,_,rfl,hp,cl,n1,?_⟩;have hp1:upd H p (.ins C dx (aJ "many" (.int n) [])) p=some (.ins C dx (aJ "many" (.int n) [])):=ag;refine⟨_,rfl,_,rfl,p,C,dx,_,rfl,hp1,cl,n2,Dw (aC _ _ _) (by show 0+1<1000;decide),?_⟩;rw[b8];have hp2:upd H p (.ins C dx (aJ "points" (.int pt) (aJ "many" (.int n) []))) p=some (.ins C dx (aJ "points" (.int pt) (aJ "many" (.int n) []))):=ag;have oth:∀b o,H b=some o->b≠p->upd H p (.ins C dx (aJ "points" (.int pt) (aJ "many" (.int n) []))) b=some o:=λb o e hb=>by rw[aw hb];exact e
 have nn:∀b,upd H p (.ins C dx (aJ "points" (.int pt) (aJ "many" (.int n) []))) b=none->b≠p/\H b=none:=λb hb=>by
  have bp:b≠p:=λe=>by rw[e,ag]at hb;cases hb
  rw[aw bp]at hb;exact⟨bp,hb⟩
 have tsU:cT H (upd H p (.ins C dx (aJ "points" (.int pt) (aJ "many" (.int n) [])))):=λb ys e=>oth b _ e (c8 e hp (by intro z;cases z));have ha1:SqL K (upd H p (.ins C dx (aJ "points" (.int pt) (aJ "many" (.int n) [])))) a xs:=by
  rcases ha with (h|⟨o,h⟩)|h
  .exact .inl (.inl (oth _ _ h (c8 h hp (by intro z;cases z))))
  .exact .inl (.inr ⟨o,oth _ _ h (c8 h hp (by intro z;cases z))⟩)
  .exact .inr h
 have hx1:=hx.ts tsU;generalize upd H p (.ins C dx (aJ "points" (.int pt) (aJ "many" (.int n) [])))=H1 at*;refine⟨_,rfl,a,rfl,⟨_,ha1⟩,?_⟩;refine yt (λx y G=>∃ (b c:Addr) (t:Nat×Nat),x= .ref b/\y= .ref c/\G b=some (.tup [.int t.1, .int t.2])/\G c=some (.tup [.int t.1, .int t.2])) (λx y G G' e h=>by obtain⟨b,c,t,e1,e2,h1,h2⟩:=h;exact⟨b,c,t,e1,e2,e _ _ h1,e _ _ h2⟩) ha1 (Du hl (by decide)) (λi v vs H' R S hv' hv sm hk=> ?_) λD H2 ys hD sm hD2 hlen hR=> ?_
 .obtain⟨v,rfl⟩:=aR hv;obtain⟨b,t,ht,rfl,hb⟩:=hx1.at hv';have hb':=sm.at hb;have t0:atI [V.int (t.1:Int),V.int (t.2:Int)] 0=some (.int t.1):=aK (j:=0) rfl;have t1:atI [V.int (t.1:Int),V.int (t.2:Int)] 1=some (.int t.2):=aK (j:=1) rfl;simp only[a8,cm,Dp];refine⟨_,rfl,b,_,_,_,rfl,rfl,SqT.of hb',t0,_,rfl,b,_,_,_,rfl,rfl,SqT.of hb',t1,by show 2<=sizeLine;decide,λq hq=> ?_⟩;exact hk _ [some (.ref b)] _ ⟨b,q,t,rfl,rfl,(Same.new hq).at hb',ag⟩ rfl (Same.new hq)
 have hy2:ck H2 ys ts:=by
  refine⟨by rw[hlen];exact hx1.1,λi t ht=> ?_⟩;obtain⟨b,h1,h2⟩:=hx1.2 i t ht;have hi:i<ys.length:=by rw[hlen];exact(DB.mp h1).1
  obtain⟨b',c,t',e1,e2,g1,g2⟩:=hR i _ _ h1 (Ds hi);cases e1;have g3:=sm.at h2;rw[g1]at g3;refine⟨c,by rw[Ds hi,e2],?_⟩;rw[g2];exact g3
 refine⟨D,ys,rfl, .inl ⟨SqL.of hD2,λt ht=> ?_⟩⟩;have hp3:=sm.at hp2;have tp:t≠p:=λe=>by rw[e,hp3]at ht;cases ht
 have t1n:H1 t=none:=by
  cases e:H1 t with
  |none=>rfl
  |some o=>rw[sm.at e]at ht;cases ht
 refine⟨_,rfl,p,C,dx,_,rfl,(by rw[aw tp.symm];exact hp3),cl,n3,?_,?_⟩
 .exact Dw (aC _ _ _) (Dw (DO (aC _ _ _)) (by show 0+1+1<1000;decide))
 have hpu:upd H2 t (.tup ys) p=some (.ins C dx (aJ "points" (.int pt) (aJ "many" (.int n) []))):=by rw[aw tp.symm];exact hp3
 refine k t ys _ (nn t t1n).2 (λb o e hb=> ?_) ag ?_ ?_
 .have e1:=sm.at (oth b o e hb);rw[aw hb,aw (au e1 ht)];exact e1
 .rw[aw tp,ag]
 .refine(hy2.ts (H':=upd H2 t (.tup ys)) (cT.new ht)).ts λb zs e=> ?_;rw[aw (c8 e hpu (by intro z;cases z))];exact e
theorem sc_Net_pieces:aB ["self","s","marks","thing"] ["self","s"] (ao s_Net_pieces):=sc_of
theorem lD(T:Tb K mg)(D:cB K "pieces" "Net.pieces" s_Net_pieces ["self","s"] f)(cl:Cls K C)(n2:aH K C "points")(n3:aH K C "ties")(ae:Cal P w K mg base 2 "things" ["s"] eG)(af:Cal P w K mg base 1 "tied" ["marks","tie"] (w6 K)):
  b7 P w K mg base 3 f ["self","s"] (AU C):=by
 refine D.fn sc_Net_pieces (λvs H Q E h=>by obtain⟨a,n,p,s,ts,rfl,_⟩:=h;rfl) λcdv A outer σs H vs Q E hr h=> ?_;obtain⟨a,n,p,s,ts,rfl,hN,hok,hp,h8,hs,k⟩:=h;refine⟨_,(ab (wset 2 sc_Net_pieces.nd (bM (gD (by rfl)) (by rfl) T.list_ E9 (aa (nC (by rfl) T.range_ (aa (wfld K (pv 0)) ah)) ah)))
   (ab (wfor (wil K (wcal ae hr (aa (pv 1) ah))) (wname 3 sc_Net_pieces.nd)
     (aq (wset 2 sc_Net_pieces.nd (wcal af hr (aa (pv 2) (aa (gu K (wfld K (pv 0)) (pv 3)) ah))))))
   (aq (aE (bW sq (by rfl) T.len_ PySem.boot_len (aa (bM (si (K:=K) (by rfl) (by rfl)) (by rfl) T.set_ PyProof.Rows.boot_set (aa (pv 2) ah)) ah)))))),?_⟩
 obtain⟨dx,t,xs,ha,ht,hx⟩:=id hN;refine⟨_,rfl,a,C,dx,_,_,rfl,ha,cl,n2,ki _ _ _,_,rfl,λr hr1=>⟨r,p,rfl,ag,hp,λm hm=> ?_⟩⟩;have sm1:Same H (upd (upd H r (.rng 0 p)) m (.lst ((Bh.start p).map V.int))):=(Same.new hr1).trans (Same.new hm);have hm1:upd (upd H r (.rng 0 p)) m (.lst ((Bh.start p).map V.int)) m=some (.lst ((Bh.start p).map V.int)):=ag;have s256:s<256:=Dq hs (DM (n:=2) (by lia) h8);show a8 _ _ _ (upd (upd H r (.rng 0 p)) m (.lst ((Bh.start p).map V.int))) _;generalize upd (upd H r (.rng 0 p)) m (.lst ((Bh.start p).map V.int))=H1 at*;refine⟨_,rfl,(s:Int),rfl,by lia,by lia,λq H2 sm2 hq hl=> ?_⟩;rw[Dk]at hl;refine⟨q,rfl,⟨_,SqL.of hl⟩,?_⟩;refine bT (K:=K) (a:=q) (xs:=(bits s).map V.int) (λi σ H'=>Same H2 H'/\∃m v,H' m=some (.lst ((pA p ts ((bits s).take i)).map V.int))/\σ=[some (.ref a),some (.int (s:Int)),some (.ref m),v]) ⟨Same.refl _,m,none,sm2.at hm1,rfl⟩ (λi σ H' _ z=>SqL.of (z.1.at hl)) ?_ ?_
 .rintro i y σ H' hi ⟨sm',m',v,hm',rfl⟩;obtain⟨z,rfl,hz⟩:=bH hi;obtain⟨z0,z1⟩:=dZ hs (Dv hz);obtain⟨j,rfl⟩:=Eu z0;rw[Dk]at z1;have smA:Same H H':=(sm1.trans sm2).trans sm';have hg:ts[j]?=some (ts.getD j (0,0)):=by simp[z1]
  obtain⟨b,hb1,hb2⟩:=(hx.ts (cT.of smA)).2 j _ hg;have hb:=hok _ (Dv hg);have hlen:=i8 p ts ((bits s).take i);refine⟨_,rfl,_,rfl,a,C,dx,_,_,rfl,smA.at ha,cl,n3,xX _ _ _,_,rfl,t,_,_,_,rfl,rfl,SqT.of (smA.at ht),aK hb1,?_⟩;refine⟨m',b,_,ts.getD j (0,0),rfl,SqL.of hm',hb2,by rw[hlen];exact hb.1,by rw[hlen];exact hb.2,by rw[hlen];exact hp,λu H3 sm3 hu hl3=> ?_⟩;refine⟨sm'.trans sm3,u,_,?_,rfl⟩;rw[hl3,EB,hz,Option.toList_some,vo,Dk]
 .rintro σ H' ⟨sm',m',v,hm',rfl⟩;rw[Di,Fg]at hm';have hlen:=i8 p ts (bits s);refine⟨_,rfl,m',_,rfl,SqL.of hm',by rw[hlen];lia,λl hl2=>⟨l,_,_,rfl,ag,?_⟩⟩;rw[hZ,hlen];exact k _ (((sm1.trans sm2).trans sm').trans (Same.new hl2))
theorem sc_Net_rank:aB ["self","s"] ["self","s"] (ao s_Net_rank):=sc_of
theorem pj(D:cB K "rank" "Net.rank" s_Net_rank ["self","s"] f)(cl:Cls K C)(n2:aH K C "points")(ae:∀C',C'=C->cn P w K mg base 3 C' "pieces" ["self","s"] (AU C')):b7 P w K mg base 4 f ["self","s"] (sU C):=by refine D.fn sc_Net_rank (λvs H Q E h=>by obtain⟨a,n,p,s,ts,rfl,_⟩:=h;rfl) λcdv A outer σs H vs Q E hr h=> ?_;obtain⟨a,n,p,s,ts,rfl,hN,hok,hp,h8,hs,k⟩:=h;refine⟨_,(aq (aE (av bJ (wfld K (pv 0)) (cY ae hr (by decide) (pv 0) (aa (pv 1) ah))))),?_⟩;obtain⟨dx,t,xs,ha,ht,hx⟩:=id hN;exact⟨_,rfl,a,C,dx,_,_,rfl,ha,cl,n2,ki _ _ _,_,rfl,a,C,dx,_,rfl,ha,rfl,rL _ _ _,_,rfl,a,n,p,s,ts,rfl,hN,hok,hp,h8,hs,λH' sm=>⟨_,_,rfl,rfl,k H' sm⟩⟩
theorem sc_rests:aB ["row","prime"] ["row","prime"] (ao s_rests):=sc_of
theorem xQ(T:Tb K mg)(D:aY K mg "rests" s_rests ["row","prime"]):Cal P w K mg base 1 "rests" ["row","prime"] (sS K):=by
 refine D.cal sc_rests (λvs H Q E h=>by obtain⟨a,r,rfl,_⟩:=h;rfl) λf cdv A outer σs H vs Q E hr h=> ?_;obtain⟨a,r,rfl,ha,hl,k⟩:=h;refine⟨_,(ab (bA (wpt bP (pv 1) ai)
     (aq (aE (bM (gp (K:=K) (by rfl)) (by rfl) T.list_ E9 (aa (pv 0) ah))))
     aN)
   (aq (aE (wlc ["number"] ["prime"] [1] (wil K (pv 0)) (wnC 0) aM (av aP (pv 0) (pv 1)))))),?_⟩
 refine⟨_,rfl,rfl,_,rfl,cL ?_⟩;refine⟨_,rfl,a,rfl,⟨_,ha⟩,?_⟩;refine bR (λx=>(λ_=>true) (bB x)) (λv=> .int ((λm:Int=>m % 2) (bB v))) ha (by rw[Di];exact Du hl (by decide)) (λi v vs H' R S hv' hv sm hk=> ?_) λD H' hD sm hl'=> ?_
 .obtain⟨v,rfl⟩:=aR hv;obtain⟨m,rfl,hm⟩:=bH hv';have q:=hk [some (.int m)] H' rfl (Same.refl _);rw[Dp rfl]at q;simp only[a8,cm,Dp];exact⟨_,rfl,_,rfl,_,_,rfl,rfl,(by show(0:Int)<2;decide),q⟩
 replace hl':=hl'.trans (Es (λl=>some (HO.lst l)) (bC (λ_=>true) (λm:Int=>m % 2) r));rw[Eo.mpr (λ_ _=>rfl)]at hl';exact k D H' sm hD hl'
theorem sc_pivot_place:aB ["rows","column","place","row"] ["rows","column"] (ao s_pivot_place):=sc_of
theorem j8(T:Tb K mg)(D:aY K mg "pivot_place" s_pivot_place ["rows","column"]):Cal P w K mg base 1 "pivot_place" ["rows","column"] (sY K):=by
 refine D.cal sc_pivot_place (λvs H Q E h=>by obtain⟨a,xs,L,c,n,rfl,_⟩:=h;rfl) λf cdv A outer σs H vs Q E hr h=> ?_;obtain⟨a,xs,L,c,n,rfl,ha,hx,hn,hc,k1,k2⟩:=h;refine⟨_,(ab (wfor (o7 (K:=K) (by rfl) (by rfl) T.enumerate_ (aa (pv 0) ah)) (cJ (K:=K) (n:=2) (by rfl) (by rfl) (aQ (wname 2 sc_pivot_place.nd) (aQ (wname 3 sc_pivot_place.nd) cx)))
     (aq (bA (wpt i6 (bb K (pv 3) (pv 1)) ai)
       (aq (aE (pv 2)))
       aN)))
   (aq (aE xA))),?_⟩
 refine⟨_,rfl,a,rfl,⟨_,ha⟩,?_⟩;refine yO (K:=K) (a:=a) (xs:=xs) (λi σ H'=>Same H H'/\(∀ (j:Nat) (r:List Int),j<i->L[j]?=some r->r.getD c 0=0)/\∃v2 v3,σ=[some (.ref a),some (.int (c:Int)),v2,v3]) ⟨Same.refl _,λj _ hj=>absurd hj (EZ _),none,none,rfl⟩ (λi σ H' _ z=>SqL.of (z.1.at ha)) ?_ ?_
 .rintro i y t σ H' hi ht ⟨sm',hz,v2,v3,rfl⟩;obtain⟨b,r,hr',rfl,hb⟩:=(hx.same sm').at hi;have smt:Same H' (upd H' t (.tup [.int (i:Int), .ref b])):=Same.new ht;have hb':=smt.at hb;have ar:atI (r.map V.int) (c:Int)=some (.int (r.getD c 0)):=du (by rw[hn r (Dv hr')];exact hc);refine⟨t,_,rfl,SqT.of ag,rfl,_,_,rfl,_,_,rfl,rfl,?_⟩;refine⟨_,rfl,_,rfl,b,_,_,_,rfl,rfl,SqL.of hb',ar,rfl,_,rfl,?_⟩;by_cases h0:r.getD c 0=0
  .rw[h0];refine cL ⟨sm'.trans smt,λj r' hj hr2=> ?_,_,_,rfl⟩;by_cases e:j=i
   .subst e;rw[hr']at hr2;cases hr2;exact h0
   .exact hz j r' (by lia) hr2
  .rw[Dy λe=>h0 (V.int.inj e)];exact yG ⟨_,rfl,k1 i r _ (sm'.trans smt) hr' h0⟩
 .rintro σ H' ⟨sm',hz,v2,v3,rfl⟩;refine k2 (λr hr'=> ?_) H' sm';obtain⟨j,hj⟩:=Fm hr';exact hz j r (by rw[hx.1];exact(DB.mp hj).1) hj
theorem sc_cleared:aB ["row","pivot","column","divisor","ahead","behind"] ["row","pivot","column","divisor"] (ao s_cleared):=sc_of
theorem rH(T:Tb K mg)(D:aY K mg "cleared" s_cleared ["row","pivot","column","divisor"]):Cal P w K mg base 1 "cleared" ["row","pivot","column","divisor"] (lV K):=by
 refine D.cal sc_cleared (λvs H Q E h=>by obtain⟨a,b,r,pr,c,n,rfl,_⟩:=h;rfl) λf cdv A outer σs H vs Q E hr h=> ?_;obtain⟨a,b,r,pr,c,n,rfl,ha,hb,hr1,hp1,hc,hn,k⟩:=h;refine⟨_,(ab (wset 4 sc_cleared.nd (bb K (pv 1) (pv 2)))
   (ab (wset 5 sc_cleared.nd (bb K (pv 0) (pv 2)))
   (aq (aE (wlc ["number","above"] ["divisor","ahead","behind"] [3,4,5] (Ae (K:=K) (by rfl) (by rfl) T.zip_ (aa (pv 0) (aa (pv 1) ah))) (cJ (K:=K) (n:=2) (by rfl) (by rfl) (aQ (wnC 0) (aQ (wnC 1) cx))) aM (av cf (av bJ (av da (pv 0) (pv 3)) (av da (pv 1) (pv 4))) (pv 2))))))),?_⟩
 have rc:=hr1.at hc;have pc:=hp1.at hc;have ar:atI (r.map V.int) (c:Int)=some (.int (r.getD c 0)):=du (by rw[hr1.1];exact hc);have ap:atI (pr.map V.int) (c:Int)=some (.int (pr.getD c 0)):=du (by rw[hp1.1];exact hc);refine⟨_,rfl,_,rfl,b,_,_,_,rfl,rfl,hb,ap,?_⟩;refine⟨_,rfl,_,rfl,a,_,_,_,rfl,rfl,ha,ar,?_⟩;refine⟨_,rfl,_,rfl,a,b,rfl,⟨_,ha⟩,⟨_,hb⟩,?_⟩;refine AB (n:=n) (λj=> .int ((r.getD j 0*pr.getD c 0-pr.getD j 0*r.getD c 0) /1)) ha hb (by rw[Di];exact hr1.1) (by rw[Di];exact hp1.1) (Du hn (by decide)) (λi x y vs H' t R S hx hy hv sm ht hk=> ?_) λD H' hD sm hl'=> ?_
 .obtain⟨v1,v2,rfl⟩:=jH hv;obtain⟨z1,rfl,h1⟩:=bH hx;obtain⟨z2,rfl,h2⟩:=bH hy;have hi:i<n:=by rw[<-hr1.1];exact(DB.mp h1).1
  have e1:r.getD i 0=z1:=by rw[Ee,h1];rfl
  have e2:pr.getD i 0=z2:=by rw[Ee,h2];rfl
  have b1:=hr1.at hi;have b2:=hp1.at hi;rw[e1]at b1;rw[e2]at b2;have q:=hk [some (.int z1),some (.int z2)] (upd H' t (.tup [.int z1, .int z2])) rfl (Same.refl _);rw[e1,e2]at q;refine⟨t,_,rfl,SqT.of ag,rfl,_,_,rfl,_,_,rfl,rfl,?_⟩;simp only[cm,Dp];refine⟨_,rfl,_,rfl,_,_,rfl,rfl, .inl ?_,_,rfl,_,rfl,_,_,rfl,rfl, .inl ?_,_,_,rfl,rfl,_,rfl,_,_,rfl,rfl,⟨by show(0:Int)<1;decide,by show(1:Int)<1073741824;decide⟩,q⟩
  .rcases b1 with e|e<;>rw[e]<;>exact⟨by decide,by decide⟩
  .rcases b2 with e|e<;>rw[e]<;>exact⟨by decide,by decide⟩
 .refine k D H' sm hD (hl'.trans ?_);unfold clr;rw[hr1.1,Ez];rfl
theorem sc_all_cleared:aB ["rows","place","column","divisor","pivot","others"] ["rows","place","column","divisor"] (ao s_all_cleared):=sc_of
theorem j9(T:Tb K mg)(D:aY K mg "all_cleared" s_all_cleared ["rows","place","column","divisor"])(ae:Cal P w K mg base 1 "cleared" ["row","pivot","column","divisor"] (lV K)):Cal P w K mg base 2 "all_cleared" ["rows","place","column","divisor"] (tO K):=by
 refine D.cal sc_all_cleared (λvs H Q E h=>by obtain⟨a,xs,L,i,c,n,pr,rfl,_⟩:=h;rfl) λf cdv A outer σs H vs Q E hr h=> ?_;obtain⟨a,xs,L,i,c,n,pr,rfl,ha,hx,hbin,hL,hi,hc,hn,k⟩:=h;refine⟨_,(ab (wset 4 sc_all_cleared.nd (bb K (pv 0) (pv 1)))
   (ab (wset 5 sc_all_cleared.nd (av iE (dR (dP (K:=K) (by rfl)) (pv 0) cW (bV (pv 1))) (dR (dP (K:=K) (by rfl)) (pv 0) (bV (av bh (pv 1) ai)) cW)))
   (aq (aE (wlc ["row"] ["pivot","column","divisor"] [4,2,3] (wil K (pv 5)) (wnC 0) aM (wcal ae hr (aa (pv 0) (aa (pv 1) (aa (pv 2) (aa (pv 3) ah)))))))))),?_⟩
 obtain⟨b,hb1,hb2⟩:=hx.2 i pr hi;refine⟨_,rfl,_,rfl,a,_,_,_,rfl,rfl,SqL.of ha,aK hb1,?_⟩;refine⟨_,rfl,_,rfl,_,rfl,a,_,rfl,SqL.of ha,λp1 hp1=> ?_⟩;rw[n6];have sm1:Same H (upd H p1 (.lst (xs.take i))):=Same.new hp1;have h1:upd H p1 (.lst (xs.take i)) p1=some (.lst (xs.take i)):=ag;generalize upd H p1 (.lst (xs.take i))=H1 at*;refine⟨_,rfl,_,rfl,_,_,rfl,rfl,_,rfl,a,_,rfl,SqL.of (sm1.at ha),λp2 hp2=> ?_⟩;rw[show(i:Int)+1=((i+1:Nat):Int)from rfl,mC];have sm2:Same H1 (upd H1 p2 (.lst (xs.drop (i+1)))):=Same.new hp2;have h2:upd H1 p2 (.lst (xs.drop (i+1))) p2=some (.lst (xs.drop (i+1))):=ag;generalize upd H1 p2 (.lst (xs.drop (i+1)))=H2 at*;have hxl:=hx.1;refine⟨p1,p2,_,_,rfl,rfl,sm2.at h1,h2,?_,λq hq=> ?_⟩
 .rw[Em,Ff];exact Du (sd i xs.length) (Du (show xs.length<=1000 by lia) (by decide))
 have sm3:Same H2 (upd H2 q (.lst (xs.take i++xs.drop (i+1)))):=Same.new hq;have h3:upd H2 q (.lst (xs.take i++xs.drop (i+1))) q=some (.lst (xs.take i++xs.drop (i+1))):=ag;generalize upd H2 q (.lst (xs.take i++xs.drop (i+1)))=H3 at*;have smA:Same H H3:=(sm1.trans sm2).trans sm3;have hb3:=smA.at hb2;have hx3:bq H3 (xs.take i++xs.drop (i+1)) (L.take i++L.drop (i+1)):=(hx.same smA).cut i;have lenO:(xs.take i++xs.drop (i+1)).length<=1000:=by rw[DK,Em,Ff];exact Du (sd i xs.length) (by lia)
 have binO:∀r∈L.take i++L.drop (i+1),Bin n r:=λr hr'=>by
  rcases DW.mp hr' with h|h
  .exact hbin r (FG h)
  .exact hbin r (Gx h)
 generalize xs.take i++xs.drop (i+1)=zs at*;generalize L.take i++L.drop (i+1)=N at*;refine⟨_,rfl,q,rfl,⟨_,SqL.of h3⟩,?_⟩;refine eQ (λx y G=>∃ (b' c':Addr) (r:List Int),x= .ref b'/\y= .ref c'/\H3 b'=some (.lst (r.map V.int))/\G c'=some (.lst ((clr pr r c).map V.int))) (λx y G G' e h=>by obtain⟨b',c',r,e1,e2,g1,g2⟩:=h;exact⟨b',c',r,e1,e2,g1,e.at g2⟩) (SqL.of h3) (Du lenO (by decide)) (λj x vs D H' R S hxj hv sm hD hk=> ?_) λD H' ys hD sm hD' hlen hR=> ?_
 .obtain⟨v,rfl⟩:=aR hv;obtain⟨b',r,hr',rfl,hb'⟩:=hx3.at hxj;obtain⟨l,hl⟩:=hD;simp only[a8,cm,Dp];refine⟨_,rfl,_,rfl,_,rfl,_,rfl,b',b,r,pr,c,n,rfl,SqL.of (sm.at hb'),SqL.of (sm.at hb3),binO r (Dv hr'),hbin pr (Dv hi),hc,hn,λu H4 sm4 hu hl4=> ?_⟩;refine hk _ [some (.ref b')] H4 ⟨b',u,r,rfl,rfl,hb',?_⟩ rfl sm4;rw[cg (au hl hu).symm];exact hl4
 .refine k D H' ys (smA.trans sm) ?_ hD' ?_
  .cases e:H D with
   |none=>rfl
   |some o=>rw[smA.at e]at hD;cases hD
  .refine bq.of (by rw[hlen,Di];exact hx3.1) λj r' y hr' hy=> ?_;rw[Dm]at hr';cases hN:N[j]? with
   |none=>rw[hN]at hr';cases hr'
   |some r=>
    rw[hN]at hr';cases hr';obtain⟨b',h1,h2⟩:=hx3.2 j r hN;obtain⟨b2,c2,r2,e1,e2,g1,g2⟩:=hR j _ y h1 hy;cases e1;rw[jv h2 g1];exact⟨c2,e2,cy.at g2⟩
theorem sc_rank_of:aB ["rows","prime","left","rank","divisor","column","place","ahead"] ["rows","prime"] (ao s_rank_of):=sc_of
theorem rG(T:Tb K mg)(D:aY K mg "rank_of" s_rank_of ["rows","prime"])(ak:Cal P w K mg base 1 "rests" ["row","prime"] (sS K))(ae:Cal P w K mg base 1 "pivot_place" ["rows","column"] (sY K))(af:Cal P w K mg base 2 "all_cleared" ["rows","place","column","divisor"] (tO K)):
  Cal P w K mg base 3 "rank_of" ["rows","prime"] (oK K):=by
 refine D.cal sc_rank_of (λvs H Q E h=>by obtain⟨a,xs,M,cols,rfl,_⟩:=h;rfl) λf cdv A outer σs H vs Q E hr h=> ?_;obtain⟨a,xs,M,cols,rfl,ha,hx,h0,hM,hcl,hrl,hrows,hcol,k⟩:=h;refine⟨_,(ab (bA (wpt bP (wlen K T.len_ (pv 0)) ai)
     (aq (aE ai))
     aN)
   (ab (wls 2 sc_rank_of.nd ["row"] ["prime"] [1] (wil K (pv 0)) (wnC 0) aM (wcal ak hr (aa (pv 0) (aa (pv 1) ah))))
   (ab (wset 3 sc_rank_of.nd ai)
   (ab (wset 4 sc_rank_of.nd ai)
   (ab (wfor (wrng T.range_ (wlen K T.len_ (bb K (pv 0) ai))) (wname 5 sc_rank_of.nd)
     (ab (wset 6 sc_rank_of.nd (wcal ae hr (aa (pv 2) (aa (pv 5) ah))))
     (aq (bA (wpt Ao (pv 6) xA)
       (ab (wset 7 sc_rank_of.nd (bb K (bb K (pv 2) (pv 6)) (pv 5)))
       (ab (wls 2 sc_rank_of.nd ["row"] ["prime"] [1] (wil K (wcal af hr (aa (pv 2) (aa (pv 6) (aa (pv 5) (aa (pv 4) ah)))))) (wnC 0) aM (wcal ak hr (aa (pv 0) (aa (pv 1) ah))))
       (ab (wset 3 sc_rank_of.nd (av bh (pv 3) ai))
       (aq (bA (wpt bP (pv 1) ai)
         (aq (wset 4 sc_rank_of.nd (pv 7)))
         aN)))))
       aN))))
   (aq (aE (pv 3)))))))),?_⟩
 have hxl:=hx.1;refine⟨_,rfl,a,_,rfl, .inl (SqL.of ha),rfl,_,rfl,?_⟩;rw[Dy (by
  intro e;have:=V.int.inj e;lia)]
 refine cL ?_;refine⟨_,rfl,a,rfl,⟨_,SqL.of ha⟩,?_⟩;refine eQ (λx y G=>∃ (b' c':Addr) (r:List Int),x= .ref b'/\y= .ref c'/\H b'=some (.lst (r.map V.int))/\G c'=some (.lst ((m2 r).map V.int))) (λx y G G' e h=>by obtain⟨b',c',r,e1,e2,g1,g2⟩:=h;exact⟨b',c',r,e1,e2,g1,e.at g2⟩) (SqL.of ha) (Du (show xs.length<=100 by lia) (by decide)) (λj x vs D H' R S hxj hv sm hD hk=> ?_) λq H1 ys hq sm1 hq1 hlen hR=> ?_
 .obtain⟨v,rfl⟩:=aR hv;obtain⟨b',r,hr',rfl,hb'⟩:=hx.at hxj;obtain⟨l,hl⟩:=hD;simp only[a8,cm,Dp];refine⟨_,rfl,_,rfl,b',r,rfl,SqL.of (sm.at hb'),?_,λu H4 sm4 hu hl4=> ?_⟩
  .rw[hrl r (Dv hr')];lia
  refine hk _ [some (.ref b')] H4 ⟨b',u,r,rfl,rfl,hb',?_⟩ rfl sm4;rw[cg (au hl hu).symm];exact hl4
 have hy1:bq H1 ys (M.map m2):=by
  refine bq.of (by rw[hlen,Di];exact hxl) λj r' y hr' hy=> ?_;rw[Dm]at hr';cases hN:M[j]? with
  |none=>rw[hN]at hr';cases hr'
  |some r=>
   rw[hN]at hr';cases hr';obtain⟨b',h1,h2⟩:=hx.2 j r hN;obtain⟨b2,c2,r2,e1,e2,g1,g2⟩:=hR j _ y h1 hy;cases e1;rw[jv h2 g1];exact⟨c2,e2,cy.at g2⟩
 clear hR;have bin0:∀r∈M.map m2,Bin cols.length r:=λr hr'=>by obtain⟨r0,hr0,rfl⟩:=DL.mp hr';rw[<-hrl r0 hr0];exact rV r0
 have el0:=El.start cols.length (M.map m2);have yq:(M.map m2).length<=100:=by rw[Di];exact hM
 obtain⟨b0,hb01,hb02⟩:=hx.2 0 M[0] (Ds h0);have l0:(M[0]).length=cols.length:=hrl _ (E7 h0);refine⟨_,rfl,a,_,_,_,rfl,rfl,SqL.of (sm1.at ha),aK (j:=0) hb01,b0,_,rfl, .inl (SqL.of (sm1.at hb02)),_,rfl,by lia,?_,?_⟩
 .rw[Di,l0];exact Int.lt_of_le_of_lt (show(cols.length:Int)<=100 by lia) (by decide)
 rw[Di,l0,Dk];generalize hMM:M.map m2=M2 at*;refine cz (n:=cols.length) (λc σ H'=>Same H H'/\∃ (q:Addr) (ys:List V) (L:List (List Int)) (v5 v6 v7:Option V),H' q=some (.lst ys)/\bq H' ys L/\(∀r∈L,Bin cols.length r)/\L.length<=100/\El cols.length M2 L c/\
  σ=[some (.ref a),some (.int 2),some (.ref q),some (.int ((rkX (cols.take c):Nat):Int)),some (.int 1),v5,v6,v7]) ⟨sm1,q,ys,M2,none,none,none,hq1,hy1,bin0,yq,el0,rfl⟩ ?_ ?_
 .rintro c σ H' hc ⟨sm',q',ys',L,v5,v6,v7,hq',hy',bin',len',el',rfl⟩;rw[EA];have etake:cols.take (c+1)=cols.take c++[cols.getD c 0]:=by rw[EB];simp[hc]
  have iff:=el'.iff hrows hcol hc;refine⟨_,rfl,_,rfl,q',ys',L,c,cols.length,rfl,hq',hy',λr hr'=>(bin' r hr').1,hc,λi pr H2 sm2 hi hne=> ?_,λhall H2 sm2=> ?_⟩
  .have pc:pr.getD c 0=1:=((bin' pr (Dv hi)).at hc).resolve_left hne;have hq2:=sm2.at hq';have hy2:=hy'.same sm2;refine⟨_,rfl,rfl,_,rfl,yG ?_⟩;obtain⟨b,hb1,hb2⟩:=hy2.2 i pr hi;have ar:atI (pr.map V.int) (c:Int)=some (.int (pr.getD c 0)):=du (by rw[(bin' pr (Dv hi)).1];exact hc);refine⟨_,rfl,_,rfl,q',_,_,_,rfl,rfl,SqL.of hq2,aK hb1,_,rfl,b,_,_,_,rfl,rfl,SqL.of hb2,ar,?_⟩;refine⟨_,rfl,_,rfl,_,rfl,_,rfl,q',ys',L,i,c,cols.length,pr,rfl,hq2,hy2,bin',by lia,hi,hc,by lia,λu H3 zs sm3 hu hu3 hz3=>⟨u,rfl,⟨_,SqL.of hu3⟩,?_⟩⟩;have lenN:(L.take i++L.drop (i+1)).length<=100:=by rw[DK,Em,Ff];exact Du (sd i L.length) len'
   have hzl:=hz3.1;rw[Di]at hzl;have clrlen:∀r'∈(L.take i++L.drop (i+1)).map (λr=>clr pr r c),r'.length=cols.length:=λr' hr'=>by
    obtain⟨r,hrm,rfl⟩:=DL.mp hr';unfold clr;rw[Di,DU];rcases DW.mp hrm with h|h
    .exact(bin' r (FG h)).1
    .exact(bin' r (Gx h)).1
   refine eQ (λx y G=>∃ (b' c':Addr) (r:List Int),x= .ref b'/\y= .ref c'/\H3 b'=some (.lst (r.map V.int))/\G c'=some (.lst ((m2 r).map V.int))) (λx y G G' e h=>by obtain⟨b',c',r,e1,e2,g1,g2⟩:=h;exact⟨b',c',r,e1,e2,g1,e.at g2⟩) (SqL.of hu3) (Du (show zs.length<=100 by lia) (by decide)) (λj x vs D H' R S hxj hv sm hD hk=> ?_) λq5 H5 ws hq5 sm5 hq6 hlen5 hR=> ?_
   .obtain⟨v,rfl⟩:=aR hv;obtain⟨b',r,hr',rfl,hb'⟩:=hz3.at hxj;obtain⟨l,hl⟩:=hD;simp only[a8,cm,Dp];refine⟨_,rfl,_,rfl,b',r,rfl,SqL.of (sm.at hb'),?_,λu H4 sm4 hu hl4=> ?_⟩
    .rw[clrlen r (Dv hr')];lia
    refine hk _ [some (.ref b')] H4 ⟨b',u,r,rfl,rfl,hb',?_⟩ rfl sm4;rw[cg (au hl hu).symm];exact hl4
   have hy5:bq H5 ws (((L.take i++L.drop (i+1)).map (λr=>clr pr r c)).map m2):=by
    refine bq.of (by rw[hlen5,Di];exact hz3.1) λj r' y hr' hy=> ?_;rw[Dm]at hr';cases hN:((L.take i++L.drop (i+1)).map (λr=>clr pr r c))[j]? with
    |none=>rw[hN]at hr';cases hr'
    |some r=>
     rw[hN]at hr';cases hr';obtain⟨b',h1,h2⟩:=hz3.2 j r hN;obtain⟨b2,c2,r2,e1,e2,g1,g2⟩:=hR j _ y h1 hy;cases e1;rw[jv h2 g1];exact⟨c2,e2,cy.at g2⟩
   have bin5:∀r∈((L.take i++L.drop (i+1)).map (λr=>clr pr r c)).map m2,Bin cols.length r:=λr hr'=>by obtain⟨r0,hr0,rfl⟩:=DL.mp hr';rw[<-clrlen r0 hr0];exact rV r0
   have isclr:∀r∈L,Clr cols.length pr r (m2 (clr pr r c)) c:=λr hrm=>B3 (bin' pr (Dv hi)) (bin' r hrm) hc pc;have el5:El cols.length M2 (((L.take i++L.drop (i+1)).map (λr=>clr pr r c)).map m2) (c+1):=by
    refine el'.pivot hc (Dv hi) pc (λr' hr'=> ?_) λr hrm=> ?_
    .obtain⟨r1,hr1,rfl⟩:=DL.mp hr';obtain⟨r,hrm,rfl⟩:=DL.mp hr1;have:r∈L:=by
      rcases DW.mp hrm with h|h
      .exact FG h
      .exact Gx h
     exact⟨r,this,isclr r this⟩
    .obtain⟨j,hj⟩:=Fm hrm;by_cases e:j=i
     .subst e;rw[hi]at hj;cases hj;exact .inl rfl
     .refine .inr ⟨m2 (clr pr r c),DL.mpr ⟨_,DL.mpr ⟨r,?_,rfl⟩,rfl⟩,isclr r hrm⟩;by_cases hji:j<i
      .exact Ep _ (Dv (i:=j) (by rw[Ga hji];exact hj))
      .refine D7 _ (Dv (i:=j- (i+1)) ?_);rw[HF,Nat.add_sub_cancel' (show i+1<=j by lia)];exact hj
   refine⟨_,rfl,_,_,rfl,rfl,?_⟩;refine⟨_,rfl,rfl,_,rfl,cL ?_⟩;refine⟨((sm'.trans sm2).trans sm3).trans sm5,q5,ws,_,some (.int (c:Int)),some (.int (i:Int)),some (.int (pr.getD c 0)),hq6,hy5,bin5,?_,el5,?_⟩
   .rw[Di,Di];exact lenN
   rw[etake,e6 λhin=>(iff.mpr hin) pr (Dv hi) pc];rfl
  .have hall1:∀r∈L,¬r.getD c 0=1:=λr hr' e=>by rw[hall r hr']at e;cases e
   refine⟨_,rfl,rfl,_,rfl,cL ⟨sm'.trans sm2,q',ys',L,some (.int (c:Int)),some .non,v7,sm2.at hq',hy'.same sm2,bin',len',el'.skip hc hall1,?_⟩⟩;rw[etake,iy (iff.mp hall1)];rfl
 .rintro σ H' ⟨sm',q',ys',L,v5,v6,v7,hq',hy',bin',len',el',rfl⟩;rw[Fg];exact⟨_,rfl,k H' sm'⟩
theorem sc_Tabled___init__:aB ["self","n","prime","rows"] ["self","n","prime","rows"] (ao s_Tabled___init__):=sc_of
theorem gz(T:Tb K mg)(D:cB K "__init__" "Tabled.__init__" s_Tabled___init__ ["self","n","prime","rows"] f)(ak:mg "House"=some (.ref af))(cl:Cls K C)(n1:aH K C "many")(n2:aH K C "prime")(n3:aH K C "rows")
  (ae:qQ P w K mg base 1 af "__init__" ["self","n"] (dC K)):b7 P w K mg base 2 f ["self","n","prime","rows"] (tj K C):=by
 refine D.fn sc_Tabled___init__ (λvs H Q E h=>by obtain⟨p,dx,a,n,xs,M,rfl,_⟩:=h;rfl) λcdv A outer σs H vs Q E hr h=> ?_;obtain⟨p,dx,a,n,xs,M,rfl,hp,ha,hx,hl,k⟩:=h;refine⟨_,(ab (bU (fb ae hr (by decide) (e9 (v:= .ref af) (by rfl) ak rfl) (aa (pv 0) (aa (pv 1) ah))))
   (ab (wsf K (pv 0) (pv 2))
   (aq (wsf K (pv 0) (bM (c5 (K:=K) (by rfl)) (by rfl) T.tuple_ Fq (aa (wlc ["row"] [] [] (wil K (pv 3)) (wnC 0) aM (bM (c5 (K:=K) (by rfl)) (by rfl) T.tuple_ Fq (aa (pv 0) ah))) ah)))))),?_⟩
 refine⟨rfl,_,rfl,_,rfl,p,C,dx,_,rfl,hp,cl,n1,?_⟩;have hp1:upd H p (.ins C dx (aJ "many" (.int n) [])) p=some (.ins C dx (aJ "many" (.int n) [])):=ag;refine⟨_,rfl,_,rfl,p,C,dx,_,rfl,hp1,cl,n2,Dw (aC _ _ _) (by show 0+1<1000;decide),?_⟩;rw[b8];have hp2:upd H p (.ins C dx (aJ "prime" (.int 2) (aJ "many" (.int n) []))) p=some (.ins C dx (aJ "prime" (.int 2) (aJ "many" (.int n) []))):=ag;have oth:∀b o,H b=some o->b≠p->upd H p (.ins C dx (aJ "prime" (.int 2) (aJ "many" (.int n) []))) b=some o:=λb o e hb=>by rw[aw hb];exact e
 have nn:∀b,upd H p (.ins C dx (aJ "prime" (.int 2) (aJ "many" (.int n) []))) b=none->b≠p/\H b=none:=λb hb=>by
  have bp:b≠p:=λe=>by rw[e,ag]at hb;cases hb
  rw[aw bp]at hb;exact⟨bp,hb⟩
 have ha1:=oth _ _ ha (c8 ha hp (by intro z;cases z));have hx1:bq (upd H p (.ins C dx (aJ "prime" (.int 2) (aJ "many" (.int n) [])))) xs M:=⟨hx.1,λi r hr'=>by obtain⟨b,h1,h2⟩:=hx.2 i r hr';exact⟨b,h1,oth _ _ h2 (c8 h2 hp (by intro z;cases z))⟩⟩
 generalize upd H p (.ins C dx (aJ "prime" (.int 2) (aJ "many" (.int n) [])))=H1 at*;refine⟨_,rfl,a,rfl,⟨_,SqL.of ha1⟩,?_⟩;refine eQ (λx y G=>∃ (b c:Addr) (r:List Int),x= .ref b/\y= .ref c/\H1 b=some (.lst (r.map V.int))/\G c=some (.tup (r.map V.int))) (λx y G G' e h=>by obtain⟨b,c,r,e1,e2,h1,h2⟩:=h;exact⟨b,c,r,e1,e2,h1,e.at h2⟩) (SqL.of ha1) (Du hl (by decide)) (λi v vs D H' R S hv' hv sm hD hk=> ?_) λD H2 ys hD sm hD2 hlen hR=> ?_
 .obtain⟨v,rfl⟩:=aR hv;obtain⟨b,r,hr',rfl,hb⟩:=hx1.at hv';obtain⟨l,hl'⟩:=hD;simp only[a8,cm,Dp];refine⟨_,rfl,b,_,rfl, .inl ⟨SqL.of (sm.at hb),λq hq=> ?_⟩⟩;refine hk _ [some (.ref b)] _ ⟨b,q,r,rfl,rfl,hb,?_⟩ rfl (Same.new hq);rw[cg (au hl' hq).symm,ag]
 have hy2:fQ H2 ys M:=by
  refine⟨by rw[hlen];exact hx1.1,λi r hr'=> ?_⟩;obtain⟨b,h1,h2⟩:=hx1.2 i r hr';have hi:i<ys.length:=by rw[hlen];exact(DB.mp h1).1
  obtain⟨b',c,r',e1,e2,g1,g2⟩:=hR i _ _ h1 (Ds hi);cases e1;rw[jv h2 g1];exact⟨c,by rw[Ds hi,e2],cy.at g2⟩
 refine⟨D,ys,rfl, .inl ⟨SqL.of hD2,λt ht=> ?_⟩⟩;have hp3:=sm.at hp2;have tp:t≠p:=λe=>by rw[e,hp3]at ht;cases ht
 have t1n:H1 t=none:=by
  cases e:H1 t with
  |none=>rfl
  |some o=>rw[sm.at e]at ht;cases ht
 refine⟨_,rfl,p,C,dx,_,rfl,(by rw[aw tp.symm];exact hp3),cl,n3,?_,?_⟩
 .exact Dw (aC _ _ _) (Dw (DO (aC _ _ _)) (by show 0+1+1<1000;decide))
 have hpu:upd H2 t (.tup ys) p=some (.ins C dx (aJ "prime" (.int 2) (aJ "many" (.int n) []))):=by rw[aw tp.symm];exact hp3
 refine k t ys _ (nn t t1n).2 (λb o e hb=> ?_) ag ?_ ?_
 .have e1:=sm.at (oth b o e hb);rw[aw hb,aw (au e1 ht)];exact e1
 .rw[aw tp,ag]
 .refine(hy2.ts (H':=upd H2 t (.tup ys)) (cT.new ht)).ts λb zs e=> ?_;rw[aw (c8 e hpu (by intro z;cases z))];exact e
theorem sc_Tabled_rank:aB ["self","s","some"] ["self","s"] (ao s_Tabled_rank):=sc_of
theorem kg(T:Tb K mg)(D:cB K "rank" "Tabled.rank" s_Tabled_rank ["self","s"] f)(cl:Cls K C)(n2:aH K C "prime")(n3:aH K C "rows")(af:Cal P w K mg base 2 "things" ["s"] eG)(ae:Cal P w K mg base 3 "rank_of" ["rows","prime"] (oK K)):b7 P w K mg base 4 f ["self","s"] (sT C):=by
 refine D.fn sc_Tabled_rank (λvs H Q E h=>by obtain⟨a,n,s,M,cols,rfl,_⟩:=h;rfl) λcdv A outer σs H vs Q E hr h=> ?_;obtain⟨a,n,s,M,cols,rfl,hT,hok,hs,k⟩:=h;refine⟨_,(ab (wset 2 sc_Tabled_rank.nd (wcal af hr (aa (pv 1) ah)))
   (aq (aE (wcal ae hr (aa (wlc ["row"] ["some"] [2] (wit K (wfld K (pv 0))) (wnC 0) aM (wlc ["thing"] ["row"] [0] (wil K (pv 1)) (wnC 0) aM (gu K (pv 1) (pv 0)))) (aa (wfld K (pv 0)) ah)))))),?_⟩
 obtain⟨dx,t,xs,ha,ht,hx⟩:=id hT;have s256:s<256:=Dq hs (DM (n:=2) (by lia) hok.n8);refine⟨_,rfl,(s:Int),rfl,by lia,by lia,λq H1 sm1 hq hl1=> ?_⟩;rw[Dk]at hl1;have ht1:=sm1.at ht;have ha1:=sm1.at ha;have hx1:=hx.ts (cT.of sm1);have hxl:=hx.1;have hfew:=hok.few;refine⟨_,rfl,a,C,dx,_,_,rfl,ha1,cl,n3,wK _ _ _,t,rfl,⟨_,SqT.of ht1⟩,?_⟩;refine AD (λx y G=>∃ (b c:Addr) (r:List Int),x= .ref b/\y= .ref c/\H1 b=some (.tup (r.map V.int))/\r∈M/\G c=some (.lst ((pick s r).map V.int))) (λx y G G' e h=>by obtain⟨b,c,r,e1,e2,h1,h3,h2⟩:=h;exact⟨b,c,r,e1,e2,h1,h3,e.at h2⟩) ht1 (Du (show xs.length<=100 by lia) (by decide)) (λi v vs D H' R S hv' hv sm hD hk=> ?_) λu H2 ys hu sm2 hu2 hlen hR=> ?_
 .obtain⟨v,rfl⟩:=aR hv;obtain⟨b,r,hr',rfl,hb⟩:=hx1.at hv';obtain⟨l,hl'⟩:=hD;simp only[a8,cm,Dp];have hq':=sm.at hl1;have hb':=sm.at hb;refine⟨_,rfl,q,rfl,⟨_,SqL.of hq'⟩,?_⟩;refine bR (λx=>(λ_=>true) (bB x)) (λx=> .int ((λz:Int=>r.getD z.toNat 0) (bB x))) (SqL.of hq') (by rw[Di];exact Du (dt s) (by decide)) (λj x ws H3 R' S' hxj hw sm3 hk'=> ?_) λD2 H3 hD2 sm3 hl3=> ?_
  .obtain⟨w',rfl⟩:=aR hw;obtain⟨z,rfl,hz⟩:=bH hxj;obtain⟨z0,z1⟩:=dZ hs (Dv hz);have q':=hk' [some (.int z)] H3 rfl (Same.refl _);rw[Dp rfl]at q';have az:atI (r.map V.int) z=some (.int (r.getD z.toNat 0)):=by
    have:=du (l:=r) (j:=z.toNat) (by rw[hok.rows r (Dv hr')];exact z1)
    rwa [Int.toNat_of_nonneg z0]at this
   simp only[a8,cm,Dp];exact⟨_,rfl,_,rfl,b,_,_,_,rfl,rfl,SqT.of (sm3.at hb'),az,q'⟩
  .replace hl3:=hl3.trans (Es (λl=>some (HO.lst l)) (bC (λ_=>true) (λz:Int=>r.getD z.toNat 0) (bits s)));rw[Eo.mpr (λ_ _=>rfl)]at hl3;refine hk _ [some (.ref b)] H3 ⟨b,D2,r,rfl,rfl,hb,Dv hr',?_⟩ rfl sm3;rw[cg (au hl' hD2).symm];exact hl3
 have hy2:bq H2 ys (M.map (pick s)):=by
  refine bq.of (by rw[hlen,Di];exact hxl) λj r' y hr' hy=> ?_;rw[Dm]at hr';cases hN:M[j]? with
  |none=>rw[hN]at hr';cases hr'
  |some r=>
   rw[hN]at hr';cases hr';obtain⟨b,h1,h2⟩:=hx1.2 j r hN;obtain⟨b2,c2,r2,e1,e2,g1,_,g2⟩:=hR j _ y h1 hy;cases e1;rw[zG h2 g1];exact⟨c2,e2,cy.at g2⟩
 have hpk:=Ad hok hs;refine⟨_,rfl,a,C,dx,_,_,rfl,sm2.at ha1,cl,n2,uK _ _ _,u,ys,M.map (pick s),bc cols s,rfl,hu2,hy2,by rw[Di];exact hok.pos,by rw[Di];exact hfew,hpk.2.2.2,hpk.1,hpk.2.1,hpk.2.2.1,λH3 sm3=> ?_⟩;exact k H3 ((sm1.trans sm2).trans sm3)
theorem sc_Other___init__:aB ["self","house"] ["self","house"] (ao s_Other___init__):=sc_of
theorem gS{Z:Hs}{g:Gs}(D:cB K "__init__" "Other.__init__" s_Other___init__ ["self","house"] f)(ar:mg "House"=some (.ref ae))(cl:Cls K g.o)(n1:aH K g.o "many")(n2:aH K g.o "house")(n3:aH K g.o "full")(n4:aH K g.o "full_rank")
  (z:d5 Z) (hc:∀C,Z.dom C->HC K ae C) (hj:2<=j) (af:qQ P w K mg base 1 ae "__init__" ["self","n"] (dC K)) (ak:∀C,Z.dom C->cn P w K mg base 2 C "everything" ["self"] (cV K)) (ax:∀C,Z.dom C->cn P w K mg base j C "rank" ["self","s"] (fF Z C)):
  b7 P w K mg base (j+1) f ["self","house"] (oP Z g):=by
 refine D.fn sc_Other___init__ (λvs H Q E h=>by obtain⟨p,dx,h,n,r,rfl,_⟩:=h;rfl) λcdv A outer σs H vs Q E hr h=> ?_;obtain⟨p,dx,h,n,r,rfl,hp,hX,n8,k⟩:=h;refine⟨_,(ab (bU (fb af hr (by lia) (e9 (v:= .ref ae) (by rfl) ar rfl) (aa (pv 0) (aa (wfld K (pv 1)) ah))))
   (ab (wsf K (pv 0) (pv 1))
   (ab (wsf K (pv 0) (dU ak hr (by lia) (pv 1)))
   (aq (wsf K (pv 0) (cY ax hr (by lia) (pv 1) (aa (wfld K (pv 0)) ah))))))),?_⟩
 obtain⟨C,dm,hsh⟩:=z.shown hX;have hhp:h≠p:=gJ hsh;obtain⟨dxh,fs,hh0,fr0,fe0,fm0⟩:=hsh.ex;have hh:H h=some (.ins C dxh fs):=(cg (H:=H) hhp).symm.trans hh0;obtain⟨clC,nMC,tyC,isC⟩:=hc C dm;have ppos:0<2^n:=DZ (by lia);refine⟨rfl,_,rfl,_,rfl,h,C,dxh,fs,_,rfl,hh,clC,nMC,fm0,p,g.o,dx,_,rfl,hp,cl,n1,?_⟩;have up:∀ {o:HO},upd H p o h=some (.ins C dxh fs):=λ{o}=>by rw[aw hhp];exact hh
 have hp1:upd H p (.ins g.o dx (aJ "many" (.int (n:Int)) [])) p=some (.ins g.o dx (aJ "many" (.int (n:Int)) [])):=ag;refine⟨_,rfl,_,rfl,p,g.o,dx,_,rfl,hp1,cl,n2,Dw (aC _ _ _) (by show 0+1<1000;decide),?_⟩;rw[b8];refine⟨_,rfl,h,C,dxh,fs,rfl,up,dm,fe0,h,C,dxh,fs,(n:Int),rfl,up,clC,nMC,fm0,by lia,by lia,_,rfl,p,g.o,dx,_,rfl,ag,cl,n3,?_,?_⟩
 .exact Dw (aC _ _ _) (Dw (DO (aC _ _ _)) (by show 0+1+1<1000;decide))
 rw[b8];have ef:(1*2^((n:Nat):Int).toNat-1:Int)=((2^n-1:Nat):Int):=by rw[bx];lia
 rw[ef];have lk:(aJ "full" (V.int ((2^n-1:Nat):Int)) (aJ "house" (V.ref h) (aJ "many" (V.int (n:Int)) []))).lookup ("full":Str)=some (.int ((2^n-1:Nat):Int)):=aA _ _ _;have smh:∀ {o:HO},Same (hide H p) (upd H p o):=λ{o} b o' e=>by
  unfold hide at e;split at e
  .cases e
  .rename_i hb;rw[aw hb];exact e
 refine⟨_,rfl,h,C,dxh,fs,rfl,up,dm,fr0,_,rfl,p,g.o,dx,_,_,rfl,ag,cl,n3,lk,h,n,2^n-1,r,rfl,z.same smh hX,⟨dxh,fs,up⟩,n8,by lia,λH5 sm5=> ?_⟩;refine⟨_,rfl,p,g.o,dx,_,rfl,sm5.at ag,cl,n4,?_,?_⟩
 .exact Dw (aC _ _ _) (Dw (DO (aC _ _ _)) (Dw (DO (DO (aC _ _ _))) (by show 0+1+1+1<1000;decide)))
 refine k _ (λb o e hb=> ?_) ag;rw[aw hb];exact sm5.at (by rw[aw hb];exact e)
theorem sc_Other_rank:aB ["self","s","outside"] ["self","s"] (ao s_Other_rank):=sc_of
theorem gc{f ar:Addr}{Z:Hs}{g:Gs}{j:Nat}(D:cB K "rank" "Other.rank" s_Other_rank ["self","s"] f)(cl:Cls K g.o)(n2:aH K g.o "house")(n3:aH K g.o "full")(n4:aH K g.o "full_rank")(z:d5 Z)(G:GdX Z g)(hj:3<=j)
  (ae:Cal P w K mg base 1 "less" ["s","t"] jP) (af:Cal P w K mg base 3 "size" ["s"] fE) (ak:∀C,Z.dom C->cn P w K mg base j C "rank" ["self","s"] (fF Z C)):
  b7 P w K mg base (j+1) f ["self","s"] (fF (hsX Z g) g.o):=by
 refine D.fn sc_Other_rank (λvs H Q E h=>by obtain⟨a,n,s,r,rfl,_⟩:=h;rfl) λcdv A outer σs H vs Q E hr h=> ?_;obtain⟨a,n,s,r,rfl,hX,⟨dx0,fs0,ha0⟩,n8,hs,k⟩:=h;refine⟨_,(ab (wset 2 sc_Other_rank.nd (wcal ae hr (aa (wfld K (pv 0)) (aa (pv 1) ah))))
   (aq (aE (av bJ (av bh (wcal af hr (aa (pv 1) ah)) (cY ak hr (by lia) (wfld K (pv 0)) (aa (pv 2) ah))) (wfld K (pv 0)))))),?_⟩
 obtain⟨dx,h,r',ha,hX',hrr⟩:=pR G hX ha0;have s2:=s_lt n8 hs;refine⟨_,rfl,a,g.o,dx,_,_,rfl,ha,cl,n3,xK _ _ _ _,_,rfl,2^n-1,s,rfl,?_⟩;refine⟨_,rfl,(s:Int),rfl,by lia,by lia,λH1 sm1=> ?_⟩;rw[Dk];have hX1:=z.same sm1 hX';obtain⟨C,dm,hsh⟩:=z.shown hX1;obtain⟨dxh,fs,hh,fr,fe,fm⟩:=hsh.ex;refine⟨_,rfl,a,g.o,dx,_,_,rfl,sm1.at ha,cl,n2,vd _ _ _ _,h,C,dxh,fs,rfl,hh,dm,fr,_,rfl,h,n,aX (2^n-1) s,r',rfl,hX1,⟨dxh,fs,hh⟩,n8,gX,λH2 sm2=> ?_⟩;refine⟨_,_,rfl,rfl,_,rfl,a,g.o,dx,_,_,rfl,sm2.at (sm1.at ha),cl,n4,BG _ _ _ _,_,_,rfl,rfl,?_⟩;have:=k H2 (sm1.trans sm2);rw[hrr s hs]at this;exact this
theorem sc_Minor___init__:aB ["self","house","out","drawn","kept"] ["self","house","out","drawn"] (ao s_Minor___init__):=sc_of
theorem gT{Z:Hs}{g:Gs}(D:cB K "__init__" "Minor.__init__" s_Minor___init__ ["self","house","out","drawn"] f)(ar:mg "House"=some (.ref ae))(cl:Cls K g.m)(n1:aH K g.m "many")(n2:aH K g.m "house")(n3:aH K g.m "kept")(n4:aH K g.m "drawn")(n5:aH K g.m "drawn_rank")
  (z:d5 Z) (hc:∀C,Z.dom C->HC K ae C) (hj:3<=j) (af:qQ P w K mg base 1 ae "__init__" ["self","n"] (dC K)) (ax:Cal P w K mg base 1 "less" ["s","t"] jP) (ay:Cal P w K mg base 3 "size" ["s"] fE) (ak:∀C,Z.dom C->cn P w K mg base 2 C "everything" ["self"] (cV K)) (az:∀C,Z.dom C->cn P w K mg base j C "rank" ["self","s"] (fF Z C)):
  b7 P w K mg base (j+1) f ["self","house","out","drawn"] (oQ Z g):=by
 refine D.fn sc_Minor___init__ (λvs H Q E h=>by obtain⟨p,dx,h,n,o,w,r,rfl,_⟩:=h;rfl) λcdv A outer σs H vs Q E hr h=> ?_;obtain⟨p,dx,h,n,o,dw,r,rfl,hp,hX,n8,hw,k⟩:=h;refine⟨_,(ab (wset 4 sc_Minor___init__.nd (wcal ax hr (aa (dU ak hr (by lia) (pv 1)) (aa (av fL (pv 2) (pv 3)) ah))))
   (ab (bU (fb af hr (by lia) (e9 (v:= .ref ae) (by rfl) ar rfl) (aa (pv 0) (aa (wcal ay hr (aa (pv 4) ah)) ah))))
   (ab (wsf K (pv 0) (pv 1))
   (ab (wsf K (pv 0) (pv 4))
   (ab (wsf K (pv 0) (pv 3))
   (aq (wsf K (pv 0) (cY az hr (by lia) (pv 1) (aa (pv 3) ah))))))))),?_⟩
 obtain⟨C,dm,hsh⟩:=z.shown hX;have hhp:h≠p:=gJ hsh;obtain⟨dxh,fs,hh0,fr0,fe0,fm0⟩:=hsh.ex;have hh:H h=some (.ins C dxh fs):=(cg (H:=H) hhp).symm.trans hh0;obtain⟨clC,nMC,tyC,isC⟩:=hc C dm;have ppos:0<2^n:=DZ (by lia);have p8:=dB n8;have ef:(1*2^((n:Nat):Int).toNat-1:Int)=((2^n-1:Nat):Int):=by rw[bx];lia
 have kl:aX (2^n-1) (o|||dw)<2^n:=gX;refine⟨_,rfl,h,C,dxh,fs,rfl,hh,dm,fe0,h,C,dxh,fs,(n:Int),rfl,hh,clC,nMC,fm0,by lia,by lia,_,rfl,_,rfl,_,_,rfl,rfl,2^n-1,o|||dw,?_,?_⟩
 ·(try dsimp only);rw[ef,bZ];rfl
 generalize aX (2^n-1) (o|||dw)=kp at*;refine⟨rfl,_,rfl,_,rfl,(kp:Int),rfl,by lia,by lia,λH1 sm1=> ?_⟩;refine⟨p,g.m,dx,_,rfl,sm1.at hp,cl,n1,?_⟩;rw[Dk];have up:∀ {o:HO},upd H1 p o h=some (.ins C dxh fs):=λ{o}=>by rw[aw hhp];exact sm1.at hh
 refine⟨_,rfl,_,rfl,p,g.m,dx,_,rfl,ag,cl,n2,Dw (aC _ _ _) (by show 0+1<1000;decide),?_⟩;rw[b8];refine⟨_,rfl,_,rfl,p,g.m,dx,_,rfl,ag,cl,n3,Dw (aC _ _ _) (Dw (DO (aC _ _ _)) (by show 0+1+1<1000;decide)),?_⟩;rw[b8];refine⟨_,rfl,_,rfl,p,g.m,dx,_,rfl,ag,cl,n4,Dw (aC _ _ _) (Dw (DO (aC _ _ _)) (Dw (DO (DO (aC _ _ _))) (by show 0+1+1+1<1000;decide))),?_⟩;rw[b8];have smh:∀ {o:HO},Same (hide H p) (upd H1 p o):=λ{o} b o' e=>by
  unfold hide at e;split at e
  .cases e
  .rename_i hb;rw[aw hb];exact sm1.at e
 refine⟨_,rfl,h,C,dxh,fs,rfl,up,dm,fr0,_,rfl,h,n,dw,r,rfl,z.same smh hX,⟨dxh,fs,up⟩,n8,hw,λH5 sm5=> ?_⟩;refine⟨_,rfl,p,g.m,dx,_,rfl,sm5.at ag,cl,n5,?_,?_⟩
 .exact Dw (aC _ _ _) (Dw (DO (aC _ _ _)) (Dw (DO (DO (aC _ _ _))) (Dw (DO (DO (DO (aC _ _ _)))) (by show 0+1+1+1+1<1000;decide))))
 refine k _ (λb o e hb=> ?_) ag;rw[aw hb];exact sm5.at (by rw[aw hb];exact sm1.at e)
theorem sc_Minor_rank:aB ["self","s"] ["self","s"] (ao s_Minor_rank):=sc_of
theorem gd{Z:Hs}{g:Gs}(D:cB K "rank" "Minor.rank" s_Minor_rank ["self","s"] f)(cl:Cls K g.m)(n2:aH K g.m "house")(n3:aH K g.m "kept")(n4:aH K g.m "drawn")(n5:aH K g.m "drawn_rank")(z:d5 Z)(G:GdX Z g)(hj:3<=j)
  (ae:Cal P w K mg base 3 "spread" ["s","kept"] oJ) (af:∀C,Z.dom C->cn P w K mg base j C "rank" ["self","s"] (fF Z C)):
  b7 P w K mg base (j+1) f ["self","s"] (fF (hsX Z g) g.m):=by
 refine D.fn sc_Minor_rank (λvs H Q E h=>by obtain⟨a,n,s,r,rfl,_⟩:=h;rfl) λcdv A outer σs H vs Q E hr h=> ?_;obtain⟨a,n,s,r,rfl,hX,⟨dx0,fs0,ha0⟩,n8,hs,k⟩:=h;refine⟨_,(aq (aE (av bJ (cY af hr (by lia) (wfld K (pv 0)) (aa (av fL (wcal ae hr (aa (pv 1) (aa (wfld K (pv 0)) ah))) (wfld K (pv 0))) ah)) (wfld K (pv 0))))),?_⟩;obtain⟨dx,h,n',kp,dw,r',ha,hX',en,n8',hk,hw,hrr⟩:=pT G hX ha0;have s2:=s_lt n8 hs;have k2:=s_lt n8' hk;obtain⟨C,dm,hsh⟩:=z.shown hX';obtain⟨dxh,fs,hh,fr,fe,fm⟩:=hsh.ex;have sl:bG s kp|||dw<2^n':=EC ((gx s kp).lt hk) hw;refine⟨_,rfl,a,g.m,dx,_,_,rfl,ha,cl,n2,vt _ _ _ _ _,h,C,dxh,fs,rfl,hh,dm,fr,?_⟩;refine⟨_,rfl,_,rfl,a,g.m,dx,_,_,rfl,ha,cl,n3,yg _ _ _ _ _,(s:Int),(kp:Int),rfl,by lia,by lia,by lia,λH1 sm1=> ?_⟩;have hX1:=z.same sm1 hX';refine⟨_,rfl,a,g.m,dx,_,_,rfl,sm1.at ha,cl,n4,vv _ _ _ _ _,_,_,rfl,rfl,h,n',bG s kp|||dw,r',?_,hX1,⟨dxh,fs,sm1.at hh⟩,n8',sl,λH2 sm2=> ?_⟩
 ·(try dsimp only);rw[Dk,Dk,bZ]
 refine⟨_,rfl,a,g.m,dx,_,_,rfl,sm2.at (sm1.at ha),cl,n5,BO _ _ _ _ _,_,_,rfl,rfl,?_⟩;have:=k H2 (sm1.trans sm2);rw[hrr s hs]at this;exact this
theorem sc_Side___init__:aB ["self","one","other"] ["self","one","other"] (ao s_Side___init__):=sc_of
theorem iH{f ae:Addr}{Z:Hs}{g:Gs}{j:Nat}(D:cB K "__init__" "Side.__init__" s_Side___init__ ["self","one","other"] f)(ar:mg "House"=some (.ref ae))(cl:Cls K g.s)(n1':aH K g.s "many")(n2':aH K g.s "first")(n3':aH K g.s "second")(n4':aH K g.s "first_many")(n5':aH K g.s "first_full")
  (z:d5 Z) (hc:∀C,Z.dom C->HC K ae C) (af:qQ P w K mg base 1 ae "__init__" ["self","n"] (dC K)) (ak:∀C,Z.dom C->cn P w K mg base 2 C "everything" ["self"] (cV K)):
  b7 P w K mg base 3 f ["self","one","other"] (oO Z g):=by
 refine D.fn sc_Side___init__ (λvs H Q E h=>by obtain⟨p,dx,h1,h2,n1,n2,r1,r2,rfl,_⟩:=h;rfl) λcdv A outer σs H vs Q E hr h=> ?_;obtain⟨p,dx,h1,h2,n1,n2,r1,r2,rfl,hp,hB1,hB2,h8,k⟩:=h;refine⟨_,(ab (bU (fb af hr (by decide) (e9 (v:= .ref ae) (by rfl) ar rfl) (aa (pv 0) (aa (av bh (wfld K (pv 1)) (wfld K (pv 2))) ah))))
   (ab (wsf K (pv 0) (pv 1))
   (ab (wsf K (pv 0) (pv 2))
   (ab (wsf K (pv 0) (wfld K (pv 1)))
   (aq (wsf K (pv 0) (dU ak hr (by decide) (pv 1)))))))),?_⟩
 obtain⟨C1,dm1,sh1⟩:=z.shown hB1;obtain⟨C2,dm2,sh2⟩:=z.shown hB2;have hn1:h1≠p:=gJ sh1;have hn2:h2≠p:=gJ sh2;obtain⟨dx1,fs1,g1,fr1,fe1,fm1⟩:=sh1.ex;obtain⟨dx2,fs2,g2,fr2,fe2,fm2⟩:=sh2.ex;have hh1:H h1=some (.ins C1 dx1 fs1):=(cg (H:=H) hn1).symm.trans g1;have hh2:H h2=some (.ins C2 dx2 fs2):=(cg (H:=H) hn2).symm.trans g2;obtain⟨cl1,nM1,_,_⟩:=hc C1 dm1;obtain⟨cl2,nM2,_,_⟩:=hc C2 dm2;have ppos:0<2^n1:=DZ (by lia);have up1:∀ {o:HO},upd H p o h1=some (.ins C1 dx1 fs1):=λ{o}=>by rw[aw hn1];exact hh1
 refine⟨rfl,_,rfl,_,rfl,h1,_,dx1,fs1,_,rfl,hh1,cl1,nM1,fm1,_,rfl,h2,_,dx2,fs2,_,rfl,hh2,cl2,nM2,fm2,_,_,rfl,rfl,p,g.s,dx,_,rfl,hp,cl,n1',?_⟩;refine⟨_,rfl,_,rfl,p,g.s,dx,_,rfl,ag,cl,n2',Dw (aC _ _ _) (by show 0+1<1000;decide),?_⟩;rw[b8];refine⟨_,rfl,_,rfl,p,g.s,dx,_,rfl,ag,cl,n3',Dw (aC _ _ _) (Dw (DO (aC _ _ _)) (by show 0+1+1<1000;decide)),?_⟩;rw[b8];refine⟨_,rfl,h1,_,dx1,fs1,_,rfl,up1,cl1,nM1,fm1,_,rfl,p,g.s,dx,_,rfl,ag,cl,n4',Dw (aC _ _ _) (Dw (DO (aC _ _ _)) (Dw (DO (DO (aC _ _ _))) (by show 0+1+1+1<1000;decide))),?_⟩;rw[b8];refine⟨_,rfl,h1,_,dx1,fs1,rfl,up1,dm1,fe1,h1,_,dx1,fs1,(n1:Int),rfl,up1,cl1,nM1,fm1,by lia,by lia,_,rfl,p,g.s,dx,_,rfl,ag,cl,n5',?_,?_⟩
 .exact Dw (aC _ _ _) (Dw (DO (aC _ _ _)) (Dw (DO (DO (aC _ _ _))) (Dw (DO (DO (DO (aC _ _ _)))) (by show 0+1+1+1+1<1000;decide))))
 rw[b8];have ef:(1*2^((n1:Nat):Int).toNat-1:Int)=((2^n1-1:Nat):Int):=by rw[bx];lia
 rw[ef];refine k _ (λb o e hb=> ?_) ag;rw[aw hb];exact e
theorem sc_Side_rank:aB ["self","s"] ["self","s"] (ao s_Side_rank):=sc_of
theorem gR{Z:Hs}{g:Gs}(D:cB K "rank" "Side.rank" s_Side_rank ["self","s"] f)(cl:Cls K g.s)(n2':aH K g.s "first")(n3':aH K g.s "second")(n4':aH K g.s "first_many")(n5':aH K g.s "first_full")(z:d5 Z)(G:GdX Z g)(hj:3<=j)
  (ae:∀C,Z.dom C->cn P w K mg base j C "rank" ["self","s"] (fF Z C)):b7 P w K mg base (j+1) f ["self","s"] (fF (hsX Z g) g.s):=by
 refine D.fn sc_Side_rank (λvs H Q E h=>by obtain⟨a,n,s,r,rfl,_⟩:=h;rfl) λcdv A outer σs H vs Q E hr h=> ?_;obtain⟨a,n,s,r,rfl,hX,⟨dx0,fs0,ha0⟩,n8,hs,k⟩:=h;refine⟨_,(aq (aE (av bh (cY ae hr (by lia) (wfld K (pv 0)) (aa (av eC (pv 1) (wfld K (pv 0))) ah)) (cY ae hr (by lia) (wfld K (pv 0)) (aa (av j7 (pv 1) (wfld K (pv 0))) ah))))),?_⟩;obtain⟨dx,h1,h2,n1,n2,r1,r2,en,ha,hB1,hB2,hrr⟩:=pQ G hX ha0;have p1:0<2^n1:=DZ (by lia);have s1:s % 2^n1<2^n1:=Nat.mod_lt _ p1;have s2:s/2^n1<2^n2:=by rw[Nat.div_lt_iff_lt_mul p1,<-Nat.pow_add,Nat.add_comm n2 n1,<-en];exact hs
 obtain⟨C1,dm1,sh1⟩:=z.shown hB1;obtain⟨dx1,fs1,hh1,fr1,fe1,fm1⟩:=sh1.ex;have ea:Builtin.bitAnd (s:Int) ((2^n1-1:Nat):Int)=((s % 2^n1:Nat):Int):=by rw[cu,Nat.and_two_pow_sub_one_eq_mod]
 have ed:((s:Int) /2^((n1:Nat):Int).toNat)=((s/2^n1:Nat):Int):=by rw[Dk];simp
 refine⟨_,rfl,a,g.s,dx,_,_,rfl,ha,cl,n2',uT _ _ _ _ _,h1,_,dx1,fs1,rfl,hh1,dm1,fr1,_,rfl,_,rfl,a,g.s,dx,_,_,rfl,ha,cl,n5',Bk _ _ _ _ _,_,_,rfl,rfl,h1,n1,s % 2^n1,r1,(by(try dsimp only);rw[ea]),hB1,⟨dx1,fs1,hh1⟩,by lia,s1,λH1 sm1=> ?_⟩;have hB2':=z.same sm1 hB2;obtain⟨C2,dm2,sh2⟩:=z.shown hB2';obtain⟨dx2,fs2,hh2,fr2,fe2,fm2⟩:=sh2.ex;refine⟨_,rfl,a,g.s,dx,_,_,rfl,sm1.at ha,cl,n3',rb _ _ _ _ _,h2,_,dx2,fs2,rfl,hh2,dm2,fr2,_,rfl,_,rfl,a,g.s,dx,_,_,rfl,sm1.at ha,cl,n4',Bj _ _ _ _ _,_,_,rfl,rfl,by lia,h2,n2,s/2^n1,r2,(by(try dsimp only);rw[ed]),hB2',⟨dx2,fs2,hh2⟩,by lia,s2,λH2 sm2=> ?_⟩;refine⟨_,_,rfl,rfl,?_⟩;have:=k H2 (sm1.trans sm2);rw[hrr s hs]at this;rw[show((r1 (s % 2^n1)+r2 (s/2^n1):Nat):Int)=((r1 (s % 2^n1):Nat):Int)+((r2 (s/2^n1):Nat):Int) by lia]at this;exact this
theorem sc_ranks:aB ["house"] ["house"] (ao s_ranks):=sc_of
theorem xR{Z:Hs}(z:d5 Z)(D:aY K mg "ranks" s_ranks ["house"])(hc:∀C,Z.dom C->HC K af C)(ar:∀C,Z.dom C->cn P w K mg base 6 C "rank" ["self","s"] (fF Z C))(ae:∀C,Z.dom C->cn P w K mg base 2 C "everything" ["self"] (cV K))
  (ak:Cal P w K mg base 3 "parts" ["s"] gI):Cal P w K mg base 7 "ranks" ["house"] (jO Z):=by
 refine D.cal sc_ranks (λvs H Q E h=>by obtain⟨a,n,r,rfl,_⟩:=h;rfl) λf cdv A outer σs H vs Q E hr h=> ?_;obtain⟨a,n,r,rfl,hB,n8,k⟩:=h;refine⟨_,(aq (aE (wlc ["s"] ["house"] [0] (wil K (wcal ak hr (aa (dU ae hr (by decide) (pv 0)) ah))) (wnC 0) aM (cY ar hr (by decide) (pv 1) (aa (pv 0) ah))))),?_⟩;have p8:=dB n8;have ppos:0<2^n:=DZ (by lia);obtain⟨C,dm,hsh⟩:=z.shown hB;obtain⟨dx,fs,hh,fr,fe,fm⟩:=hsh.ex;obtain⟨cl,nM,ty,isH⟩:=hc C dm;refine⟨_,rfl,a,_,dx,fs,rfl,hh,dm,fe,a,_,dx,fs,(n:Int),rfl,hh,cl,nM,fm,by lia,by lia,?_⟩;rw[ic];refine⟨_,rfl,by lia,by lia,λp H1 sm1 hp1 hl1=>⟨p,rfl,⟨_,SqL.of hl1⟩,?_⟩⟩;rw[Dk,fV n (by lia)]at hl1;refine bR (λx=>(λ_=>true) (bB x)) (λx=> .int ((λz:Int=>((r z.toNat:Nat):Int)) (bB x))) (SqL.of hl1) (by rw[Di,Di,DU];exact Du p8 (by decide)) (λi x vs H' R S hx hv sm hk=> ?_) λD H' hD sm hl=> ?_
 .obtain⟨v,rfl⟩:=aR hv;obtain⟨z,rfl,hz⟩:=bH hx;obtain⟨s,hs,rfl⟩:=DL.mp (Dv hz);have hs':=DT.mp hs;simp only[a8,cm,Dp];have hB':=z.same sm (z.same sm1 hB);refine⟨_,rfl,a,_,dx,fs,rfl,sm.at (sm1.at hh),dm,fr,_,rfl,a,n,s,r,rfl,hB',⟨dx,fs,sm.at (sm1.at hh)⟩,n8,hs',λH2 sm2=> ?_⟩;have q:=hk [some (.int (s:Int))] H2 rfl sm2;rw[Dp rfl]at q;exact q
 replace hl:=hl.trans (Es (λl=>some (HO.lst l)) (bC (λ_=>true) (λz:Int=>((r z.toNat:Nat):Int)) ((List.range (2^n)).map λk:Nat=>(k:Int))));have e:List.map (λz:Int=>((r z.toNat:Nat):Int)) (List.map (λk:Nat=>(k:Int)) (List.range (2^n)))=aG n r:=by unfold aG;rw[Ez];rfl
 rw[Eo.mpr (λ_ _=>rfl),e]at hl;exact k D H' (sm1.trans sm) (sm1.free hD) hl
theorem sc_frees:aB ["house"] ["house"] (ao s_frees):=sc_of
theorem xU{Z:Hs}(z:d5 Z)(D:aY K mg "frees" s_frees ["house"])(hc:∀C,Z.dom C->HC K af C)(ar:∀C,Z.dom C->cn P w K mg base 6 C "rank" ["self","s"] (fF Z C))(ae:∀C,Z.dom C->cn P w K mg base 2 C "everything" ["self"] (cV K))
  (ak:Cal P w K mg base 3 "parts" ["s"] gI) (ax:Cal P w K mg base 3 "size" ["s"] fE):Cal P w K mg base 7 "frees" ["house"] (oT Z):=by
 refine D.cal sc_frees (λvs H Q E h=>by obtain⟨a,n,r,rfl,_⟩:=h;rfl) λf cdv A outer σs H vs Q E hr h=> ?_;obtain⟨a,n,r,rfl,hB,n8,k⟩:=h;refine⟨_,(aq (aE (wlc ["s"] ["house"] [0] (wil K (wcal ak hr (aa (dU ae hr (by decide) (pv 0)) ah))) (wnC 0) (dD (wpt bP (cY ar hr (by decide) (pv 1) (aa (pv 0) ah)) (wcal ax hr (aa (pv 0) ah)))) (pv 0)))),?_⟩;have p8:=dB n8;have ppos:0<2^n:=DZ (by lia);obtain⟨C,dm,hsh⟩:=z.shown hB;obtain⟨dx,fs,hh,fr,fe,fm⟩:=hsh.ex;obtain⟨cl,nM,ty,isH⟩:=hc C dm;refine⟨_,rfl,a,_,dx,fs,rfl,hh,dm,fe,a,_,dx,fs,(n:Int),rfl,hh,cl,nM,fm,by lia,by lia,?_⟩;rw[ic];refine⟨_,rfl,by lia,by lia,λp H1 sm1 hp1 hl1=>⟨p,rfl,⟨_,SqL.of hl1⟩,?_⟩⟩;rw[Dk,fV n (by lia)]at hl1;refine bR (λx=>(λz:Int=>decide (r z.toNat=sz z.toNat)) (bB x)) (λx=> .int ((λz:Int=>z) (bB x))) (SqL.of hl1) (by rw[Di,Di,DU];exact Du p8 (by decide)) (λi x vs H' R S hx hv sm hk=> ?_) λD H' hD sm hl=> ?_
 .obtain⟨v,rfl⟩:=aR hv;obtain⟨z,rfl,hz⟩:=bH hx;obtain⟨s,hs,rfl⟩:=DL.mp (Dv hz);have hs':=DT.mp hs;have hB':=z.same sm (z.same sm1 hB);refine⟨_,rfl,a,_,dx,fs,rfl,sm.at (sm1.at hh),dm,fr,_,rfl,a,n,s,r,rfl,hB',⟨dx,fs,sm.at (sm1.at hh)⟩,n8,hs',λH2 sm2=> ?_⟩;refine⟨_,rfl,(s:Int),rfl,by lia,by lia,λH3 sm3=> ?_⟩;rw[Dk];refine⟨rfl,_,rfl,?_⟩;have q:=hk [some (.int (s:Int))] H3 rfl (sm2.trans sm3);have q':if decide (r ((s:Int)).toNat=sz ((s:Int)).toNat)=true then _ else _:=q;have ez:decide (r ((s:Int)).toNat=sz ((s:Int)).toNat)=decide (V.int ((r s:Nat):Int)=V.int (((bits s).length:Nat):Int)):=by rw[Dk,cK,FE];show decide (r s=(bits s).length)=true↔_;simp only[F4];lia
  rw[ez]at q';by_cases hc:decide (V.int ((r s:Nat):Int)=V.int (((bits s).length:Nat):Int))=true
  .rw[Dp hc]at q'⊢;exact⟨_,rfl,q'⟩
  .rw[Dt hc]at q'⊢;exact q'
 replace hl:=hl.trans (Es (λl=>some (HO.lst l)) (bC (λz:Int=>decide (r z.toNat=sz z.toNat)) (λz:Int=>z) ((List.range (2^n)).map λk:Nat=>(k:Int))));rw[List.map_id',List.filter_map]at hl;refine k D H' ((List.range (2^n)).filter ((λz:Int=>decide (r z.toNat=sz z.toNat))∘λk:Nat=>(k:Int))) (sm1.trans sm) (sm1.free hD) hl (Du (FA _ _) (by rw[DU];exact p8)) λs=> ?_;rw[Fb,DT];show s<2^n/\decide (r ((s:Int)).toNat=sz ((s:Int)).toNat)=true↔_;rw[Dk,decide_eq_true_iff]
theorem sc_heaviest:aB ["house","weights","order","taken","thing","more"] ["house","weights"] (ao s_heaviest):=sc_of
theorem pe{Z:Hs}(z:d5 Z)(zk:HsK Z)(T:Tb K mg)(D:iY K mg "heaviest" s_heaviest ["house","weights"] cc)(hc:∀C,Z.dom C->HC K af C)(CH:PySem.W.CodeHd base cc Ph)(BM:fS mg base)
  (ae:∀C,Z.dom C->cn P w K mg base 6 C "rank" ["self","s"] (fF Z C)):Cal P w K mg base 8 "heaviest" ["house","weights"] (jQ K Z Ph):=by
 refine D.cal sc_heaviest (λvs H Q E h=>by obtain⟨h,a,n,r,W,rfl,_⟩:=h;rfl) λf A outer σs H vs Q E hr h=> ?_;obtain⟨h,a,n,r,W,rfl,hB,n8,ha,hW,hT,k⟩:=h;have ak:mJ (iP CX0 P w K mg base ["house","weights","order","taken","thing","more"] "heaviest" (ao s_heaviest) f (.ref cc) A outer σs H E).nox yA yx vI pJ "thing" ["weights"] [1] [("weights",σs.heap.objs.size+1)]:=
  ⟨rfl,rfl,rfl,Er.mpr ⟨⟨rfl,rfl⟩,λ_ h=>nomatch h⟩,rfl,λ_ _ _ _=>rfl,rfl,rfl,rfl,by decide+kernel,Er.mpr ⟨rfl,λ_ h=>nomatch h⟩,by
   intro y hy hf;have:y∈([("thing", .local),("weights", .free)]:List (Str×NameKind)):=hy;rcases Dz.mp this with rfl|this
   .cases hf
   .rcases Dz.mp this with rfl|this
    .exact⟨_,rfl⟩
    .cases this⟩
 refine⟨_,(ab (wset 2 sc_heaviest.nd (rq ak (by rfl) (by rfl) CH BM hr (by rfl) (by rfl) T.sorted_ (aa (nC (by rfl) T.range_ (aa (wfld K (pv 0)) ah)) ah) (λ_ _ _ _=>(cD (aa (AZ wG (bb K (pv 1) (pv 0))) (aa (pv 0) ah))))))
   (ab (wset 3 sc_heaviest.nd ai)
   (ab (wfor (wil K (pv 2)) (wname 4 sc_heaviest.nd)
     (ab (wset 5 sc_heaviest.nd (av fL (pv 3) (av cF ai (pv 4))))
     (aq (bA (wpt gb (cY ae hr (by decide) (pv 0) (aa (pv 5) ah)) (cY ae hr (by decide) (pv 0) (aa (pv 3) ah)))
       (aq (wset 3 sc_heaviest.nd (pv 5)))
       aN))))
   (aq (aE (pv 3)))))),?_⟩
 obtain⟨C,dm,hsh⟩:=z.shown hB;obtain⟨dx,fs,hh,fr,fe,fm⟩:=hsh.ex;obtain⟨cl,nM,ty,isH⟩:=hc C dm;refine⟨_,rfl,h,_,dx,fs,_,rfl,hh,cl,nM,fm,_,rfl,λpr hpr=> ?_⟩;have sm1:Same H (upd H pr (.rng 0 (n:Int))):=Same.new hpr;have hr1:upd H pr (.rng 0 (n:Int)) pr=some (.rng 0 (n:Int)):=ag;generalize upd H pr (.rng 0 (n:Int))=H1 at*;have hT1:=hT.same sm1;obtain⟨ps,hP1⟩:=hT1.tbl;refine⟨pr,n,AF W,rfl,hr1,by lia,λi j hi hj e=> ?_,hT1,λj Hj hj sB=> ?_,λDd H2 ord sB tS hD ho=> ?_⟩
 .have:=Es Prod.snd e;unfold AF at this
  (try dsimp only at this)
  lia
 .have at1:atI (W.map V.int) (j:Int)=some (.int (W.getD j 0)):=aK (by rw[Dm];simp[hW,hj]);have ha2:=(ba.n sB hP1).seq (sm1.seq ha);refine⟨_,rfl,_,rfl,a,_,_,_,rfl,rfl,ha2,at1,_,rfl,_,rfl,(by show 2<=sizeLine;decide),λp hp=> ?_⟩;exact⟨p,rfl,ag,Same.new hp⟩
 have smB:ba Ph H H2:=(ba.of sm1).trans sB;have smN:a9 H H2:=(a9.of sm1).trans (ba.n sB hP1);have e0:=xM ho;have hlt:∀i∈ord,i<n:=λi hi=>DT.mp (ho.1.mem_iff.mp hi);have hl2:upd H2 Dd (.lst (ord.map λi:Nat=>V.int (i:Int))) Dd=some (.lst (ord.map λi:Nat=>V.int (i:Int))):=ag;have sm3:Same H2 (upd H2 Dd (.lst (ord.map λi:Nat=>V.int (i:Int)))):=Same.new hD;generalize upd H2 Dd (.lst (ord.map λi:Nat=>V.int (i:Int)))=H3 at*;have hB3:=zk.N (smN.trans (a9.of sm3)) hB;have hh3:=(smN.trans (a9.of sm3)).ins hh;refine⟨_,rfl,Dd,rfl,⟨_,SqL.of hl2⟩,?_⟩;refine bT (K:=K) (a:=Dd) (xs:=ord.map λi:Nat=>V.int (i:Int)) (λi σ H'=>Same H3 H'/\∃v4 v5,σ=[some (.ref h),some (.ref a),some (.ref Dd),some (.int (greedy r 0 (ord.take i):Nat)),v4,v5]) ⟨Same.refl _,none,none,rfl⟩ (λi σ H' _ q=>SqL.of (q.1.at hl2)) ?_ ?_
 .rintro i y σ H' hi ⟨sm',v4,v5,rfl⟩;rw[Dm]at hi;cases ei:ord[i]? with
  |none=>rw[ei]at hi;cases hi
  |some o=>
   rw[ei]at hi;cases hi;have ho8:=hlt o (Dv ei);have et:ord.take (i+1)=ord.take i++[o]:=by rw[EB,ei];rfl
   have g1:greedy r 0 (ord.take i)<2^n:=mv r _ _ (DZ (by lia)) λt ht=>hlt t (FG ht);rw[et,ja];generalize greedy r 0 (ord.take i)=g at*;have g2:g|||2^o<2^n:=bN g1 ho8;refine⟨_,rfl,_,rfl,_,_,rfl,rfl,⟨by lia,by lia,by decide⟩,_,_,rfl,rfl,?_⟩;(try dsimp only);rw[bx,bZ];have hB':=z.same sm' hB3;refine⟨_,rfl,h,_,dx,fs,rfl,sm'.at hh3,dm,fr,_,rfl,h,n,g|||2^o,r,rfl,hB',⟨dx,fs,sm'.at hh3⟩,n8,g2,λH5 sm5=> ?_⟩;refine⟨_,rfl,h,_,dx,fs,rfl,sm5.at (sm'.at hh3),dm,fr,_,rfl,h,n,g,r,rfl,z.same sm5 hB',⟨dx,fs,sm5.at (sm'.at hh3)⟩,n8,g1,λH6 sm6=> ?_⟩;refine⟨_,_,rfl,rfl,_,rfl,dE (λhc=> ?_) λhc=> ?_⟩
   .have:r (g|||2^o)>r g:=by have:=DY hc;lia
    rw[Dp this];exact⟨_,rfl,(sm'.trans sm5).trans sm6,_,_,rfl⟩
   .have:¬r (g|||2^o)>r g:=λz=>hc (DG (by lia));rw[Dt this];exact⟨(sm'.trans sm5).trans sm6,_,_,rfl⟩
 .rintro σ H' ⟨sm',v4,v5,rfl⟩;rw[Di,EK (Dl _)];have q:=k H' ((smB.trans (ba.of sm3)).trans (ba.of sm')) ((tS.same sm3).same sm');unfold jd at q;rw[<-e0]at q;exact⟨_,rfl,q⟩
theorem sc_common:aB ["one","other","everything","sets","first","second","shared","bound"] ["one","other"] (ao s_common):=sc_of
theorem vi{Z:Hs}(z:d5 Z)(T:Tb K mg)(D:iY K mg "common" s_common ["one","other"] cc)(hc:∀C,Z.dom C->HC K ar C)(CH:PySem.W.CodeHd base cc Ph)(BM:fS mg base)(ae:∀C,Z.dom C->cn P w K mg base 2 C "everything" ["self"] (cV K))
  (ax:Cal P w K mg base 3 "parts" ["s"] gI) (ak:Cal P w K mg base 7 "ranks" ["house"] (jO Z)) (af:Cal P w K mg base 3 "size" ["s"] fE) (ay:Cal P w K mg base 1 "less" ["s","t"] jP):Cal P w K mg base 8 "common" ["one","other"] (oU Z Ph):=by
 refine D.cal sc_common (λvs H Q E h=>by obtain⟨h1,h2,n,r1,r2,rfl,_⟩:=h;rfl) λf A outer σs H vs Q E hr h=> ?_;obtain⟨h1,h2,n,r1,r2,rfl,hB1,hB2,n8,M1,M2,hT,k⟩:=h;have az:mJ (iP CX0 P w K mg base ["one","other","everything","sets","first","second","shared","bound"] "common" (ao s_common) f (.ref cc) A outer σs H E).nox yC yz vK pL "s" ["first","second","everything"] [4,5,2] [("second",σs.heap.objs.size+3),("first",σs.heap.objs.size+2),("everything",σs.heap.objs.size+1)]:=
  ⟨rfl,rfl,rfl,Er.mpr ⟨⟨rfl,rfl⟩,Er.mpr ⟨⟨rfl,rfl⟩,Er.mpr ⟨⟨rfl,rfl⟩,λ_ h=>nomatch h⟩⟩⟩,rfl,λ_ _ _ _=>rfl,rfl,rfl,rfl,by decide+kernel,Er.mpr ⟨rfl,Er.mpr ⟨rfl,Er.mpr ⟨rfl,λ_ h=>nomatch h⟩⟩⟩,by
   intro y hy hf;have:y∈([("s", .local),("everything", .free),("first", .free),("second", .free),("less", .globalImplicit)]:List (Str×NameKind)):=hy;rcases Dz.mp this with rfl|this
   .cases hf
   rcases Dz.mp this with rfl|this
   .exact⟨_,rfl⟩
   rcases Dz.mp this with rfl|this
   .exact⟨_,rfl⟩
   rcases Dz.mp this with rfl|this
   .exact⟨_,rfl⟩
   rcases Dz.mp this with rfl|this
   .cases hf
   .cases this⟩
 refine⟨_,(ab (wset 2 sc_common.nd (dU ae hr (by decide) (pv 0)))
   (ab (wset 3 sc_common.nd (wcal ax hr (aa (pv 2) ah)))
   (ab (wset 4 sc_common.nd (wcal ak hr (aa (pv 0) ah)))
   (ab (wset 5 sc_common.nd (wcal ak hr (aa (pv 1) ah)))
   (ab (wls 6 sc_common.nd ["s"] ["first","second"] [4,5] (wil K (pv 3)) (wnC 0) (dD (PW.pt (nB (wpt bP (bb K (pv 1) (pv 0)) (wcal af hr (aa (pv 0) ah))) (jq (wpt bP (bb K (pv 2) (pv 0)) (wcal af hr (aa (pv 0) ah))))))) (pv 0))
   (ab (wset 7 sc_common.nd (uZ az (by rfl) (by rfl) CH BM hr (by rfl) (by rfl) T.min_ (aa (pv 3) ah) (λ_ _ _ _=>(av bh (bb K (pv 1) (pv 0)) (bb K (pv 2) (wcal ay (hr.in1.deeper _) (aa (pv 3) (aa (pv 0) ah))))))))
   (aq (aE (cD (aa (lX af hr (by decide) (by rfl) (by rfl) (by rfl) T.max_ (aa (pv 6) ah)) (aa (pv 7) ah))))))))))),?_⟩
 have p8:=dB n8;have ppos:0<2^n:=DZ (by lia);obtain⟨C,dm,hsh⟩:=z.shown hB1;obtain⟨dx,fs,hh,fr,fe,fm⟩:=hsh.ex;obtain⟨cl,nM,ty,isH⟩:=hc C dm;refine⟨_,rfl,h1,_,dx,fs,rfl,hh,dm,fe,h1,_,dx,fs,(n:Int),rfl,hh,cl,nM,fm,by lia,by lia,?_⟩;rw[ic];refine⟨_,rfl,_,rfl,by lia,by lia,λp1 H1 sm1 hp1 hl1=> ?_⟩;rw[Dk,fV n (by lia)]at hl1;change H1 p1=some (.lst ((jg n).map V.int))at hl1;refine⟨_,rfl,h1,n,r1,rfl,z.same sm1 hB1,n8,λb1 H2 sm2 hb1 hl2=> ?_⟩;refine⟨_,rfl,h2,n,r2,rfl,z.same (sm1.trans sm2) hB2,n8,λb2 H3 sm3 hb2 hl3=> ?_⟩;have hf3:=sm3.at hl2;have hp3:=sm3.at (sm2.at hl1);have smA:=(sm1.trans sm2).trans sm3;refine⟨_,rfl,p1,rfl,⟨_,SqL.of hp3⟩,?_⟩;refine bR (λx=>(λz:Int=>decide (r1 z.toNat=sz z.toNat/\r2 z.toNat=sz z.toNat)) (bB x)) (λx=> .int ((λz:Int=>z) (bB x))) (SqL.of hp3) (by rw[Di];unfold jg;rw[Di,DU];exact Du p8 (by decide)) (λi x vs H' R S hx hv sm hk=> ?_) λD4 H4 hD4 sm4 hl4=> ?_
 .obtain⟨v,rfl⟩:=aR hv;obtain⟨z,rfl,hz⟩:=bH hx;obtain⟨s,hs,rfl⟩:=cG.mp (Dv hz);refine⟨_,rfl,_,rfl,b1,_,_,_,rfl,rfl,SqL.of (sm.at hf3),bg r1 hs,_,rfl,(s:Int),rfl,by lia,by lia,λH5 sm5=> ?_⟩;rw[Dk];refine⟨rfl,_,rfl,?_⟩;have ez:decide (r1 ((s:Int)).toNat=sz ((s:Int)).toNat/\r2 ((s:Int)).toNat=sz ((s:Int)).toNat)=(decide (V.int ((r1 s:Nat):Int)=V.int (((bits s).length:Nat):Int))&&decide (V.int ((r2 s:Nat):Int)=V.int (((bits s).length:Nat):Int))):=by rw[Dk,cK,cK,FE];show decide (r1 s=(bits s).length/\r2 s=(bits s).length)=true↔_;simp only[Ea,F4];lia
  by_cases hc1:decide (V.int ((r1 s:Nat):Int)=V.int (((bits s).length:Nat):Int))=true
  .refine(Dp hc1).mpr ?_;refine⟨_,rfl,_,rfl,b2,_,_,_,rfl,rfl,SqL.of (sm5.at (sm.at hl3)),bg r2 hs,_,rfl,(s:Int),rfl,by lia,by lia,λH6 sm6=> ?_⟩;rw[Dk];refine⟨rfl,_,rfl,?_⟩;have q:=hk [some (.int (s:Int))] H6 rfl (sm5.trans sm6);have q':if decide (r1 ((s:Int)).toNat=sz ((s:Int)).toNat/\r2 ((s:Int)).toNat=sz ((s:Int)).toNat)=true then _ else _:=q;rw[ez,hc1,Fw]at q';by_cases hc2:decide (V.int ((r2 s:Nat):Int)=V.int (((bits s).length:Nat):Int))=true
   .rw[Dp hc2]at q'⊢;exact⟨_,rfl,q'⟩
   .rw[Dt hc2]at q'⊢;exact q'
  .refine(Dt hc1).mpr ?_;have q:=hk [some (.int (s:Int))] H5 rfl sm5;have q':if decide (r1 ((s:Int)).toNat=sz ((s:Int)).toNat/\r2 ((s:Int)).toNat=sz ((s:Int)).toNat)=true then _ else _:=q;rw[ez,FH.mpr hc1,Gp,Dt Dr]at q';exact cL q'
 replace hl4:=hl4.trans (Es (λl=>some (HO.lst l)) (bC (λz:Int=>decide (r1 z.toNat=sz z.toNat/\r2 z.toNat=sz z.toNat)) (λz:Int=>z) (jg n)));rw[List.map_id']at hl4;have memS:∀z,z∈(jg n).filter (λz:Int=>decide (r1 z.toNat=sz z.toNat/\r2 z.toNat=sz z.toNat))↔∃k:Nat,k<2^n/\z=(k:Int)/\r1 k=sz k/\r2 k=sz k:=λz=>by
  rw[Fb,cG,decide_eq_true_iff];constructor
  .rintro⟨⟨k,h1,rfl⟩,h2⟩;rw[Dk]at h2;exact⟨k,h1,rfl,h2⟩
  .rintro⟨k,h1,rfl,h2⟩;exact⟨⟨k,h1,rfl⟩,by rw[Dk];exact h2⟩
 generalize (jg n).filter (λz:Int=>decide (r1 z.toNat=sz z.toNat/\r2 z.toNat=sz z.toNat))=S4 at*;have hT4:=(hT.same smA).same sm4;obtain⟨ps,hP4⟩:=hT4.tbl;refine⟨_,rfl,p1,jg n,λz=>((r1 z.toNat:Nat):Int)+((r2 (2^n-1-z.toNat):Nat):Int),rfl,SqL.of (sm4.at hp3),?_,hT4,λz Hj hz sB=> ?_,λMi H5 sB tS hMi hmin=> ?_⟩
 .intro e;have:(0:Int)∈jg n:=cG.mpr ⟨0,ppos,rfl⟩;rw[e]at this;cases this
 .obtain⟨s,hs,rfl⟩:=cG.mp hz;have sN:=ba.n sB hP4;have at2:atI ((aG n r2).map V.int) ((aX (2^n-1) s:Nat):Int)=some (.int ((r2 (2^n-1-s):Nat):Int)):=by rw[mh hs];exact bg r2 (by lia)
  refine⟨_,rfl,_,rfl,b1,_,_,_,rfl,rfl,sN.seq (SqL.of (sm4.at hf3)),bg r1 hs,_,rfl,_,rfl,_,rfl,2^n-1,s,rfl,b2,_,_,_,rfl,rfl,sN.seq (SqL.of (sm4.at hl3)),at2,_,_,rfl,rfl,?_,Same.refl _⟩;dsimp only;rw[Dk]
 have sN:=ba.n sB hP4;refine⟨_,rfl,D4,S4,λz=>((sz z.toNat:Nat):Int),rfl,SqL.of (sN.lst hl4),?_,λz Hj hz smj=> ?_,λMa H6 sm6 hMa hmax=> ?_⟩
 .intro e;have:(0:Int)∈S4:=(memS 0).mpr ⟨0,ppos,rfl,by rw[M1.zero,cw],by rw[M2.zero,cw]⟩;rw[e]at this;cases this
 .obtain⟨s,hs,rfl,_⟩:=(memS z).mp hz;exact⟨(s:Int),rfl,by lia,by lia,λH' sm'=>⟨rfl,sm'⟩⟩
 refine⟨_,rfl,(by show 2<=sizeLine;decide),λpt hpt=> ?_⟩;obtain⟨I,hI,rfl,i1,i2⟩:=(memS Ma).mp hMa;obtain⟨B,hB,rfl⟩:=cG.mp hMi;have sm7:Same H6 (upd H6 pt (.tup [.int (I:Int), .int (B:Int)])):=Same.new hpt;refine k pt _ I B ((((ba.of smA).trans (ba.of sm4)).trans sB).trans ((ba.of sm6).trans (ba.of sm7))) ((tS.same sm6).same sm7) ag ⟨hI,i1,i2,hB,?_⟩;refine se M1 M2 hI i1 i2 (λJ j1 j2 j3=> ?_) hB λC hC=> ?_
 .have:=hmax (J:Int) ((memS _).mpr ⟨J,j1,rfl,j2,j3⟩);dsimp only at this;rw[Dk,Dk]at this;lia
 .have:=hmin (C:Int) (cG.mpr ⟨C,hC,rfl⟩);dsimp only at this;rw[Dk,Dk]at this;lia
theorem sc_dealt_further:aB ["dealings","free","found","done","s"] ["dealings","free"] (ao s_dealt_further):=sc_of
theorem iF(D:aY K mg "dealt_further" s_dealt_further ["dealings","free"]):Cal P w K mg base 1 "dealt_further" ["dealings","free"] (lU K):=by
 refine D.cal sc_dealt_further (λvs H Q E h=>by obtain⟨d,b,n,k,r,ps,fs,rfl,_⟩:=h;rfl) λf cdv A outer σs H vs Q E hr h=> ?_;obtain⟨d,b,n,k,r,ps,fs,rfl,n8,k8,hd,hD,hb,hfs,kk⟩:=h;refine⟨_,(ab (wset 2 sc_dealt_further.nd xD)
   (ab (wfor (xw (pv 0)) (wname 3 sc_dealt_further.nd)
     (aq (wfor (wil K (pv 1)) (wname 4 sc_dealt_further.nd)
       (aq (bA (wpt bP (av eC (pv 3) (pv 4)) ai)
         (aq (Ab (Dw (Hv (by decide) _) hr.units) (pv 2) (av fL (pv 3) (pv 4)) (av iE (tX (Dw (Hv (by decide) _) hr.units) (pv 0) (pv 3) (by intro _ _;rfl)) (c9 (aa (pv 4) ah))) (by rfl)))
         aN)))))
   (aq (aE (pv 2))))),?_⟩
 intro e he;have hed:d≠e:=au hd he;refine⟨_,rfl,d,ps,rfl,(aw hed).trans hd,λo=> ?_⟩;have start:oz n k r H d e o ps [] (λx s=>(x:Int)∈(ps.map (·.1)).take 0/\s∈fs) (upd (upd H e (.dK [])) d (.frz o (.dK (bK ps)))):=
  ⟨λa u ne q=>(aw ne).trans ((aw (au q he)).trans q),ag,(aw (E8 hed)).trans ag,λp hp=>(nomatch hp),List.nodup_nil,λx s hc=>by simp at hc⟩
 generalize upd (upd H e (.dK [])) d (.frz o (.dK (bK ps)))=H0 at*;have bd:∀ {ps' C H'},oz n k r H d e o ps ps' C H'->SqL K H' b ((fs.map λs:Nat=>(s:Int)).map V.int):=λ{ps' C H'} F=>by
  rcases hb with (hb|⟨ob,hb⟩)|hb
  .exact .inl (.inl (F.sm b _ (c8 hb hd (by intro z;cases z)) hb))
  .exact .inl (.inr ⟨ob,F.sm b _ (c8 hb hd (by intro z;cases z)) hb⟩)
  .exact .inr hb
 refine vT (λi σ H'=>∃ps' v3 v4,oz n k r H d e o ps ps' (λx s=>(x:Int)∈(ps.map (·.1)).take i/\s∈fs) H'/\σ=[some (.ref d),some (.ref b),some (.ref e),v3,v4]) ⟨[],none,none,start,rfl⟩ (λi σ H' ⟨_,_,_,F,_⟩=>⟨_,F.fz⟩) ?_ ?_
 .rintro i z σ H' hz ⟨ps',v3,v4,F,rfl⟩;obtain⟨p0,hp0,ez⟩:=DL.mp (Dv hz);have hfind:∃p,ps.find? (λp=>decide (p.1=z))=some p/\p∈ps/\p.1=z:=by
   cases hf:ps.find? (λp=>decide (p.1=z))with
   |none=>exact absurd (DG ez) (by have:=List.find?_eq_none.mp hf p0 hp0;simpa using this)
   |some p=>exact⟨p,rfl,HY hf,by have:=List.find?_some hf;simpa using this⟩
  obtain⟨p1,hf1,hp1,ez1⟩:=hfind;obtain⟨q,J,eq1,hq,hJ,eJ⟩:=hD.has p1 hp1;have ezx:z=((bL J k:Nat):Int):=by rw[<-ez1];exact eJ
  have hval:gv (bK ps) (Sum.inl z)=some (.ref q):=by rw[wF,hf1];exact Es some eq1
  refine⟨_,rfl,b,rfl,⟨_,bd F⟩,?_⟩;refine bT (K:=K) (a:=b) (xs:=(fs.map λs:Nat=>(s:Int)).map V.int) (λj σ H2=>∃ps2 v4,oz n k r H d e o ps ps2 (λx s=>((x:Int)∈(ps.map (·.1)).take i/\s∈fs)\/((x:Int)=z/\s∈fs.take j)) H2/\σ=[some (.ref d),some (.ref b),some (.ref e),some (.int z),v4])
   ⟨ps',v4,F.imp (λx s hc _=>by rcases hc with hc|⟨_,hc⟩;exact hc;simp at hc),rfl⟩ (λj σ H2 _ ⟨_,_,F2,_⟩=>bd F2) ?_ ?_
  .rintro j y σ H2 hj ⟨ps2,v4,F2,rfl⟩;rw[Dm,Dm]at hj;cases ej:fs[j]? with
   |none=>rw[ej]at hj;cases hj
   |some s=>
    rw[ej]at hj;cases hj;have hs:=(hfs s).mp (Dv ej);have etake:∀s',s'∈fs.take (j+1)->s'∈fs.take j\/s'=s:=λs' h=>by
     rw[EB,ej]at h;rcases DW.mp h with h|h
     .exact .inl h
     .exact .inr (by simpa using h)
    refine⟨_,rfl,_,rfl,_,_,rfl,rfl,rfl,_,rfl,?_⟩;have eand:decide (V.int (Builtin.bitAnd z (s:Int))=V.int 0)=decide (bL J k&&&s=0):=by
     rw[ezx,cu,cK];by_cases h0:bL J k&&&s=0
     .rw[h0];rfl
     .rw[Dy h0];exact Dy (by lia)
    rw[eand];refine dE (λhc=> ?_) λhc=> ?_
    .have h0:=DY hc;have hqd:q≠d:=c8 hq hd (by intro z;cases z);have hq2:=F2.sm q _ hqd hq;refine⟨_,rfl,_,rfl,d, .ref q,rfl, .inl ⟨_,Sum.inl z, .inr ⟨o,F2.fz⟩,rfl,hval.symm⟩,?_⟩;refine⟨_,rfl,(by show 1<=sizeLine;decide),λa1 ha1=> ?_⟩;have hqa:q≠a1:=au hq2 ha1;refine⟨q,a1,_,_,rfl,rfl,(aw hqa).trans hq2,ag,?_,λa2 ha2=> ?_⟩
     .rw[Di,Di,DU];show k+1<=sizeLine;exact Du (show k+1<=9 by lia) (by decide)
     have e2:∀X:List V,upd (upd H2 a1 (.lst X)) a2 (.lst (((List.range k).map λj=>(J j:Int)).map V.int++[.int (s:Int)])) e=some (.dK (bK ps2)):=λX=>by
      have n1:e≠a1:=au F2.at_ ha1;have n2:e≠a2:=λz=>by rw[<-z,aw n1,F2.at_]at ha2;cases ha2
      rw[aw n2,aw n1];exact F2.at_
     have ew:Builtin.bitOr z (s:Int)=((bL J k|||s:Nat):Int):=by rw[ezx,bZ]
     refine⟨_,rfl,_,rfl,_,rfl,_,_,rfl,rfl,e,_,rfl, .inl ⟨bK ps2,Sum.inl (Builtin.bitOr z (s:Int)),e2 _,rfl,?_,rfl⟩,?_⟩
     .have:=F2.len n8;unfold bK;rw[Di];exact Dw this (by decide)
     rw[Br,ew];have old:∀a u,H2 a=some u->a≠e->upd (upd (upd H2 a1 (.lst [.int (s:Int)])) a2 (.lst (((List.range k).map λj=>(J j:Int)).map V.int++[.int (s:Int)]))) e (.dK (bK (jS ps2 ((bL J k|||s:Nat):Int) (.ref a2)))) a=some u:=λa u ha ne=>by
      have n1:a≠a1:=au ha ha1;have n2:a≠a2:=λz=>by rw[<-z,aw n1,ha]at ha2;cases ha2
      rw[aw ne,aw n2,aw n1];exact ha
     have n2e:a2≠e:=λz=>by have n1:e≠a1:=au F2.at_ ha1;rw[z,aw n1,F2.at_]at ha2;cases ha2
     have new2:upd (upd (upd H2 a1 (.lst [.int (s:Int)])) a2 (.lst (((List.range k).map λj=>(J j:Int)).map V.int++[.int (s:Int)]))) e (.dK (bK (jS ps2 ((bL J k|||s:Nat):Int) (.ref a2)))) a2=some (.lst (((List.range k).map λj=>(J j:Int)).map V.int++[.int (s:Int)])):=(aw n2e).trans ag;have eall:bL (λi=>if i=k then s else J i) (k+1)=bL J k|||s:=by show bL (λi=>if i=k then s else J i) k||| (if k=k then s else J k)=_;rw[Dp rfl,kR k λi hi=>Dt (show¬i=k by lia)]
     have elist:((List.range (k+1)).map λj=>(((λi=>if i=k then s else J i) j:Nat):Int)).map V.int=((List.range k).map λj=>(J j:Int)).map V.int++[.int (s:Int)]:=by
      rw[ES,Ei,Ei];congr 1
      .congr 1;refine EV λi hi=> ?_;have:=DT.mp hi;show(((if i=k then s else J i:Nat)):Int)=_;rw[Dt (show¬i=k by lia)]
      .show [V.int (((if k=k then s else J k:Nat)):Int)]=_;rw[Dp rfl]
     refine⟨jS ps2 ((bL J k|||s:Nat):Int) (.ref a2),_,⟨λa u ne ha=>old a u (F2.sm a u ne ha) (au ha he),old d _ F2.fz hed,ag,λp hp=> ?_,rj F2.nd,λx s' hc' hx=> ?_⟩,rfl⟩
     .rcases yh hp with hp|rfl
      .obtain⟨q',J',g1,g2,g3,g4⟩:=F2.has p hp;exact⟨q',J',g1,old q' _ g2 (c8 g2 F2.at_ (by intro z;cases z)),g3,g4⟩
      .refine⟨a2,λi=>if i=k then s else J i,rfl,?_,cC.more hJ hs.1 hs.2 h0,?_⟩
       .rw[elist];exact new2
       .show((bL J k|||s:Nat):Int)=_;rw[eall]
     .refine yF ?_;rcases hc' with hc'|⟨e1,h2⟩
      .exact .inr (F2.all x s' (.inl hc') hx)
      .rcases etake s' h2 with h2|rfl
       .exact .inr (F2.all x s' (.inr ⟨e1,h2⟩) hx)
       .have:x=bL J k:=by lia
        rw[this];exact .inl rfl
    .exact⟨ps2,_,F2.imp (λx s' hc' hx=>by
      rcases hc' with hc'|⟨e1,h2⟩
      .exact .inl hc'
      .rcases etake s' h2 with h2|rfl
       .exact .inr ⟨e1,h2⟩
       .have:x=bL J k:=by lia
        rw[this]at hx;exact absurd (DG hx) hc),rfl⟩
  .rintro σ H2 ⟨ps2,v4,F2,rfl⟩;refine⟨ps2,_,_,F2.imp (λx s hc _=> ?_),rfl⟩;obtain⟨h1,h2⟩:=hc;rw[EB,hz]at h1;rcases DW.mp h1 with h1|h1
   .exact .inl ⟨h1,h2⟩
   .refine .inr ⟨by simpa using h1,?_⟩;rw[Di,Di,EK (Dl _)];exact h2
 .rintro σ H' ⟨ps',v3,v4,F,rfl⟩;refine⟨_,rfl,kk e H' ps' F.sm he F.at_ ⟨F.has,F.nd,λJ hJ=> ?_⟩⟩;obtain⟨h1,h2⟩:=cC.less hJ;obtain⟨p,hp,ep⟩:=hD.all J h1;refine F.all (bL J k) (J k) ⟨?_,(hfs _).mpr ⟨hJ.lt k (by lia),hJ.free k (by lia)⟩⟩ h2;rw[EK (Dl _)];exact DL.mpr ⟨p,hp,ep⟩
theorem sc_dealt:aB ["houses","everything","dealings","house","told","bound"] ["houses"] (ao s_dealt):=sc_of
theorem xV{Z:Hs}(z:d5 Z)(T:Tb K mg)(D:iY K mg "dealt" s_dealt ["houses"] cc)(hc:∀C,Z.dom C->HC K ar C)(CH:PySem.W.CodeHd base cc Ph)(BM:fS mg base)(af:∀C,Z.dom C->cn P w K mg base 2 C "everything" ["self"] (cV K))
  (ax:Cal P w K mg base 3 "parts" ["s"] gI) (ay:Cal P w K mg base 7 "ranks" ["house"] (jO Z)) (az:Cal P w K mg base 7 "frees" ["house"] (oT Z)) (ae:Cal P w K mg base 1 "dealt_further" ["dealings","free"] (lU K)) (ak:Cal P w K mg base 3 "size" ["s"] fE) (aD:Cal P w K mg base 1 "less" ["s","t"] jP):Cal P w K mg base 8 "dealt" ["houses"] (tK K Z Ph):=by
 refine D.cal sc_dealt (λvs H Q E h=>by obtain⟨a,n,k,r,xs,rfl,_⟩:=h;rfl) λf A outer σs H vs Q E hr h=> ?_;obtain⟨a,n,k,r,xs,rfl,n8,k0,k8,ha,hX,M,hT,kk⟩:=h;have aI:uu (iP CX0 P w K mg base ["houses","everything","dealings","house","told","bound"] "dealt" (ao s_dealt) f (.ref cc) A outer σs H E).nox yB yy vJ pK "s" ["everything","told"] [1,4] [("told",σs.heap.objs.size+2),("everything",σs.heap.objs.size+1)]:=
  ⟨rfl,rfl,rfl,Er.mpr ⟨⟨rfl,rfl⟩,Er.mpr ⟨⟨rfl,rfl⟩,λ_ h=>nomatch h⟩⟩,rfl,λ_ _ _ _=>rfl,rfl,rfl,rfl,by decide+kernel,rfl,λ_=>rfl,λ_=>rfl,Er.mpr ⟨rfl,Er.mpr ⟨rfl,λ_ h=>nomatch h⟩⟩,(by
   intro y hy hf;have:y∈([("s", .cell),("everything", .free),("told", .free),("size", .globalImplicit),("less", .globalImplicit),("sum", .globalImplicit)]:List (Str×NameKind)):=hy;rcases Dz.mp this with rfl|this
   .cases hf
   rcases Dz.mp this with rfl|this
   .exact⟨_,rfl⟩
   rcases Dz.mp this with rfl|this
   .exact⟨_,rfl⟩
   rcases Dz.mp this with rfl|this
   .cases hf
   rcases Dz.mp this with rfl|this
   .cases hf
   rcases Dz.mp this with rfl|this
   .cases hf
   .cases this)⟩
 refine⟨_,(ab (wset 1 sc_dealt.nd (dU af hr (by decide) (bb K (pv 0) ai)))
   (ab (wset 2 sc_dealt.nd (Al (xq ai (c9 ah) Ac) (by rfl) (by rfl) (by simp) (by simp)))
   (ab (wfor (wil K (pv 0)) (wname 3 sc_dealt.nd)
     (aq (wset 2 sc_dealt.nd (wcal ae hr (aa (pv 2) (aa (wcal az hr (aa (pv 3) ah)) ah))))))
   (ab (wset 4 sc_dealt.nd (wlc ["house"] [] [] (wil K (pv 0)) (wnC 0) aM (wcal ay hr (aa (pv 0) ah))))
   (ab (wset 5 sc_dealt.nd (rz aI (by rfl) (by rfl) CH BM hr (by rfl) (by rfl) T.min_ (aa (wcal ax hr (aa (pv 1) ah)) ah) (λ_ _ _ _=>(av bh (wcal ak (hr.in1.deeper _) (aa (wcal aD (hr.in1.deeper _) (aa (pv 1) (aa (pv 0) ah))) ah)) (bW (wk (K:=K) (by rfl) (by rfl)) (by rfl) T.sum_ PyProof.Rows.boot_sum (aa (wlc ["some"] ["s"] [0] (wil K (pv 2)) (wnC 0) aM (bb K (pv 0) (pv 1))) ah))))))
   (aq (aE (cD (aa (tX (Dw (Hv (by decide) _) hr.units) (pv 2) (lX ak hr (by decide) (by rfl) (by rfl) (by rfl) T.max_ (aa (bM (qd (by rfl)) (by rfl) T.list_ E9 (aa (pv 2) ah)) ah)) (by intro _ _;rfl)) (aa (pv 5) ah)))))))))),?_⟩
 have p8:=dB n8;have ppos:0<2^n:=DZ (by lia);obtain⟨h0,hx0,hB0⟩:=hX.2 0 k0;obtain⟨C,dm,hsh⟩:=z.shown hB0;obtain⟨dx,fs0,hh,fr,fe,fm⟩:=hsh.ex;obtain⟨cl,nM,ty,isH⟩:=hc C dm;have at0:atI xs 0=some (.ref h0):=aK (j:=0) hx0;refine⟨_,rfl,a,xs,_,_,rfl,rfl,ha,at0,h0,_,dx,fs0,rfl,hh,dm,fe,h0,_,dx,fs0,(n:Int),rfl,hh,cl,nM,fm,by lia,by lia,?_⟩;rw[ic];intro d0 hd0;refine⟨DV _,λq0 hq0=>⟨(aw (λz=>by rw[<-z,ag]at hq0;cases hq0)).trans ag,[(Sum.inl 0, .ref q0)],rfl,(by show 1<=15;decide),?_⟩⟩;have hqd:q0≠d0:=λz=>by rw[z,ag]at hq0;cases hq0
 have hq0':H q0=none:=by rw[aw hqd]at hq0;exact hq0
 have sm0:Same H (upd (upd (upd H d0 (.dK [])) q0 (.lst [])) d0 (.dK (bK [(0, .ref q0)]))):=λb o e=>by rw[aw (au e hd0),aw (au e hq0'),aw (au e hd0)];exact e
 have hd1:upd (upd (upd H d0 (.dK [])) q0 (.lst [])) d0 (.dK (bK [(0, .ref q0)])) d0=some (.dK (bK [(0, .ref q0)])):=ag;have D0:gq n 0 r (upd (upd (upd H d0 (.dK [])) q0 (.lst [])) d0 (.dK (bK [(0, .ref q0)]))) [(0, .ref q0)]:=⟨λp hp=>by rw[DN.mp hp];exact⟨q0,λ_=>0,rfl,(aw hqd).trans ag,⟨λi hi=>absurd hi (EZ _),λi hi=>absurd hi (EZ _),λi j hi=>absurd hi (EZ _)⟩,rfl⟩,by simp,λJ _=>⟨_,DE,rfl⟩⟩
 have em:iJ [] [((Sum.inl 0:Key),V.ref q0)]=bK [(0, .ref q0)]:=rfl;rw[em];generalize upd (upd (upd H d0 (.dK [])) q0 (.lst [])) d0 (.dK (bK [(0, .ref q0)]))=H1 at*;refine⟨_,rfl,a,rfl,⟨_,sm0.seq ha⟩,?_⟩;refine bT (K:=K) (a:=a) (xs:=xs) (λi σ H'=>∃d ps v3,Same H H'/\H d=none/\H' d=some (.dK (bK ps))/\gq n i r H' ps/\σ=[some (.ref a),some (.int ((2^n-1:Nat):Int)),some (.ref d),v3,none,none]) ⟨d0,_,none,sm0,hd0,hd1,D0,rfl⟩ (λi σ H' _ ⟨_,_,_,sm,_⟩=>sm.seq ha) ?_ ?_
 .rintro i y σ H' hy ⟨d,ps,v3,sm,hd,hdd,DD,rfl⟩;obtain⟨hi,h,rfl,hB⟩:=hX.at hy;refine⟨_,rfl,_,rfl,h,n,r i,rfl,z.same sm hB,n8,λp H2 fs sm2 hp hl _ hfs=> ?_⟩;refine⟨d,p,n,i,r,ps,fs,rfl,n8,by lia,sm2.at hdd,DD.same sm2,SqL.of hl,hfs,λe H3 ps' sx he h3 D3=> ?_⟩;exact⟨e,ps',_,λb o eb=>sx b o (au eb hd) (sm2.at (sm.at eb)),(sm.trans sm2).free he,h3,D3,rfl⟩
 rintro σ H' ⟨d,ps,v3,sm,hd,hdd,DD,rfl⟩;rw[hX.1]at DD;refine⟨_,rfl,a,rfl,⟨_,sm.seq ha⟩,?_⟩;refine gY (λi y H=>∃b,y= .ref b/\H b=some (.lst ((aG n (r i)).map V.int))) (λi y H H' e ⟨b,h1,h2⟩=>⟨b,h1,e.at h2⟩) (sm.seq ha) (by rw[hX.1];exact Du k8 (by decide)) (λi x vs D H2 R S hx hv sm2 hD hk=> ?_) λD2 H2 ys hD2 sm2 hl2 hyl hys=> ?_
 .obtain⟨v,rfl⟩:=aR hv;obtain⟨hi,h,rfl,hB⟩:=hX.at hx;simp only[a8,cm,Dp];refine⟨_,rfl,h,n,r i,rfl,z.same (sm.trans sm2) hB,n8,λp H3 sm3 hp hl3=> ?_⟩;obtain⟨l,hDl⟩:=hD;exact hk (.ref p) [some (.ref h)] H3 ⟨p,rfl,by rw[cg (λz=>by rw[z,hDl]at hp;cases hp)];exact hl3⟩ rfl sm3
 rw[hX.1]at hyl;have hT2:=hT.same (sm.trans sm2);have hdd2:=sm2.at hdd;have DD2:=DD.same sm2;refine⟨_,rfl,((2^n-1:Nat):Int),rfl,by lia,by lia,λp1 H3 sm3 hp1 hl3=> ?_⟩;rw[Dk,fV n (by lia)]at hl3;change H3 p1=some (.lst ((jg n).map V.int))at hl3;have hT3:=hT2.same sm3;obtain⟨pz,hP3⟩:=hT3.tbl;refine⟨p1,jg n,λz=>((sz (2^n-1-z.toNat):Nat):Int)+((aZ (λi=>r i z.toNat) k:Nat):Int),rfl,SqL.of hl3,?_,hT3,λz Hj hz sB=> ?_,λMi H5 sB tS hMi hmin=> ?_⟩
 .intro e;have:(0:Int)∈jg n:=cG.mpr ⟨0,ppos,rfl⟩;rw[e]at this;cases this
 .obtain⟨s,hs,rfl⟩:=cG.mp hz;have sN:=ba.n sB hP3;have hlt:aX (2^n-1) s<2^n:=kx;refine⟨_,rfl,_,rfl,2^n-1,s,rfl,((aX (2^n-1) s:Nat):Int),rfl,by lia,by lia,λH4 sm4=> ?_⟩;have hl4:SqL K H4 D2 ys:=SqL.of (sm4.at (sN.lst (sm3.at hl2)));refine⟨_,rfl,D2,rfl,⟨_,hl4⟩,?_⟩;refine gY (λi y _=>y= .int ((r i s:Nat):Int)) (λi y H H' _ h=>h) hl4 (by rw[hyl];exact Du k8 (by decide)) (λi x vs D H5 R S hx hv sm5 hD hk=> ?_) λD5 H5 zs hD5 sm5 hl5 hzl hzs=> ?_
  .obtain⟨v,rfl⟩:=aR hv;obtain⟨b,rfl,hb⟩:=hys i x hx;simp only[a8,cm,Dp];refine⟨_,rfl,_,rfl,b,_,_,_,rfl,rfl,SqL.of (sm5.at (sm4.at (sN.lst (sm3.at (cy b _ hb))))),bg (r i) hs,?_⟩;exact hk _ [some (.ref b)] H5 rfl rfl (Same.refl _)
  rw[hyl]at hzl;rw[AI hzl hzs]at hl5;refine⟨D5,_,rfl,SqL.of hl5,?_⟩;refine⟨_,_,rfl,rfl,?_,sm4.trans sm5⟩;rw[jL (λi=>r i s)];dsimp only;rw[Dk,Dk,mh hs]
 have sN:=ba.n sB hP3;have hd5:H5 d=some (.dK (bK ps)):=sN d _ (λ_ z=>by cases z) (sm3.at hdd2);have DD5:=(DD2.same sm3).sameN sN;have D00:cC n k r (λ_=>0):=⟨λi _=>ppos,λi hi=>by rw[(M i hi).zero,cw],λi j _ _ _ b hb=>by rw[En]at hb;cases hb⟩;refine⟨_,rfl,_,rfl,d,ps,rfl,hd5,λl hl=> ?_⟩;have smL:Same H5 (upd H5 l (.lst ((ps.map (·.1)).map V.int))):=Same.new hl;have hll:upd H5 l (.lst ((ps.map (·.1)).map V.int)) l=some (.lst ((ps.map (·.1)).map V.int)):=ag;generalize upd H5 l (.lst ((ps.map (·.1)).map V.int))=H6 at*;refine⟨l,ps.map (·.1),λz=>((sz z.toNat:Nat):Int),rfl,SqL.of hll,?_,λz Hj hz smj=> ?_,λMa H7 sm7 hMa hmax=> ?_⟩
 .intro e;obtain⟨p,hp,_⟩:=DD5.all _ D00;have h1:p.1∈ps.map (·.1):=DL.mpr ⟨p,hp,rfl⟩;rw[e]at h1;cases h1
 .obtain⟨p,hp,rfl⟩:=DL.mp hz;obtain⟨q,J,_,_,hJ,eJ⟩:=DD5.has p hp;have:=ie k hJ.lt;exact⟨p.1,rfl,by lia,by lia,λH' sm'=>⟨rfl,sm'⟩⟩
 obtain⟨p,hp,rfl⟩:=DL.mp hMa;have hfind:∃p',ps.find? (λx=>decide (x.1=p.1))=some p'/\p'∈ps/\p'.1=p.1:=by
  cases hf:ps.find? (λx=>decide (x.1=p.1))with
  |none=>have:=List.find?_eq_none.mp hf p hp;simp at this
  |some p'=>exact⟨p',rfl,HY hf,by have:=List.find?_some hf;simpa using this⟩
 obtain⟨p',hf,hp',ep'⟩:=hfind;obtain⟨q,J,eq1,hq,hJ,eJ⟩:=DD5.has p' hp';refine⟨d, .ref q,rfl, .inl ⟨bK ps,Sum.inl p.1, .inl (sm7.at (smL.at hd5)),rfl,?_⟩,?_⟩
 .rw[wF,hf];exact(Es some eq1).symm
 refine⟨_,rfl,(by show 2<=sizeLine;decide),λpt hpt=> ?_⟩;obtain⟨B,hB,rfl⟩:=cG.mp hMi;have sm8:Same H7 (upd H7 pt (.tup [.ref q, .int (B:Int)])):=Same.new hpt;refine kk pt q _ J B (((a9.of ((sm.trans sm2).trans sm3)).trans sN).trans (a9.of ((smL.trans sm7).trans sm8))) ag (sm8.at (sm7.at (smL.at hq))) ⟨hJ,hB,?_⟩;refine vW n8 M hJ (λJ' hJ'=> ?_) hB λC hC=> ?_
 .obtain⟨p2,hp2,e2⟩:=DD5.all J' hJ';have:=hmax p2.1 (DL.mpr ⟨p2,hp2,rfl⟩);dsimp only at this;rw[e2,<-ep',eJ,Dk,Dk]at this;lia
 .have:=hmin (C:Int) (cG.mpr ⟨C,hC,rfl⟩);dsimp only at this;rw[Dk,Dk]at this;lia
theorem sc__law_whole:aB ["_law_found"] ["_law_found"] (ao s__law_whole):=sc_of
theorem lg(T:Tb K mg)(D:aY K mg "_law_whole" s__law_whole ["_law_found"]):Cal P w K mg base 1 "_law_whole" ["_law_found"] jn:=by refine D.cal sc__law_whole (λvs H Q E h=>by obtain⟨i,rfl,_⟩:=h;rfl) λf cdv A outer σs H vs Q E hr h=> ?_;obtain⟨i,rfl,k⟩:=h;refine⟨_,(aq (aE (xE (bW (c6 (K:=K) (by rfl)) (by rfl) T.isinstance_ Fo (aa (pv 0) (aa (gO (v:= .ty "int") (by rfl) T.int_ PyProof.Rows.boot_int rfl) ah))) (xy (Bz (bW (c6 (K:=K) (by rfl)) (by rfl) T.isinstance_ Fo (aa (pv 0) (aa (gO (v:= .ty "bool") (by rfl) T.bool_ PyProof.Rows.boot_bool rfl) ah)))))))),?_⟩;refine⟨_,rfl,_,_,_,true,rfl, .int _,T.kII,true,rfl,yG ?_⟩;exact⟨_,rfl,_,_,_,false,rfl, .int _,T.kIB,false,rfl,k⟩
theorem sc__law_at:aB ["_law_script","_law_k"] ["_law_script","_law_k"] (ao s__law_at):=sc_of
theorem rJ(T:Tb K mg)(D:aY K mg "_law_at" s__law_at ["_law_script","_law_k"]):Cal P w K mg base 1 "_law_at" ["_law_script","_law_k"] (Bi K):=by
 refine D.cal sc__law_at (λvs H Q E h=>by obtain⟨a,ns,i,rfl,_⟩:=h;rfl) λf cdv A outer σs H vs Q E hr h=> ?_;obtain⟨a,ns,i,rfl,i0,ha,k⟩:=h;refine⟨_,(ab (bA (wpt ma (pv 1) (wlen K T.len_ (pv 0)))
     (aq (aE (bb K (pv 0) (pv 1))))
     aN)
   (aq (aE ai))),?_⟩
 obtain⟨j,rfl⟩:=Eu i0;rw[Dk]at k;refine⟨_,rfl,_,rfl,a,_,rfl, .inl ha,_,_,rfl,rfl,_,rfl,dE (λhc=> ?_) λhc=> ?_⟩
 .have hj:j<ns.length:=by have:=DY hc;rw[Di]at this;lia
  have at1:atI (ns.map V.int) (j:Int)=some (.int (ns.getD j 0)):=aK (by rw[Dm];simp[hj]);exact⟨_,rfl,_,rfl,a,_,_,_,rfl,rfl,ha,at1,k⟩
 .have hj:ns.length<=j:=by have:=Gj (FH.mpr hc);rw[Di]at this;lia
  rw[Ee,GH.mpr hj]at k;exact k
theorem sc__law_mixed:aB ["_law_cell","_law_k","_law_number"] ["_law_cell","_law_k"] (ao s__law_mixed):=sc_of
theorem lq(D:aY K mg "_law_mixed" s__law_mixed ["_law_cell","_law_k"]):Cal P w K mg base 1 "_law_mixed" ["_law_cell","_law_k"] jo:=by
 refine D.cal sc__law_mixed (λvs H Q E h=>by obtain⟨c,i,rfl,_⟩:=h;rfl) λf cdv A outer σs H vs Q E hr h=> ?_;obtain⟨c,i,rfl,i0,i1,k⟩:=h;refine⟨_,(ab (wset 2 sc__law_mixed.nd (av aP (av bh (av bh (av da (pv 0) ai) (av da (av da ai (pv 1)) (pv 1))) (pv 1)) ai))
   (aq (aE (av aP (av da (pv 2) ai) ai)))),?_⟩
 refine⟨_,rfl,_,_,rfl,rfl, .inr ⟨by decide,by decide⟩,_,rfl,_,_,rfl,rfl, .inl ⟨by decide,by decide⟩,_,rfl,_,_,rfl,rfl, .inr ⟨by lia,by lia⟩,_,_,rfl,rfl,_,rfl,_,_,rfl,rfl,_,_,rfl,rfl,(by show(0:Int)<2147483647;decide),?_⟩;refine⟨_,rfl,_,_,rfl,rfl, .inr ⟨by decide,by decide⟩,_,_,rfl,rfl,(by show(0:Int)<2147483629;decide),?_⟩;exact k _ (EI _ (by decide))
theorem sc__law_numbers:aB ["_law_script","_law_start","_law_some"] ["_law_script","_law_start"] (ao s__law_numbers):=sc_of
theorem ji(T:Tb K mg)(D:aY K mg "_law_numbers" s__law_numbers ["_law_script","_law_start"])(ae:Cal P w K mg base 1 "_law_mixed" ["_law_cell","_law_k"] jo):Cal P w K mg base 2 "_law_numbers" ["_law_script","_law_start"] (tf K):=by
 refine D.cal sc__law_numbers (λvs H Q E h=>by obtain⟨a,ns,st,rfl,_⟩:=h;rfl) λf cdv A outer σs H vs Q E hr h=> ?_;obtain⟨a,ns,st,rfl,st0,st1,ha,hn,k⟩:=h;refine⟨_,(ab (wset 2 sc__law_numbers.nd (dR (dP (K:=K) (by rfl)) (pv 0) cW (bV ai)))
   (aq (aE (wlc ["_law_k"] ["_law_some"] [2] (uX (by rfl) T.range_ (aa (pv 1) (aa (wlen K T.len_ (pv 2)) ah))) (wnC 0) aM (wcal ae hr (aa (bb K (pv 1) (pv 0)) (aa (pv 0) ah))))))),?_⟩
 refine⟨_,rfl,_,rfl,a,_,rfl,ha,λp1 hp1=> ?_⟩;obtain⟨ds,ed,hdl⟩:=pZ ns none (some 63);rw[ed];have hd1:upd H p1 (.lst (ds.map V.int)) p1=some (.lst (ds.map V.int)):=ag;have sm1:Same H (upd H p1 (.lst (ds.map V.int))):=Same.new hp1;generalize upd H p1 (.lst (ds.map V.int))=H1 at*;refine⟨_,rfl,_,rfl,p1,_,rfl, .inl (SqL.of hd1),st,_,rfl,⟨by lia,by lia,by lia,by rw[Di];lia⟩,?_⟩;rw[Di];have e63:(((ds.length:Nat):Int) -st).toNat<=63:=by lia
 refine mm true (λ_=>True) (Du e63 (by decide)) (λi vs H' R S hi hv sm hk _=> ?_) λD H' zs hD sm hl hz hle _=> ?_
 .obtain⟨v,rfl⟩:=aR hv;simp only[a8,cm,Dp];have at1:atI (ds.map V.int) (st+(i:Int))=some (.int (ds.getD (st.toNat+i) 0)):=by
   have e:(st+(i:Int))=((st.toNat+i:Nat):Int):=by lia
   rw[e];exact du (by lia)
  refine⟨_,rfl,_,rfl,p1,_,_,_,rfl,rfl,SqL.of (sm.at hd1),at1,_,rfl,_,_,rfl,by lia,by lia,λm hm=> ?_⟩;exact hk m [some (.int (st+(i:Nat)))] H' trivial rfl (Same.refl _)
 .exact k D H' zs (sm1.trans sm) (sm1.free hD) hl (Du hle e63)
theorem sc__law_counts:aB ["_law_many","_law_sizes","_law_k"] ["_law_many"] (ao s__law_counts):=sc_of
theorem kd(T:Tb K mg)(D:aY K mg "_law_counts" s__law_counts ["_law_many"]):Cal P w K mg base 1 "_law_counts" ["_law_many"] fG:=by
 refine D.cal sc__law_counts (λvs H Q E h=>by obtain⟨n,rfl,_⟩:=h;rfl) λf cdv A outer σs H vs Q E hr h=> ?_;obtain⟨n,rfl,hn,k⟩:=h;refine⟨_,(ab (wset 1 sc__law_counts.nd (c9 (aa ai ah)))
   (ab (wfor (wrng T.range_ (pv 0)) (wname 2 sc__law_counts.nd)
     (aq (wset 1 sc__law_counts.nd (av iE (pv 1) (wlc ["_law_one"] [] [] (wil K (pv 1)) (wnC 0) aM (av bh (pv 0) ai))))))
   (aq (aE (pv 1))))),?_⟩
 refine⟨by show 1<=sizeLine;decide,λq hq=> ?_⟩;have hq1:upd H q (.lst [.int 0]) q=some (.lst ((szI 0).map V.int)):=ag;have sm1:Same H (upd H q (.lst [.int 0])):=Same.new hq;(try dsimp only);generalize upd H q (.lst [.int 0])=H1 at*;refine⟨_,rfl,_,rfl,by lia,by lia,?_⟩;rw[Dk];refine cz (n:=n) (λi σ H'=>Same H H'/\∃ (q:Addr) (v:Option V),H q=none/\H' q=some (.lst ((szI i).map V.int))/\σ=[some (.int (n:Int)),some (.ref q),v]) ⟨sm1,q,none,hq,hq1,rfl⟩ ?_ ?_
 .rintro i σ H' hi ⟨sm',q',v,hqn,hq',rfl⟩;have p8:=dB (show i<=8 by lia);refine⟨_,rfl,_,rfl,q',rfl,⟨_,SqL.of hq'⟩,?_⟩;refine bR (λx=>(λ_=>true) (bB x)) (λv=> .int ((λm:Int=>m+1) (bB v))) (SqL.of hq') (by rw[Di,jJ];exact Du p8 (by decide)) (λj v vs H2 R S hv' hv sm hk=> ?_) λD H2 hD sm2 hl2=> ?_
  .obtain⟨v,rfl⟩:=aR hv;obtain⟨m,rfl,hm⟩:=bH hv';have q:=hk [some (.int m)] H2 rfl (Same.refl _);rw[Dp rfl]at q;simp only[a8,cm,Dp];exact⟨_,rfl,_,_,rfl,rfl,q⟩
  replace hl2:=hl2.trans (Es (λl=>some (HO.lst l)) (bC (λ_=>true) (λm:Int=>m+1) (szI i)));rw[Eo.mpr (λ_ _=>rfl)]at hl2;refine⟨q',D,_,_,rfl,rfl,sm2.at hq',hl2,?_,λu hu=> ?_⟩
  .rw[Di,Di,Di,jJ];exact Du (show 2^i+2^i<=512 by lia) (by decide)
  refine⟨sm'.trans (sm2.trans (Same.new hu)),u,_,?_,?_,rfl⟩
  .cases e:H u with
   |none=>rfl
   |some o=>rw[(sm'.trans sm2).at e]at hu;cases hu
  .rw[ag,wY i (by lia),Ei]
 .rintro σ H' ⟨sm',q',v,hqn,hq',rfl⟩;exact⟨_,rfl,k q' H' sm' hqn hq'⟩
theorem sc__law_rank:aB ["_law_columns","_law_s","_law_steps","_law_k","_law_left","_law_step"] ["_law_columns","_law_s"] (ao s__law_rank):=sc_of
theorem nK(T:Tb K mg)(D:aY K mg "_law_rank" s__law_rank ["_law_columns","_law_s"]):Cal P w K mg base 1 "_law_rank" ["_law_columns","_law_s"] (w8 K):=by
 refine D.cal sc__law_rank (λvs H Q E h=>by obtain⟨a,cols,s,rfl,_⟩:=h;rfl) λf cdv A outer σs H vs Q E hr h=> ?_;obtain⟨a,cols,s,rfl,ha,h8,hs,k⟩:=h;refine⟨_,(ab (wset 2 sc__law_rank.nd (c9 ah))
   (ab (wfor (wrng T.range_ (wlen K T.len_ (pv 0))) (wname 3 sc__law_rank.nd)
     (ab (wset 4 sc__law_rank.nd (av da (bb K (pv 0) (pv 3)) (av eC (av j7 (pv 1) (pv 3)) ai)))
     (ab (wfor (wil K (pv 2)) (wname 5 sc__law_rank.nd)
       (aq (wset 4 sc__law_rank.nd (bW (iT (by rfl)) (by rfl) T.min_ FW (aa (pv 4) (aa (av rD (pv 4) (pv 5)) ah))))))
     (aq (bA (wpt gb (pv 4) ai)
       (aq (bU (fc (K:=K) (by rfl) EN EW EX cQ (pv 2) (aa (pv 4) ah))))
       aN)))))
   (aq (aE (wlen K T.len_ (pv 2)))))),?_⟩
 refine⟨DV _,λq hq=> ?_⟩;have smq:Same H (upd H q (.lst [])):=Same.new hq;have hq0:upd H q (.lst []) q=some (.lst ((cq (cI (ft cols s 0))).map V.int)):=ag;generalize upd H q (.lst [])=H0 at*;have clen:((cq cols).map V.int).length=cols.length:=by rw[Di,cq,Di]
 refine⟨_,rfl,a,_,rfl, .inl (smq.seq ha),_,rfl,by lia,by rw[clen];lia,?_⟩;rw[clen,Dk];have slen:∀i,(cI (ft cols s i)).length<=i:=λi=>by have:=zT (ft cols s i);unfold ft at this;rw[Di,DU]at this;exact this
 refine cz (n:=cols.length) (λi σ H'=>∃v3 v4 v5:Option V,Same H H'/\H' q=some (.lst ((cq (cI (ft cols s i))).map V.int))/\σ=[some (.ref a),some (.int (s:Int)),some (.ref q),v3,v4,v5])
  ⟨none,none,none,smq,hq0,rfl⟩ ?_ ?_
 .rintro i σ H' hi ⟨v3,v4,v5,sm',hq',rfl⟩;have at1:atI ((cq cols).map V.int) (0+(i:Int))=some (.int ((cols.getD i 0:Nat):Int)):=by rw[EA];refine aK ?_;rw[Dm,cq,Dm,Ds hi];simp[hi]
  have eb:Builtin.bitAnd ((s:Int) /2^(0+(i:Int)).toNat) 1=if s.testBit i=true then 1 else 0:=by
   have e1:(0+(i:Int)).toNat=i:=by lia
   have e2:((s:Int) /2^i)=((s/2^i:Nat):Int):=by simp
   rw[e1,e2,eU (E2 _) (by decide),Dk,show((1:Int).toNat)=1 from rfl,HJ,d7];by_cases hb:s/2^i % 2=1
   .rw[hb,DG rfl,Dp rfl];rfl
   .rw[Dy hb,Dt Dr];lia
  refine⟨_,rfl,_,rfl,a,_,_,_,rfl,rfl,sm'.seq ha,at1,_,rfl,_,rfl,_,_,rfl,rfl,by lia,_,_,rfl,rfl,_,_,rfl,rfl, .inr ?_,?_⟩
  .rw[eb];split<;>exact⟨by decide,by decide⟩
  (try dsimp only);rw[eb];have ev:((cols.getD i 0:Nat):Int)*(if s.testBit i=true then 1 else 0)=(((if s.testBit i=true then cols.getD i 0 else 0):Nat):Int):=by
   split
   .lia
   .lia
  rw[ev];have em:ft cols s (i+1)=ft cols s i++[if s.testBit i=true then cols.getD i 0 else 0]:=by unfold ft;rw[ES,Ei];rfl
  generalize (if s.testBit i=true then cols.getD i 0 else 0)=v at*;have sl:=slen i;generalize hss:cI (ft cols s i)=ss at*;refine⟨_,rfl,q,rfl,⟨_,SqL.of hq'⟩,?_⟩;refine bT (K:=K) (a:=q) (xs:=(cq ss).map V.int) (λu σ H2=>H2=H'/\∃v5:Option V,σ=[some (.ref a),some (.int (s:Int)),some (.ref q),some (.int (0+(i:Int))),some (.int ((red (ss.take u) v:Nat):Int)),v5])
   ⟨rfl,v5,rfl⟩ (λu σ H2 _ q=>by rw[q.1];exact SqL.of hq') ?_ ?_
  .intro u y σ H2 hu hw;obtain⟨e,v5,es⟩:=hw;subst es;obtain⟨z,rfl,hz⟩:=bH hu;unfold cq at hz;rw[Dm]at hz;cases hsu:ss[u]? with
   |none=>rw[hsu]at hz;cases hz
   |some w'=>
    rw[hsu]at hz;cases hz;refine⟨_,rfl,_,rfl,_,rfl,_,_,rfl,rfl,_,_,rfl,?_⟩;rw[kP];refine⟨e,some (.int (w':Int)),?_⟩;have e2:=xk ss v u hsu;have e3:(if((red (ss.take u) v^^^w':Nat):Int)<((red (ss.take u) v:Nat):Int)then((red (ss.take u) v^^^w':Nat):Int)else((red (ss.take u) v:Nat):Int))=((red (ss.take (u+1)) v:Nat):Int):=by
     rw[e2];unfold mn;by_cases hc:red (ss.take u) v^^^w'<red (ss.take u) v
     .rw[Dp (by lia),Dp hc]
     .rw[Dt (by lia),Dt hc]
    rw[<-e3];rfl
  .intro σ H2 hw;obtain⟨e,v5,es⟩:=hw;subst es;subst e;have etl:((cq ss).map V.int).length=ss.length:=by rw[Di,cq,Di]
   rw[etl,Fg];have est:cI (ft cols s (i+1))=stp ss v:=by rw[em,eX,hss]
   refine⟨_,rfl,_,_,rfl,rfl,_,rfl,dE (λhc=> ?_) λhc=> ?_⟩
   .have hpos:0<red ss v:=by have:=DY hc;lia
    refine⟨_,rfl, .inl ⟨rfl,_,SqL.of hq'⟩,_,rfl,q,_,_,rfl,rfl,hq',(by rw[etl];exact Dw (show ss.length<=8 by lia) (by decide)),?_⟩;refine⟨_,_,_,sm'.upd hq,?_,rfl⟩;rw[ag,est,stp,Dp hpos];unfold cq;rw[Ei,Ei];rfl
   .have hz:¬0<red ss v:=by have:=Gj (FH.mpr hc);lia
    refine⟨_,_,_,sm',?_,rfl⟩;rw[est,stp,Dt hz];exact hq'
 .rintro σ H' ⟨v3,v4,v5,sm',hq',rfl⟩;refine⟨_,rfl,q,_,rfl, .inl (SqL.of hq'),?_⟩;rw[Di,cq,Di,vy h8 hs];exact k H' sm'
theorem sc__law_even:aB ["_law_many","_law_most","_law_numbers_here","_law_sizes","_law_sets","_law_gone","_law_number","_law_s","_law_near"] ["_law_many","_law_most","_law_numbers_here"] (ao s__law_even):=sc_of
theorem nQ(T:Tb K mg)(D:aY K mg "_law_even" s__law_even ["_law_many","_law_most","_law_numbers_here"])(ae:Cal P w K mg base 1 "_law_counts" ["_law_many"] fG):Cal P w K mg base 2 "_law_even" ["_law_many","_law_most","_law_numbers_here"] (tG K):=by
 refine D.cal sc__law_even (λvs H Q E h=>by obtain⟨n,m,b,ns,rfl,_⟩:=h;rfl) λf cdv A outer σs H vs Q E hr h=> ?_;obtain⟨n,m,b,ns,rfl,hn,hm,hb,hnl,k⟩:=h;refine⟨_,(ab (wset 3 sc__law_even.nd (wcal ae hr (aa (pv 0) ah)))
   (ab (wls 4 sc__law_even.nd ["_law_s"] ["_law_most","_law_sizes"] [1,3] (wrng T.range_ (av cF ai (pv 0))) (wnC 0) (dD (wpt bP (bb K (pv 2) (pv 0)) (pv 1))) (pv 0))
   (ab (wset 5 sc__law_even.nd (c9 ah))
   (ab (bA (PW.pt (nB (wpt ma ai (pv 1)) (jq (wpt ma (pv 1) (pv 0)))))
     (aq (wfor (wil K (pv 2)) (wname 6 sc__law_even.nd)
       (ab (wset 7 sc__law_even.nd (bb K (pv 4) (av aP (pv 6) (wlen K T.len_ (pv 4)))))
       (ab (wls 8 sc__law_even.nd ["_law_one"] ["_law_sizes","_law_most","_law_s"] [3,1,7] (wil K (pv 5)) (wnC 0) (dD (wpt gb (bb K (pv 1) (av eC (pv 0) (pv 3))) (av bJ (pv 2) ai))) (pv 0))
       (aq (bA (wpt bP (wlen K T.len_ (pv 8)) ai)
         (aq (bU (fc (K:=K) (by rfl) EN EW EX cQ (pv 5) (aa (pv 7) ah))))
         aN))))))
     aN)
   (aq (aE (wlc ["_law_s"] ["_law_most","_law_sizes","_law_gone"] [1,3,5] (wrng T.range_ (av cF ai (pv 0))) (wnC 0) aM (av bJ (bW (iT (by rfl)) (by rfl) T.min_ FW (aa (bb K (pv 2) (pv 0)) (aa (pv 1) ah))) (bM wq (by rfl) T.int_ PyProof.Rows.boot_int (aa (tY (rF (K:=K) (by rfl)) (pv 0) (pv 3) (by rfl)) ah)))))))))),?_⟩
 have p8:=dB hn;have ppos:0<2^n:=DZ (by lia);refine⟨_,rfl,n,rfl,hn,λpz H1 sm1 hpz hz1=> ?_⟩;refine⟨_,rfl,_,_,rfl,rfl,⟨by lia,by lia,by decide⟩,_,rfl,?_⟩;rw[bx];refine⟨by lia,by lia,?_⟩;rw[Dk];refine bQ (λi=>decide (sz i=m)) (λi=> .int (0+(i:Nat))) (Du p8 (by decide)) (λi vs H' R S hi hv sm hk=> ?_) λp3 H2 hp3 sm2 hl2=> ?_
 .obtain⟨v,rfl⟩:=aR hv;have at1:atI ((szI n).map V.int) (0+(i:Int))=some (.int (sz i:Nat)):=by rw[EA];exact fD hi
  refine⟨_,rfl,_,rfl,pz,_,_,_,rfl,rfl,SqL.of (sm.at hz1),at1,_,rfl,rfl,_,rfl,?_⟩;have q:=hk [some (.int (0+(i:Nat)))] H' rfl (Same.refl _);have e2:decide (V.int (sz i:Nat)=V.int (m:Int))=decide (sz i=m):=by rw[cK];exact decide_eq_decide.mpr (by lia)
  rw[e2];show if decide (sz i=m)=true then _ else _;by_cases hc:decide (sz i=m)=true
  .rw[Dp hc]at q⊢;exact⟨_,rfl,q⟩
  .rw[Dt hc]at q⊢;exact q
 rw[jX]at hl2;generalize hsome:(List.map (λs:Nat=>(s:Int)) (List.filter (λi=>decide (sz i=m)) (List.range (2^n))))=sets at hl2;have msome:∀z∈sets,∃s:Nat,s<2^n/\z=(s:Int)/\sz s=m:=λz hz=>by rw[<-hsome]at hz;obtain⟨s,hs,rfl⟩:=DL.mp hz;obtain⟨h1,h2⟩:=Fb.mp hs;exact⟨s,DT.mp h1,rfl,DY h2⟩
 have psome:0<sets.length:=by
  obtain⟨s,h1,h2,_⟩:=zH (ps:=[]) hn hm (.inl rfl);have:(s:Int)∈sets:=by rw[<-hsome];exact DL.mpr ⟨s,Fb.mpr ⟨DT.mpr h1,DG h2⟩,rfl⟩
  exact FQ this
 have sm02:=sm1.trans sm2;have hz2:=sm2.at hz1;refine⟨DV _,λq hq=> ?_⟩;have smq:Same H2 (upd H2 q (.lst [])):=Same.new hq;have hq0:upd H2 q (.lst []) q=some (.lst (([]:List Int).map V.int)):=ag;generalize upd H2 q (.lst [])=H3 at*;(try dsimp only);refine kj (λσ' H'=>∃ (gone:List Int) (v6 v7 v8:Option V),Same H2 H'/\H' q=some (.lst (gone.map V.int))/\fR n m gone/\(ns=[]->gone=[])/\σ'=[some (.int (n:Int)),some (.int (m:Int)),some (.ref b),some (.ref pz),some (.ref p3),some (.ref q),v6,v7,v8]) ?_ ?_
 .rintro σ' H' ⟨gone,v6,v7,v8,smr,hq',hok,hnil,rfl⟩;refine⟨_,rfl,_,_,rfl,rfl,⟨by lia,by lia,by decide⟩,_,rfl,?_⟩;rw[bx];refine⟨by lia,by lia,?_⟩;rw[Dk];refine bQ (λ_=>true) (λi=> .int ((rkG m gone i:Nat):Int)) (Du p8 (by decide)) (λi vs H'' R S hi hv sm hk=> ?_) λp H4 hp sm4 hl4=> ?_
  .obtain⟨v,rfl⟩:=aR hv;simp only[a8,cm,Dp];have q2:=hk [some (.int (0+(i:Nat)))] H'' rfl (Same.refl _);rw[Dp rfl]at q2;have at1:atI ((szI n).map V.int) (0+(i:Int))=some (.int (sz i:Nat)):=by rw[EA];exact fD hi
   refine⟨_,rfl,_,rfl,pz,_,_,_,rfl,rfl,SqL.of (sm.at (smr.at hz2)),at1,_,rfl,_,_,rfl,?_⟩;refine⟨_,rfl,_,rfl,q,_,rfl, .inl (SqL.of (sm.at hq')),rfl,vU _, .inr ⟨_,rfl,?_⟩⟩;refine⟨_,_,rfl,rfl,?_⟩;have e:=zU hok i;have e2:inV (V.int (0+(i:Int))) (gone.map V.int)=decide ((i:Int)∈gone):=by rw[EA,yI]
   show R (V.int ((if(m:Int)<((sz i:Nat):Int)then(m:Int)else((sz i:Nat):Int)) - (if inV (V.int (0+(i:Int))) (gone.map V.int)=true then 1 else 0))) _ _;rw[e2,e];exact q2
  .refine k p H4 gone (sm02.trans (smr.trans sm4)) (sm02.free (smr.free hp)) (hl4.trans ?_) hok hnil;unfold b9 aG;rw[Eo.mpr (λ_ _=>rfl),Ez];rfl
 .intro _ hrest;have stop:∃ (gone:List Int) (v6 v7 v8:Option V),Same H2 H3/\H3 q=some (.lst (gone.map V.int))/\fR n m gone/\(ns=[]->gone=[])/\[some (V.int (n:Int)),some (.int (m:Int)),some (.ref b),some (.ref pz),some (.ref p3),some (.ref q),none,none,none]=[some (.int (n:Int)),some (.int (m:Int)),some (.ref b),some (.ref pz),some (.ref p3),some (.ref q),v6,v7,v8]:=
   ⟨[],none,none,none,smq,hq0,⟨λz hz=>(by cases hz),ui _, .inl rfl⟩,λ_=>rfl,rfl⟩
  refine⟨_,rfl,_,_,rfl,rfl,_,rfl,dE (λhc1=> ?_) λhc=>cL (hrest _ _ stop)⟩;refine⟨_,rfl,_,rfl,_,_,rfl,rfl,_,rfl,dE (λhc2=> ?_) λhc=>hrest _ _ stop⟩;have m0:0<m:=by have:=DY hc1;lia
  have m1:m<n:=by have:=DY hc2;lia
  refine⟨_,rfl,b,rfl,⟨_,(sm02.trans smq).seq hb⟩,?_⟩;refine bT (K:=K) (a:=b) (xs:=ns.map V.int) (λi σ H'=>∃ (gone:List Int) (v6 v7 v8:Option V),Same H2 H'/\H' q=some (.lst (gone.map V.int))/\fR n m gone/\gone.length<=i/\σ=[some (.int (n:Int)),some (.int (m:Int)),some (.ref b),some (.ref pz),some (.ref p3),some (.ref q),v6,v7,v8])
   ⟨[],none,none,none,smq,hq0,⟨λz hz=>(by cases hz),ui _, .inl rfl⟩,Dl _,rfl⟩ (λi σ H' _ ⟨_,_,_,_,sm,_⟩=>(sm02.trans sm).seq hb) ?_ ?_
  .rintro i y σ H' hi ⟨gone,v6,v7,v8,sm',hq',hok,hgl,rfl⟩;obtain⟨z,rfl,hzi⟩:=bH hi;have i63:i<63:=by have:=(DB.mp hzi).1;lia
   have hs3:=sm'.at hl2;have lp:(0:Int)<(((sets.map V.int).length:Nat):Int):=by rw[Di];lia
   have j0:0<=z % (((sets.map V.int).length:Nat):Int):=EI _ (by lia);have j1:=ED z lp;obtain⟨j,hj⟩:=Eu j0;have hjl:j<sets.length:=by rw[hj,Di]at j1;lia
   have at1:atI (sets.map V.int) (z % (((sets.map V.int).length:Nat):Int))=some (.int (sets[j]'hjl)):=by rw[hj];exact rN (Ds hjl)
   obtain⟨s,hs,es,hsz⟩:=msome _ (E7 hjl);rw[es]at at1;refine⟨_,rfl,_,rfl,_,rfl,p3,_,rfl, .inl (SqL.of hs3),_,_,rfl,rfl,lp,p3,_,_,_,rfl,rfl,SqL.of hs3,at1,?_⟩;refine⟨_,rfl,q,rfl,⟨_,SqL.of hq'⟩,?_⟩;refine bR (λx=>(λz:Int=>decide ((m:Int) -2<(sz (z.toNat&&&s):Nat))) (bB x)) (λx=> .int ((λz:Int=>z) (bB x))) (SqL.of hq') (by rw[Di];exact Du (show gone.length<=63 by lia) (by decide)) (λu x vs H'' R S hx hv sm hk=> ?_) λpn H4 hpn sm4 hl4=> ?_
   .obtain⟨v,rfl⟩:=aR hv;obtain⟨g,rfl,hg⟩:=bH hx;obtain⟨t,ht,rfl,htz⟩:=hok.size g (Dv hg);have q2:=hk [some (.int (t:Int))] H'' rfl (Same.refl _);have ats:atI ((szI n).map V.int) (Builtin.bitAnd (t:Int) (s:Int))=some (.int (sz (t&&&s):Nat)):=by rw[cu];exact fD (Dw Hm ht)
    refine⟨_,rfl,_,rfl,_,rfl,_,_,rfl,rfl,pz,_,_,_,rfl,rfl,SqL.of (sm.at (sm'.at hz2)),ats,_,rfl,_,_,rfl,rfl,_,_,rfl,rfl,_,rfl,?_⟩;show if decide ((m:Int) -2<(sz (t&&&s):Nat))=true then _ else _;have ep:(λz:Int=>decide ((m:Int) -2<(sz (z.toNat&&&s):Nat))) (bB (V.int (t:Int)))=decide ((m:Int) -2<(sz (t&&&s):Nat)):=by show decide ((m:Int) -2<(sz (((t:Nat):Int).toNat&&&s):Nat))=_;rw[Dk]
    rw[ep]at q2;by_cases hc:decide ((m:Int) -2<(sz (t&&&s):Nat))=true
    .rw[Dp hc]at q2⊢;exact⟨_,rfl,q2⟩
    .rw[Dt hc]at q2⊢;exact q2
   replace hl4:=hl4.trans (Es (λl=>some (HO.lst l)) (bC (λz:Int=>decide ((m:Int) -2<(sz (z.toNat&&&s):Nat))) (λz:Int=>z) gone));have hq4:=sm4.at hq';refine⟨_,rfl,pn,_,rfl, .inl (SqL.of hl4),rfl,_,rfl,?_⟩;rw[cK,Di,Di];refine dE (λhc=> ?_) λhc=> ?_
   .have hnear:∀a∈gone,¬((sz (a.toNat&&& ((s:Nat):Int).toNat):Int)>(m:Int) -2):=λa ha hgt=>by have h0:=DY hc;have hin:a∈gone.filter λz:Int=>decide ((m:Int) -2<(sz (z.toNat&&&s):Nat)):=Fb.mpr ⟨ha,DG (by rw[Dk]at hgt;exact hgt)⟩;have:=FQ hin;lia
    refine⟨_,rfl, .inl ⟨rfl,_,SqL.of hq4⟩,_,rfl,q,_,_,rfl,rfl,hq4,(by rw[Di];exact Dw (show gone.length<=63 by lia) (by decide)),?_⟩;refine⟨gone++[(s:Int)],_,_,_,(sm'.trans sm4).upd hq,?_,⟨λg hg=> ?_,yP hok.far hnear, .inr ⟨m0,m1⟩⟩,?_,rfl⟩
    .rw[ag,Ei];rfl
    .rcases DW.mp hg with hg|hg
     .exact hok.size g hg
     .rw[DN.mp hg];exact⟨s,hs,rfl,hsz⟩
    .rw[DK];exact DO hgl
   .exact⟨gone,_,_,_,sm'.trans sm4,hq4,hok,by lia,rfl⟩
  .rintro σ H' ⟨gone,v6,v7,v8,sm',hq',hok,hgl,rfl⟩;refine hrest _ _ ⟨gone,v6,v7,v8,sm',hq',hok,λe=> ?_,rfl⟩;rw[e]at hgl;exact List.length_eq_zero_iff.mp (Nat.le_zero.mp hgl)
theorem sc__law_folds:aB ["_law_many","_law_numbers_here","_law_found","_law_k","_law_left"] ["_law_many","_law_numbers_here"] (ao s__law_folds):=sc_of
theorem lA(T:Tb K mg)(D:aY K mg "_law_folds" s__law_folds ["_law_many","_law_numbers_here"]):Cal P w K mg base 1 "_law_folds" ["_law_many","_law_numbers_here"] (tF K):=by
 refine D.cal sc__law_folds (λvs H Q E h=>by obtain⟨n,a,ns,rfl,_⟩:=h;rfl) λf cdv A outer σs H vs Q E hr h=> ?_;obtain⟨n,a,ns,rfl,hn,ha,hnl,k⟩:=h;refine⟨_,(ab (wls 2 sc__law_folds.nd ["_law_k"] [] [] (wrng T.range_ (pv 0)) (wnC 0) aM (av da (pv 0) (pv 0)))
   (ab (wfor (wrng T.range_ (wlen K T.len_ (pv 1))) (wname 3 sc__law_folds.nd)
     (aq (bA (wpt gb (pv 0) ai)
       (ab (wset 4 sc__law_folds.nd (av bh (av da (bb K (pv 2) (av aP (pv 3) (pv 0))) ai) (bb K (pv 1) (pv 3))))
       (aq (eB (av aP (pv 4) ai) (rp (pv 2) (av aP (pv 3) (pv 0)) jR))))
       aN)))
   (aq (aE (pv 2))))),?_⟩
 refine⟨_,rfl,_,rfl,by lia,by lia,?_⟩;rw[Dk];refine mm true (λ_=>True) (Du hn (by decide)) (λi vs H' R S hi hv sm hk _=> ?_) λq H1 zs hq sm1 hl1 _ _ hlen=> ?_
 .obtain⟨v,rfl⟩:=aR hv;simp only[a8,cm,Dp];exact⟨_,rfl,_,rfl,_,_,rfl,rfl, .inl ⟨by lia,by lia⟩,hk _ [some (.int (0+(i:Nat)))] H' trivial rfl (Same.refl _)⟩
 have hlen':=hlen rfl;refine⟨_,rfl,a,_,rfl, .inl (sm1.seq ha),_,rfl,(by lia),(by rw[Di];lia),?_⟩;rw[Di,Dk];refine cz (n:=ns.length) (λi σ H2=>∃ (W:List Int) (v1 v2:Option V),Same H H2/\W.length=n/\H2 q=some (.lst (W.map V.int))/\σ=[some (.int (n:Int)),some (.ref a),some (.ref q),v1,v2])
  ⟨zs,none,none,sm1,hlen',hl1,rfl⟩ ?_ ?_
 .rintro i σ H2 hi ⟨W,v1,v2,sm2,hW,hq2,rfl⟩;refine⟨_,rfl,_,_,rfl,rfl,_,rfl,dE (λhc=> ?_) λhc=>⟨W,_,_,sm2,hW,hq2,rfl⟩⟩;have mp:(0:Int)<(n:Int):=by simpa using hc
  have j0:0<=(0+(i:Int)) % (n:Int):=EI _ (by lia);have j1:(0+(i:Int)) % (n:Int)<(n:Int):=ED _ mp;obtain⟨j,hj⟩:=Eu j0;have hjl:j<W.length:=by lia
  have at1:atI (W.map V.int) ((0+(i:Int)) % (n:Int))=some (.int (W[j]'hjl)):=by rw[hj];exact aK (by rw[Dm];simp[hjl])
  have at2:atI (ns.map V.int) (0+(i:Int))=some (.int (ns[i]'hi)):=by rw[EA];exact aK (by rw[Dm];simp[hi])
  have ix:ixN (W.map V.int).length ((0+(i:Int)) % (n:Int))=some j:=by rw[hj,Di];unfold ixN;rw[Dp (by lia),Dp (by lia),Dk]
  refine⟨_,rfl,_,rfl,_,rfl,_,_,rfl,rfl,mp,q,_,_,_,rfl,rfl,SqL.of hq2,at1,_,_,rfl,rfl, .inr ⟨by decide,by decide⟩,_,rfl,_,rfl,a,_,_,_,rfl,rfl,sm2.seq ha,at2,_,_,rfl,rfl,?_⟩;refine⟨_,rfl,_,_,rfl,rfl,(by show(0:Int)<65521;decide),_,rfl,_,rfl,_,rfl,_,_,rfl,rfl,mp,q,_,_,j,rfl,rfl,hq2,ix,?_⟩;refine⟨W.set j ((W[j]'hjl*31+ns[i]'hi) % 65521),_,_,sm2.upd hq,by rw[Ip];exact hW,?_,rfl⟩;rw[ag,List.map_set]
 .rintro σ H2 ⟨W,v1,v2,sm2,hW,hq2,rfl⟩;exact⟨_,rfl,k q H2 W sm2 hq hq2 hW⟩
theorem sc__law_listed:aB ["_law_many","_law_told","_law_sizes"] ["_law_many","_law_told"] (ao s__law_listed):=sc_of
theorem ka{c:Cs}(T:Tb K mg)(D:aY K mg "_law_listed" s__law_listed ["_law_many","_law_told"])(ae:Cal P w K mg base 1 "_law_counts" ["_law_many"] fG)(af:iu P w K mg base 2 "Listed" c.l ["self","n","some"] (tw K c.l)):
  Cal P w K mg base 4 "_law_listed" ["_law_many","_law_told"] (lT K c):=by
 refine D.cal sc__law_listed (λvs H Q E h=>by obtain⟨n,b,r,rfl,_⟩:=h;rfl) λf cdv A outer σs H vs Q E hr h=> ?_;obtain⟨n,b,r,rfl,hb,M,k⟩:=h;refine⟨_,(ab (wset 2 sc__law_listed.nd (wcal ae hr (aa (pv 0) ah)))
   (aq (aE (e8 af hr (by decide) (by rfl) (aa (pv 0) (aa (wlc ["_law_s"] ["_law_sizes","_law_told"] [2,1] (wrng T.range_ (av cF ai (pv 0))) (wnC 0) (dD (xn bP bP (bb K (pv 1) (pv 0)) (bb K (pv 2) (pv 0)) (bb K (pv 2) (AZ wG ai)))) (pv 0)) ah)))))),?_⟩
 have hn:=M.n8;have p8:=dB hn;have ppos:0<2^n:=DZ (by lia);refine⟨_,rfl,n,rfl,hn,λpz H1 sm1 hpz hz1=> ?_⟩;refine⟨_,rfl,_,rfl,_,_,rfl,rfl,⟨by lia,by lia,by decide⟩,_,rfl,?_⟩;rw[bx];refine⟨by lia,by lia,?_⟩;rw[Dk];refine bQ (λi=>decide (r i=sz i/\r i=r (2^n-1))) (λi=> .int (0+(i:Nat))) (Du p8 (by decide)) (λi vs H' R S hi hv sm hk=> ?_) λq H2 hq sm2 hl2=> ?_
 .obtain⟨v,rfl⟩:=aR hv;have at1:atI ((szI n).map V.int) (0+(i:Int))=some (.int (sz i:Nat)):=by rw[EA];exact fD hi
  have at2:atI ((aG n r).map V.int) (0+(i:Int))=some (.int (r i:Nat)):=by rw[EA];exact bg r hi
  have hb':=(sm1.trans sm).seq hb;have q2:=hk [some (.int (0+(i:Nat)))] H' rfl (Same.refl _);have eb:=wt (n:=n) (r:=r) i;refine⟨_,rfl,_,rfl,pz,_,_,_,rfl,rfl,SqL.of (sm.at hz1),at1,_,rfl,_,rfl,b,_,_,_,rfl,rfl,hb',at2,rfl,_,rfl,?_⟩;by_cases h1:decide (V.int ((sz i:Nat):Int)=V.int ((r i:Nat):Int))=true
  .rw[h1,Fw]at eb;refine(Dp h1).mpr ?_;refine⟨_,rfl,_,rfl,b,_,_,_,rfl,rfl,hb',uI r,rfl,_,rfl,?_⟩;rw[eb];show if decide (r i=sz i/\r i=r (2^n-1))=true then _ else _;by_cases hc:decide (r i=sz i/\r i=r (2^n-1))=true
   .rw[Dp hc]at q2⊢;exact⟨_,rfl,q2⟩
   .rw[Dt hc]at q2⊢;exact q2
  .have h1':decide (V.int ((sz i:Nat):Int)=V.int ((r i:Nat):Int))=false:=FH.mpr h1;rw[h1',Gp]at eb;refine(Dt h1).mpr ?_;rw[<-eb,Dt Dr]at q2;exact⟨_,rfl,cL q2⟩
 rw[jX]at hl2;have hl2':H2 q=some (.lst ((gE n r).map V.int)):=hl2;have blen:(gE n r).length<=256:=by unfold gE;rw[Di];exact Du (FA _ _) (by rw[DU];exact p8)
 refine λph dh nph ndh neh=>⟨ph,dh,q,_,gE n r,rfl,ag,SqL.of (by rw[aw (au hl2' nph),aw (au hl2' ndh)];exact hl2'),by lia,λtt HA htt oth hph htup=>⟨rfl,?_⟩⟩;have sm2A:Same H2 HA:=λb o e=>oth b o (by rw[aw (au e nph),aw (au e ndh)];exact e) (au e nph);refine k ph HA ((sm1.trans sm2).trans sm2A) ((sm1.trans sm2).free nph) ⟨gE n r,⟨dh,tt,hph,htup,by lia⟩,M.AM gB,λz hz=> ?_,λs hs=>(M.zi gB hs).symm⟩;obtain⟨b',hb',rfl,_⟩:=(gB z).mp hz;lia
theorem sc__law_tied:aB ["_law_many","_law_folds_here","_law_mixed_here","_law_points","_law_ties","_law_columns","_law_told"] ["_law_many","_law_folds_here","_law_mixed_here"] (ao s__law_tied):=sc_of
theorem nG{c:Cs}(T:Tb K mg)(D:aY K mg "_law_tied" s__law_tied ["_law_many","_law_folds_here","_law_mixed_here"])(ae:Cal P w K mg base 1 "_law_rank" ["_law_columns","_law_s"] (w8 K))(af:iu P w K mg base 2 "Net" c.n ["self","n","points","ties"] (tu K c.n)):
  Cal P w K mg base 4 "_law_tied" ["_law_many","_law_folds_here","_law_mixed_here"] (sP K c):=by
 refine D.cal sc__law_tied (λvs H Q E h=>by obtain⟨n,a,zs,m,rfl,_⟩:=h;rfl) λf cdv A outer σs H vs Q E hr h=> ?_;obtain⟨n,a,zs,m,rfl,hn,ha,hzl,hm,k⟩:=h;refine⟨_,(ab (wset 3 sc__law_tied.nd (av bh ai (av aP (av cf (pv 2) ai) ai)))
   (ab (wls 4 sc__law_tied.nd ["_law_fold"] ["_law_points"] [3] (wil K (pv 1)) (wnC 0) aM (cD (aa (av aP (pv 0) (pv 1)) (aa (av aP (av cf (pv 0) ai) (pv 1)) ah))))
   (ab (bA (wpt bP (av aP (av cf (pv 2) ai) ai) ai)
     (aq (wls 4 sc__law_tied.nd ["_law_k"] ["_law_points"] [3] (wrng T.range_ (pv 0)) (wnC 0) aM (cD (aa (av aP (pv 0) (pv 1)) (aa (av aP (av bh (pv 0) ai) (pv 1)) ah)))))
     aN)
   (ab (wset 5 sc__law_tied.nd (wlc ["_law_one","_law_other_here"] [] [] (wil K (pv 4)) (cJ (K:=K) (n:=2) (by rfl) (by rfl) (aQ (wnC 0) (aQ (wnC 1) cx))) aM (av rD (av cF ai (pv 0)) (av cF ai (pv 1)))))
   (ab (wls 6 sc__law_tied.nd ["_law_s"] ["_law_columns"] [5] (wrng T.range_ (av cF ai (pv 0))) (wnC 0) aM (wcal ae hr (aa (pv 1) (aa (pv 0) ah))))
   (aq (aE (cD (aa (e8 af hr (by decide) (by rfl) (aa (pv 0) (aa (pv 3) (aa (pv 4) ah)))) (aa (pv 6) ah)))))))))),?_⟩
 have p8:=dB hn;have ppos:0<2^n:=DZ (by lia);refine⟨_,rfl,_,_,rfl,rfl,⟨by decide,by decide⟩,_,_,rfl,rfl,(by show(0:Int)<9;decide),_,_,rfl,rfl,?_⟩;obtain⟨p,hp,p0,p9⟩:∃p:Nat,(1+m/9 % 9:Int)=(p:Int)/\0<p/\p<=9:=by have h1:=EI (m/9) (show(9:Int)≠0 by decide);have h2:=ED (m/9) (show(0:Int)<9 by decide);exact⟨(1+m/9 % 9).toNat,by lia,by lia,by lia⟩
 (try dsimp only);rw[hp];have pi0:(0:Int)<(p:Int):=by lia
 have below:∀z:Int,∃o:Nat,z % (p:Int)=(o:Int)/\o<p:=λz=>by obtain⟨o,ho⟩:=Eu (show 0<=z % (p:Int)from EI _ (by lia));have:=ED z pi0;exact⟨o,ho,by lia⟩
 refine⟨_,rfl,a,rfl,⟨_,ha⟩,?_⟩;refine eQ (λx y G=>∃ (b:Addr) (t:Nat×Nat),y= .ref b/\G b=some (.tup [.int t.1, .int t.2])/\t.1<p/\t.2<p) (λx y G G' e h=>by obtain⟨b,t,e1,h1,h2⟩:=h;exact⟨b,t,e1,e.at h1,h2⟩) ha (by rw[Di,hzl];exact Du hn (by decide)) (λi x vs D H' R S hx hv sm hD hk=> ?_) λq H1 ys hq sm1 hq1 hlen hR=> ?_
 .obtain⟨v,rfl⟩:=aR hv;obtain⟨z,rfl,hz⟩:=bH hx;obtain⟨l,hl⟩:=hD;obtain⟨o1,e1,l1⟩:=below z;obtain⟨o2,e2,l2⟩:=below (z/9);simp only[a8,cm,Dp];refine⟨_,rfl,_,rfl,_,_,rfl,rfl,pi0,_,rfl,_,_,rfl,rfl,⟨by decide,by decide⟩,_,rfl,_,_,rfl,rfl,pi0,by show 2<=sizeLine;decide,λu hu=> ?_⟩;(try dsimp only);rw[e1,e2];refine hk _ [some (.int z)] _ ⟨u,(o1,o2),rfl,?_,l1,l2⟩ rfl (Same.new hu);rw[cg (au hl hu).symm,ag]
 rw[Di,hzl]at hlen;(try dsimp only);refine kj (λσ' H'=>∃ (q:Addr) (ys:List V) (ts:List (Nat×Nat)),Same H H'/\H' q=some (.lst ys)/\ck H' ys ts/\ts.length=n/\iV p ts/\σ'=[some (.int (n:Int)),some (.ref a),some (.int m),some (.int (p:Int)),some (.ref q),none,none]) ?_ ?_
 rotate_left
 .intro _ hrest;obtain⟨ts,hpt,hok⟩:=jW (H:=H1) (p:=p) ys λy hy=>by
   obtain⟨j,hj⟩:=Fm hy;have hjl:j<(zs.map V.int).length:=by rw[Di,hzl,<-hlen];exact(DB.mp hj).1
   obtain⟨b,t,e1,h1,h2⟩:=hR j _ y (Ds hjl) hj;exact⟨b,t,e1,cy.at h1,h2⟩
  have tsl:ts.length=n:=by rw[<-hpt.1];exact hlen
  refine⟨_,rfl,_,_,rfl,rfl,⟨by decide,by decide⟩,_,_,rfl,rfl,(by show(0:Int)<4;decide),rfl,_,rfl,dE (λhc=> ?_) λhc=>hrest _ _ ⟨q,ys,ts,sm1,hq1,hpt,tsl,hok,rfl⟩⟩;refine⟨_,rfl,_,rfl,by lia,by lia,?_⟩;rw[Dk];refine mq (λ_ y G=>∃ (b:Addr) (t:Nat×Nat),y= .ref b/\G b=some (.tup [.int t.1, .int t.2])/\t.1<p/\t.2<p) (λx y G G' e h=>by obtain⟨b,t,e1,h1,h2⟩:=h;exact⟨b,t,e1,e.at h1,h2⟩) (Du hn (by decide)) (λi vs D H' R S hi hv sm hD hk=> ?_) λq2 H2 ws hq2 sm2 hq3 hlen2 hR2=> ?_
  .obtain⟨v,rfl⟩:=aR hv;obtain⟨l,hl⟩:=hD;obtain⟨o1,e1,l1⟩:=below (0+(i:Int));obtain⟨o2,e2,l2⟩:=below (0+(i:Int)+1);simp only[a8,cm,Dp];refine⟨_,rfl,_,rfl,_,_,rfl,rfl,pi0,_,rfl,_,_,rfl,rfl,_,rfl,_,_,rfl,rfl,pi0,by show 2<=sizeLine;decide,λu hu=> ?_⟩;(try dsimp only);rw[e1,e2];refine hk _ [some (.int (0+(i:Int)))] _ ⟨u,(o1,o2),rfl,?_,l1,l2⟩ rfl (Same.new hu);rw[cg (au hl hu).symm,ag]
  .obtain⟨ts2,hpt2,hok2⟩:=jW (H:=H2) (p:=p) ws λy hy=>by obtain⟨j,hj⟩:=Fm hy;obtain⟨b,t,e1,h1,h2⟩:=hR2 j y hj;exact⟨b,t,e1,cy.at h1,h2⟩
   exact hrest _ _ ⟨q2,ws,ts2,sm1.trans sm2,hq3,hpt2,by rw[<-hpt2.1];exact hlen2,hok2,rfl⟩
 clear hR hlen hq1 hq sm1;rintro σ' H2 ⟨q,ys,ts,sm2,hq2,hpt,tsl,hok,rfl⟩;have ysl:ys.length=n:=by rw[hpt.1];exact tsl
 refine⟨_,rfl,q,rfl,⟨_,SqL.of hq2⟩,?_⟩;refine eQ (λx y G=>∃ (b:Addr) (t:Nat×Nat),x= .ref b/\H2 b=some (.tup [.int t.1, .int t.2])/\y= .int ((de t:Nat):Int)) (λx y G G' e h=>h) (SqL.of hq2) (by rw[ysl];exact Du hn (by decide)) (λi x vs D H' R S hx hv sm hD hk=> ?_) λpc H3 ws hpc sm3 hpc3 hlen3 hR3=> ?_
 .obtain⟨v1,v2,rfl⟩:=jH hv;obtain⟨b,t,ht,rfl,hb⟩:=hpt.at hx;obtain⟨t1,t2⟩:=hok t (Dv ht);refine⟨b,_,rfl,SqT.of (sm.at hb),rfl,_,_,rfl,_,_,rfl,rfl,?_⟩;simp only[cm,Dp];refine⟨_,rfl,_,_,rfl,rfl,⟨by lia,by lia,by decide⟩,_,rfl,_,_,rfl,rfl,⟨by lia,by lia,by decide⟩,_,_,rfl,rfl,?_⟩;(try dsimp only);rw[bx,bx,kP];exact hk _ [some (.int (t.1:Int)),some (.int (t.2:Int))] H' ⟨b,t,rfl,hb,rfl⟩ rfl (Same.refl _)
 have ews:ws=(cq (ts.map de)).map V.int:=by
  refine yQ (by rw[hlen3,ysl,cq,Di,Di,tsl]) λj z y hz hy=> ?_;unfold cq at hz;rw[Dm,Dm]at hz;cases ht:ts[j]? with
  |none=>rw[ht]at hz;cases hz
  |some t=>
   rw[ht]at hz;cases hz;obtain⟨b,h1,h2⟩:=hpt.2 j t ht;obtain⟨b2,t2,e1,g1,g2⟩:=hR3 j _ y h1 hy;cases e1;rw[h2]at g1;have et:(t.1:Int)=t2.1/\(t.2:Int)=t2.2:=by
    injection g1 with g1
    injection g1 with g1
    injection g1 with g3 g4
    injection g4 with g4
    exact⟨V.int.inj g3,V.int.inj g4⟩
   have:t=t2:=Prod.ext (by lia) (by lia);rw[this];exact g2
 rw[ews]at hpc3;have clen:(ts.map de).length=n:=by rw[Di];exact tsl
 refine⟨_,rfl,_,_,rfl,rfl,⟨by lia,by lia,by decide⟩,_,rfl,?_⟩;rw[bx];refine⟨by lia,by lia,?_⟩;rw[Dk];refine bQ (λ_=>true) (λi=> .int ((rkC (ts.map de) i:Nat):Int)) (Du p8 (by decide)) (λi vs H' R S hi hv sm hk=> ?_) λpt H4 hpt4 sm4 hl4=> ?_
 .obtain⟨v,rfl⟩:=aR hv;simp only[a8,cm,Dp];refine⟨_,rfl,_,rfl,pc,ts.map de,i,(by rw[EA];rfl),SqL.of (sm.at hpc3),by lia,by rw[clen];exact hi,λH5 sm5=> ?_⟩;have q2:=hk [some (.int (0+(i:Nat)))] H5 rfl sm5;rw[Dp rfl]at q2;exact q2
 have hl4':H4 pt=some (.lst ((aG n (rkC (ts.map de))).map V.int)):=by rw[hl4];unfold b9 aG;rw[Eo.mpr (λ_ _=>rfl),Ez];rfl
 have sm24:=sm3.trans sm4;have hq4:=sm24.at hq2;have hpt4':=hpt.ts (cT.of sm24);refine⟨_,rfl,_,rfl,_,rfl,λph dh nph ndh neh=>⟨ph,dh,q,_,_,ys,ts,rfl,ag,SqL.of (by rw[aw (au hq4 nph),aw (au hq4 ndh)];exact hq4),hpt4'.ts (λb zs e=>by rw[aw (au e nph),aw (au e ndh)];exact e),by lia,λtt ws2 HA htt oth hph htup hys=>⟨rfl,?_⟩⟩⟩;have sm4A:Same H4 HA:=λb o e=>oth b o (by rw[aw (au e nph),aw (au e ndh)];exact e) (au e nph);refine⟨_,rfl,by show 2<=sizeLine;decide,λu hu=> ?_⟩;have smU:Same HA (upd HA u (.tup [.ref ph, .ref pt])):=Same.new hu;have smH:=(((sm2.trans sm24).trans sm4A).trans smU);refine k u _ smH ?_ ⟨ph,pt,rkC (ts.map de), .net,ag,⟨p,ts,?_,hok,by lia,tsl,λs hs=>BK hok (by rw[tsl];exact hs)⟩,smU.at (sm4A.at hl4'),gW _ hn⟩
 .cases e:H u with
  |none=>rfl
  |some o=>rw[((sm2.trans sm24).trans sm4A).at e]at hu;cases hu
 .exact⟨dh,tt,ws2,smU.at hph,smU.at htup,hys.ts (cT.of smU)⟩
theorem sc__law_rows:aB ["_law_columns","_law_high"] ["_law_columns","_law_high"] (ao s__law_rows):=sc_of
theorem nJ(T:Tb K mg)(D:aY K mg "_law_rows" s__law_rows ["_law_columns","_law_high"]):Cal P w K mg base 1 "_law_rows" ["_law_columns","_law_high"] (sR K):=by
 refine D.cal sc__law_rows (λvs H Q E h=>by obtain⟨a,cols,h,rfl,_⟩:=h;rfl) λf cdv A outer σs H vs Q E hr h=> ?_;obtain⟨a,cols,h,rfl,ha,h8,h0,h16,hb,k⟩:=h;refine⟨_,(aq (aE (wlc ["_law_j"] ["_law_columns"] [0] (wrng T.range_ (pv 1)) (wnC 0) aM (wlc ["_law_k"] ["_law_j","_law_columns"] [0,1] (wrng T.range_ (wlen K T.len_ (pv 1))) (wnC 0) aM (av bh (av eC (av j7 (bb K (pv 2) (pv 0)) (pv 1)) ai) (av da ai (av bJ (pv 1) (pv 0)))))))),?_⟩;have clen:((cq cols).map V.int).length=cols.length:=by rw[Di,cq,Di]
 refine⟨_,rfl,_,rfl,by lia,by lia,?_⟩;rw[Dk];refine mq (λj y G=>∃b:Addr,y= .ref b/\G b=some (.lst ((nz cols j).map V.int))) (λx y G G' e h=>by obtain⟨b,e1,h1⟩:=h;exact⟨b,e1,e.at h1⟩) (Du h16 (by decide)) (λj vs D H' R S hj hv sm hD hk=> ?_) λq H1 xs hq sm1 hq1 hlen hR=> ?_
 .obtain⟨v,rfl⟩:=aR hv;obtain⟨l,hl⟩:=hD;simp only[a8,cm,Dp];refine⟨_,rfl,a,_,rfl, .inl (sm.seq ha),_,rfl,by lia,by rw[clen];lia,?_⟩;rw[clen,Dk];refine bQ (λ_=>true) (λi=> .int ((if(cols.getD i 0).testBit j=true then 1 else 0)+2*((j:Int) - (i:Int)))) (Du h8 (by decide)) (λi ws H2 R' S' hi hw sm2 hk'=> ?_) λu H2 hu sm2 hl2=> ?_
  .obtain⟨w',rfl⟩:=aR hw;simp only[a8,cm,Dp];have q2:=hk' [some (.int (0+(i:Nat)))] H2 rfl (Same.refl _);rw[Dp rfl]at q2;have at1:atI ((cq cols).map V.int) (0+(i:Int))=some (.int ((cols.getD i 0:Nat):Int)):=by rw[EA];refine aK ?_;rw[Dm,cq,Dm,Ds hi];simp[hi]
   have eb:∀v:Nat,Builtin.bitAnd ((v:Int) /2^(0+(j:Int)).toNat) 1=if v.testBit j=true then 1 else 0:=λv=>by
    have e1:(0+(j:Int)).toNat=j:=by lia
    have e2:((v:Int) /2^j)=((v/2^j:Nat):Int):=by simp
    rw[e1,e2,eU (E2 _) (by decide),Dk,show((1:Int).toNat)=1 from rfl,HJ,d7];by_cases hb:v/2^j % 2=1
    .rw[hb,DG rfl,Dp rfl];rfl
    .rw[Dy hb,Dt Dr];lia
   refine⟨_,rfl,_,rfl,a,_,_,_,rfl,rfl,(sm.trans sm2).seq ha,at1,_,rfl,_,_,rfl,rfl,by lia,_,_,rfl,rfl,_,rfl,_,rfl,_,_,rfl,rfl,_,_,rfl,rfl, .inl ⟨by decide,by decide⟩,_,_,rfl,rfl,?_⟩;(try dsimp only);rw[eb,show(0+(j:Int)) - (0+(i:Int))=(j:Int) - (i:Int) by lia];exact q2
  .refine hk _ [some (.int (0+(j:Int)))] H2 ⟨u,rfl,?_⟩ rfl sm2;rw[cg (au hl hu).symm,hl2];unfold b9 nz;rw[Eo.mpr (λ_ _=>rfl),Ez];rfl
 .refine k q H1 xs ((List.range h).map (nz cols)) sm1 hq hq1 (bq.of (by rw[hlen,Di,DU]) λj r y hr' hy=> ?_) (zS h8 h0 h16 hb) (by rw[Di,DU]);rw[Dm]at hr';obtain⟨b,e1,h1⟩:=hR j y hy;have hjl:j<h:=by rw[<-hlen];exact(DB.mp hy).1
  rw[EM hjl]at hr';cases hr';exact⟨b,e1,cy.at h1⟩
theorem sc__law_drawn:aB ["_law_many","_law_cell","_law_numbers_here","_law_mixed_here","_law_most","_law_high","_law_folds_here","_law_columns","_law_told","_law_share"] ["_law_many","_law_cell","_law_numbers_here"] (ao s__law_drawn):=sc_of
theorem Cu:PSp (iP CX0 P w K mg base ["_law_many","_law_cell","_law_numbers_here","_law_mixed_here","_law_most","_law_high","_law_folds_here","_law_columns","_law_told","_law_share"] "_law_drawn" (ao s__law_drawn) f cdv A outer s H E).nox ((aF s__law_drawn).getD 8 (.Pass ⟨0,0,0,0⟩))
  (uM (tOp (z6 K) (Ck (AS [1,2,3,5,8,13,21,34])) (tOp (rI (λ_ j=>0<j) λi j=> .int (i % j)) (tOp (rI CZ λi j=> .int (i/j)) (Bc 3) (tC (.int 36))) (tC (.int 8)))) (a8 9)):=by
 have hI:iW (r9 (su (lW ((aF s__law_drawn).getD 8 (.Pass ⟨0,0,0,0⟩))))) [1,2,3,5,8,13,21,34]:=gZ (by decide+kernel);obtain⟨p1,p2,p3,p4,p5,p6,p7,p8,p9,j1,j2,e⟩:∃ (p1 p2 p3 p4 p5 p6 p7 p8 p9:Pos) (j1 j2:Nat),(aF s__law_drawn).getD 8 (.Pass ⟨0,0,0,0⟩)= .Assign [.Name "_law_share" p1] (.Subscript (.List (r9 (su (lW ((aF s__law_drawn).getD 8 (.Pass ⟨0,0,0,0⟩))))) p2) (.BinOp (.BinOp (.Name "_law_mixed_here" p3) .FloorDiv (.Constant (.int 36) j1 p4) p5) .Mod (.Constant (.int 8) j2 p6) p7) p8) p9:=⟨_,_,_,_,_,_,_,_,_,_,_,rfl⟩;generalize r9 (su (lW ((aF s__law_drawn).getD 8 (.Pass ⟨0,0,0,0⟩))))=es at hI e;rw[e];refine⟨?_⟩;exact xp (i:=9) sc__law_drawn.nd (by rfl) (Or.inr rfl) (xB (pN (K:=K) (by rfl)) (c9 (va hI)) (av aP (av cf (pv 3) ai) ai) (λ_ _=>rfl))
theorem CS:aF s__law_drawn=(aF s__law_drawn).getD 0 (.Pass ⟨0,0,0,0⟩)::(aF s__law_drawn).getD 1 (.Pass ⟨0,0,0,0⟩)::(aF s__law_drawn).getD 2 (.Pass ⟨0,0,0,0⟩)::(aF s__law_drawn).getD 3 (.Pass ⟨0,0,0,0⟩)::(aF s__law_drawn).getD 4 (.Pass ⟨0,0,0,0⟩)::(aF s__law_drawn).getD 5 (.Pass ⟨0,0,0,0⟩)::(aF s__law_drawn).getD 6 (.Pass ⟨0,0,0,0⟩)::(aF s__law_drawn).getD 7 (.Pass ⟨0,0,0,0⟩)::(aF s__law_drawn).getD 8 (.Pass ⟨0,0,0,0⟩)::(aF s__law_drawn).drop 9:=by rfl
theorem CQ:∃st8,st8=(aF s__law_drawn).getD 8 (.Pass ⟨0,0,0,0⟩)/\aF s__law_drawn=(aF s__law_drawn).getD 0 (.Pass ⟨0,0,0,0⟩)::(aF s__law_drawn).getD 1 (.Pass ⟨0,0,0,0⟩)::(aF s__law_drawn).getD 2 (.Pass ⟨0,0,0,0⟩)::(aF s__law_drawn).getD 3 (.Pass ⟨0,0,0,0⟩)::(aF s__law_drawn).getD 4 (.Pass ⟨0,0,0,0⟩)::(aF s__law_drawn).getD 5 (.Pass ⟨0,0,0,0⟩)::(aF s__law_drawn).getD 6 (.Pass ⟨0,0,0,0⟩)::(aF s__law_drawn).getD 7 (.Pass ⟨0,0,0,0⟩)::st8::(aF s__law_drawn).drop 9:=⟨_,rfl,CS⟩
theorem BZ:∀j:Nat,j<8->∃z:Int,([1,2,3,5,8,13,21,34]:List Int)[j]?=some z/\0<z:=λj hj=>by
 have:∀j:Nat,j<8->([1,2,3,5,8,13,21,34]:List Int)[j]?=some (([1,2,3,5,8,13,21,34]:List Int).getD j 0)/\0<([1,2,3,5,8,13,21,34]:List Int).getD j 0:=by decide
 exact⟨_,this j hj⟩
theorem lB{c:Cs}(T:Tb K mg)(D:aY K mg "_law_drawn" s__law_drawn ["_law_many","_law_cell","_law_numbers_here"])(hH:HC K c.h c.h)(ak:Cal P w K mg base 1 "_law_mixed" ["_law_cell","_law_k"] jo)(ar:Cal P w K mg base 1 "_law_folds" ["_law_many","_law_numbers_here"] (tF K))
  (af:Cal P w K mg base 2 "_law_even" ["_law_many","_law_most","_law_numbers_here"] (tG K)) (ax:Cal P w K mg base 4 "_law_tied" ["_law_many","_law_folds_here","_law_mixed_here"] (sP K c)) (ae:Cal P w K mg base 4 "_law_listed" ["_law_many","_law_told"] (lT K c))
  (ay:Cal P w K mg base 1 "_law_rank" ["_law_columns","_law_s"] (w8 K)) (az:Cal P w K mg base 1 "_law_rows" ["_law_columns","_law_high"] (sR K)) (aI:iu P w K mg base 1 "House" c.h ["self","n"] (dC K)) (aS:iu P w K mg base 2 "Even" c.e ["self","n","k"] (tE c.e))
  (aD:iu P w K mg base 2 "Tabled" c.t ["self","n","prime","rows"] (tj K c.t)):Cal P w K mg base 5 "_law_drawn" ["_law_many","_law_cell","_law_numbers_here"] (tJ K c):=by
 refine D.cal sc__law_drawn (λvs H Q E h=>by obtain⟨n,x,a,ns,rfl,_⟩:=h;rfl) λf cdv A outer σs H vs Q E hr h=> ?_;obtain⟨n,x,a,ns,rfl,hn,ha,hnl,k⟩:=h;have st__law_drawn_8:=Cu (P:=P) (w:=w) (K:=K) (mg:=mg) (base:=base) (f:=f) (cdv:=cdv) (A:=A) (outer:=outer) (s:=σs) (H:=H) (E:=E);obtain⟨st8,h8,ebody⟩:=CQ;rw[<-h8]at st__law_drawn_8;rw[ebody];refine⟨_,(ab (wset 3 sc__law_drawn.nd (wcal ak hr (aa (pv 1) (aa ai ah))))
   (ab (wset 4 sc__law_drawn.nd (av aP (pv 3) (av bh (pv 0) ai)))
   (ab (wset 5 sc__law_drawn.nd (av bh ai (av aP (av cf (pv 3) ai) ai)))
   (ab (wset 6 sc__law_drawn.nd (wcal ar hr (aa (pv 0) (aa (pv 2) ah))))
   (ab (bA (PW.pt (nB (wpt bP (av aP (pv 1) ai) ai) (jq (wpt bP (av aP (av cf (pv 3) ai) ai) ai))))
     (aq (aE (cD (aa (e8 aI hr (by decide) (by rfl) (aa (pv 0) ah)) (aa (wlc ["_law_s"] [] [] (wrng T.range_ (av cF ai (pv 0))) (wnC 0) aM ai) ah)))))
     aN)
   (ab (bA (wpt bP (av aP (pv 1) ai) ai)
     (aq (aE (cD (aa (e8 aS hr (by decide) (by rfl) (aa (pv 0) (aa (pv 4) ah))) (aa (wcal af hr (aa (pv 0) (aa (pv 4) (aa (c9 ah) ah)))) ah)))))
     aN)
   (ab (bA (wpt bP (av aP (pv 1) ai) ai)
     (aq (aE (wcal ax hr (aa (pv 0) (aa (pv 6) (aa (pv 3) ah))))))
     aN)
   (ab (bA (PW.pt (nB (wpt gb (av aP (pv 1) ai) ai) (jq (wpt ma (av aP (pv 1) ai) ai))))
     (ab (wset 7 sc__law_drawn.nd (wlc ["_law_fold"] ["_law_high"] [5] (wil K (pv 6)) (wnC 0) aM (av aP (pv 0) (av cF ai (pv 1)))))
     (ab (wls 8 sc__law_drawn.nd ["_law_s"] ["_law_columns"] [7] (wrng T.range_ (av cF ai (pv 0))) (wnC 0) aM (wcal ay hr (aa (pv 1) (aa (pv 0) ah))))
     (ab (bA (wpt bP (av aP (pv 1) ai) ai)
       (aq (aE (cD (aa (e8 aD hr (by decide) (by rfl) (aa (pv 0) (aa ai (aa (wcal az hr (aa (pv 7) (aa (pv 5) ah))) ah)))) (aa (pv 8) ah)))))
       aN)
     (aq (aE (cD (aa (wcal ae hr (aa (pv 0) (aa (pv 8) ah))) (aa (pv 8) ah))))))))
     aN)
   (ab (st__law_drawn_8.h)
   (ab (wset 8 sc__law_drawn.nd (wcal af hr (aa (pv 0) (aa (pv 4) (aa (wlc ["_law_number"] ["_law_share"] [9] (wil K (pv 2)) (wnC 0) (dD (wpt bP (av aP (av cf (pv 0) ai) (pv 1)) ai)) (pv 0)) ah)))))
   (aq (aE (cD (aa (wcal ae hr (aa (pv 0) (aa (pv 8) ah))) (aa (pv 8) ah))))))))))))))),?_⟩
 have p8:=dB hn;have ppos:0<2^n:=DZ (by lia);refine aU λN1 k1=> ?_;refine⟨_,rfl,x,5,rfl,by decide,by decide,λm hm=> ?_⟩;refine k1 _ _ ?_;clear k1 N1;refine aU λN1 k1=> ?_;have n1:(0:Int)<(n:Int)+1:=by lia
 refine⟨_,rfl,_,rfl,_,_,rfl,rfl,_,_,rfl,rfl,n1,?_⟩;obtain⟨mo,hmo,hmn⟩:∃mo:Nat,m % ((n:Int)+1)=(mo:Int)/\mo<=n:=by have h1:=EI m (show(n:Int)+1≠0 by lia);have h2:=ED m n1;exact⟨(m % ((n:Int)+1)).toNat,by lia,by lia⟩
 (try dsimp only);rw[hmo];refine k1 _ _ ?_;clear k1 N1;refine aU λN1 k1=> ?_;refine⟨_,rfl,_,_,rfl,rfl,⟨by decide,by decide⟩,_,_,rfl,rfl,(by show(0:Int)<4;decide),_,_,rfl,rfl,?_⟩;obtain⟨hi,hhi,hi0,hi4⟩:∃hi:Nat,(1+m/9 % 4:Int)=(hi:Int)/\0<hi/\hi<=4:=by have h1:=EI (m/9) (show(4:Int)≠0 by decide);have h2:=ED (m/9) (show(0:Int)<4 by decide);exact⟨(1+m/9 % 4).toNat,by lia,by lia,by lia⟩
 (try dsimp only);rw[hhi];refine k1 _ _ ?_;clear k1 N1;refine aU λN1 k1=> ?_;refine⟨_,rfl,_,rfl,n,a,ns,rfl,hn,ha,hnl,λpf H1 zs sm1 hpf hf1 hzl=> ?_⟩;refine k1 _ _ ?_;clear k1 N1;have fresh1:∀ {u:Addr} {H':Hp},Same H1 H'->H' u=none->H u=none:=λ{u H'} sm hu=>by
  cases e:H u with
  |none=>rfl
  |some o=>rw[(sm1.trans sm).at e]at hu;cases hu
 refine eI (λσ' H'=>H1=H'/\σ'=[some (.int (n:Int)),some (.int x),some (.ref a),some (.int m),some (.int (mo:Int)),some (.int (hi:Int)),some (.ref pf),none,none,none]) ?_ ?_
 rotate_left
 .intro _ hrest;refine⟨_,rfl,_,_,rfl,rfl,(by show(0:Int)<6;decide),rfl,_,rfl,dE (λhc=> ?_) λhc=>cL (hrest _ _ ⟨rfl,rfl⟩)⟩;refine⟨_,rfl,_,_,rfl,rfl,⟨by decide,by decide⟩,_,_,rfl,rfl,(by show(0:Int)<3;decide),rfl,_,rfl,dE (λhc=> ?_) λhc=>hrest _ _ ⟨rfl,rfl⟩⟩;refine⟨_,rfl,λph dh nph ndh neh=>⟨ph,c.h,dh,_,rfl,ag,hH.cl,hH.nM,rfl,?_⟩⟩;rw[b8];have smB:Same H1 (upd (upd H1 dh (.own ph)) ph (.ins c.h dh (aJ "many" (.int (n:Int)) []))):=((Same.refl H1).upd ndh).upd nph;have hph:upd (upd H1 dh (.own ph)) ph (.ins c.h dh (aJ "many" (.int (n:Int)) [])) ph=some (.ins c.h dh (aJ "many" (.int (n:Int)) [])):=ag;generalize upd (upd H1 dh (.own ph)) ph (.ins c.h dh (aJ "many" (.int (n:Int)) []))=HB at*;refine⟨_,rfl,_,_,rfl,rfl,⟨by lia,by lia,by decide⟩,_,rfl,?_⟩;rw[bx];refine⟨by lia,by lia,?_⟩;rw[Dk];refine bQ (λ_=>true) (λi=> .int ((((λ_=>0:Nat->Nat) i:Nat)):Int)) (Du p8 (by decide)) (λi vs H' R S hi hv sm hk=> ?_) λpt H2 hpt sm2 hl2=> ?_
  .obtain⟨v,rfl⟩:=aR hv;simp only[a8,cm,Dp];have q2:=hk [some (.int (0+(i:Nat)))] H' rfl (Same.refl _);rw[Dp rfl]at q2;exact q2
  have hl2':H2 pt=some (.lst ((aG n (λ_=>0)).map V.int)):=by rw[hl2];unfold b9 aG;rw[Eo.mpr (λ_ _=>rfl),Ez];rfl
  refine⟨by show 2<=sizeLine;decide,λu hu=> ?_⟩;have smU:Same H2 (upd H2 u (.tup [.ref ph, .ref pt])):=Same.new hu;refine k u _ (((sm1.trans smB).trans sm2).trans smU) (fresh1 (smB.trans sm2) hu) ⟨ph,pt,λ_=>0, .bare,ag,⟨dh,smU.at (sm2.at hph),λ_ _=>rfl⟩,smU.at hl2',yi hn⟩
 rintro σ' H' ⟨rfl,rfl⟩;refine eI (λσ' H'=>H1=H'/\σ'=[some (.int (n:Int)),some (.int x),some (.ref a),some (.int m),some (.int (mo:Int)),some (.int (hi:Int)),some (.ref pf),none,none,none]) ?_ ?_
 rotate_left
 .intro _ hrest;refine⟨_,rfl,_,_,rfl,rfl,(by show(0:Int)<6;decide),rfl,_,rfl,dE (λhc=> ?_) λhc=>hrest _ _ ⟨rfl,rfl⟩⟩;refine⟨_,rfl,_,rfl,λph dh nph ndh neh=>⟨ph,dh,_,_,rfl,ag,rfl,?_⟩⟩;rw[b8];have smB:Same H1 (upd (upd H1 dh (.own ph)) ph (.ins c.e dh (evF (n:Int) (mo:Int)))):=((Same.refl H1).upd ndh).upd nph;have hph:upd (upd H1 dh (.own ph)) ph (.ins c.e dh (evF (n:Int) (mo:Int))) ph=some (.ins c.e dh (evF (n:Int) (mo:Int))):=ag;generalize upd (upd H1 dh (.own ph)) ph (.ins c.e dh (evF (n:Int) (mo:Int)))=HB at*;refine⟨_,rfl,_,rfl,DV _,λpl hpl=>⟨n,mo,pl,[],rfl,hn,hmn,SqL.of ag,by decide,λpt H2 gone sm2 hpt hl2 hok hnil=> ?_⟩⟩;have hg:gone=[]:=hnil rfl;subst hg;have smL:Same HB (upd HB pl (.lst [])):=Same.new hpl;have er:∀s,s<2^n->rkG mo [] s=min (sz s) mo:=λs _=>by unfold rkG;rw[Dt (by intro h;cases h)];rfl
  refine⟨by show 2<=sizeLine;decide,λu hu=> ?_⟩;have smU:Same H2 (upd H2 u (.tup [.ref ph, .ref pt])):=Same.new hu;have smA:=(smB.trans smL).trans sm2;exact k u _ ((sm1.trans smA).trans smU) (fresh1 smA hu) ⟨ph,pt,rkG mo [], .even,ag,⟨dh,mo,smU.at (sm2.at (smL.at hph)),er⟩,smU.at hl2,pE hn hok⟩
 rintro σ' H' ⟨rfl,rfl⟩;refine eI (λσ' H'=>H1=H'/\σ'=[some (.int (n:Int)),some (.int x),some (.ref a),some (.int m),some (.int (mo:Int)),some (.int (hi:Int)),some (.ref pf),none,none,none]) ?_ ?_
 rotate_left
 .intro _ hrest;refine⟨_,rfl,_,_,rfl,rfl,(by show(0:Int)<6;decide),rfl,_,rfl,dE (λhc=> ?_) λhc=>hrest _ _ ⟨rfl,rfl⟩⟩;exact⟨_,rfl,_,rfl,_,rfl,n,pf,zs,m,rfl,hn,SqL.of hf1,hzl,hm,λq H' sm hq hD=>k q H' (sm1.trans sm) (sm1.free hq) hD⟩
 rintro σ' H' ⟨rfl,rfl⟩;refine eI (λσ' H'=>H1=H'/\σ'=[some (.int (n:Int)),some (.int x),some (.ref a),some (.int m),some (.int (mo:Int)),some (.int (hi:Int)),some (.ref pf),none,none,none]) ?_ ?_
 rotate_left
 .intro _ hrest;refine⟨_,rfl,_,_,rfl,rfl,(by show(0:Int)<6;decide),_,_,rfl,rfl,_,rfl,dE (λhc=> ?_) λhc=>cL (hrest _ _ ⟨rfl,rfl⟩)⟩;refine⟨_,rfl,_,_,rfl,rfl,(by show(0:Int)<6;decide),_,_,rfl,rfl,_,rfl,dE (λhc=> ?_) λhc=>hrest _ _ ⟨rfl,rfl⟩⟩;refine⟨_,rfl,pf,rfl,⟨_,SqL.of hf1⟩,?_⟩;have hp2:0<2^hi:=DZ (by lia);refine bR (λx=>(λ_=>true) (bB x)) (λv=> .int ((λz:Int=>z % ((2^hi:Nat):Int)) (bB v))) (SqL.of hf1) (by rw[Di,hzl];exact Du hn (by decide)) (λi v vs H' R S hv' hv sm hk=> ?_) λpc H2 hpc sm2 hl2=> ?_
  .obtain⟨v,rfl⟩:=aR hv;obtain⟨z,rfl,hz⟩:=bH hv';have q2:=hk [some (.int z)] H' rfl (Same.refl _);rw[Dp rfl]at q2;simp only[a8,cm,Dp];refine⟨_,rfl,_,rfl,_,_,rfl,rfl,⟨by lia,by lia,by decide⟩,_,_,rfl,rfl,(by rw[bx];lia),?_⟩;(try dsimp only);rw[bx];exact q2
  replace hl2:=hl2.trans (Es (λl=>some (HO.lst l)) (bC (λ_=>true) (λz:Int=>z % ((2^hi:Nat):Int)) zs));rw[Eo.mpr (λ_ _=>rfl)]at hl2;obtain⟨cols,hcols,hcl,hcb⟩:∃cols:List Nat,zs.map (λz:Int=>z % ((2^hi:Nat):Int))=cq cols/\cols.length=n/\∀v∈cols,v<2^hi:=by
   refine⟨zs.map λz=>(z % ((2^hi:Nat):Int)).toNat,?_,by rw[Di];exact hzl,λv hv=> ?_⟩
   .unfold cq;rw[Ez];refine EV λz _=> ?_;show z % ((2^hi:Nat):Int)=(((z % ((2^hi:Nat):Int)).toNat:Nat):Int);have:=EI z (show((2^hi:Nat):Int)≠0 by lia);lia
   .obtain⟨z,_,rfl⟩:=DL.mp hv;have h1:=EI z (show((2^hi:Nat):Int)≠0 by lia);have h2:=ED z (show(0:Int)<((2^hi:Nat):Int) by lia);lia
  rw[hcols]at hl2;refine⟨_,rfl,_,_,rfl,rfl,⟨by lia,by lia,by decide⟩,_,rfl,?_⟩;rw[bx];refine⟨by lia,by lia,?_⟩;rw[Dk];refine bQ (λ_=>true) (λi=> .int ((rkC cols i:Nat):Int)) (Du p8 (by decide)) (λi vs H' R S hi' hv sm hk=> ?_) λpt H3 hpt sm3 hl3=> ?_
  .obtain⟨v,rfl⟩:=aR hv;simp only[a8,cm,Dp];refine⟨_,rfl,_,rfl,pc,cols,i,(by rw[EA];rfl),SqL.of (sm.at hl2),by lia,by rw[hcl];exact hi',λH5 sm5=> ?_⟩;have q2:=hk [some (.int (0+(i:Nat)))] H5 rfl sm5;rw[Dp rfl]at q2;exact q2
  have hl3':H3 pt=some (.lst ((aG n (rkC cols)).map V.int)):=by rw[hl3];unfold b9 aG;rw[Eo.mpr (λ_ _=>rfl),Ez];rfl
  have sm13:=sm2.trans sm3;refine⟨_,rfl,_,_,rfl,rfl,(by show(0:Int)<6;decide),rfl,_,rfl,dE (λhc=> ?_) λhc=> ?_⟩
  .refine⟨_,rfl,_,rfl,_,rfl,pc,cols,hi,rfl,SqL.of (sm3.at hl2),by lia,hi0,by lia,hcb,λpr H4 xs M sm4 hpr hpr4 hrows hok hMl=>λph dh nph ndh neh=>⟨ph,dh,pr,_,xs,M,rfl,ag,(by rw[aw (au hpr4 nph),aw (au hpr4 ndh)];exact hpr4),?_,?_,λtt ys HA htt oth hph htup hys=>⟨rfl,?_⟩⟩⟩
   .refine⟨hrows.1,λi r hr'=> ?_⟩;obtain⟨b,h1,h2⟩:=hrows.2 i r hr';exact⟨b,h1,by rw[aw (au h2 nph),aw (au h2 ndh)];exact h2⟩
   .rw[hrows.1,hMl];lia
   have sm4A:Same H4 HA:=λb o e=>oth b o (by rw[aw (au e nph),aw (au e ndh)];exact e) (au e nph);refine⟨_,rfl,by show 2<=sizeLine;decide,λu hu=> ?_⟩;have smU:Same HA (upd HA u (.tup [.ref ph, .ref pt])):=Same.new hu;have smA:=(sm13.trans sm4).trans sm4A;rw[hcl]at hok;exact k u _ ((sm1.trans smA).trans smU) (fresh1 smA hu) ⟨ph,pt,rkC cols, .tabled,ag,⟨M,cols,⟨dh,tt,ys,smU.at hph,smU.at htup,hys.ts (cT.of smU)⟩,hok,λ_ _=>rfl⟩,smU.at (sm4A.at (sm4.at hl3')),gW _ hn⟩
  .refine⟨_,rfl,_,rfl,n,pt,rkC cols,rfl,SqL.of hl3',gW _ hn,λph H4 sm4 hph hB=> ?_⟩;refine⟨_,rfl,by show 2<=sizeLine;decide,λu hu=> ?_⟩;have smU:Same H4 (upd H4 u (.tup [.ref ph, .ref pt])):=Same.new hu;have smA:=sm13.trans sm4;exact k u _ ((sm1.trans smA).trans smU) (fresh1 smA hu) ⟨ph,pt,rkC cols, .listed,ag,hB.same smU,smU.at (sm4.at hl3'),gW _ hn⟩
 rintro σ' H' ⟨rfl,rfl⟩;refine⟨by rw[Di];decide,λpd hpd=> ?_⟩;have smd:Same H1 (upd H1 pd (.lst (List.map V.int [1,2,3,5,8,13,21,34]))):=Same.new hpd;have hpd1:upd H1 pd (.lst (List.map V.int [1,2,3,5,8,13,21,34])) pd=some (.lst (List.map V.int [1,2,3,5,8,13,21,34])):=ag;obtain⟨j,hj⟩:=Eu (show 0<=m/36 % 8 from EI _ (by decide));have hj8:j<8:=by have:=ED (m/36) (show(0:Int)<8 by decide);lia
 obtain⟨sh,hsh,shp⟩:=BZ j hj8;have at8:atI (List.map V.int [1,2,3,5,8,13,21,34]) (m/36 % 8)=some (.int sh):=by rw[hj];exact rN hsh
 refine⟨_,rfl,_,_,rfl,rfl,⟨by decide,by decide⟩,_,_,rfl,rfl,(by show(0:Int)<8;decide),pd,_,_,_,rfl,rfl,SqL.of hpd1,at8,?_⟩;generalize upd H1 pd (.lst (List.map V.int [1,2,3,5,8,13,21,34]))=H2 at*;have ha2:=(sm1.trans smd).seq ha;refine⟨_,rfl,_,rfl,_,rfl,a,rfl,⟨_,ha2⟩,?_⟩;refine yr false (λ_=>True) ha2 (by rw[Di];exact Du hnl (by decide)) (λi y vs H'' R S hy hv sm hk hk2=> ?_) λpw H3 fs hpw sm3 hl3 _ hfl _=> ?_
 .obtain⟨v,rfl⟩:=aR hv;obtain⟨z,rfl,hz⟩:=bH hy;refine⟨_,rfl,_,_,rfl,rfl,⟨by decide,by decide⟩,_,rfl,_,_,rfl,rfl,shp,rfl,_,rfl,dE (λhc=> ?_) λhc=> ?_⟩
  .exact⟨_,rfl,hk z [some (.int z)] H'' trivial rfl (Same.refl _)⟩
  .exact hk2 rfl [some (.int z)] H'' rfl (Same.refl _)
 rw[Di]at hfl;refine⟨n,mo,pw,fs,rfl,hn,hmn,SqL.of hl3,by lia,λpt H4 gone sm4 hpt hl4 hok _=> ?_⟩;have M:=pE hn hok;refine⟨_,rfl,_,rfl,n,pt,rkG mo gone,rfl,SqL.of hl4,M,λph H5 sm5 hph hB=> ?_⟩;refine⟨_,rfl,by show 2<=sizeLine;decide,λu hu=> ?_⟩;have smU:Same H5 (upd H5 u (.tup [.ref ph, .ref pt])):=Same.new hu;have smA:=((smd.trans sm3).trans sm4).trans sm5;exact k u _ ((sm1.trans smA).trans smU) (fresh1 smA hu) ⟨ph,pt,rkG mo gone, .listed,ag,hB.same smU,smU.at (sm5.at hl4),M⟩
theorem gf{k:Nat}:∀l:List Nat,(l.map λi:Nat=>(i:Int)).erase (k:Int)=(l.erase k).map λi:Nat=>(i:Int)
 | []=>rfl
 |x::l=>by
  rw[Ej,List.erase_cons,List.erase_cons];by_cases e:x=k
  .subst e;simp
  .have e2:¬((x:Int)=(k:Int)):=λz=>e (by lia);rw[Dt (by simpa using e2),Dt (by simpa using e),Ej,gf l]
theorem sc__law_heaviest:aB ["_law_told","_law_weights_here","_law_left","_law_s","_law_best","_law_k"] ["_law_told","_law_weights_here"] (ao s__law_heaviest):=sc_of
theorem iG(T:Tb K mg)(D:aY K mg "_law_heaviest" s__law_heaviest ["_law_told","_law_weights_here"]):Cal P w K mg base 1 "_law_heaviest" ["_law_told","_law_weights_here"] (tI K):=by
 refine D.cal sc__law_heaviest (λvs H Q E h=>by obtain⟨b,a,n,r,W,rfl,_⟩:=h;rfl) λf cdv A outer σs H vs Q E hr h=> ?_;obtain⟨b,a,n,r,W,rfl,n8,hb,ha,hW,k⟩:=h;refine⟨_,(ab (wset 2 sc__law_heaviest.nd (bM (gD (by rfl)) (by rfl) T.list_ E9 (aa (nC (by rfl) T.range_ (aa (wlen K T.len_ (pv 1)) ah)) ah)))
   (ab (wset 3 sc__law_heaviest.nd ai)
   (ab (xo PassesOwn.never (wpt gb (wlen K T.len_ (pv 2)) ai)
     (ab (wset 4 sc__law_heaviest.nd (bb K (pv 2) ai))
     (ab (wfor (wil K (pv 2)) (wname 5 sc__law_heaviest.nd)
       (aq (bA (wpt gb (bb K (pv 1) (pv 5)) (bb K (pv 1) (pv 4)))
         (aq (wset 4 sc__law_heaviest.nd (pv 5)))
         aN)))
     (ab (bU (fc (K:=K) (by rfl) EN PySem.F.slot_list_remove PySem.F.type_list_remove vn (pv 2) (aa (pv 4) ah)))
     (aq (bA (wpt gb (bb K (pv 0) (av fL (pv 3) (av cF ai (pv 4)))) (bb K (pv 0) (pv 3)))
       (aq (wset 3 sc__law_heaviest.nd (av fL (pv 3) (av cF ai (pv 4)))))
       aN))))))
   (aq (aE (pv 3)))))),?_⟩
 have tl:((aG n r).map V.int).length=2^n:=by rw[Di,bF]
 refine⟨_,rfl,a,_,rfl, .inl ha,_,rfl,λpr hpr=> ?_⟩;rw[Di,hW];have sm1:Same H (upd H pr (.rng 0 (n:Int))):=Same.new hpr;have hr1:upd H pr (.rng 0 (n:Int)) pr=some (.rng 0 (n:Int)):=ag;generalize upd H pr (.rng 0 (n:Int))=H1 at*;refine⟨pr,n,rfl,hr1,by lia,λl hl=> ?_⟩;have hl1:upd H1 l (.lst (((List.range n).map λi:Nat=>(i:Int)).map V.int)) l=some (.lst (((List.range n).map λi:Nat=>(i:Int)).map V.int)):=ag;have sm2:Same H (upd H1 l (.lst (((List.range n).map λi:Nat=>(i:Int)).map V.int))):=sm1.trans (Same.new hl);have hl0:H l=none:=sm1.free hl;generalize upd H1 l (.lst (((List.range n).map λi:Nat=>(i:Int)).map V.int))=H2 at*;refine wC (λσ H'=>∃ (L:List Nat) (s:Nat) (v4 v5:Option V),Same H H'/\H' l=some (.lst ((L.map λi:Nat=>(i:Int)).map V.int))/\L.Pairwise (· < ·)/\(∀t∈L,t<n)/\s<2^n/\greedy r s (cX (wOf W) L.length L)=jd n r W/\σ=[some (.ref b),some (.ref a),some (.ref l),some (.int (s:Int)),v4,v5])
  (λ_ H'=>match H' l with|some (.lst xs)=>xs.length|_=>0) ⟨List.range n,0,none,none,sm2,hl1,oZ n,λt ht=>DT.mp ht,DZ (by lia),by rw[DU];rfl,rfl⟩ ?_ ?_
 .rintro σ H' ⟨L,s,v4,v5,sm,hL,hp,hlt,hs,hg,rfl⟩;refine⟨_,rfl,l,_,rfl, .inl (SqL.of hL),_,_,rfl,rfl,_,rfl,?_⟩;rw[Di,Di];cases L with
  |nil=>
   refine(Dt (by decide)).mpr ?_;have e:s=jd n r W:=hg;rw[e];exact⟨_,rfl,k H' sm⟩
  |cons x L=>
   refine(Dp (by simp)).mpr ?_;have hx:=hlt x DE;have at0:atI (((x::L).map λi:Nat=>(i:Int)).map V.int) 0=some (.int (x:Int)):=aK (j:=0) rfl;refine⟨_,rfl,l,_,_,_,rfl,rfl,SqL.of hL,at0,?_⟩;refine⟨_,rfl,l,rfl,⟨_,SqL.of hL⟩,?_⟩;refine bT (K:=K) (a:=l) (xs:=((x::L).map λi:Nat=>(i:Int)).map V.int) (λi σ H9=>H9=H'/\∃v5,σ=[some (.ref b),some (.ref a),some (.ref l),some (.int (s:Int)),some (.int (aV (wOf W) ((x::L).take i) x:Nat)),v5]) ⟨rfl,_,rfl⟩ (λi σ H9 _ q=>by rw[q.1];exact SqL.of hL) ?_ ?_
   .rintro i y σ H9 hi ⟨rfl,v5,rfl⟩;rw[Dm,Dm]at hi;cases ei:(x::L)[i]? with
    |none=>rw[ei]at hi;cases hi
    |some o=>
     rw[ei]at hi;cases hi;have ho:=hlt o (Dv ei);have hbm:aV (wOf W) ((x::L).take i) x∈x::L:=by
      rcases(eh (wOf W) ((x::L).take i) x).1 with q|q
      .rw[q];exact DE
      .exact FG q
     have hbl:=hlt _ hbm;have et:(x::L).take (i+1)=(x::L).take i++[o]:=by rw[EB,ei];rfl
     have es:aV (wOf W) ((x::L).take (i+1)) x=if wOf W o>wOf W (aV (wOf W) ((x::L).take i) x)then o else aV (wOf W) ((x::L).take i) x:=by rw[et];unfold aV;rw[ER];rfl
     rw[es];generalize aV (wOf W) ((x::L).take i) x=g at*;have at1:atI (W.map V.int) (o:Int)=some (.int (wOf W o)):=aK (by rw[Dm];unfold wOf;simp[hW,ho]);have at2:atI (W.map V.int) (g:Int)=some (.int (wOf W g)):=aK (by rw[Dm];unfold wOf;simp[hW,hbl]);refine⟨_,rfl,_,rfl,a,_,_,_,rfl,rfl,sm.seq ha,at1,_,rfl,_,rfl,a,_,_,_,rfl,rfl,sm.seq ha,at2,_,_,rfl,rfl,_,rfl,dE (λhc=> ?_) λhc=> ?_⟩
     .rw[Dp (DY hc)];exact⟨_,rfl,rfl,_,rfl⟩
     .rw[Dt λz=>hc (DG z)];exact⟨rfl,_,rfl⟩
   .rintro σ H9 ⟨rfl,v5,rfl⟩;rw[Di,Di,EK (Dl _)];have hbm:aV (wOf W) (x::L) x∈x::L:=by
     rcases(eh (wOf W) (x::L) x).1 with q|q
     .rw[q];exact DE
     .exact q
    have hbl:=hlt _ hbm;have hl3:((x::L).erase (aV (wOf W) (x::L) x)).length=L.length:=by rw[Fi hbm];rfl
    have hg':greedy r (if r (s|||2^aV (wOf W) (x::L) x)>r s then s|||2^aV (wOf W) (x::L) x else s) (cX (wOf W) L.length ((x::L).erase (aV (wOf W) (x::L) x)))=jd n r W:=hg;generalize aV (wOf W) (x::L) x=g at*;have g2:s|||2^g<2^n:=bN hs hbl;refine⟨_,rfl, .inl ⟨rfl,_,SqL.of hL⟩,_,rfl,l,_,(g:Int),rfl,rfl,hL,DL.mpr ⟨g,hbm,rfl⟩,?_⟩;rw[gf];have hL4:upd H9 l (.lst ((((x::L).erase g).map λi:Nat=>(i:Int)).map V.int)) l=some (.lst ((((x::L).erase g).map λi:Nat=>(i:Int)).map V.int)):=ag;have sm4:Same H (upd H9 l (.lst ((((x::L).erase g).map λi:Nat=>(i:Int)).map V.int))):=sm.upd hl0;have mu0:(match H9 l with|some (.lst xs)=>xs.length|_=>0)=L.length+1:=by rw[hL];simp
    generalize upd H9 l (.lst ((((x::L).erase g).map λi:Nat=>(i:Int)).map V.int))=H4 at*;have mu1:(match H4 l with|some (.lst xs)=>xs.length|_=>0)=L.length:=by rw[hL4];simp[hl3]
    have fin:∀ (s':Nat) (v5:Option V),s'<2^n->greedy r s' (cX (wOf W) L.length ((x::L).erase g))=jd n r W->(∃ (L:List Nat) (s:Nat) (v4 v5':Option V),Same H H4/\H4 l=some (.lst ((L.map λi:Nat=>(i:Int)).map V.int))/\L.Pairwise (· < ·)/\(∀t∈L,t<n)/\s<2^n/\greedy r s (cX (wOf W) L.length L)=jd n r W/\[some (V.ref b),some (.ref a),some (.ref l),some (.int (s':Int)),some (.int (g:Int)),v5]=[some (.ref b),some (.ref a),some (.ref l),some (.int (s:Int)),v4,v5'])/\
      (match H4 l with|some (.lst xs)=>xs.length|_=>0)<(match H9 l with|some (.lst xs)=>xs.length|_=>0):=λs' v5 h1 h2=>by
     refine⟨⟨(x::L).erase g,s',_,_,sm4,hL4,hp.sublist HH,λt ht=>hlt t (List.mem_of_mem_erase ht),h1,by rw[hl3];exact h2,rfl⟩,?_⟩;rw[mu0,mu1];lia
    have hs2:atI ((aG n r).map V.int) (s:Int)=some (.int (r s:Nat)):=bg r hs;have hg3:atI ((aG n r).map V.int) ((s|||2^g:Nat):Int)=some (.int (r (s|||2^g):Nat)):=bg r g2;have eor:Builtin.bitOr (s:Int) (1*2^(g:Int).toNat)=((s|||2^g:Nat):Int):=by rw[bx,bZ]
    have hg3':atI ((aG n r).map V.int) (Builtin.bitOr (s:Int) (1*2^(g:Int).toNat))=some (.int (r (s|||2^g):Nat)):=by rw[eor];exact hg3
    refine⟨_,rfl,_,rfl,_,rfl,_,_,rfl,rfl,⟨by lia,by lia,by decide⟩,_,_,rfl,rfl,b,_,_,_,rfl,rfl,sm4.seq hb,hg3',_,rfl,_,rfl,b,_,_,_,rfl,rfl,sm4.seq hb,hs2,_,_,rfl,rfl,_,rfl,dE (λhc=> ?_) λhc=> ?_⟩
    .have hgt:r (s|||2^g)>r s:=by have:=DY hc;lia
     rw[Dp hgt]at hg';refine⟨_,rfl,_,rfl,_,_,rfl,rfl,⟨by lia,by lia,by decide⟩,_,_,rfl,rfl,?_⟩;(try dsimp only);rw[eor];exact fin _ _ g2 hg'
    .have hgt:¬r (s|||2^g)>r s:=λz=>hc (DG (by lia));rw[Dt hgt]at hg';exact fin _ _ hs hg'
 .intro σ H Q Q' hq h;obtain⟨v,e,p,xs,e1,h1,i,j,e2,e3,c,e4,h2⟩:=h;exact⟨v,e,p,xs,e1,h1,i,j,e2,e3,c,e4,hq _ _ h2⟩
theorem sc__law_weights:aB ["_law_many","_law_cells","_law_cell","_law_bound","_law_found","_law_k","_law_left"] ["_law_many","_law_cells","_law_cell"] (ao s__law_weights):=sc_of
theorem jh(T:Tb K mg)(D:aY K mg "_law_weights" s__law_weights ["_law_many","_law_cells","_law_cell"]):Cal P w K mg base 1 "_law_weights" ["_law_many","_law_cells","_law_cell"] (iZ K):=by
 refine D.cal sc__law_weights (λvs H Q E h=>by obtain⟨m,a,cs,x,rfl,_⟩:=h;rfl) λf cdv A outer σs H vs Q E hr h=> ?_;obtain⟨m,a,cs,x,rfl,m8,ha,hcl,k⟩:=h;refine⟨_,(ab (wset 3 sc__law_weights.nd (av bJ (av da ai (av rE ai ai)) ai))
   (ab (wls 4 sc__law_weights.nd ["_law_k"] [] [] (wrng T.range_ (pv 0)) (wnC 0) aM (pv 0))
   (ab (wfor (wrng T.range_ (wlen K T.len_ (pv 1))) (wname 5 sc__law_weights.nd)
     (aq (bA (wpt gb (pv 0) ai)
       (ab (wset 6 sc__law_weights.nd (av bh (av da (bb K (pv 4) (av aP (pv 5) (pv 0))) ai) (bb K (pv 1) (pv 5))))
       (aq (eB (av aP (pv 6) (pv 3)) (rp (pv 4) (av aP (pv 5) (pv 0)) jR))))
       aN)))
   (ab (bA (wpt bP (av aP (pv 2) ai) ai)
     (aq (aE (wlc ["_law_number"] [] [] (wil K (pv 4)) (wnC 0) aM (av bJ (av aP (pv 0) ai) ai))))
     aN)
   (ab (bA (wpt bP (av aP (pv 2) ai) ai)
     (aq (aE (wlc ["_law_number"] [] [] (wil K (pv 4)) (wnC 0) aM (av da (av bJ (av aP (pv 0) ai) ai) (av rE ai ai)))))
     aN)
   (aq (aE (wlc ["_law_number"] [] [] (wil K (pv 4)) (wnC 0) aM (av bh (av bJ (pv 0) (av rE ai ai)) ai))))))))),?_⟩
 refine⟨_,_,rfl,rfl,⟨by decide,by decide,by decide⟩,_,_,rfl,rfl, .inl ⟨by decide,by decide⟩,_,_,rfl,rfl,?_⟩;have hB:(0:Int)<2*10^(60:Int).toNat-1:=by decide
 (try dsimp only);generalize (2*10^(60:Int).toNat-1:Int)=B at*;refine⟨_,rfl,_,rfl,(by lia),(by lia),?_⟩;rw[Dk];refine bQ (λ_=>true) (λi=> .int (0+(i:Nat))) (Du m8 (by decide)) (λi vs H' R S hi hv sm hk=> ?_) λq H1 hq sm1 hl1=> ?_
 .obtain⟨v,rfl⟩:=aR hv;have q:=hk [some (.int (0+(i:Nat)))] H' rfl (Same.refl _);rw[Dp rfl]at q;simp only[a8,cm,Dp];exact⟨_,rfl,q⟩
 have el:∃W:List Int,b9 (λ_=>true) (λi=>V.int (0+(i:Nat))) m=W.map V.int/\W.length=m:=by refine⟨(List.range m).map λi:Nat=>(0+(i:Int)),?_,by simp⟩;unfold b9;rw[Eo.mpr (λ_ _=>rfl),Ez];rfl
 obtain⟨W0,e0,hW0⟩:=el;rw[e0]at hl1;refine⟨_,rfl,a,_,rfl, .inl (sm1.seq ha),_,rfl,(by lia),(by rw[Di];lia),?_⟩;rw[Di,Dk];refine cz (n:=cs.length) (λi σ H2=>∃ (W:List Int) (v1 v2:Option V),Same H H2/\W.length=m/\H2 q=some (.lst (W.map V.int))/\σ=[some (.int (m:Int)),some (.ref a),some (.int x),some (.int B),some (.ref q),v1,v2])
  ⟨W0,none,none,sm1,hW0,hl1,rfl⟩ ?_ ?_
 .rintro i σ H2 hi ⟨W,v1,v2,sm2,hW,hq2,rfl⟩;refine⟨_,rfl,_,_,rfl,rfl,_,rfl,dE (λhc=> ?_) λhc=>⟨W,_,_,sm2,hW,hq2,rfl⟩⟩;have mp:0<(m:Int):=by simpa using hc
  have j0:0<=(0+(i:Int)) % (m:Int):=EI _ (by lia);have j1:(0+(i:Int)) % (m:Int)<m:=ED _ mp;obtain⟨j,hj⟩:=Eu j0;have hjl:j<W.length:=by lia
  have at1:atI (W.map V.int) ((0+(i:Int)) % (m:Int))=some (.int (W[j]'hjl)):=by rw[hj];exact aK (by rw[Dm];simp[hjl])
  have at2:atI (cs.map V.int) (0+(i:Int))=some (.int (cs[i]'hi)):=by rw[EA];exact aK (by rw[Dm];simp[hi])
  have ix:ixN (W.map V.int).length ((0+(i:Int)) % (m:Int))=some j:=by rw[hj,Di];unfold ixN;rw[Dp (by lia),Dp (by lia),Dk]
  refine⟨_,rfl,_,rfl,_,rfl,_,_,rfl,rfl,mp,q,_,_,_,rfl,rfl,SqL.of hq2,at1,_,_,rfl,rfl, .inr ⟨by decide,by decide⟩,_,rfl,_,rfl,a,_,_,_,rfl,rfl,sm2.seq ha,at2,_,_,rfl,rfl,?_⟩;refine⟨_,rfl,_,rfl,_,_,rfl,rfl,hB,_,rfl,_,rfl,_,rfl,_,_,rfl,rfl,mp,q,_,_,j,rfl,rfl,hq2,ix,?_⟩;refine⟨W.set j ((W[j]'hjl*982451653+cs[i]'hi) % B),_,_,sm2.upd hq,by rw[Ip];exact hW,?_,rfl⟩;rw[ag,List.map_set]
 .rintro σ H2 ⟨W,v1,v2,sm2,hW,hq2,rfl⟩;have last:∀ (g:Int->Int) (p:Addr) (H':Hp),H2 p=none->Same H2 H'->H' p=some (.lst (dn (λy=>(λ_=>true) (bB y)) (λy=> .int (g (bB y))) (W.map V.int)))->Q (.ref p) H':=λg p H' hp sm hl=>by replace hl:=hl.trans (Es (λl=>some (HO.lst l)) (bC (λ_=>true) g W));rw[Eo.mpr (λ_ _=>rfl)]at hl;exact k p H' _ (sm2.trans sm) (sm2.free hp) hl (by rw[Di];exact hW)
  have lz:(W.map V.int).length<=1000:=by rw[Di,hW];lia
  refine⟨_,rfl,_,_,rfl,rfl,by decide,rfl,_,rfl,dE (λhc=> ?_) λhc=> ?_⟩
  .refine⟨_,rfl,q,rfl,⟨_,SqL.of hq2⟩,?_⟩;refine bR (λy=>(λ_=>true) (bB y)) (λy=> .int ((λt:Int=>t % 5-2) (bB y))) (SqL.of hq2) (Du lz (by decide)) (λi y vs H' R S hx hv sm hk=> ?_) λp H' hp sm hl=>last (λt:Int=>t % 5-2) p H' hp sm hl;obtain⟨v,rfl⟩:=aR hv;obtain⟨t,rfl,ht⟩:=bH hx;have q:=hk [some (.int t)] H' rfl (Same.refl _);rw[Dp rfl]at q;simp only[a8,cm,Dp];exact⟨_,rfl,_,_,rfl,rfl,by decide,_,_,rfl,rfl,q⟩
  .refine⟨_,rfl,_,_,rfl,rfl,by decide,rfl,_,rfl,dE (λhc2=> ?_) λhc2=> ?_⟩
   .refine⟨_,rfl,q,rfl,⟨_,SqL.of hq2⟩,?_⟩;refine bR (λy=>(λ_=>true) (bB y)) (λy=> .int ((λt:Int=>(t % 3-1)*10^(59:Int).toNat) (bB y))) (SqL.of hq2) (Du lz (by decide)) (λi y vs H' R S hx hv sm hk=> ?_) λp H' hp sm hl=>last (λt:Int=>(t % 3-1)*10^(59:Int).toNat) p H' hp sm hl;obtain⟨v,rfl⟩:=aR hv;obtain⟨t,rfl,ht⟩:=bH hx;have q:=hk [some (.int t)] H' rfl (Same.refl _);rw[Dp rfl]at q;simp only[a8,cm,Dp];have b1:0<=t % 3:=EI _ (by decide);have b2:t % 3<3:=ED _ (by decide);exact⟨_,rfl,_,_,rfl,rfl,by decide,_,_,rfl,rfl,_,_,rfl,rfl,⟨by decide,by decide,by decide⟩,_,_,rfl,rfl, .inl ⟨by lia,by lia⟩,q⟩
   .refine⟨_,rfl,q,rfl,⟨_,SqL.of hq2⟩,?_⟩;refine bR (λy=>(λ_=>true) (bB y)) (λy=> .int ((λt:Int=>t-10^(60:Int).toNat+1) (bB y))) (SqL.of hq2) (Du lz (by decide)) (λi y vs H' R S hx hv sm hk=> ?_) λp H' hp sm hl=>last (λt:Int=>t-10^(60:Int).toNat+1) p H' hp sm hl;obtain⟨v,rfl⟩:=aR hv;obtain⟨t,rfl,ht⟩:=bH hx;have q:=hk [some (.int t)] H' rfl (Same.refl _);rw[Dp rfl]at q;simp only[a8,cm,Dp];exact⟨_,rfl,_,_,rfl,rfl,⟨by decide,by decide,by decide⟩,_,_,rfl,rfl,_,_,rfl,rfl,q⟩
theorem sc__law_common:aB ["_law_found","_law_first","_law_second","_law_s","_law_held","_law_many"] ["_law_found","_law_first","_law_second"] (ao s__law_common):=sc_of
theorem ke(T:Tb K mg)(D:aY K mg "_law_common" s__law_common ["_law_found","_law_first","_law_second"])(ae:Cal P w K mg base 1 "_law_whole" ["_law_found"] jn):Cal P w K mg base 2 "_law_common" ["_law_found","_law_first","_law_second"] (oS K):=by
 refine D.cal sc__law_common (λvs H Q E h=>by obtain⟨q,b1,b2,n,r1,r2,I,A,rfl,_⟩:=h;rfl) λf cdv A' outer σs H vs Q E hr h=> ?_;obtain⟨q,b1,b2,n,r1,r2,I,A,rfl,n8,hq,h1,h2,⟨f1,f2,f3,f4,f5⟩,k⟩:=h;refine⟨_,(ab (bA (PW.pt (fJ (e7 (dQ (bW (c6 (K:=K) (by rfl)) (by rfl) T.isinstance_ Fo (aa (pv 0) (aa (gO (v:= .ty "tuple") (by rfl) T.tuple_ Fq rfl) ah))))) (fI (wpt i6 (wlen K T.len_ (pv 0)) ai))))
     (aq (aE fK))
     aN)
   (ab (wfor (wit K (pv 0)) (wname 3 sc__law_common.nd)
     (aq (bA (PW.pt (fJ (e7 (dQ (wcal ae hr (aa (pv 3) ah)))) (fJ (wpt ma (pv 3) ai) (fI (wpt A0 (pv 3) (wlen K T.len_ (pv 1)))))))
       (aq (aE fK))
       aN)))
   (ab (wset 4 sc__law_common.nd (gu K (pv 0) ai))
   (ab (wset 5 sc__law_common.nd (wlen K T.len_ (wlc ["_law_k"] ["_law_held"] [4] (wrng T.range_ ai) (wnC 0) (dD (wpt bP (av eC (av j7 (pv 1) (pv 0)) ai) ai)) (pv 0))))
   (ab (bA (PW.pt (fJ (wpt i6 (bb K (pv 1) (pv 4)) (pv 5)) (fI (wpt i6 (bb K (pv 2) (pv 4)) (pv 5)))))
     (aq (aE fK))
     aN)
   (aq (aE (wpe bP (pv 5) (av bh (bb K (pv 1) (gu K (pv 0) ai)) (bb K (pv 2) (av bJ (av bJ (wlen K T.len_ (pv 1)) ai) (gu K (pv 0) ai)))))))))))),?_⟩
 have p8:=dB n8;have ppos:0<2^n:=DZ (by lia);have tl:((aG n r1).map V.int).length=2^n:=by rw[Di,bF]
 refine⟨_,rfl,_,_,_,true,rfl, .tup hq,T.kTT,true,rfl,cL ?_⟩;refine⟨_,rfl,q,_,rfl, .inr (SqT.of hq),rfl,_,rfl,cL ?_⟩;refine⟨_,rfl,q,rfl,⟨_,SqT.of hq⟩,?_⟩;refine AK (K:=K) (a:=q) (xs:=[.int (I:Int), .int (A:Int)]) (λi σ H'=>H'=H/\∃v,σ=[some (.ref q),some (.ref b1),some (.ref b2),v,none,none]) ⟨rfl,none,rfl⟩ (λi σ H' _ z=>by rw[z.1];exact SqT.of hq) ?_ ?_
 .rintro i y σ H' hi ⟨rfl,v,rfl⟩;have hy:∃s:Nat,y= .int (s:Int)/\s<2^n:=by
   match i,hi with
   |0,hi=>cases hi;exact⟨I,rfl,f1⟩
   |1,hi=>cases hi;exact⟨A,rfl,f4⟩
   |i+2,hi=>simp at hi
  obtain⟨s,rfl,hs⟩:=hy;refine⟨_,rfl,_,rfl,true,rfl,cL ?_⟩;refine⟨_,rfl,_,_,rfl,rfl,_,rfl,?_⟩;rw[Dy (by lia)];refine cL ?_;refine⟨_,rfl,_,rfl,b1,_,rfl, .inl h1,_,_,rfl,rfl,_,rfl,?_⟩;rw[tl,Dy (by lia)];refine cL ?_;exact⟨rfl,_,rfl⟩
 .rintro σ H' ⟨rfl,v,rfl⟩;have at0:atI [V.int (I:Int), .int (A:Int)] 0=some (.int (I:Int)):=aK (j:=0) rfl;have at1:atI [V.int (I:Int), .int (A:Int)] 1=some (.int (A:Int)):=aK (j:=1) rfl;refine⟨_,rfl,q,_,_,_,rfl,rfl,SqT.of hq,at0,?_⟩;refine⟨8,rfl,by decide,by decide,?_⟩;refine bQ (λi=>I.testBit i) (λi=> .int (0+(i:Nat))) (by decide) (λi vs H1 R S hi hv sm hk=> ?_) λD1 H1 hD1 sm1 hl1=> ?_
  .obtain⟨v',rfl⟩:=aR hv;refine⟨_,rfl,_,rfl,_,_,rfl,rfl,(by show(0:Int)<=0+(i:Int);lia),_,_,rfl,rfl,rfl,_,rfl,?_⟩;have eb:decide (V.int (Builtin.bitAnd ((I:Int) /2^(0+(i:Int)).toNat) 1)=V.int 1)=I.testBit i:=zP;rw[eb];have q2:=hk [some (.int (0+(i:Nat)))] H1 rfl (Same.refl _);by_cases hb:I.testBit i=true
   .rw[Dp hb]at q2⊢;exact⟨_,rfl,q2⟩
   .rw[Dt hb]at q2⊢;exact q2
  have hlen:(b9 (λi=>I.testBit i) (λi=>V.int (0+(i:Nat))) (8:Int).toNat).length=sz I:=by unfold b9;rw[Di,dI];rfl
  refine⟨D1,_,rfl, .inl (SqL.of hl1),?_⟩;rw[hlen];have h1':=sm1.seq h1;have h2':=sm1.seq h2;refine⟨_,rfl,_,rfl,b1,_,_,_,rfl,rfl,h1',bg r1 f1,_,rfl,rfl,_,rfl,?_⟩;rw[DG (show V.int ((r1 I:Nat):Int)=V.int ((sz I:Nat):Int) by rw[f2])];refine cL ?_;refine⟨_,rfl,_,rfl,b2,_,_,_,rfl,rfl,h2',bg r2 f1,_,rfl,rfl,_,rfl,?_⟩;rw[DG (show V.int ((r2 I:Nat):Int)=V.int ((sz I:Nat):Int) by rw[f3])];refine cL ?_;have e2:((((aG n r1).map V.int).length:Nat):Int) -1- (A:Int)=((2^n-1-A:Nat):Int):=by rw[tl];lia
  have at2:atI ((aG n r2).map V.int) (((((aG n r1).map V.int).length:Nat):Int) -1- (A:Int))=some (.int ((r2 (2^n-1-A):Nat):Int)):=by rw[e2];exact bg r2 (by lia)
  refine⟨_,rfl,_,rfl,_,rfl,q,_,_,_,rfl,rfl,SqT.of (sm1.at hq),at1,b1,_,_,_,rfl,rfl,h1',bg r1 f4,_,rfl,_,rfl,b1,_,rfl, .inl h1',_,_,rfl,rfl,_,rfl,q,_,_,_,rfl,rfl,SqT.of (sm1.at hq),at1,_,_,rfl,rfl,b2,_,_,_,rfl,rfl,h2',at2,_,_,rfl,rfl,rfl,?_⟩;rw[DG (show V.int ((sz I:Nat):Int)=V.int (((r1 A:Nat):Int)+((r2 (2^n-1-A):Nat):Int)) by rw[f5,Ho])];exact k H1 sm1
theorem sc__law_parts:aB ["_law_found","_law_rows_here","_law_s"] ["_law_found","_law_rows_here"] (ao s__law_parts):=sc_of
theorem lh(T:Tb K mg)(D:aY K mg "_law_parts" s__law_parts ["_law_found","_law_rows_here"])(ae:Cal P w K mg base 1 "_law_whole" ["_law_found"] jn):Cal P w K mg base 2 "_law_parts" ["_law_found","_law_rows_here"] (lS K):=by
 refine D.cal sc__law_parts (λvs H Q E h=>by obtain⟨u,q,a,n,k,r,J,B,ys,rfl,_⟩:=h;rfl) λf cdv A outer σs H vs Q E hr h=> ?_;obtain⟨u,q,a,n,k,r,J,B,ys,rfl,n8,k0,k8,hu,hq,ha,hR,⟨hJ,hB,_⟩,kk⟩:=h;refine⟨_,(ab (bA (PW.pt (fJ (e7 (dQ (bW (c6 (K:=K) (by rfl)) (by rfl) T.isinstance_ Fo (aa (pv 0) (aa (gO (v:= .ty "tuple") (by rfl) T.tuple_ Fq rfl) ah))))) (fJ (wpt i6 (wlen K T.len_ (pv 0)) ai) (fI (e7 (dQ (bW (c6 (K:=K) (by rfl)) (by rfl) T.isinstance_ Fo (aa (gu K (pv 0) ai) (aa (gO (v:= .ty "list") (by rfl) T.list_ E9 rfl) ah)))))))))
     (aq (aE fK))
     aN)
   (ab (bA (wpt i6 (wlen K T.len_ (gu K (pv 0) ai)) (wlen K T.len_ (pv 1)))
     (aq (aE fK))
     aN)
   (ab (wfor (wil K (av iE (gu K (pv 0) ai) (c9 (aa (gu K (pv 0) ai) ah)))) (wname 2 sc__law_parts.nd)
     (aq (bA (PW.pt (fJ (e7 (dQ (wcal ae hr (aa (pv 2) ah)))) (fJ (wpt ma (pv 2) ai) (fI (wpt A0 (pv 2) (wlen K T.len_ (bb K (pv 1) ai)))))))
       (aq (aE fK))
       aN)))
   (aq (aE fK))))),?_⟩
 have p8:=dB n8;have at0:atI [V.ref q, .int (B:Int)] 0=some (.ref q):=aK (j:=0) rfl;have at1:atI [V.ref q, .int (B:Int)] 1=some (.int (B:Int)):=aK (j:=1) rfl;have hql:(((List.range k).map λj=>((J j:Nat):Int)).map V.int).length=k:=by rw[Di,Di,DU]
 obtain⟨b0,hy0,hb0⟩:=hR.2 0 k0;have ata:atI ys 0=some (.ref b0):=aK (j:=0) hy0;have tl:((aG n (r 0)).map V.int).length=2^n:=by rw[Di,bF]
 refine⟨_,rfl,_,_,_,true,rfl, .tup hu,T.kTT,true,rfl,cL ?_⟩;refine⟨_,rfl,u,_,rfl, .inr (SqT.of hu),rfl,_,rfl,cL ?_⟩;refine⟨_,rfl,u,_,_,_,rfl,rfl,SqT.of hu,at0,_,_,_,true,rfl, .lst hq,T.kLL,true,rfl,cL ?_⟩;refine⟨_,rfl,u,_,_,_,rfl,rfl,SqT.of hu,at0,q,_,rfl, .inl (SqL.of hq),_,rfl,a,_,rfl, .inl (SqL.of ha),rfl,_,rfl,yH (by rw[hql,hR.1]) ?_⟩;refine⟨_,rfl,u,_,_,_,rfl,rfl,SqT.of hu,at0,_,rfl,u,_,_,_,rfl,rfl,SqT.of hu,at1,(by show 1<=sizeLine;decide),λp1 hp1=> ?_⟩;have hq1:upd H p1 (.lst [.int (B:Int)]) q=some (.lst (((List.range k).map λj=>((J j:Nat):Int)).map V.int)):=(aw (au hq hp1)).trans hq;have sm1:Same H (upd H p1 (.lst [.int (B:Int)])):=Same.new hp1;refine⟨q,p1,_,_,rfl,rfl,hq1,ag,?_,λp2 hp2=> ?_⟩
 .rw[hql];show k+1<=sizeLine;exact Du (show k+1<=9 by lia) (by decide)
 have sm2:=sm1.trans (Same.new (o:= .lst (((List.range k).map λj=>((J j:Nat):Int)).map V.int++[.int (B:Int)])) hp2);have hp2':upd (upd H p1 (.lst [.int (B:Int)])) p2 (.lst (((List.range k).map λj=>((J j:Nat):Int)).map V.int++[.int (B:Int)])) p2=some (.lst (((List.range k).map λj=>((J j:Nat):Int)).map V.int++[.int (B:Int)])):=ag;generalize upd (upd H p1 (.lst [.int (B:Int)])) p2 (.lst (((List.range k).map λj=>((J j:Nat):Int)).map V.int++[.int (B:Int)]))=H2 at*;refine⟨p2,rfl,⟨_,SqL.of hp2'⟩,?_⟩;refine bT (K:=K) (a:=p2) (xs:=((List.range k).map λj=>((J j:Nat):Int)).map V.int++[.int (B:Int)]) (λi σ H'=>H'=H2/\∃v,σ=[some (.ref u),some (.ref a),v]) ⟨rfl,none,rfl⟩ (λi σ H' _ z=>by rw[z.1];exact SqL.of hp2') ?_ ?_
 .rintro i y σ H' hi ⟨rfl,v,rfl⟩;have hy:∃s:Nat,y= .int (s:Int)/\s<2^n:=by
   rcases DW.mp (Dv hi)with h1|h1
   .obtain⟨z,hz,rfl⟩:=DL.mp h1;obtain⟨j,hj,rfl⟩:=DL.mp hz;exact⟨J j,rfl,hJ.lt j (DT.mp hj)⟩
   .rw[DN.mp h1];exact⟨B,rfl,hB⟩
  obtain⟨s,rfl,hs⟩:=hy;refine⟨_,rfl,_,rfl,true,rfl,cL ?_⟩;refine⟨_,rfl,_,_,rfl,rfl,_,rfl,?_⟩;rw[Dy (by lia)];refine cL ?_;refine⟨_,rfl,_,rfl,a,_,_,_,rfl,rfl,SqL.of (sm2.at ha),ata,b0,_,rfl, .inl (SqL.of (sm2.at hb0)),_,_,rfl,rfl,_,rfl,?_⟩;rw[tl,Dy (by lia)];refine cL ?_;exact⟨rfl,_,rfl⟩
 .rintro σ H' ⟨rfl,v,rfl⟩;exact kk _ sm2
theorem sc__law_dealt:aB ["_law_found","_law_rows_here","_law_sizes","_law_spent","_law_k","_law_part","_law_bound","_law_most","_law_told"] ["_law_found","_law_rows_here","_law_sizes"] (ao s__law_dealt):=sc_of
theorem lC(T:Tb K mg)(D:aY K mg "_law_dealt" s__law_dealt ["_law_found","_law_rows_here","_law_sizes"]):Cal P w K mg base 1 "_law_dealt" ["_law_found","_law_rows_here","_law_sizes"] (oR K):=by
 refine D.cal sc__law_dealt (λvs H Q E h=>by obtain⟨u,q,a,z,n,k,r,J,B,ys,rfl,_⟩:=h;rfl) λf cdv A outer σs H vs Q E hr h=> ?_;obtain⟨u,q,a,z,n,k,r,J,B,ys,rfl,n8,k0,k8,hu,hq,ha,hz,hR,⟨hJ,hB,hs⟩,kk⟩:=h;refine⟨_,(ab (wset 3 sc__law_dealt.nd ai)
   (ab (wfor (wrng T.range_ (wlen K T.len_ (pv 1))) (wname 4 sc__law_dealt.nd)
     (ab (wset 5 sc__law_dealt.nd (bb K (gu K (pv 0) ai) (pv 4)))
     (ab (bA (PW.pt (fJ (wpt gb (av eC (pv 5) (pv 3)) ai) (fI (wpt i6 (bb K (bb K (pv 1) (pv 4)) (pv 5)) (bb K (pv 2) (pv 5))))))
       (aq (aE fK))
       aN)
     (aq (wset 3 sc__law_dealt.nd (av fL (pv 3) (pv 5)))))))
   (ab (wset 6 sc__law_dealt.nd (gu K (pv 0) ai))
   (ab (wset 7 sc__law_dealt.nd (bb K (pv 2) (av bJ (av bJ (wlen K T.len_ (bb K (pv 1) ai)) ai) (pv 6))))
   (ab (wfor (wil K (pv 1)) (wname 8 sc__law_dealt.nd)
     (aq (wset 7 sc__law_dealt.nd (av bh (pv 7) (bb K (pv 8) (pv 6))))))
   (aq (aE (wpe bP (bb K (pv 2) (pv 3)) (pv 7))))))))),?_⟩
 have p8:=dB n8;have at0:atI [V.ref q, .int (B:Int)] 0=some (.ref q):=aK (j:=0) rfl;have at1:atI [V.ref q, .int (B:Int)] 1=some (.int (B:Int)):=aK (j:=1) rfl;refine⟨_,rfl,a,_,rfl, .inl (SqL.of ha),_,rfl,by lia,by rw[hR.1];lia,?_⟩;rw[hR.1,Dk];refine cz (n:=k) (λi σ H'=>H'=H/\∃v4 v5,σ=[some (.ref u),some (.ref a),some (.ref z),some (.int ((bL J i:Nat):Int)),v4,v5,none,none,none]) ⟨rfl,none,none,rfl⟩ ?_ ?_
 .rintro i σ H' hi ⟨rfl,v4,v5,rfl⟩;obtain⟨b,hy,hb⟩:=hR.2 i hi;have atJ:atI (((List.range k).map λj=>((J j:Nat):Int)).map V.int) (0+(i:Int))=some (.int ((J i:Nat):Int)):=by rw[EA];exact aK (by rw[Dm,Dm,EM hi];rfl)
  have aty:atI ys (0+(i:Int))=some (.ref b):=by rw[EA];exact aK hy
  have hJi:=hJ.lt i hi;refine⟨_,rfl,u,_,_,_,rfl,rfl,SqT.of hu,at0,_,rfl,q,_,_,_,rfl,rfl,SqL.of hq,atJ,?_⟩;refine⟨_,rfl,_,rfl,_,_,rfl,rfl,_,_,rfl,rfl,_,rfl,?_⟩;have h0:=(cC.less (sE hJ (show i+1<=k by lia))).2;rw[cu,Nat.and_comm,h0];refine cL ?_;refine⟨_,rfl,_,rfl,a,_,_,_,rfl,rfl,SqL.of ha,aty,_,rfl,b,_,_,_,rfl,rfl,SqL.of hb,bg (r i) hJi,_,rfl,_,rfl,z,_,_,_,rfl,rfl,SqL.of hz,fD hJi,rfl,_,rfl,yH (by rw[hJ.free i hi]) ?_⟩;refine⟨_,rfl,_,rfl,_,_,rfl,rfl,?_⟩;rw[bZ];exact⟨rfl,_,_,rfl⟩
 rintro σ H' ⟨rfl,v4,v5,rfl⟩;obtain⟨b0,hy0,hb0⟩:=hR.2 0 k0;have ata:atI ys 0=some (.ref b0):=aK (j:=0) hy0;have tl:((aG n (r 0)).map V.int).length=2^n:=by rw[Di,bF]
 refine⟨_,rfl,u,_,_,_,rfl,rfl,SqT.of hu,at1,?_⟩;have e2:((((aG n (r 0)).map V.int).length:Nat):Int) -1- (B:Int)=((2^n-1-B:Nat):Int):=by rw[tl];lia
 have atS:atI ((szI n).map V.int) (((((aG n (r 0)).map V.int).length:Nat):Int) -1- (B:Int))=some (.int ((sz (2^n-1-B):Nat):Int)):=by rw[e2];exact fD (by lia)
 refine⟨_,rfl,_,rfl,a,_,_,_,rfl,rfl,SqL.of ha,ata,b0,_,rfl, .inl (SqL.of hb0),_,_,rfl,rfl,_,rfl,_,_,rfl,rfl,z,_,_,_,rfl,rfl,SqL.of hz,atS,?_⟩;refine⟨_,rfl,a,rfl,⟨_,SqL.of ha⟩,?_⟩;refine bT (K:=K) (a:=a) (xs:=ys) (λi σ H2=>H2=H'/\∃v8,σ=[some (.ref u),some (.ref a),some (.ref z),some (.int ((bL J k:Nat):Int)),v4,v5,some (.int (B:Int)),some (.int ((sz (2^n-1-B)+aZ (λi=>r i B) i:Nat):Int)),v8]) ⟨rfl,none,rfl⟩ (λi σ H2 _ x=>by rw[x.1];exact SqL.of ha) ?_ ?_
 .rintro i y σ H2 hi ⟨rfl,v8,rfl⟩;have hik:i<k:=by rw[<-hR.1];exact(DB.mp hi).1
  obtain⟨b,hy,hb⟩:=hR.2 i hik;rw[hi]at hy;cases hy;refine⟨_,rfl,_,rfl,_,rfl,b,_,_,_,rfl,rfl,SqL.of hb,bg (r i) hB,_,_,rfl,rfl,?_⟩;rw[<-Ho,Nat.add_assoc];exact⟨rfl,_,rfl⟩
 .rintro σ H2 ⟨rfl,v8,rfl⟩;refine⟨_,rfl,_,rfl,z,_,_,_,rfl,rfl,SqL.of hz,fD (ie k hJ.lt),_,rfl,rfl,?_⟩;rw[hR.1,DG (show V.int ((sz (bL J k):Nat):Int)=V.int ((sz (2^n-1-B)+aZ (λi=>r i B) k:Nat):Int) by rw[hs])];exact kk
theorem sc__law_other:aB ["_law_told","_law_sizes","_law_top"] ["_law_told"] (ao s__law_other):=sc_of
theorem lj(T:Tb K mg)(D:aY K mg "_law_other" s__law_other ["_law_told"])(ae:Cal P w K mg base 1 "_law_counts" ["_law_many"] fG):Cal P w K mg base 2 "_law_other" ["_law_told"] (sZ K):=by
 refine D.cal sc__law_other (λvs H Q E h=>by obtain⟨b,n,r,rfl,_⟩:=h;rfl) λf cdv A outer σs H vs Q E hr h=> ?_;obtain⟨b,n,r,rfl,hb,M,k⟩:=h;have n8:=M.n8;refine⟨_,(ab (wset 1 sc__law_other.nd (wcal ae hr (aa ai ah)))
   (ab (wset 2 sc__law_other.nd (av bJ (wlen K T.len_ (pv 0)) ai))
   (aq (aE (wlc ["_law_s"] ["_law_told","_law_top","_law_sizes"] [0,2,1] (wrng T.range_ (wlen K T.len_ (pv 0))) (wnC 0) aM (av bJ (av bh (bb K (pv 3) (pv 0)) (bb K (pv 1) (av bJ (pv 2) (pv 0)))) (bb K (pv 1) (pv 2)))))))),?_⟩
 have p8:=dB n8;have ppos:0<2^n:=DZ (by lia);have tl:((aG n r).map V.int).length=2^n:=by rw[Di,bF]
 refine⟨8,rfl,by decide,λp1 H1 sm1 hp1 h1=> ?_⟩;have hb1:=sm1.seq hb;refine⟨_,rfl,b,_,rfl, .inl hb1,_,_,rfl,rfl,?_⟩;refine⟨_,rfl,b,_,rfl, .inl hb1,_,rfl,by lia,by rw[tl];lia,?_⟩;rw[tl,Dk];refine bQ (λ_=>true) (λi=> .int ((ib n r i:Nat):Int)) (Du p8 (by decide)) (λi vs H' R S hi hv sm hk=> ?_) λpt H2 hpt sm2 hl2=> ?_
 .obtain⟨v,rfl⟩:=aR hv;simp only[a8,cm,Dp];have at1:atI ((szI 8).map V.int) (0+(i:Int))=some (.int (sz i:Nat)):=by rw[EA];exact fD (by show i<256;lia)
  have ei:((2^n:Nat):Int) -1- (0+(i:Int))=((aX (2^n-1) i:Nat):Int):=by have:=vS (n:=n) (b:=i) hi;lia
  have at2:atI ((aG n r).map V.int) (((2^n:Nat):Int) -1- (0+(i:Int)))=some (.int (r (aX (2^n-1) i):Nat)):=by rw[ei];exact bg r gX
  have at3:atI ((aG n r).map V.int) (((2^n:Nat):Int) -1)=some (.int (r (2^n-1):Nat)):=by rw[show((2^n:Nat):Int) -1=((2^n-1:Nat):Int) by lia];exact bg r (by lia)
  refine⟨_,rfl,_,rfl,p1,_,_,_,rfl,rfl,SqL.of (sm.at h1),at1,?_⟩;refine⟨_,rfl,_,rfl,_,rfl,_,_,rfl,rfl,b,_,_,_,rfl,rfl,sm.seq hb1,at2,_,_,rfl,rfl,?_⟩;refine⟨_,rfl,_,rfl,b,_,_,_,rfl,rfl,sm.seq hb1,at3,_,_,rfl,rfl,?_⟩;have q2:=hk [some (.int (0+(i:Nat)))] H' rfl (Same.refl _);rw[Dp rfl,M.dq hi]at q2;exact q2
 have hl2':H2 pt=some (.lst ((aG n (ib n r)).map V.int)):=by rw[hl2];unfold b9 aG;rw[Eo.mpr (λ_ _=>rfl),Ez];rfl
 exact k pt H2 (sm1.trans sm2) (sm1.free hpt) hl2'
theorem sc__law_minor:aB ["_law_told","_law_out","_law_drawn_here","_law_found","_law_s"] ["_law_told","_law_out","_law_drawn_here"] (ao s__law_minor):=sc_of
theorem lr(T:Tb K mg)(D:aY K mg "_law_minor" s__law_minor ["_law_told","_law_out","_law_drawn_here"]):Cal P w K mg base 1 "_law_minor" ["_law_told","_law_out","_law_drawn_here"] (oM K):=by
 refine D.cal sc__law_minor (λvs H Q E h=>by obtain⟨b,n,o,w,r,rfl,_⟩:=h;rfl) λf cdv A outer σs H vs Q E hr h=> ?_;obtain⟨b,n,o,dw,r,rfl,hb,M,n5,ho,hw,k⟩:=h;refine⟨_,(ab (wset 3 sc__law_minor.nd (c9 ah))
   (ab (wfor (wrng T.range_ (wlen K T.len_ (pv 0))) (wname 4 sc__law_minor.nd)
     (aq (bA (wpt bP (av eC (pv 4) (av fL (pv 1) (pv 2))) ai)
       (aq (bU (fc (K:=K) (by rfl) EN EW EX cQ (pv 3) (aa (av bJ (bb K (pv 0) (av fL (pv 4) (pv 2))) (bb K (pv 0) (pv 2))) ah))))
       aN)))
   (aq (aE (pv 3))))),?_⟩
 have p8:=dB (show n<=8 by lia);have ppos:0<2^n:=DZ (by lia);have tl:((aG n r).map V.int).length=2^n:=by rw[Di,bF]
 have ml:o|||dw<2^n:=EC ho hw;refine⟨DV _,λq hq=> ?_⟩;have smq:Same H (upd H q (.lst [])):=Same.new hq;have hq0:upd H q (.lst []) q=some (.lst ((mnL n (o|||dw) r dw 0).map V.int)):=ag;generalize upd H q (.lst [])=H0 at*;refine⟨_,rfl,b,_,rfl, .inl (smq.seq hb),_,rfl,by lia,by rw[tl];lia,?_⟩;rw[tl,Dk];refine cz (n:=2^n) (λi σ H'=>∃v4:Option V,Same H H'/\H' q=some (.lst ((mnL n (o|||dw) r dw i).map V.int))/\σ=[some (.ref b),some (.int (o:Int)),some (.int (dw:Int)),some (.ref q),v4]) ⟨none,smq,hq0,rfl⟩ ?_ ?_
 .rintro i σ H' hi ⟨v4,sm',hq',rfl⟩;have hb':=sm'.seq hb;have ee:Builtin.bitAnd (0+(i:Int)) (Builtin.bitOr (o:Int) (dw:Int))=((i&&& (o|||dw):Nat):Int):=by rw[EA,bZ,cu]
  have es:=yc n (o|||dw) r dw i;refine⟨_,rfl,_,rfl,_,rfl,_,_,rfl,rfl,_,_,rfl,rfl,rfl,_,rfl,dE (λhc=> ?_) λhc=> ?_⟩
  .have h0:i&&& (o|||dw)=0:=by
    have:=DY hc;injection this with this
    rw[ee]at this;lia
   rw[Dp h0]at es;have il:i|||dw<2^n:=EC hi hw;have at1:atI ((aG n r).map V.int) (Builtin.bitOr (0+(i:Int)) (dw:Int))=some (.int (r (i|||dw):Nat)):=by rw[EA,bZ];exact bg r il
   have ln:=rO n (o|||dw) r dw i;refine⟨_,rfl, .inl ⟨rfl,_,SqL.of hq'⟩,_,rfl,_,rfl,_,rfl,_,_,rfl,rfl,b,_,_,_,rfl,rfl,hb',at1,_,rfl,_,rfl,b,_,_,_,rfl,rfl,hb',bg r hw,_,_,rfl,rfl,q,_,_,rfl,rfl,hq',?_,?_⟩
   .rw[Di];exact Dw ln (Dq hi (Du p8 (by decide)))
   refine⟨_,sm'.upd hq,?_,rfl⟩;rw[ag,es,Ei];rfl
  .have h0:¬i&&& (o|||dw)=0:=λe=>hc (DG (by rw[ee,e];rfl));rw[Dt h0]at es;refine⟨_,sm',?_,rfl⟩;rw[es];exact hq'
 .rintro σ H' ⟨v4,sm',hq',rfl⟩;rw[Ax M n5 ml hw]at hq';exact⟨_,rfl,k q H' sm' hq hq'⟩
theorem sc__law_side:aB ["_law_first","_law_second","_law_found","_law_high","_law_low"] ["_law_first","_law_second"] (ao s__law_side):=sc_of
theorem nH(D:aY K mg "_law_side" s__law_side ["_law_first","_law_second"]):Cal P w K mg base 1 "_law_side" ["_law_first","_law_second"] (xa K):=by
 refine D.cal sc__law_side (λvs H Q E h=>by obtain⟨a,b,n1,n2,r1,r2,rfl,_⟩:=h;rfl) λf cdv A outer σs H vs Q E hr h=> ?_;obtain⟨a,b,n1,n2,r1,r2,rfl,ha,hb,h8,k⟩:=h;refine⟨_,(ab (wset 2 sc__law_side.nd (c9 ah))
   (ab (wfor (wil K (pv 1)) (wname 3 sc__law_side.nd)
     (aq (wfor (wil K (pv 0)) (wname 4 sc__law_side.nd)
       (aq (bU (fc (K:=K) (by rfl) EN EW EX cQ (pv 2) (aa (av bh (pv 4) (pv 3)) ah)))))))
   (aq (aE (pv 2))))),?_⟩
 refine⟨DV _,λq hq=> ?_⟩;have smq:Same H (upd H q (.lst [])):=Same.new hq;have hq0:upd H q (.lst []) q=some (.lst ((jV (fH n1 r1 r2) (0*2^n1)).map V.int)):=by rw[ag,Nat.zero_mul];rfl
 generalize upd H q (.lst [])=H0 at*;have p1:0<2^n1:=DZ (by lia);have pw:2^n2*2^n1=2^(n1+n2):=by rw[Nat.pow_add,Nat.mul_comm]
 have p8:=dB h8;have l1:((aG n1 r1).map V.int).length=2^n1:=by rw[Di,bF]
 have l2:((aG n2 r2).map V.int).length=2^n2:=by rw[Di,bF]
 refine⟨_,rfl,b,rfl,⟨_,smq.seq hb⟩,?_⟩;refine bT (K:=K) (a:=b) (xs:=(aG n2 r2).map V.int) (λi σ H'=>Same H H'/\H' q=some (.lst ((jV (fH n1 r1 r2) (i*2^n1)).map V.int))/\∃v3 v4,σ=[some (.ref a),some (.ref b),some (.ref q),v3,v4]) ⟨smq,hq0,none,none,rfl⟩ (λi σ H' _ z=>z.1.seq hb) ?_ ?_
 .rintro i y σ H' hi ⟨sm',hq',v3,v4,rfl⟩;have hil:i<2^n2:=by rw[<-l2];exact(DB.mp hi).1
  have ey:y= .int ((r2 i:Nat):Int):=by unfold aG at hi;rw[Dm,Dm,EM hil]at hi;exact(DS hi).symm
  subst ey;have hbound:i*2^n1+2^n1<=256:=by have:(i+1)*2^n1<=2^n2*2^n1:=Nat.mul_le_mul_right _ hil;rw[Nat.succ_mul,pw]at this;lia
  refine⟨_,rfl,a,rfl,⟨_,sm'.seq ha⟩,?_⟩;refine bT (K:=K) (a:=a) (xs:=(aG n1 r1).map V.int) (λj σ H2=>Same H H2/\H2 q=some (.lst ((jV (fH n1 r1 r2) (i*2^n1+j)).map V.int))/\∃v4,σ=[some (.ref a),some (.ref b),some (.ref q),some (.int ((r2 i:Nat):Int)),v4]) ⟨sm',hq',v4,rfl⟩ (λj σ H2 _ z=>z.1.seq ha) ?_ ?_
  .rintro j y σ H2 hj ⟨sm2,hq2,v4,rfl⟩;have hjl:j<2^n1:=by rw[<-l1];exact(DB.mp hj).1
   have ey:y= .int ((r1 j:Nat):Int):=by unfold aG at hj;rw[Dm,Dm,EM hjl]at hj;exact(DS hj).symm
   subst ey;have em:(i*2^n1+j) % 2^n1=j:=by rw[Nat.mul_comm,Nat.mul_add_mod];exact Nat.mod_eq_of_lt hjl
   have ed:(i*2^n1+j) /2^n1=i:=by rw[Nat.mul_comm,Nat.mul_add_div p1,Nat.div_eq_of_lt hjl,Nat.add_zero]
   have ev:((r1 j:Nat):Int)+((r2 i:Nat):Int)=((fH n1 r1 r2 (i*2^n1+j):Nat):Int):=by unfold fH;rw[em,ed];lia
   refine⟨_,rfl, .inl ⟨rfl,_,SqL.of hq2⟩,_,rfl,_,rfl,_,_,rfl,rfl,q,_,_,rfl,rfl,hq2,?_,?_⟩
   .rw[Di,jV,Di,DU];exact Dw (show i*2^n1+j<=256 by lia) (by decide)
   refine⟨sm2.upd hq,?_,_,rfl⟩;(try dsimp only);rw[ag,ev,<-Nat.add_assoc,rA,Ei];rfl
  .rintro σ H2 ⟨sm2,hq2,v4,rfl⟩;rw[l1]at hq2;refine⟨sm2,?_,_,_,rfl⟩;rw[Nat.succ_mul];exact hq2
 .rintro σ H' ⟨sm',hq',v3,v4,rfl⟩;rw[l2,pw]at hq';exact⟨_,rfl,k q H' sm' hq hq'⟩
theorem sc__law_less:aB ["_law_wide","_law_more","_law_cell","_law_left","_law_found","_law_number","_law_k","_law_thing"] ["_law_wide","_law_more","_law_cell"] (ao s__law_less):=sc_of
theorem nL(T:Tb K mg)(D:aY K mg "_law_less" s__law_less ["_law_wide","_law_more","_law_cell"])(ae:Cal P w K mg base 1 "_law_mixed" ["_law_cell","_law_k"] jo):Cal P w K mg base 2 "_law_less" ["_law_wide","_law_more","_law_cell"] oN:=by
 refine D.cal sc__law_less (λvs H Q E h=>by obtain⟨wd,m,x,rfl,_⟩:=h;rfl) λf cdv A outer σs H vs Q E hr h=> ?_;obtain⟨wd,m,x,rfl,w7,mw,k⟩:=h;refine⟨_,(ab (wset 3 sc__law_less.nd (bM (gD (by rfl)) (by rfl) T.list_ E9 (aa (nC (by rfl) T.range_ (aa (pv 0) ah)) ah)))
   (ab (wset 4 sc__law_less.nd (c9 (aa ai (aa ai ah))))
   (ab (wset 5 sc__law_less.nd (wcal ae hr (aa (pv 2) (aa ai ah))))
   (ab (wfor (wrng T.range_ (pv 1)) (wname 6 sc__law_less.nd)
     (ab (wset 7 sc__law_less.nd (fc (K:=K) (by rfl) EN PySem.F.slot_list_pop PySem.F.type_list_pop ya (pv 3) (aa (av aP (pv 5) (wlen K T.len_ (pv 3))) ah)))
     (ab (eB (av bh (bb K (pv 4) (av aP (av cf (pv 5) ai) ai)) (av cF ai (pv 7))) (rp (pv 4) (av aP (av cf (pv 5) ai) ai) jR))
     (aq (wset 5 sc__law_less.nd (av cf (pv 5) ai))))))
   (aq (aE (pv 4))))))),?_⟩
 refine⟨_,rfl,_,rfl,λpr hpr=> ?_⟩;have sm1:Same H (upd H pr (.rng 0 (wd:Int))):=Same.new hpr;have hr1:upd H pr (.rng 0 (wd:Int)) pr=some (.rng 0 (wd:Int)):=ag;generalize upd H pr (.rng 0 (wd:Int))=H1 at*;refine⟨pr,wd,rfl,hr1,by lia,λl hl=> ?_⟩;have hl1:upd H1 l (.lst (((List.range wd).map λi:Nat=>(i:Int)).map V.int)) l=some (.lst (((List.range wd).map λi:Nat=>(i:Int)).map V.int)):=ag;have sm2:Same H (upd H1 l (.lst (((List.range wd).map λi:Nat=>(i:Int)).map V.int))):=sm1.trans (Same.new hl);have hl0:H l=none:=sm1.free hl;generalize upd H1 l (.lst (((List.range wd).map λi:Nat=>(i:Int)).map V.int))=H2 at*;refine⟨by show 2<=sizeLine;decide,λq hq=> ?_⟩;have nq:l≠q:=au hl1 hq;have sm3:Same H (upd H2 q (.lst [.int 0, .int 0])):=sm2.trans (Same.new hq);have hq0:H q=none:=sm2.free hq;have I0:zA H l q wd 0 (List.range wd) 0 0 (upd H2 q (.lst [.int 0, .int 0])):=
  ⟨sm3,(aw nq).trans hl1,ag,by rw[DU];rfl,Ij,λt ht=>⟨DT.mp ht,En _⟩,DZ (by lia),DZ (by lia),rfl⟩
 (try dsimp only);generalize upd H2 q (.lst [.int 0, .int 0])=H3 at*;refine⟨_,rfl,_,_,rfl,by decide,by decide,λN hN=> ?_⟩;refine⟨_,rfl,_,rfl,by lia,by lia,?_⟩;rw[Dk];refine cz (n:=m) (λi σ H'=>∃ (L:List Nat) (o d:Nat) (N:Int) (v6 v7:Option V),zA H l q wd i L o d H'/\0<=N/\σ=[some (.int (wd:Int)),some (.int (m:Int)),some (.int x),some (.ref l),some (.ref q),some (.int N),v6,v7]) ⟨_,_,_,_,none,none,I0,hN,rfl⟩ ?_ ?_
 .clear I0 hN N;rintro i σ H' hi ⟨L,o,d,N,v6,v7,I,hN,rfl⟩;have ll:(fB L).length=wd-i:=by unfold fB;rw[Di,Di,I.len]
  obtain⟨j,hj⟩:=Eu (EI N (show((fB L).length:Int)≠0 by lia));have j1:=ED N (show(0:Int)<((fB L).length:Int) by lia);have jl:j<L.length:=by rw[I.len];lia
  have hget:(fB L)[j]?=some (.int ((L[j]:Nat):Int)):=by unfold fB;rw[Dm,Dm,Ds jl];rfl
  have hsi:seqIndex? (N % ((fB L).length:Int)) (fB L).length=some j:=by
   rw[hj];unfold seqIndex?;have:j<(fB L).length:=by lia
   simp[this]
   try lia
  refine⟨_,rfl, .inl ⟨rfl,_,SqL.of I.hl⟩,_,rfl,_,rfl,l,_,rfl, .inl (SqL.of I.hl),_,_,rfl,rfl,by lia,l,_,_,j,_,rfl,rfl,I.hl,by lia,by lia,hsi,hget,?_⟩;have tm:=I.mem _ (E7 jl);have pm:=kG L j jl;have nd2:=pm.nodup_iff.mpr I.nd;have nmem:=(Ft.mp nd2).1;generalize L[j]=t at*;have er:(fB L).eraseIdx j=fB (L.eraseIdx j):=by unfold fB;rw[iO,iO]
  rw[er];have hq2:upd H' l (.lst (fB (L.eraseIdx j))) q=some (.lst [.int (o:Int), .int (d:Int)]):=(aw nq.symm).trans I.hq;have sm4:Same H (upd H' l (.lst (fB (L.eraseIdx j)))):=I.sm.upd hl0;have hl4:upd H' l (.lst (fB (L.eraseIdx j))) l=some (.lst (fB (L.eraseIdx j))):=ag;generalize upd H' l (.lst (fB (L.eraseIdx j)))=H4 at*;obtain⟨e,he⟩:=Eu (show 0<=N/16 % 2 from EI _ (by decide));have e2:e<2:=by have:=ED (N/16) (show(0:Int)<2 by decide);lia
  have at1:atI [V.int (o:Int), .int (d:Int)] (N/16 % 2)=some (.int ((([o,d].getD e 0:Nat)):Int)):=by
   rw[he]
   match e,e2 with
   |0,_=>exact aK (j:=0) rfl
   |1,_=>exact aK (j:=1) rfl
  have ix:ixN ([V.int (o:Int), .int (d:Int)]).length (N/16 % 2)=some e:=by rw[he];unfold ixN;rw[Dp (by lia),Dp (by show(e:Int)<2;lia),Dk]
  refine⟨_,rfl,_,rfl,_,_,rfl,rfl,⟨by decide,by decide⟩,_,_,rfl,rfl,(by show(0:Int)<2;decide),q,_,_,_,rfl,rfl,SqL.of hq2,at1,?_⟩;refine⟨_,rfl,_,_,rfl,rfl,⟨by lia,by lia,by decide⟩,_,_,rfl,rfl,?_⟩;refine⟨_,rfl,_,rfl,_,_,rfl,rfl,⟨by decide,by decide⟩,_,_,rfl,rfl,(by show(0:Int)<2;decide),q,_,_,e,rfl,rfl,hq2,ix,?_⟩;refine⟨_,rfl,_,_,rfl,rfl,⟨by decide,by decide⟩,?_⟩;have p128:2^wd<=128:=DM (n:=2) (by lia) w7;have t2:2^t<2^wd:=Gw (by lia) tm.1;have fin:∀o' d':Nat,o'<2^wd->d'<2^wd->o'|||d'=(o|||d)|||2^t->zA H l q wd (i+1) (L.eraseIdx j) o' d' (upd H4 q (.lst [.int (o':Int), .int (d':Int)])):=λo' d' h1 h2 h3=>by
   refine⟨sm4.upd hq0,(aw nq).trans hl4,ag,by rw[List.length_eraseIdx_of_lt jl,I.len];lia,I.nd.sublist (List.eraseIdx_sublist _ _),λu hu=> ?_,h1,h2,?_⟩
   .have hu2:=I.mem u (List.mem_of_mem_eraseIdx hu);have hne:t≠u:=λz=>nmem (z▸hu);refine⟨hu2.1,?_⟩;rw[h3,DX,hu2.2,FC hne];rfl
   .rw[h3,jI (Dq (EC I.o2 I.d2) (Du p128 (by decide))) (by lia) tm.2,I.sz]
  have ob:o.testBit t=false/\d.testBit t=false:=by have:=tm.2;rw[DX]at this;cases h1:o.testBit t<;>cases h2:d.testBit t<;>rw[h1,h2]at this<;>simp at this⊢
  match e,e2 with
  |0,_=>
   refine⟨L.eraseIdx j,o|||2^t,d,N/32,_,_,?_,Int.ediv_nonneg hN (by decide),rfl⟩;have q2:=fin (o|||2^t) d (EC I.o2 t2) I.d2 (by rw[EU,Hy (2^t) d,<-EU]);rw[<-ur o (Dq I.o2 p128) t (by lia) ob.1]at q2⊢;have ev:(((o+2^t:Nat):Int))=(o:Int)+1*2^((t:Nat):Int).toNat:=by rw[bx];lia
   rw[ev]at q2;exact q2
  |1,_=>
   refine⟨L.eraseIdx j,o,d|||2^t,N/32,_,_,?_,Int.ediv_nonneg hN (by decide),rfl⟩;have q2:=fin o (d|||2^t) I.o2 (EC I.d2 t2) (by rw[<-EU]);rw[<-ur d (Dq I.d2 p128) t (by lia) ob.2]at q2⊢;have ev:(((d+2^t:Nat):Int))=(d:Int)+1*2^((t:Nat):Int).toNat:=by rw[bx];lia
   rw[ev]at q2;exact q2
 .rintro σ H' ⟨L,o,d,N,v6,v7,I,hN,rfl⟩;have:=sM (show wd<=8 by lia) (EC I.o2 I.d2);rw[I.sz]at this;exact⟨_,rfl,k q H' o d I.sm hq0 I.hq I.o2 I.d2 (by lia)⟩
theorem sc__law_four:aB ["_law_many","_law_script","_law_numbers_here","_law_house","_law_told","_law_found","_law_more","_law_out","_law_drawn_here","_law_cut","_law_other_here","_law_rest"] ["_law_many","_law_script"] (ao s__law_four):=sc_of
theorem nN{g:Gs}(z:d5 Z)(zk:HsK Z)(eZ:Z=hsX (hsX (hs5 c) g) g)(T:Tb K mg)(D:aY K mg "_law_four" s__law_four ["_law_many","_law_script"])(ar:Cal P w K mg base 2 "_law_numbers" ["_law_script","_law_start"] (tf K))(ae:Cal P w K mg base 1 "_law_at" ["_law_script","_law_k"] (Bi K))(af:Cal P w K mg base 5 "_law_drawn" ["_law_many","_law_cell","_law_numbers_here"] (tJ K c))
  (ak:Cal P w K mg base 2 "_law_other" ["_law_told"] (sZ K)) (ax:Cal P w K mg base 1 "_law_minor" ["_law_told","_law_out","_law_drawn_here"] (oM K)) (ay:Cal P w K mg base 1 "_law_side" ["_law_first","_law_second"] (xa K)) (az:Cal P w K mg base 2 "_law_less" ["_law_wide","_law_more","_law_cell"] oN)
  (aD:iu P w K mg base 6 "Other" g.o ["self","house"] (oP (hsX (hs5 c) g) g)) (aI:iu P w K mg base 6 "Minor" g.m ["self","house","out","drawn"] (oQ (hsX (hs5 c) g) g)) (aS:iu P w K mg base 6 "Side" g.s ["self","one","other"] (oO (hsX (hs5 c) g) g)):Cal P w K mg base 8 "_law_four" ["_law_many","_law_script"] (w9 K Z):=by
 refine D.cal sc__law_four (λvs H Q E h=>by obtain⟨n,a,ns,rfl,_⟩:=h;rfl) λf cdv A outer σs H vs Q E hr h=> ?_;obtain⟨n,a,ns,rfl,n5,ha,hnl,k⟩:=h;refine⟨_,(ab (wset 2 sc__law_four.nd (wcal ar hr (aa (pv 1) (aa ai ah))))
   (ab (eB (wcal af hr (aa (pv 0) (aa (wcal ae hr (aa (pv 1) (aa ai ah))) (aa (fU (pv 2) cW cW (bV ai)) ah)))) (cJ (K:=K) (n:=2) (by rfl) (by rfl) (aQ (wname 3 sc__law_four.nd) (aQ (wname 4 sc__law_four.nd) cx))))
   (ab (wset 5 sc__law_four.nd (c9 (aa (cD (aa (e8 aD hr (by decide) (by rfl) (aa (pv 3) ah)) (aa (wcal ak hr (aa (pv 4) ah)) ah))) ah)))
   (ab (wset 6 sc__law_four.nd (av aP (wcal ae hr (aa (pv 1) (aa ai ah))) ai))
   (ab (eB (wcal af hr (aa (av bh (pv 0) (pv 6)) (aa (wcal ae hr (aa (pv 1) (aa ai ah))) (aa (fU (pv 2) (bV ai) cW (bV ai)) ah)))) (cJ (K:=K) (n:=2) (by rfl) (by rfl) (aQ (wname 3 sc__law_four.nd) (aQ (wname 4 sc__law_four.nd) cx))))
   (ab (eB (wcal az hr (aa (av bh (pv 0) (pv 6)) (aa (pv 6) (aa (wcal ae hr (aa (pv 1) (aa ai ah))) ah)))) (Ai (K:=K) (n:=2) (by rfl) (by rfl) (aQ (wname 7 sc__law_four.nd) (aQ (wname 8 sc__law_four.nd) cx))))
   (ab (bU (fc (K:=K) (by rfl) EN EW EX cQ (pv 5) (aa (cD (aa (e8 aI hr (by decide) (by rfl) (aa (pv 3) (aa (pv 7) (aa (pv 8) ah)))) (aa (wcal ax hr (aa (pv 4) (aa (pv 7) (aa (pv 8) ah)))) ah))) ah)))
   (ab (wset 9 sc__law_four.nd (av aP (wcal ae hr (aa (pv 1) (aa ai ah))) (av bh (pv 0) ai)))
   (ab (eB (wcal af hr (aa (pv 9) (aa (wcal ae hr (aa (pv 1) (aa ai ah))) (aa (fU (pv 2) (bV ai) cW (bV ai)) ah)))) (cJ (K:=K) (n:=2) (by rfl) (by rfl) (aQ (wname 3 sc__law_four.nd) (aQ (wname 4 sc__law_four.nd) cx))))
   (ab (eB (wcal af hr (aa (av bJ (pv 0) (pv 9)) (aa (wcal ae hr (aa (pv 1) (aa ai ah))) (aa (fU (pv 2) (bV ai) cW (bV ai)) ah)))) (cJ (K:=K) (n:=2) (by rfl) (by rfl) (aQ (wname 10 sc__law_four.nd) (aQ (wname 11 sc__law_four.nd) cx))))
   (ab (wset 3 sc__law_four.nd (e8 aS hr (by decide) (by rfl) (aa (pv 3) (aa (pv 10) ah))))
   (ab (wset 4 sc__law_four.nd (wcal ay hr (aa (pv 4) (aa (pv 11) ah))))
   (ab (bU (fc (K:=K) (by rfl) EN EW EX cQ (pv 5) (aa (cD (aa (pv 3) (aa (pv 4) ah))) ah)))
   (ab (bU (fc (K:=K) (by rfl) EN EW EX cQ (pv 5) (aa (cD (aa (e8 aD hr (by decide) (by rfl) (aa (pv 3) ah)) (aa (wcal ak hr (aa (pv 4) ah)) ah))) ah)))
   (aq (aE (pv 5))))))))))))))))),?_⟩
 refine aU λN1 k1=> ?_;refine⟨_,rfl,a,ns,7,rfl,by decide,by decide,ha,hnl,λpn H1 zs sm1 hpn hn1 hzl=> ?_⟩;have p8:∀ {m:Nat},m<=7->m<=8:=λh=>by lia
 have ha1:=sm1.seq ha;refine k1 [some (.int (n:Int)),some (.ref a),some (.ref pn),none,none,none,none,none,none,none,none,none] _ ?_;clear k1 N1;refine aU λN1 k1=> ?_;refine⟨_,rfl,_,rfl,a,ns,1,rfl,by decide,ha1,_,rfl,4,rfl,pn,zs,rfl,by decide,SqL.of hn1,λp2 ws hp2 hwl=> ?_⟩;have smA:=sm1.trans (Same.new (o:= .lst (ws.map V.int)) hp2);have h2:upd H1 p2 (.lst (ws.map V.int)) p2=some (.lst (ws.map V.int)):=ag;have hnA:upd H1 p2 (.lst (ws.map V.int)) pn=some (.lst (zs.map V.int)):=(aw (au hn1 hp2)).trans hn1;generalize upd H1 p2 (.lst (ws.map V.int))=H2 at*;refine⟨n,_,p2,ws,rfl,by lia,SqL.of h2,by lia,λq1 H3 sm3 hq1 hD1=> ?_⟩;obtain⟨po,bo,ro,to,hqo,hBo,hbo,Mo⟩:=hD1;refine⟨q1,_,rfl,SqT.of hqo,rfl,_,_,rfl,_,_,rfl,rfl,?_⟩;replace smA:=smA.trans sm3;replace hnA:=sm3.at hnA;clear hqo hq1 h2 hn1;refine k1 [some (.int (n:Int)),some (.ref a),some (.ref pn),some (.ref po),some (.ref bo),none,none,none,none,none,none,none] _ ?_;clear k1 N1;refine aU λN1 k1=> ?_;refine⟨_,rfl,λpO dO npO ndO neO=>⟨pO,dO,po,n,ro,rfl,ag, .inl ⟨to,hBo.same (eM npO ndO)⟩,by lia,λH4 oth4 hO=>⟨rfl,?_⟩⟩⟩;have sm4:Same H3 H4:=fT npO ndO oth4;refine⟨_,rfl,bo,n,ro,rfl,SqL.of (sm4.at hbo),Mo,λpt H5 sm5 hpt ht=>⟨by show 2<=sizeLine;decide,λu hu=> ?_⟩⟩;have smU:Same H5 (upd H5 u (.tup [.ref pO, .ref pt])):=Same.new hu;have smT:=sm5.trans smU;have F0:d4 Z (upd H5 u (.tup [.ref pO, .ref pt])) n (.ref u):=by rw[eZ];exact d4.other ag (smT.at hO) (.inl ⟨to,(hBo.same sm4).same smT⟩) (smU.at ht) Mo
 replace smA:=smA.trans (sm4.trans smT);replace hnA:=(sm4.trans smT).at hnA;generalize upd H5 u (.tup [.ref pO, .ref pt])=H6 at*;refine⟨by show 1<=sizeLine;decide,λl hl=> ?_⟩;have hl0:H l=none:=smA.free hl;have I1:k6 Z n H l u [] (upd H6 l (.lst [.ref u])):=⟨smA.trans (Same.new hl),ag,λv hv=>by rw[DN.mp hv];exact F0.same z (Same.new hl)⟩;have hn7:upd H6 l (.lst [.ref u]) pn=some (.lst (zs.map V.int)):=(Same.new hl).at hnA;(try dsimp only);generalize upd H6 l (.lst [.ref u])=H7 at*;clear smU smT F0 smA hnA hu ht hpt sm5 sm4 hO oth4 hbo hBo sm3 Mo hl;refine k1 [some (.int (n:Int)),some (.ref a),some (.ref pn),some (.ref po),some (.ref bo),some (.ref l),none,none,none,none,none,none] _ ?_;clear k1 N1;refine aU λN1 k1=> ?_;refine⟨_,rfl,a,ns,5,rfl,by decide,I1.sm.seq ha,_,_,rfl,rfl,by decide,?_⟩;generalize ns.getD (5:Int).toNat 0=x5 at*;obtain⟨m,em,m2⟩:∃m:Nat,x5 % 3=(m:Int)/\m<=2:=⟨(x5 % 3).toNat,by lia,by lia⟩;rw[em];refine k1 [some (.int (n:Int)),some (.ref a),some (.ref pn),some (.ref po),some (.ref bo),some (.ref l),some (.int (m:Int)),none,none,none,none,none] _ ?_;clear k1 N1;refine aU λN1 k1=> ?_;refine⟨_,rfl,_,rfl,_,_,rfl,rfl,_,rfl,a,ns,2,rfl,by decide,I1.sm.seq ha,_,rfl,1,rfl,4,rfl,pn,zs,rfl,by decide,SqL.of hn7,λp3 ws3 hp3 hwl3=> ?_⟩;have smB:Same H7 (upd H7 p3 (.lst (ws3.map V.int))):=Same.new hp3;have h3:upd H7 p3 (.lst (ws3.map V.int)) p3=some (.lst (ws3.map V.int)):=ag;generalize upd H7 p3 (.lst (ws3.map V.int))=H8 at*;refine⟨n+m,_,p3,ws3,(by rw[Ho];rfl),by lia,SqL.of h3,by lia,λq2 H9 sm9 hq2 hD2=> ?_⟩;obtain⟨pm,bm,rm,tm,hqm,hBm,hbm,Mm⟩:=hD2;refine⟨q2,_,rfl,SqT.of hqm,rfl,_,_,rfl,_,_,rfl,rfl,?_⟩;have I2:=I1.same z (smB.trans sm9);have hn9:=(smB.trans sm9).at hn7;clear hqm hq2 I1 hn7 h3 smB sm9 hp3;refine k1 [some (.int (n:Int)),some (.ref a),some (.ref pn),some (.ref pm),some (.ref bm),some (.ref l),some (.int (m:Int)),none,none,none,none,none] _ ?_;clear k1 N1;refine aU λN1 k1=> ?_;refine⟨_,rfl,_,rfl,_,_,rfl,rfl,_,rfl,_,rfl,a,ns,5,rfl,by decide,I2.sm.seq ha,n+m,m,_,(by rw[Ho];rfl),by lia,by lia,λl2 H10 o d sm10 hl2 hod o2 d2 hsz=> ?_⟩;refine⟨l2,_,rfl,SqL.of hod,rfl,_,_,rfl,_,_,rfl,rfl,?_⟩;have I3:=I2.same z sm10;have hn10:=sm10.at hn9;replace hBm:=hBm.same sm10;replace hbm:=sm10.at hbm;clear I2 hn9 hod hl2 sm10;refine k1 [some (.int (n:Int)),some (.ref a),some (.ref pn),some (.ref pm),some (.ref bm),some (.ref l),some (.int (m:Int)),some (.int (o:Int)),some (.int (d:Int)),none,none,none] _ ?_;clear k1 N1;refine aU λN1 k1=> ?_;have kl:aX (2^(n+m) -1) (o|||d)<2^(n+m):=gX;have en:sz (aX (2^(n+m) -1) (o|||d))=n:=by lia
 refine⟨_,rfl, .inl ⟨rfl,_,SqL.of I3.hl⟩,_,rfl,_,rfl,_,rfl,λpM dM npM ndM neM=>⟨pM,dM,pm,n+m,o,d,rm,rfl,ag, .inl ⟨tm,hBm.same (eM npM ndM)⟩,by lia,d2,λH11 oth11 hM=>⟨rfl,?_⟩⟩⟩;have sm11:Same H10 H11:=fT npM ndM oth11;refine⟨_,rfl,_,rfl,_,rfl,bm,n+m,o,d,rm,rfl,SqL.of (sm11.at hbm),Mm,by lia,o2,d2,λpt2 H12 sm12 hpt2 ht2=>⟨by show 2<=sizeLine;decide,λu2 hu2=> ?_⟩⟩;have smU:Same H12 (upd H12 u2 (.tup [.ref pM, .ref pt2])):=Same.new hu2;have smT:=sm12.trans smU;have F1:d4 Z (upd H12 u2 (.tup [.ref pM, .ref pt2])) n (.ref u2):=by rw[eZ];have hm2:=smT.at hM;have ht3:=smU.at ht2;have MM:=Mm.minor kl d2;rw[en]at hm2 ht3 MM;exact⟨u2,pM,pt2,_,rfl,ag, .inr (.inr (.inl ⟨dM,pm,n+m,_,d,rm,hm2, .inl ⟨tm,(hBm.same sm11).same smT⟩,en.symm,by lia,kl,d2,λs _=>Mm.min_int kl d2 s⟩)),ht3,MM⟩
 have I4:=I3.same z (sm11.trans smT);have hn12:=(sm11.trans smT).at hn10;generalize upd H12 u2 (.tup [.ref pM, .ref pt2])=H13 at*;refine⟨l,_,_,rfl,rfl,I4.hl,by show 1<sizeLine;decide,?_⟩;have I5:=I4.more zk hl0 F1;have hn13:upd H13 l (.lst ([V.ref u]++[.ref u2])) pn=some (.lst (zs.map V.int)):=(aw λe=>by rw[e,I4.hl]at hn12;cases zs<;>cases hn12).trans hn12;(try dsimp only);replace hn13:upd H13 l (.lst (V.ref u::[]++[.ref u2])) pn=some (.lst (zs.map V.int)):=hn13;generalize upd H13 l (.lst (V.ref u::[]++[.ref u2]))=H14 at*;clear I4 hn12 F1 smU smT hu2 ht2 hpt2 sm12 hM oth11 sm11 I3 hn10 hBm hbm;refine k1 [some (.int (n:Int)),some (.ref a),some (.ref pn),some (.ref pm),some (.ref bm),some (.ref l),some (.int (m:Int)),some (.int (o:Int)),some (.int (d:Int)),none,none,none] _ ?_;clear k1 N1;refine aU λN1 k1=> ?_;refine⟨_,rfl,a,ns,6,rfl,by decide,I5.sm.seq ha,_,rfl,_,_,rfl,rfl,_,_,rfl,rfl,by lia,?_⟩;generalize ns.getD (6:Int).toNat 0=x6 at*;obtain⟨ct,ec,c2⟩:∃ct:Nat,x6 % ((n:Int)+1)=(ct:Int)/\ct<=n:=by have h1:=EI x6 (show(n:Int)+1≠0 by lia);have h2:=ED x6 (show 0<(n:Int)+1 by lia);exact⟨(x6 % ((n:Int)+1)).toNat,by lia,by lia⟩
 rw[ec];refine k1 [some (.int (n:Int)),some (.ref a),some (.ref pn),some (.ref pm),some (.ref bm),some (.ref l),some (.int (m:Int)),some (.int (o:Int)),some (.int (d:Int)),some (.int (ct:Int)),none,none] _ ?_;clear k1 N1;refine aU λN1 k1=> ?_;refine⟨_,rfl,_,rfl,a,ns,3,rfl,by decide,I5.sm.seq ha,_,rfl,2,rfl,4,rfl,pn,zs,rfl,by decide,SqL.of hn13,λp4 ws4 hp4 hwl4=> ?_⟩;have smB:Same H14 (upd H14 p4 (.lst (ws4.map V.int))):=Same.new hp4;have h4:upd H14 p4 (.lst (ws4.map V.int)) p4=some (.lst (ws4.map V.int)):=ag;generalize upd H14 p4 (.lst (ws4.map V.int))=H15 at*;refine⟨ct,_,p4,ws4,rfl,by lia,SqL.of h4,by lia,λq3 H16 sm16 hq3 hD3=> ?_⟩;obtain⟨p1,b1,r1,t1,hq31,hB1,hb1,M1⟩:=hD3;refine⟨q3,_,rfl,SqT.of hq31,rfl,_,_,rfl,_,_,rfl,rfl,?_⟩;have I6:=I5.same z (smB.trans sm16);have hn16:=(smB.trans sm16).at hn13;clear I5 hn13 hq31 h4 smB sm16 hq3 hp4;refine k1 [some (.int (n:Int)),some (.ref a),some (.ref pn),some (.ref p1),some (.ref b1),some (.ref l),some (.int (m:Int)),some (.int (o:Int)),some (.int (d:Int)),some (.int (ct:Int)),none,none] _ ?_;clear k1 N1;refine aU λN1 k1=> ?_;refine⟨_,rfl,_,rfl,_,_,rfl,rfl,_,rfl,a,ns,4,rfl,by decide,I6.sm.seq ha,_,rfl,3,rfl,4,rfl,pn,zs,rfl,by decide,SqL.of hn16,λp5 ws5 hp5 hwl5=> ?_⟩;have smB:Same H16 (upd H16 p5 (.lst (ws5.map V.int))):=Same.new hp5;have h5:upd H16 p5 (.lst (ws5.map V.int)) p5=some (.lst (ws5.map V.int)):=ag;generalize upd H16 p5 (.lst (ws5.map V.int))=H17 at*;refine⟨n-ct,_,p5,ws5,(by rw[show(n:Int) - (ct:Int)=((n-ct:Nat):Int) by lia];rfl),by lia,SqL.of h5,by lia,λq4 H18 sm18 hq4 hD4=> ?_⟩;obtain⟨p2',b2,r2,t2,hq42,hB2,hb2,M2⟩:=hD4;refine⟨q4,_,rfl,SqT.of hq42,rfl,_,_,rfl,_,_,rfl,rfl,?_⟩;have smC:=smB.trans sm18;have I7:=I6.same z smC;replace hB1:=hB1.same smC;replace hb1:=smC.at hb1;clear I6 hn16 hq42 h5 smB sm18 hq4 hp5 smC;refine k1 [some (.int (n:Int)),some (.ref a),some (.ref pn),some (.ref p1),some (.ref b1),some (.ref l),some (.int (m:Int)),some (.int (o:Int)),some (.int (d:Int)),some (.int (ct:Int)),some (.ref p2'),some (.ref b2)] _ ?_;clear k1 N1;refine aU λN1 k1=> ?_;have enn:ct+(n-ct)=n:=by lia
 refine⟨_,rfl,_,rfl,λpS dS npS ndS neS=>⟨pS,dS,p1,p2',ct,n-ct,r1,r2,rfl,ag, .inl ⟨t1,hB1.same (eM npS ndS)⟩, .inl ⟨t2,hB2.same (eM npS ndS)⟩,by lia,λH19 oth19 hS=>⟨rfl,?_⟩⟩⟩;have sm19:Same H18 H19:=fT npS ndS oth19;refine k1 [some (.int (n:Int)),some (.ref a),some (.ref pn),some (.ref pS),some (.ref b1),some (.ref l),some (.int (m:Int)),some (.int (o:Int)),some (.int (d:Int)),some (.int (ct:Int)),some (.ref p2'),some (.ref b2)] _ ?_;clear k1 N1;refine aU λN1 k1=> ?_;refine⟨_,rfl,_,rfl,b1,b2,ct,n-ct,r1,r2,rfl,SqL.of (sm19.at hb1),SqL.of (sm19.at hb2),by lia,λpt3 H20 sm20 hpt3 ht3=> ?_⟩;refine k1 [some (.int (n:Int)),some (.ref a),some (.ref pn),some (.ref pS),some (.ref pt3),some (.ref l),some (.int (m:Int)),some (.int (o:Int)),some (.int (d:Int)),some (.int (ct:Int)),some (.ref p2'),some (.ref b2)] _ ?_;clear k1 N1;refine aU λN1 k1=> ?_;have MS:=M1.side M2 (by lia);have ZS:(hsX (hs5 c) g).ho H20 pS n (fH ct r1 r2):= .inr (.inr (.inr ⟨dS,p1,p2',ct,n-ct,r1,r2,enn.symm,by have:=sm20.at hS;rw[enn]at this;exact this,⟨t1,(hB1.same sm19).same sm20⟩,⟨t2,(hB2.same sm19).same sm20⟩,λs _=>rfl⟩));rw[enn]at ht3 MS;have I8:=I7.same z (sm19.trans sm20);clear I7 hb1 hB1 hb2 hB2 hS oth19 sm19 sm20 hpt3;refine⟨_,rfl, .inl ⟨rfl,_,SqL.of I8.hl⟩,_,rfl,_,rfl,by show 2<=sizeLine;decide,λu3 hu3=> ?_⟩;have smU:Same H20 (upd H20 u3 (.tup [.ref pS, .ref pt3])):=Same.new hu3;have F2:d4 Z (upd H20 u3 (.tup [.ref pS, .ref pt3])) n (.ref u3):=by rw[eZ];exact⟨u3,pS,pt3,_,rfl,ag, .inl ((iL (kC c) g).same smU ZS),smU.at ht3,MS⟩
 have I9:=I8.same z smU;replace ZS:=(iL (kC c) g).same smU ZS;replace ht3:=smU.at ht3;generalize upd H20 u3 (.tup [.ref pS, .ref pt3])=H21 at*;refine⟨l,_,_,rfl,rfl,I9.hl,by show 2<sizeLine;decide,?_⟩;have I10:=I9.more zk hl0 F2;replace ZS:=(yK (A4 c) g).I (kT.upd (zs:=V.ref u::([]++[.ref u2])++[.ref u3]) I9.hl) ZS;replace ht3:upd H21 l (.lst (V.ref u::([]++[.ref u2])++[.ref u3])) pt3=_:=(aw (c8 ht3 I9.hl lO)).trans ht3;(try dsimp only);generalize upd H21 l (.lst (V.ref u::([]++[.ref u2])++[.ref u3]))=H22 at*;clear I8 I9 F2 smU hu3;refine k1 [some (.int (n:Int)),some (.ref a),some (.ref pn),some (.ref pS),some (.ref pt3),some (.ref l),some (.int (m:Int)),some (.int (o:Int)),some (.int (d:Int)),some (.int (ct:Int)),some (.ref p2'),some (.ref b2)] _ ?_;clear k1 N1;refine aU λN1 k1=> ?_;refine⟨_,rfl, .inl ⟨rfl,_,SqL.of I10.hl⟩,_,rfl,λpF dF npF ndF neF=>⟨pF,dF,pS,n,_,rfl,ag,(iL (kC c) g).same (eM npF ndF) ZS,by lia,λH23 oth23 hF=>⟨rfl,?_⟩⟩⟩;have sm23:Same H22 H23:=fT npF ndF oth23;refine⟨_,rfl,pt3,n,_,rfl,SqL.of (sm23.at ht3),MS,λpt4 H24 sm24 hpt4 ht4=>⟨by show 2<=sizeLine;decide,λu4 hu4=> ?_⟩⟩;have smU:Same H24 (upd H24 u4 (.tup [.ref pF, .ref pt4])):=Same.new hu4;have smT:=sm24.trans smU;have F3:d4 Z (upd H24 u4 (.tup [.ref pF, .ref pt4])) n (.ref u4):=by rw[eZ];exact d4.other ag (smT.at hF) ((iL (kC c) g).same (sm23.trans smT) ZS) (smU.at ht4) MS
 have I11:=I10.same z (sm23.trans smT);generalize upd H24 u4 (.tup [.ref pF, .ref pt4])=H25 at*;refine⟨l,_,_,rfl,rfl,I11.hl,by show 3<sizeLine;decide,?_⟩;have I12:=I11.more zk hl0 F3;refine k1 _ _ ?_;exact⟨_,rfl,k l _ _ I12.sm hl0 I12.hl rfl I12.pr⟩
theorem xH{Z:Hs}{xs:List V}(h:∀v∈xs,d4 Z H n v):∃ (q p b:Nat->Addr) (r:Nat->Nat->Nat),∀i,i<xs.length->xs[i]?=some (.ref (q i))/\H (q i)=some (.tup [.ref (p i), .ref (b i)])/\Z.ho H (p i) n (r i)/\H (b i)=some (.lst ((aG n (r i)).map V.int))/\Mat n (r i):=by
 obtain⟨f,hf⟩:=Classical.axiomOfChoice (r:=λ(i:Nat) (y:Addr×Addr×Addr× (Nat->Nat))=>i<xs.length->xs[i]?=some (.ref y.1)/\H y.1=some (.tup [.ref y.2.1, .ref y.2.2.1])/\Z.ho H y.2.1 n y.2.2.2/\H y.2.2.1=some (.lst ((aG n y.2.2.2).map V.int))/\Mat n y.2.2.2) λi=>by
  by_cases hi:i<xs.length
  .obtain⟨q,p,b,r,e,h1,h2,h3,M⟩:=h xs[i] (E7 hi);exact⟨(q,p,b,r),λ_=>⟨by rw[Ds hi,e],h1,h2,h3,M⟩⟩
  .exact⟨(0,0,0,λ_=>0),λz=>absurd z hi⟩
 exact⟨λi=>(f i).1,λi=>(f i).2.1,λi=>(f i).2.2.1,λi=>(f i).2.2.2,hf⟩
theorem wx{xs:List V}(h:xs.length=4){i:Nat}(hi:i<4):∃j,j<4/\atI xs (0+(i:Int) -1)=xs[j]?:=by
 cases i with
 |zero=>
  refine⟨3,by decide,?_⟩;unfold atI;have e:ixN xs.length (0+((0:Nat):Int) -1)=some 3:=by rw[h];rfl
  rw[e];rfl
 |succ i=>
  refine⟨i,by lia,?_⟩;rw[show 0+((i+1:Nat):Int) -1=(i:Int) by lia];exact(aK (Ds (show i<xs.length by lia))).trans (Ds _).symm
inductive uz(K:PySem.W.Frag)(Ph Pc Pd:Addr)(vs:List V)(H:Hp)(Q:VK):Prop
 |mk (a:Addr) (ns:List Int) (y_0:vs=[.ref a]) (y_1:SqL K H a (ns.map V.int)) (y_2:ns.length<=63) (y_3:H Ph=some (.tbl #[])) (y_4:H Pc=some (.tbl #[])) (y_5:H Pd=some (.tbl #[])) (y_6:∀H',Q (.bl true) H'):uz K Ph Pc Pd vs H Q
def nj(K:PySem.W.Frag)(Ph Pc Pd:Addr):Sp:=λvs H Q _=>uz K Ph Pc Pd vs H Q
theorem sc_law:aB ["_law_script","_law_many","_law_four_here","_law_turn","_law_weights_here","_law_handed","_law_k","_law_house","_law_told","_law_other_here","_law_more","_law_found","_law_some","_law_houses","_law_rows_here"] ["_law_script"] (ao s_law):=sc_of
theorem BJ(z:d5 Z)(zk:HsK Z)(nhc:Ph≠Pc)(ndc:Pd≠Pc)(ndh:Pd≠Ph)(F:Fun K "law" "law" s_law f fd)(T:Tb K mg)(ae:Cal P w K mg base 1 "_law_at" ["_law_script","_law_k"] (Bi K))(ar:Cal P w K mg base 1 "_law_counts" ["_law_many"] fG)(ay:Cal P w K mg base 1 "_law_whole" ["_law_found"] jn)
  (aI:Cal P w K mg base 8 "_law_four" ["_law_many","_law_script"] (w9 K Z)) (ak:Cal P w K mg base 1 "_law_weights" ["_law_many","_law_cells","_law_cell"] (iZ K)) (aT:Cal P w K mg base 8 "common" ["one","other"] (oU Z Pc)) (ax:Cal P w K mg base 2 "_law_common" ["_law_found","_law_first","_law_second"] (oS K)) (aS:Cal P w K mg base 8 "heaviest" ["house","weights"] (jQ K Z Ph))
  (af:Cal P w K mg base 1 "_law_heaviest" ["_law_told","_law_weights_here"] (tI K)) (a0:Cal P w K mg base 8 "dealt" ["houses"] (tK K Z Pd)) (az:Cal P w K mg base 2 "_law_parts" ["_law_found","_law_rows_here"] (lS K)) (aD:Cal P w K mg base 1 "_law_dealt" ["_law_found","_law_rows_here","_law_sizes"] (oR K)):fq P w K mg base CX0 9 f fd ["_law_script"] (nj K Ph Pc Pd):=by
 refine F.ok sc_law (λvs H Q E h=>by obtain⟨a,ns,rfl,_⟩:=h;rfl) λcdv A outer σs H vs Q E hr h=> ?_;obtain⟨a,ns,rfl,ha,hnl,hPh,hPc,hPd,kk⟩:=h;refine⟨_,(ab (wset 1 sc_law.nd (av aP (wcal ae hr (aa (pv 0) (aa ai ah))) ai))
   (ab (wset 2 sc_law.nd (wcal aI hr (aa (pv 1) (aa (pv 0) ah))))
   (ab (wset 3 sc_law.nd (av aP (av cf (wcal ae hr (aa (pv 0) (aa ai ah))) ai) ai))
   (ab (wset 2 sc_law.nd (av iE (dR (dP (K:=K) (by rfl)) (pv 2) (bV (pv 3)) cW) (dR (dP (K:=K) (by rfl)) (pv 2) cW (bV (pv 3)))))
   (ab (wset 4 sc_law.nd (wcal ak hr (aa (pv 1) (aa (dR (dP (K:=K) (by rfl)) (pv 0) (bV ai) (bV ai)) (aa (av cf (wcal ae hr (aa (pv 0) (aa ai ah))) ai) ah)))))
   (ab (wset 5 sc_law.nd (bM (gp (K:=K) (by rfl)) (by rfl) T.list_ E9 (aa (pv 4) ah)))
   (ab (wfor (wrng T.range_ ai) (wname 6 sc_law.nd)
     (ab (eB (bb K (pv 2) (pv 6)) (cJ (K:=K) (n:=2) (by rfl) (by rfl) (aQ (wname 7 sc_law.nd) (aQ (wname 8 sc_law.nd) cx))))
     (ab (eB (bb K (pv 2) (av bJ (pv 6) ai)) (cJ (K:=K) (n:=2) (by rfl) (by rfl) (aQ (wname 9 sc_law.nd) (aQ (wname 10 sc_law.nd) cx))))
     (ab (bA (e7 (dQ (wcal ax hr (aa (wcal aT hr (aa (pv 9) (aa (pv 7) ah))) (aa (pv 10) (aa (pv 8) ah))))))
       (aq (aE fK))
       aN)
     (ab (wset 11 sc_law.nd (wcal aS hr (aa (pv 7) (aa (pv 5) ah))))
     (aq (bA (PW.pt (fJ (e7 (dQ (wcal ay hr (aa (pv 11) ah)))) (fI (wpt i6 (pv 11) (wcal af hr (aa (pv 8) (aa (pv 4) ah)))))))
       (aq (aE fK))
       aN)))))))
   (ab (wset 12 sc_law.nd (dR (dP (K:=K) (by rfl)) (pv 2) cW (bV (av bh ai (av aP (av cf (wcal ae hr (aa (pv 0) (aa ai ah))) ai) ai)))))
   (ab (wls 13 sc_law.nd ["_law_house","_law_told"] [] [] (wil K (pv 12)) (cJ (K:=K) (n:=2) (by rfl) (by rfl) (aQ (wnC 0) (aQ (wnC 1) cx))) aM (pv 0))
   (ab (wls 14 sc_law.nd ["_law_house","_law_told"] [] [] (wil K (pv 12)) (cJ (K:=K) (n:=2) (by rfl) (by rfl) (aQ (wnC 0) (aQ (wnC 1) cx))) aM (pv 1))
   (ab (wset 11 sc_law.nd (wcal a0 hr (aa (pv 13) ah)))
   (ab (bA (PW.pt (fJ (e7 (dQ (wcal az hr (aa (pv 11) (aa (pv 14) ah))))) (fI (e7 (dQ (wcal aD hr (aa (pv 11) (aa (pv 14) (aa (wcal ar hr (aa (pv 1) ah)) ah)))))))))
     (aq (aE fK))
     aN)
   (aq (aE (xE (wpe (Ap (K:=K) (by rfl) hr.units) (pv 5) (pv 4)) (xy (wpe bP (wlen K T.len_ (pv 13)) (wlen K T.len_ (pv 14))))))))))))))))))),?_⟩
 refine aU λN1 k1=> ?_;refine⟨_,rfl,a,ns,0,rfl,by decide,ha,_,_,rfl,rfl,by decide,?_⟩;generalize ex0:ns.getD (0:Int).toNat 0=x0;obtain⟨n,en,n5⟩:∃n:Nat,x0 % 6=(n:Int)/\n<=5:=⟨(x0 % 6).toNat,by lia,by lia⟩;rw[en];refine k1 [some (.ref a),some (.int (n:Int)),none,none,none,none,none,none,none,none,none,none,none,none,none] _ ?_;clear k1 N1;refine aU λN1 k1=> ?_;refine⟨_,rfl,_,rfl,n,a,ns,rfl,by lia,ha,hnl,λl H1 xs sm1 hl0 hl hx4 hpr=> ?_⟩;refine k1 [some (.ref a),some (.int (n:Int)),some (.ref l),none,none,none,none,none,none,none,none,none,none,none,none] _ ?_;clear k1 N1;refine aU λN1 k1=> ?_;refine⟨_,rfl,a,ns,0,rfl,by decide,sm1.seq ha,_,_,rfl,rfl,⟨by decide,by decide⟩,_,_,rfl,rfl,by decide,?_⟩;rw[ex0];obtain⟨tn,et,t4⟩:∃t:Nat,x0/6 % 4=(t:Int)/\t<=3:=⟨(x0/6 % 4).toNat,by lia,by lia⟩;rw[et];refine k1 [some (.ref a),some (.int (n:Int)),some (.ref l),some (.int (tn:Int)),none,none,none,none,none,none,none,none,none,none,none] _ ?_;clear k1 N1;refine aU λN1 k1=> ?_;refine⟨_,rfl,_,rfl,_,rfl,l,_,rfl,SqL.of hl,λp1 hp1=> ?_⟩;rw[mC];have smB:Same H1 (upd H1 p1 (.lst (xs.drop tn))):=Same.new hp1;have h1:upd H1 p1 (.lst (xs.drop tn)) p1=some (.lst (xs.drop tn)):=ag;generalize upd H1 p1 (.lst (xs.drop tn))=H2 at*;refine⟨_,rfl,_,rfl,_,rfl,l,_,rfl,SqL.of (smB.at hl),λp2 hp2=> ?_⟩;rw[n6];have smC:Same H2 (upd H2 p2 (.lst (xs.take tn))):=Same.new hp2;have h2:upd H2 p2 (.lst (xs.take tn)) p2=some (.lst (xs.take tn)):=ag;generalize upd H2 p2 (.lst (xs.take tn))=H3 at*;have lx:(xs.drop tn++xs.take tn).length=4:=by rw[DK,Ff,Em,hx4];lia
 refine⟨p1,p2,_,_,rfl,rfl,smC.at h1,h2,?_,λl4 hl4=> ?_⟩
 .have:=lx;rw[DK]at this;rw[this];decide
 have smD:Same H3 (upd H3 l4 (.lst (xs.drop tn++xs.take tn))):=Same.new hl4;have h4:upd H3 l4 (.lst (xs.drop tn++xs.take tn)) l4=some (.lst (xs.drop tn++xs.take tn)):=ag;generalize upd H3 l4 (.lst (xs.drop tn++xs.take tn))=H4 at*;have smE:=(smB.trans smC).trans smD;have hpr4:∀v∈xs.drop tn++xs.take tn,d4 Z H4 n v:=λv hv=>(hpr v (by
  rcases DW.mp hv with h|h
  .exact Gx h
  .exact FG h)).same z smE
 generalize xs.drop tn++xs.take tn=xt at*;have sm4:=sm1.trans smE;clear smB smC smD smE h1 h2 hpr hl hp1 hp2 hl4 hx4;refine k1 [some (.ref a),some (.int (n:Int)),some (.ref l4),some (.int (tn:Int)),none,none,none,none,none,none,none,none,none,none,none] _ ?_;clear k1 N1;refine aU λN1 k1=> ?_;refine⟨_,rfl,_,rfl,7,rfl,63,rfl,a,_,rfl,sm4.seq ha,λp5 hp5=> ?_⟩;obtain⟨ds,ed,hdl⟩:=pZ ns (some 7) (some 63);rw[ed];have smB:Same H4 (upd H4 p5 (.lst (ds.map V.int))):=Same.new hp5;have h5:upd H4 p5 (.lst (ds.map V.int)) p5=some (.lst (ds.map V.int)):=ag;generalize upd H4 p5 (.lst (ds.map V.int))=H5 at*;refine⟨_,rfl,a,ns,0,rfl,by decide,smB.seq (sm4.seq ha),_,_,rfl,rfl,⟨by decide,by decide⟩,n,p5,ds,_,rfl,by lia,SqL.of h5,by lia,λpw H6 W sm6 hpw hw6 hW=> ?_⟩;refine k1 [some (.ref a),some (.int (n:Int)),some (.ref l4),some (.int (tn:Int)),some (.ref pw),none,none,none,none,none,none,none,none,none,none] _ ?_;clear k1 N1;refine aU λN1 k1=> ?_;refine⟨_,rfl,pw,_,rfl, .inl (SqL.of hw6),λp7 hp7=> ?_⟩;have smC:Same H6 (upd H6 p7 (.lst (W.map V.int))):=Same.new hp7;have h7:upd H6 p7 (.lst (W.map V.int)) p7=some (.lst (W.map V.int)):=ag;have hw7:=smC.at hw6;generalize upd H6 p7 (.lst (W.map V.int))=H7 at*;have smE:=(smB.trans sm6).trans smC;have hl7:=smE.at h4;have hpr7:∀v∈xt,d4 Z H7 n v:=λv hv=>(hpr4 v hv).same z smE;have sm7:=sm4.trans smE;have tH:cU H7 Ph jz pJ:= .inl (sm7.at hPh);have tC:cU H7 Pc jB pL:= .inl (sm7.at hPc);have tD:cU H7 Pd jA pK:= .inl (sm7.at hPd);have ha7:=sm7.seq ha;clear smB sm6 smC smE h4 hpr4 hp5 hpw hw6 hp7 h5;obtain⟨q,p,b,r,hf⟩:=xH hpr7;rw[lx]at hf;refine k1 [some (.ref a),some (.int (n:Int)),some (.ref l4),some (.int (tn:Int)),some (.ref pw),some (.ref p7),none,none,none,none,none,none,none,none,none] _ ?_;clear k1 N1;refine eI (λσ' H'=>a9 H7 H'/\cU H' Pd jA pK/\∃v6 v7 v8 v9 v10 v11,σ'=[some (.ref a),some (.int (n:Int)),some (.ref l4),some (.int (tn:Int)),some (.ref pw),some (.ref p7),v6,v7,v8,v9,v10,v11,none,none,none]) ?_ ?_
 rotate_left
 .intro N1 hrest;refine⟨4,rfl,by decide,by decide,?_⟩;refine cz (n:=4) (λi σ H'=>a9 H7 H'/\cU H' Ph jz pJ/\cU H' Pc jB pL/\cU H' Pd jA pK/\∃v6 v7 v8 v9 v10 v11,σ=[some (.ref a),some (.int (n:Int)),some (.ref l4),some (.int (tn:Int)),some (.ref pw),some (.ref p7),v6,v7,v8,v9,v10,v11,none,none,none]) ⟨a9.refl,tH,tC,tD,none,none,none,none,none,none,rfl⟩ ?_ ?_
  .rintro i σ H' hi ⟨sN,uH,uC,uD,v6,v7,v8,v9,v10,v11,rfl⟩;obtain⟨j,hj,ej⟩:=wx lx hi;obtain⟨f1,f2,f3,f4,M1⟩:=hf i hi;obtain⟨g1,g2,g3,g4,M2⟩:=hf j hj;have ati:atI xt (0+(i:Int))=some (.ref (q i)):=by rw[EA];exact aK f1
   have atj:atI xt (0+(i:Int) -1)=some (.ref (q j)):=ej.trans g1;have hl':=SqL.of (K:=K) (sN.lst hl7);refine⟨_,rfl,_,rfl,l4,_,_,_,rfl,rfl,hl',ati,q i,_,rfl,SqT.of (sN.tup f2),rfl,_,_,rfl,_,_,rfl,rfl,?_⟩;refine⟨_,rfl,_,rfl,_,_,rfl,rfl,l4,_,_,_,rfl,rfl,hl',atj,q j,_,rfl,SqT.of (sN.tup g2),rfl,_,_,rfl,_,_,rfl,rfl,?_⟩;refine⟨_,rfl,_,rfl,p j,p i,n,r j,r i,rfl,zk.N sN g3,zk.N sN f3,by lia,M2,M1,uC,λpt H8 I A' sB8 tC8 hp8 hF8=> ?_⟩;obtain⟨ps8,hPc8⟩:=uC.tbl;have sN8:=sN.trans (ba.n sB8 hPc8);refine⟨_,rfl,_,rfl,pt,b j,b i,n,r j,r i,I,A',rfl,by lia,hp8,SqL.of (sN8.lst g4),SqL.of (sN8.lst f4),hF8,λH9 sm9=> ?_⟩;refine⟨true,rfl,cL ?_⟩;have sN9:=sN8.trans (a9.of sm9);have tH9:=(cU.sameB uH sB8 nhc hPc8).same sm9;have tD9:=(cU.sameB uD sB8 ndc hPc8).same sm9;have tC9:=tC8.same sm9;refine⟨_,rfl,_,rfl,p i,p7,n,r i,W,rfl,zk.N sN9 f3,by lia,SqL.of (sN9.lst h7),hW,tH9,λH10 sB10 tH10=> ?_⟩;obtain⟨ps9,hPh9⟩:=tH9.tbl;have sN10:=sN9.trans (ba.n sB10 hPh9);have tC10:=cU.sameB tC9 sB10 nhc.symm hPh9;have tD10:=cU.sameB tD9 sB10 ndh hPh9;refine⟨_,rfl,_,rfl,true,rfl,cL ?_⟩;refine⟨_,rfl,_,rfl,_,rfl,b i,pw,n,r i,W,rfl,by lia,SqL.of (sN10.lst f4),SqL.of (sN10.lst hw7),hW,λH11 sm11=>⟨rfl,_,rfl,yH rfl ?_⟩⟩;exact⟨sN10.trans (a9.of sm11),tH10.same sm11,tC10.same sm11,tD10.same sm11,_,_,_,_,_,_,rfl⟩
  .rintro σ H' ⟨sN,uH,uC,uD,v6,v7,v8,v9,v10,v11,rfl⟩;exact hrest _ _ ⟨sN,uD,_,_,_,_,_,_,rfl⟩
 rintro σ' H8 ⟨sN,uD,v6,v7,v8,v9,v10,v11,rfl⟩;clear tH tC tD;refine aU λN1 k1=> ?_;refine⟨_,rfl,_,rfl,a,ns,0,rfl,by decide,sN.seq ha7,_,_,rfl,rfl,⟨by decide,by decide⟩,_,_,rfl,rfl,by decide,_,_,rfl,rfl,_,rfl,l4,_,rfl,SqL.of (sN.lst hl7),λp9 hp9=> ?_⟩;rw[ex0];obtain⟨m,em,m0,m4⟩:∃m:Nat,1+x0/24 % 4=(m:Int)/\0<m/\m<=4:=⟨(1+x0/24 % 4).toNat,by lia,by lia,by lia⟩;rw[em,n6];have sm9:Same H8 (upd H8 p9 (.lst (xt.take m))):=Same.new hp9;have h9:upd H8 p9 (.lst (xt.take m)) p9=some (.lst (xt.take m)):=ag;generalize upd H8 p9 (.lst (xt.take m))=H9 at*;have lt:(xt.take m).length=m:=by rw[Em,lx];lia
 have atm:∀ {i:Nat} {v:V},(xt.take m)[i]?=some v->i<m/\v= .ref (q i):=λ{i v} h=>by
  have hi:i<m:=by rw[<-lt];exact(DB.mp h).1
  rw[List.getElem?_take,Dp hi,(hf i (by lia)).1]at h;exact⟨hi,(DS h).symm⟩
 replace sN:=sN.trans (a9.of sm9);replace uD:=uD.same sm9;refine k1 [some (.ref a),some (.int (n:Int)),some (.ref l4),some (.int (tn:Int)),some (.ref pw),some (.ref p7),v6,v7,v8,v9,v10,v11,some (.ref p9),none,none] _ ?_;clear k1 N1 sm9 hp9;refine aU λN1 k1=> ?_;refine⟨_,rfl,p9,rfl,⟨_,SqL.of h9⟩,?_⟩;refine gY (λi y _=>y= .ref (p i)) (λi y G G' _ h=>h) (SqL.of h9) (by rw[lt];exact Du m4 (by decide)) (λi x vs D H' R S hx hv sm hD hk=> ?_) λD1 H10 ys hD1 sm10 hl10 hyl hys=> ?_
 .obtain⟨w1,w2,rfl⟩:=jH hv;obtain⟨hi,rfl⟩:=atm hx;refine⟨q i,_,rfl,SqT.of (sm.at (sN.tup (hf i (by lia)).2.1)),rfl,_,_,rfl,_,_,rfl,rfl,?_⟩;simp only[cm,Dp];exact⟨_,rfl,hk _ [some (.ref (p i)),some (.ref (b i))] H' rfl rfl (Same.refl _)⟩
 replace sN:=sN.trans (a9.of sm10);replace uD:=uD.same sm10;replace h9:=sm10.at h9;rw[lt]at hyl;refine k1 [some (.ref a),some (.int (n:Int)),some (.ref l4),some (.int (tn:Int)),some (.ref pw),some (.ref p7),v6,v7,v8,v9,v10,v11,some (.ref p9),some (.ref D1),none] _ ?_;clear k1 N1 sm10 hD1;refine aU λN1 k1=> ?_;refine⟨_,rfl,p9,rfl,⟨_,SqL.of h9⟩,?_⟩;refine gY (λi y _=>y= .ref (b i)) (λi y G G' _ h=>h) (SqL.of h9) (by rw[lt];exact Du m4 (by decide)) (λi x vs D H' R S hx hv sm hD hk=> ?_) λD2 H11 ws hD2 sm11 hl11 hwl hws=> ?_
 .obtain⟨w1,w2,rfl⟩:=jH hv;obtain⟨hi,rfl⟩:=atm hx;refine⟨q i,_,rfl,SqT.of (sm.at (sN.tup (hf i (by lia)).2.1)),rfl,_,_,rfl,_,_,rfl,rfl,?_⟩;simp only[cm,Dp];exact⟨_,rfl,hk _ [some (.ref (p i)),some (.ref (b i))] H' rfl rfl (Same.refl _)⟩
 replace sN:=sN.trans (a9.of sm11);replace uD:=uD.same sm11;replace hl10:=sm11.at hl10;rw[lt]at hwl;have HX:iq Z H11 n m r ys:=⟨hyl,λi hi=>by have hy:ys[i]?=some ys[i]:=Ds (by lia);exact⟨p i,by rw[hy,hys i _ hy],zk.N sN (hf i (by lia)).2.2.1⟩⟩
 have RX:ik H11 n m r ws:=⟨hwl,λi hi=>by have hy:ws[i]?=some ws[i]:=Ds (by lia);exact⟨b i,by rw[hy,hws i _ hy],sN.lst (hf i (by lia)).2.2.2.1⟩⟩
 have MM:∀i,i<m->Mat n (r i):=λi hi=>(hf i (by lia)).2.2.2.2;have h7':=sN.lst h7;have hw7':=sN.lst hw7;refine k1 [some (.ref a),some (.int (n:Int)),some (.ref l4),some (.int (tn:Int)),some (.ref pw),some (.ref p7),v6,v7,v8,v9,v10,v11,some (.ref p9),some (.ref D1),some (.ref D2)] _ ?_;clear k1 N1 sm11 hD2 h9 sN hf atm hys hws hpr7;refine aU λN1 k1=> ?_;refine⟨_,rfl,D1,n,m,r,ys,rfl,by lia,m0,by lia,SqL.of hl10,HX,MM,uD,λu qq H12 J B sN5 hu5 hq5 hF=> ?_⟩;refine k1 [some (.ref a),some (.int (n:Int)),some (.ref l4),some (.int (tn:Int)),some (.ref pw),some (.ref p7),v6,v7,v8,v9,v10,some (.ref u),some (.ref p9),some (.ref D1),some (.ref D2)] _ ?_;clear k1 N1;refine aU λN1 k1=> ?_;refine⟨_,rfl,_,rfl,u,qq,D2,n,m,r,J,B,ws,rfl,by lia,m0,by lia,hu5,hq5,sN5.lst hl11,RX.sameN sN5,hF,λH13 sm6=> ?_⟩;refine⟨true,rfl,cL ?_⟩;refine⟨_,rfl,_,rfl,_,rfl,n,rfl,by lia,λzz H14 sm7' hz hz7=> ?_⟩;have smA:=sm6.trans sm7';have sN7:=sN5.trans (a9.of smA);refine⟨u,qq,D2,zz,n,m,r,J,B,ws,rfl,by lia,m0,by lia,smA.at hu5,smA.at hq5,sN7.lst hl11,hz7,RX.sameN sN7,hF,true,rfl,cL ?_⟩;refine k1 _ _ ?_;clear k1 N1;refine⟨_,rfl,_,rfl,p7,pw,W,W,rfl,rfl,SqL.of (sN7.lst h7'),SqL.of (sN7.lst hw7'),_,rfl,?_⟩;rw[DG rfl];refine⟨_,rfl,D1,_,rfl, .inl (SqL.of (sN7.lst hl10)),_,rfl,D2,_,rfl, .inl (SqL.of (sN7.lst hl11)),rfl,?_⟩;rw[hyl,hwl,DG rfl];exact kk H14
end
inductive HD(K:PySem.W.Frag)(n:Str)(st:Stmt):Prop
 |mk {f:Addr} {oc:Value} {od an:Option Addr} {sl:Array (Option Value)} {kV dc pm cd ct:Value} (a:nsIn K mainGlobals n=some (some (.ref f))) (l:K.lookup f=some ⟨oc,od, .func (fnOf n n (a6 st) (aF st) (ao st) .none kV dc pm an cd ct),sl⟩) (c:codeIn K cd n=true) (k:keepIn K (.ref f)=true):HD K n st
theorem HD.at{K:PySem.W.Frag}{n:Str}{st:Stmt}{h:Heap}{mg:Str->Option Value}(X:K.In h)(G:h.Ns mainGlobals mg)(d:HD K n st){ps:List Str}(b:∀ (kV doc pm:Value) (an:Option Addr) (cdv ct:Value) (us:List Value),us.length=ps.length->bindArgs (fnOf n n (a6 st) (aF st) (ao st) .none kV doc pm an cdv ct) ⟨us,[]⟩=pure (ps.zip us):=by intro _ _ _ _ _ _;first|exact yq rfl|exact AA λ_=>rfl|exact yp λ_ _=>rfl|exact BR λ_ _ _=>rfl|exact BQ λ_ _ _ _=>rfl|exact CG λ_ _ _ _ _=>rfl):aY K mg n st ps:=by obtain⟨a,l,c,k⟩:=d;exact B2 (st:=st) (ps:=ps) X G a l c k b
inductive HM(K:PySem.W.Frag)(C:Addr)(n q:Str)(st:Stmt)(f:Addr):Prop
 |mk {oc:Value} {od an:Option Addr} {sl:Array (Option Value)} {kV dc pm cd ct:Value} (a:findIn K (.ref C) n=some (some (.ref f))) (i:isFn K (.ref f)=true) (l:K.lookup f=some ⟨oc,od, .func (fnOf n q (a6 st) (aF st) (ao st) .none kV dc pm an cd ct),sl⟩) (c:codeIn K cd q=true) (k:keepIn K (.ref f)=true):HM K C n q st f
theorem HM.at{K:PySem.W.Frag}{C:Addr}{n q:Str}{st:Stmt}{f:Addr}(d:HM K C n q st f){ps:List Str}(b:∀ (kV doc pm:Value) (an:Option Addr) (cdv ct:Value) (us:List Value),us.length=ps.length->bindArgs (fnOf n q (a6 st) (aF st) (ao st) .none kV doc pm an cdv ct) ⟨us,[]⟩=pure (ps.zip us):=by intro _ _ _ _ _ _;first|exact yq rfl|exact AA λ_=>rfl|exact yp λ_ _=>rfl|exact BR λ_ _ _=>rfl|exact BQ λ_ _ _ _=>rfl|exact CG λ_ _ _ _ _=>rfl):cB K n q st ps f/\findIn K (.ref C) n=some (some (.ref f))/\isFn K (.ref f)=true/\keepIn K (.ref f)=true:=by obtain⟨a,i,l,c,k⟩:=d;exact⟨BP (st:=st) (ps:=ps) l c k b,a,i,k⟩
structure HL(K:PySem.W.Frag)(n:Str)(C:Addr):Prop where
 a:nsIn K mainGlobals n=some (some (.ref C))
 pg:plainGet K C Str.empty=true
 hd:hasDictIn K C=true
 po:plainOver K C=true
 sa:findIn K (.ref C) "__setattr__"=some (some (.builtin "object.__setattr__"))
 mi:makesIn K C=true
 kc:keepIn K (.ref C)=true
structure HI(K:PySem.W.Frag)(C:Addr):Prop where
 a:findIn K (.ref C) "__class__"=some (some (.builtin "object.__class__"))
 b:specialIn K (.builtin "object.__class__") "__get__"=some (some (.builtin "getset_descriptor.__get__"))
 c:takesIn K (.builtin "object.__class__")=some true
 d:mroIn K C (.type "object")=some true
theorem all_mk{l:PySem.W.OpenLaw}{K:PySem.W.Frag}{h:Heap}(X:K.In h)(G:h.Ns mainGlobals mg)(hfa:mg "law"=some (.ref fa))
  
  
  
  
  (qn4:HL K "House" Cn4)
  (qn9:HL K "Even" Cn9)
  (qn2:HL K "Listed" Cn2)
  (qn11:HL K "Net" Cn11)
  (qn1:HL K "Tabled" Cn1)
  (qn6:HL K "Other" Cn6)
  (qn7:HL K "Minor" Cn7)
  (qn8:HL K "Side" Cn8)
  (dj:HM K Cn4 "__init__" "House.__init__" s_House___init__ aD)
  (ha:HM K Cn4 "rank" "House.rank" s_House_rank gj)
  (bt:HM K Cn4 "everything" "House.everything" s_House_everything ae)
  (nan4_many:findIn K (.ref Cn4) "many"=some none)
  (in4:HI K Cn4)
  (isn4_House:kitOne K (.ref Cn4) (.ref Cn4)=some true)
  (d1:HM K Cn9 "__init__" "Even.__init__" s_Even___init__ dV)
  (hN:HM K Cn9 "rank" "Even.rank" s_Even_rank hL)
  (hn9_everything:findIn K (.ref Cn9) "everything"=some (some (.ref ae)))
  (nan9_many:findIn K (.ref Cn9) "many"=some none)
  (nan9_most:findIn K (.ref Cn9) "most"=some none)
  (in9:HI K Cn9)
  (isn9_House:kitOne K (.ref Cn9) (.ref Cn4)=some true)
  (cc:HM K Cn2 "__init__" "Listed.__init__" s_Listed___init__ b6)
  (eL:HM K Cn2 "rank" "Listed.rank" s_Listed_rank eH)
  (hn2_everything:findIn K (.ref Cn2) "everything"=some (some (.ref ae)))
  (nan2_many:findIn K (.ref Cn2) "many"=some none)
  (nan2_listed:findIn K (.ref Cn2) "listed"=some none)
  (in2:HI K Cn2)
  (isn2_House:kitOne K (.ref Cn2) (.ref Cn4)=some true)
  (eo:HM K Cn11 "__init__" "Net.__init__" s_Net___init__ en)
  (hb:HM K Cn11 "pieces" "Net.pieces" s_Net_pieces gk)
  (iB:HM K Cn11 "rank" "Net.rank" s_Net_rank iA)
  (hn11_everything:findIn K (.ref Cn11) "everything"=some (some (.ref ae)))
  (nan11_many:findIn K (.ref Cn11) "many"=some none)
  (nan11_points:findIn K (.ref Cn11) "points"=some none)
  (nan11_ties:findIn K (.ref Cn11) "ties"=some none)
  (in11:HI K Cn11)
  (isn11_House:kitOne K (.ref Cn11) (.ref Cn4)=some true)
  (cj:HM K Cn1 "__init__" "Tabled.__init__" s_Tabled___init__ cb)
  (eP:HM K Cn1 "rank" "Tabled.rank" s_Tabled_rank eJ)
  (hn1_everything:findIn K (.ref Cn1) "everything"=some (some (.ref ae)))
  (nan1_many:findIn K (.ref Cn1) "many"=some none)
  (nan1_prime:findIn K (.ref Cn1) "prime"=some none)
  (nan1_rows:findIn K (.ref Cn1) "rows"=some none)
  (in1:HI K Cn1)
  (isn1_House:kitOne K (.ref Cn1) (.ref Cn4)=some true)
  (hc:HM K Cn6 "rank" "Other.rank" s_Other_rank gP)
  (dk:HM K Cn6 "__init__" "Other.__init__" s_Other___init__ dh)
  (hn6_everything:findIn K (.ref Cn6) "everything"=some (some (.ref ae)))
  (nan6_many:findIn K (.ref Cn6) "many"=some none)
  (nan6_house:findIn K (.ref Cn6) "house"=some none)
  (nan6_full:findIn K (.ref Cn6) "full"=some none)
  (nan6_full_rank:findIn K (.ref Cn6) "full_rank"=some none)
  (in6:HI K Cn6)
  (isn6_House:kitOne K (.ref Cn6) (.ref Cn4)=some true)
  (hg:HM K Cn7 "rank" "Minor.rank" s_Minor_rank gV)
  (dp:HM K Cn7 "__init__" "Minor.__init__" s_Minor___init__ di)
  (hn7_everything:findIn K (.ref Cn7) "everything"=some (some (.ref ae)))
  (nan7_many:findIn K (.ref Cn7) "many"=some none)
  (nan7_house:findIn K (.ref Cn7) "house"=some none)
  (nan7_kept:findIn K (.ref Cn7) "kept"=some none)
  (nan7_drawn:findIn K (.ref Cn7) "drawn"=some none)
  (nan7_drawn_rank:findIn K (.ref Cn7) "drawn_rank"=some none)
  (in7:HI K Cn7)
  (isn7_House:kitOne K (.ref Cn7) (.ref Cn4)=some true)
  (hO:HM K Cn8 "rank" "Side.rank" s_Side_rank hM)
  (d2:HM K Cn8 "__init__" "Side.__init__" s_Side___init__ d0)
  (hn8_everything:findIn K (.ref Cn8) "everything"=some (some (.ref ae)))
  (nan8_many:findIn K (.ref Cn8) "many"=some none)
  (nan8_first:findIn K (.ref Cn8) "first"=some none)
  (nan8_second:findIn K (.ref Cn8) "second"=some none)
  (nan8_first_many:findIn K (.ref Cn8) "first_many"=some none)
  (nan8_first_full:findIn K (.ref Cn8) "first_full"=some none)
  (in8:HI K Cn8)
  (isn8_House:kitOne K (.ref Cn8) (.ref Cn4)=some true)
  (k1:HD K "holds" s_holds)
  (kk:HD K "things" s_things)
  (lu:HD K "size" s_size)
  (kl:HD K "set_of" s_set_of)
  (k2:HD K "parts" s_parts)
  (kn:HD K "spread" s_spread)
  (ko:HD K "all_of" s_all_of)
  (lx:HD K "less" s_less)
  (ly:HD K "tied" s_tied)
  (k3:HD K "rests" s_rests)
  (eZ:HD K "pivot_place" s_pivot_place)
  (j1:HD K "cleared" s_cleared)
  (e0:HD K "all_cleared" s_all_cleared)
  (j2:HD K "rank_of" s_rank_of)
  (k5:HD K "ranks" s_ranks)
  (k8:HD K "frees" s_frees)
  (hn5_further:HD K "dealt_further" s_dealt_further)
  (an5:nsIn K mainGlobals "dealt"=some (some (.ref fn5)))
  (ln5:K.lookup fn5=some ⟨ocn5,odn5, .func (fnOf "dealt" "dealt" (a6 s_dealt) (aF s_dealt) (ao s_dealt) .none kVn5 dcn5 pmn5 ann5 (.ref 170) ctn5),sln5⟩)
  (cn5:codeIn K (.ref 170) "dealt"=true)
  (kn5:keepIn K (.ref fn5)=true)
  (chn5:codeHdIn K 170 168=true)
  (an3:nsIn K mainGlobals "common"=some (some (.ref fn3)))
  (ln3:K.lookup fn3=some ⟨ocn3,odn3, .func (fnOf "common" "common" (a6 s_common) (aF s_common) (ao s_common) .none kVn3 dcn3 pmn3 ann3 (.ref 175) ctn3),sln3⟩)
  (cn3:codeIn K (.ref 175) "common"=true)
  (kn3:keepIn K (.ref fn3)=true)
  (chn3:codeHdIn K 175 173=true)
  (an0:nsIn K mainGlobals "heaviest"=some (some (.ref fn0)))
  (ln0:K.lookup fn0=some ⟨ocn0,odn0, .func (fnOf "heaviest" "heaviest" (a6 s_heaviest) (aF s_heaviest) (ao s_heaviest) .none kVn0 dcn0 pmn0 ann0 (.ref 345) ctn0),sln0⟩)
  (cn0:codeIn K (.ref 345) "heaviest"=true)
  (kn0:keepIn K (.ref fn0)=true)
  (chn0:codeHdIn K 345 341=true)
  (hh:HD K "_law_whole" s__law_whole)
  (j3:HD K "_law_at" s__law_at)
  (hi:HD K "_law_mixed" s__law_mixed)
  (ep:HD K "_law_numbers" s__law_numbers)
  (e1:HD K "_law_counts" s__law_counts)
  (hP:HD K "_law_even" s__law_even)
  (hj:HD K "_law_folds" s__law_folds)
  (hQ:HD K "_law_rank" s__law_rank)
  (e2:HD K "_law_listed" s__law_listed)
  (hR:HD K "_law_tied" s__law_tied)
  (hS:HD K "_law_rows" s__law_rows)
  (hk:HD K "_law_drawn" s__law_drawn)
  (hn:HD K "_law_parts" s__law_parts)
  (ho:HD K "_law_dealt" s__law_dealt)
  (er:HD K "_law_weights" s__law_weights)
  (d3:HD K "_law_heaviest" s__law_heaviest)
  (e3:HD K "_law_common" s__law_common)
  (hp:HD K "_law_other" s__law_other)
  (hq:HD K "_law_minor" s__law_minor)
  (hT:HD K "_law_side" s__law_side)
  (hW:HD K "_law_less" s__law_less)
  (hX:HD K "_law_four" s__law_four)
  (an10:nsIn K mainGlobals "law"=some (some (.ref fn10)))
  (ln10:K.lookup fn10=some ⟨ocn10,odn10, .func (fnOf "law" "law" (a6 s_law) (aF s_law) (ao s_law) .none kVn10 dcn10 pmn10 ann10 cdn10 ctn10),sln10⟩)
  (cn10:codeIn K cdn10 "law"=true)
  (kn10:keepIn K (.ref fn10)=true)
  (mi:nsIn K mainGlobals "len"=some none)
  (la:nsIn K mainGlobals "range"=some none)
  (hr:nsIn K mainGlobals "isinstance"=some none)
  (ml:nsIn K mainGlobals "int"=some none)
  (lz:nsIn K mainGlobals "bool"=some none)
  (l1:nsIn K mainGlobals "list"=some none)
  (mu:nsIn K mainGlobals "set"=some none)
  (lb:nsIn K mainGlobals "tuple"=some none)
  (mw:nsIn K mainGlobals "max"=some none)
  (mA:nsIn K mainGlobals "min"=some none)
  (mB:nsIn K mainGlobals "zip"=some none)
  (hY:nsIn K mainGlobals "enumerate"=some none)
  (nc:nsIn K mainGlobals "sum"=some none)
  (kp:nsIn K mainGlobals "sorted"=some none)
  (kII:kitOne K (.type "int") (.type "int")=some true)
  (kIB:kitOne K (.type "int") (.type "bool")=some false)
  (kTT:kitOne K (.type "tuple") (.type "tuple")=some true)
  (kLL:kitOne K (.type "list") (.type "list")=some true)
  (gaH:specialIn K (.ref Cn4) "__getattribute__"=some (some (.builtin "type.__getattribute__")))
  (rdH:PySem.W.readsIn K Cn4 (.type "type")=true)
  (fcH:PySem.W.findCls K (.ref Cn4) (.type "type") "__init__"=some (.val (.ref aD)))
  (ne5:(Cn4≠Cn9/\Cn4≠Cn2/\Cn4≠Cn11/\Cn4≠Cn1)/\(Cn9≠Cn2/\Cn9≠Cn11/\Cn9≠Cn1)/\(Cn2≠Cn11/\Cn2≠Cn1)/\Cn11≠Cn1)
  (neX:(Cn6≠Cn4/\Cn6≠Cn9/\Cn6≠Cn2/\Cn6≠Cn11/\Cn6≠Cn1)/\(Cn7≠Cn4/\Cn7≠Cn9/\Cn7≠Cn2/\Cn7≠Cn11/\Cn7≠Cn1)/\(Cn8≠Cn4/\Cn8≠Cn9/\Cn8≠Cn2/\Cn8≠Cn11/\Cn8≠Cn1)/\Cn6≠Cn7/\Cn6≠Cn8/\Cn7≠Cn8):
  ∃fd:FuncData,(∀ (s:Shared) (v:Value),BindsTo s fd ⟨[v],[]⟩ [("_law_script",v)])/\∀base:Heap,K.In base->base.Ns mainGlobals mg->fS mg base->fq l.prog w K mg base CX0 9 fa fd ["_law_script"] (nj K 341 173 168):=by
 have e:=hfa.symm.trans (Fj X G an10);cases e;have T:Tb K mg:=⟨Ex X G mi,Ex X G la,Ex X G hr,Ex X G ml,Ex X G lz,Ex X G l1,Ex X G mu,Ex X G lb,Ex X G mw,Ex X G mA,Ex X G mB,Ex X G hY,Ex X G nc,Ex X G kp,kII,kIB,kTT,kLL⟩;have Dn5:=nY (st:=s_dealt) (ps:=["houses"]) X G an5 ln5 cn5 kn5 λ_ _ _ _ _ _=>AA λ_=>rfl;have Dn3:=nY (st:=s_common) (ps:=["one","other"]) X G an3 ln3 cn3 kn3 λ_ _ _ _ _ _=>yp λ_ _=>rfl;have Dn0:=nY (st:=s_heaviest) (ps:=["house","weights"]) X G an0 ln0 cn0 kn0 λ_ _ _ _ _ _=>yp λ_ _=>rfl;obtain⟨aCn4,pgn4,hdn4,pon4,san4,mkn4,kcn4⟩:=qn4;have gn4:=Fj X G aCn4;have Kn4:Cls K Cn4:=⟨pgn4,hdn4,pon4,san4⟩;obtain⟨ian4,ibn4,icn4,idn4⟩:=in4;obtain⟨aCn9,pgn9,hdn9,pon9,san9,mkn9,kcn9⟩:=qn9;have gn9:=Fj X G aCn9;have Kn9:Cls K Cn9:=⟨pgn9,hdn9,pon9,san9⟩;obtain⟨ian9,ibn9,icn9,idn9⟩:=in9;obtain⟨aCn2,pgn2,hdn2,pon2,san2,mkn2,kcn2⟩:=qn2;have gn2:=Fj X G aCn2;have Kn2:Cls K Cn2:=⟨pgn2,hdn2,pon2,san2⟩;obtain⟨ian2,ibn2,icn2,idn2⟩:=in2;obtain⟨aCn11,pgn11,hdn11,pon11,san11,mkn11,kcn11⟩:=qn11;have gn11:=Fj X G aCn11;have Kn11:Cls K Cn11:=⟨pgn11,hdn11,pon11,san11⟩;obtain⟨ian11,ibn11,icn11,idn11⟩:=in11;obtain⟨aCn1,pgn1,hdn1,pon1,san1,mkn1,kcn1⟩:=qn1;have gn1:=Fj X G aCn1;have Kn1:Cls K Cn1:=⟨pgn1,hdn1,pon1,san1⟩;obtain⟨ian1,ibn1,icn1,idn1⟩:=in1;obtain⟨aCn6,pgn6,hdn6,pon6,san6,mkn6,kcn6⟩:=qn6;have gn6:=Fj X G aCn6;have Kn6:Cls K Cn6:=⟨pgn6,hdn6,pon6,san6⟩;obtain⟨ian6,ibn6,icn6,idn6⟩:=in6;obtain⟨aCn7,pgn7,hdn7,pon7,san7,mkn7,kcn7⟩:=qn7;have gn7:=Fj X G aCn7;have Kn7:Cls K Cn7:=⟨pgn7,hdn7,pon7,san7⟩;obtain⟨ian7,ibn7,icn7,idn7⟩:=in7;obtain⟨aCn8,pgn8,hdn8,pon8,san8,mkn8,kcn8⟩:=qn8;have gn8:=Fj X G aCn8;have Kn8:Cls K Cn8:=⟨pgn8,hdn8,pon8,san8⟩;obtain⟨ian8,ibn8,icn8,idn8⟩:=in8;obtain⟨dr,dv,dw,ks⟩:=dj.at (ps:=["self","n"]);obtain⟨hs,ht,hu,hv⟩:=ha.at (ps:=["self","s"]);obtain⟨bu,bE,af,ak⟩:=bt.at (ps:=["self"]);obtain⟨ea,eb,ec,kS⟩:=d1.at (ps:=["self","n","k"]);obtain⟨h1,h2,h3,h4⟩:=hN.at (ps:=["self","s"]);obtain⟨ct,cE,cM,kc⟩:=cc.at (ps:=["self","n","some"]);obtain⟨e4,e5,fe,fl⟩:=eL.at (ps:=["self","s"]);obtain⟨es,et,ew,lk⟩:=eo.at (ps:=["self","n","points","ties"]);obtain⟨hx,hy,hz,hA⟩:=hb.at (ps:=["self","s"]);obtain⟨i0,i2,jl,js⟩:=iB.at (ps:=["self","s"]);obtain⟨cO,cS,c1,kf⟩:=cj.at (ps:=["self","n","prime","rows"]);obtain⟨fm,fo,fp,fs⟩:=eP.at (ps:=["self","s"]);obtain⟨b0,aI,aS,aT⟩:=hc.at (ps:=["self","s"]);obtain⟨b1,a0,a3,a4⟩:=hg.at (ps:=["self","s"]);obtain⟨c4,bl,bo,bp⟩:=hO.at (ps:=["self","s"]);obtain⟨dx,dy,dF,kv⟩:=dk.at (ps:=["self","house"]);obtain⟨dK,dM,dO,kA⟩:=dp.at (ps:=["self","house","out","drawn"]);obtain⟨ed,ee,ef,k0⟩:=d2.at (ps:=["self","one","other"]);have Fn10:=iM (st:=s_law) ln10 cn10 kn10;refine⟨fnOf "law" "law" (a6 s_law) (aF s_law) (ao s_law) .none kVn10 dcn10 pmn10 ann10 cdn10 ctn10,λs v=> .of_eq rfl,λbase KB GB BM=> ?_⟩;have CHn0:=GA KB chn0;have CHn3:=GA KB chn3;have CHn5:=GA KB chn5;have inj:Cs.Inj ⟨Cn4,Cn9,Cn2,Cn11,Cn1⟩:=Cs.inj_of ne5;have hcA:∀t,HC K Cn4 (Cs.at ⟨Cn4,Cn9,Cn2,Cn11,Cn1⟩ t):=λt=>by(cases t);exact⟨Kn4,nan4_many,⟨ian4,ibn4,icn4,idn4⟩,isn4_House⟩;exact⟨Kn9,nan9_many,⟨ian9,ibn9,icn9,idn9⟩,isn9_House⟩;exact⟨Kn2,nan2_many,⟨ian2,ibn2,icn2,idn2⟩,isn2_House⟩;exact⟨Kn11,nan11_many,⟨ian11,ibn11,icn11,idn11⟩,isn11_House⟩;exact⟨Kn1,nan1_many,⟨ian1,ibn1,icn1,idn1⟩,isn1_House⟩
 have z0:d5 (hs5 ⟨Cn4,Cn9,Cn2,Cn11,Cn1⟩):=kC _;have z1:d5 (hsX (hs5 ⟨Cn4,Cn9,Cn2,Cn11,Cn1⟩) ⟨Cn6,Cn7,Cn8⟩):=iL z0 _;have z2:d5 (hsX (hsX (hs5 ⟨Cn4,Cn9,Cn2,Cn11,Cn1⟩) ⟨Cn6,Cn7,Cn8⟩) ⟨Cn6,Cn7,Cn8⟩):=iL z1 _;have zk:HsK (hsX (hsX (hs5 ⟨Cn4,Cn9,Cn2,Cn11,Cn1⟩) ⟨Cn6,Cn7,Cn8⟩) ⟨Cn6,Cn7,Cn8⟩):=yK (yK (A4 _) _) _;have nO:¬(hs5 ⟨Cn4,Cn9,Cn2,Cn11,Cn1⟩).dom Cn6:=λh=>by(obtain⟨t,h⟩:=h);(cases t);exact neX.1.1 h;exact neX.1.2.1 h;exact neX.1.2.2.1 h;exact neX.1.2.2.2.1 h;exact neX.1.2.2.2.2 h
 have nM:¬(hs5 ⟨Cn4,Cn9,Cn2,Cn11,Cn1⟩).dom Cn7:=λh=>by(obtain⟨t,h⟩:=h);(cases t);exact neX.2.1.1 h;exact neX.2.1.2.1 h;exact neX.2.1.2.2.1 h;exact neX.2.1.2.2.2.1 h;exact neX.2.1.2.2.2.2 h
 have nS:¬(hs5 ⟨Cn4,Cn9,Cn2,Cn11,Cn1⟩).dom Cn8:=λh=>by(obtain⟨t,h⟩:=h);(cases t);exact neX.2.2.1.1 h;exact neX.2.2.1.2.1 h;exact neX.2.2.1.2.2.1 h;exact neX.2.2.1.2.2.2.1 h;exact neX.2.2.1.2.2.2.2 h
 have G1:GdX (hs5 ⟨Cn4,Cn9,Cn2,Cn11,Cn1⟩) ⟨Cn6,Cn7,Cn8⟩:=GdX.of z0 nO nM nS neX.2.2.2.1 neX.2.2.2.2.1 neX.2.2.2.2.2;have G2:GdX (hsX (hs5 ⟨Cn4,Cn9,Cn2,Cn11,Cn1⟩) ⟨Cn6,Cn7,Cn8⟩) ⟨Cn6,Cn7,Cn8⟩:=G1.up;have hc0:∀C,(hs5 ⟨Cn4,Cn9,Cn2,Cn11,Cn1⟩).dom C->HC K Cn4 C:=λC dm=>by(obtain⟨t,rfl⟩:=dm);exact hcA t
 have hc1:∀C,(hsX (hs5 ⟨Cn4,Cn9,Cn2,Cn11,Cn1⟩) ⟨Cn6,Cn7,Cn8⟩).dom C->HC K Cn4 C:=λC dm=>by(rcases dm with dm|rfl|rfl|rfl);exact hc0 C dm;exact⟨Kn6,nan6_many,⟨ian6,ibn6,icn6,idn6⟩,isn6_House⟩;exact⟨Kn7,nan7_many,⟨ian7,ibn7,icn7,idn7⟩,isn7_House⟩;exact⟨Kn8,nan8_many,⟨ian8,ibn8,icn8,idn8⟩,isn8_House⟩
 have hc2:∀C,(hsX (hsX (hs5 ⟨Cn4,Cn9,Cn2,Cn11,Cn1⟩) ⟨Cn6,Cn7,Cn8⟩) ⟨Cn6,Cn7,Cn8⟩).dom C->HC K Cn4 C:=λC dm=>by(rcases dm with dm|rfl|rfl|rfl);exact hc1 C dm;exact hc1 _ (.inr (.inl rfl));exact hc1 _ (.inr (.inr (.inl rfl)));exact hc1 _ (.inr (.inr (.inr rfl)))
 have iv:=xT l.prog w base (k1.at X G);have a5:=vf l.prog w base T (kk.at X G) iv;have az:=Ar l.prog w base T (lu.at X G) a5;have kD:=vh l.prog w base (kl.at X G);have b5:=xS l.prog w base T (k2.at X G) a5;have hB:=vg l.prog w base T (kn.at X G) kD a5 iv;have kI:=vj l.prog w base (ko.at X G);have b2:=As l.prog w base (lx.at X G);have ax:=gU l.prog w base (mg:=mg) dr;have hC:=lE l.prog w base (mg:=mg) hs;have ar:=f9 l.prog w base bu kI;have ei:=iI l.prog w base ea gn4 Kn9 nan9_many nan9_most ⟨⟨_,ax,fcH⟩,gaH,rdH⟩;have h5:=nR l.prog w base T h1 Kn9 nan9_most az;have c2:=gA l.prog w base T ct gn4 Kn2 nan2_many nan2_listed ⟨⟨_,ax,fcH⟩,gaH,rdH⟩;have fu:=kh l.prog w base T e4 Kn2 nan2_listed az;have mc:=Aq l.prog w base (ly.at X G);have ey:=jj l.prog w base T es gn4 Kn11 nan11_many nan11_points nan11_ties ⟨⟨_,ax,fcH⟩,gaH,rdH⟩;have hD:=lD l.prog w base T hx Kn11 nan11_points nan11_ties a5 mc;have j0:=pj l.prog w base i0 Kn11 nan11_points (λC h=>by subst h;exact⟨Kn11,_,⟨hy,hz,hA⟩,hD⟩);have ll:=xQ l.prog w base T (k3.at X G);have fx:=j8 l.prog w base T (eZ.at X G);have j4:=rH l.prog w base T (j1.at X G);have fy:=j9 l.prog w base T (e0.at X G) j4;have kb:=rG l.prog w base T (j2.at X G) ll fx fy;have c3:=gz l.prog w base T cO gn4 Kn1 nan1_many nan1_prime nan1_rows ⟨⟨_,ax,fcH⟩,gaH,rdH⟩;have fz:=kg l.prog w base T fm Kn1 nan1_prime nan1_rows a5 kb;have mb:∀C,Cc ⟨Cn4,Cn9,Cn2,Cn11,Cn1⟩ C->cn l.prog w K mg base 4 C "rank" ["self","s"] (jN ⟨Cn4,Cn9,Cn2,Cn11,Cn1⟩ C):=λC dm=>by(obtain⟨t,rfl⟩:=dm);(cases t);exact⟨Kn4,_,⟨ht,hu,hv⟩,b7.imp (L2.b7.mono (k:=4) hC (by decide)) (qY inj)⟩;exact⟨Kn9,_,⟨h2,h3,h4⟩,b7.imp h5 (qX inj)⟩;exact⟨Kn2,_,⟨e5,fe,fl⟩,b7.imp fu (ni inj)⟩;exact⟨Kn11,_,⟨i2,jl,js⟩,b7.imp j0 (uQ inj)⟩;exact⟨Kn1,_,⟨fo,fp,fs⟩,b7.imp fz (nh inj)⟩
 have me:∀C,Cc ⟨Cn4,Cn9,Cn2,Cn11,Cn1⟩ C->cn l.prog w K mg base 2 C "everything" ["self"] (cV K):=λC dm=>by(obtain⟨t,rfl⟩:=dm);(cases t);exact⟨Kn4,_,⟨bE,af,ak⟩,ar⟩;exact⟨Kn9,_,⟨hn9_everything,af,ak⟩,ar⟩;exact⟨Kn2,_,⟨hn2_everything,af,ak⟩,ar⟩;exact⟨Kn11,_,⟨hn11_everything,af,ak⟩,ar⟩;exact⟨Kn1,_,⟨hn1_everything,af,ak⟩,ar⟩
 have m0:∀C,(hs5 ⟨Cn4,Cn9,Cn2,Cn11,Cn1⟩).dom C->cn l.prog w K mg base 4 C "rank" ["self","s"] (fF (hs5 ⟨Cn4,Cn9,Cn2,Cn11,Cn1⟩) C):=λC dm=>cn.imp (mb C dm) Bg;have me1:∀C,(hsX (hs5 ⟨Cn4,Cn9,Cn2,Cn11,Cn1⟩) ⟨Cn6,Cn7,Cn8⟩).dom C->cn l.prog w K mg base 2 C "everything" ["self"] (cV K):=λC dm=>by(rcases dm with dm|rfl|rfl|rfl);exact me C dm;exact⟨Kn6,_,⟨hn6_everything,af,ak⟩,ar⟩;exact⟨Kn7,_,⟨hn7_everything,af,ak⟩,ar⟩;exact⟨Kn8,_,⟨hn8_everything,af,ak⟩,ar⟩
 have me2:∀C,(hsX (hsX (hs5 ⟨Cn4,Cn9,Cn2,Cn11,Cn1⟩) ⟨Cn6,Cn7,Cn8⟩) ⟨Cn6,Cn7,Cn8⟩).dom C->cn l.prog w K mg base 2 C "everything" ["self"] (cV K):=λC dm=>by(rcases dm with dm|rfl|rfl|rfl);exact me1 C dm;exact me1 _ (.inr (.inl rfl));exact me1 _ (.inr (.inr (.inl rfl)));exact me1 _ (.inr (.inr (.inr rfl)))
 have o1:=gc (P:=l.prog) (w:=w) (mg:=mg) (base:=base) (Z:=(hs5 ⟨Cn4,Cn9,Cn2,Cn11,Cn1⟩)) (g:=⟨Cn6,Cn7,Cn8⟩) (ar:=Cn4) b0 Kn6 nan6_house nan6_full nan6_full_rank z0 G1 (by decide) b2 az m0;have i1:=gd (P:=l.prog) (w:=w) (mg:=mg) (base:=base) (Z:=(hs5 ⟨Cn4,Cn9,Cn2,Cn11,Cn1⟩)) (g:=⟨Cn6,Cn7,Cn8⟩) b1 Kn7 nan7_house nan7_kept nan7_drawn nan7_drawn_rank z0 G1 (by decide) hB m0;have s1:=gR (P:=l.prog) (w:=w) (mg:=mg) (base:=base) (Z:=(hs5 ⟨Cn4,Cn9,Cn2,Cn11,Cn1⟩)) (g:=⟨Cn6,Cn7,Cn8⟩) c4 Kn8 nan8_first nan8_second nan8_first_many nan8_first_full z0 G1 (by decide) m0;have nn:∀C,(hs5 ⟨Cn4,Cn9,Cn2,Cn11,Cn1⟩).dom C->Cn6≠C/\Cn7≠C/\Cn8≠C:=λC dm=>⟨λe=>nO (e▸dm),λe=>nM (e▸dm),λe=>nS (e▸dm)⟩;have m1:∀C,(hsX (hs5 ⟨Cn4,Cn9,Cn2,Cn11,Cn1⟩) ⟨Cn6,Cn7,Cn8⟩).dom C->cn l.prog w K mg base 5 C "rank" ["self","s"] (fF (hsX (hs5 ⟨Cn4,Cn9,Cn2,Cn11,Cn1⟩) ⟨Cn6,Cn7,Cn8⟩) C):=λC dm=>by(rcases dm with dm|rfl|rfl|rfl);exact cn.imp (cn.mono (m0 C dm) (by decide)) (lR (nn C dm).1 (nn C dm).2.1 (nn C dm).2.2);exact⟨Kn6,_,⟨aI,aS,aT⟩,o1⟩;exact⟨Kn7,_,⟨a0,a3,a4⟩,i1⟩;exact⟨Kn8,_,⟨bl,bo,bp⟩,s1⟩
 have b3:=gc l.prog w base (Z:=(hsX (hs5 ⟨Cn4,Cn9,Cn2,Cn11,Cn1⟩) ⟨Cn6,Cn7,Cn8⟩)) (g:=⟨Cn6,Cn7,Cn8⟩) (ar:=Cn4) b0 Kn6 nan6_house nan6_full nan6_full_rank z1 G2 (by decide) b2 az m1;have b4:=gd l.prog w base (Z:=(hsX (hs5 ⟨Cn4,Cn9,Cn2,Cn11,Cn1⟩) ⟨Cn6,Cn7,Cn8⟩)) (g:=⟨Cn6,Cn7,Cn8⟩) b1 Kn7 nan7_house nan7_kept nan7_drawn nan7_drawn_rank z1 G2 (by decide) hB m1;have dc:=gR l.prog w base (Z:=(hsX (hs5 ⟨Cn4,Cn9,Cn2,Cn11,Cn1⟩) ⟨Cn6,Cn7,Cn8⟩)) (g:=⟨Cn6,Cn7,Cn8⟩) c4 Kn8 nan8_first nan8_second nan8_first_many nan8_first_full z1 G2 (by decide) m1;have dS:=gS l.prog w base (Z:=(hsX (hs5 ⟨Cn4,Cn9,Cn2,Cn11,Cn1⟩) ⟨Cn6,Cn7,Cn8⟩)) (g:=⟨Cn6,Cn7,Cn8⟩) dx gn4 Kn6 nan6_many nan6_house nan6_full nan6_full_rank z1 hc1 (by decide) ⟨⟨_,ax,fcH⟩,gaH,rdH⟩ me1 m1;have dT:=gT l.prog w base (Z:=(hsX (hs5 ⟨Cn4,Cn9,Cn2,Cn11,Cn1⟩) ⟨Cn6,Cn7,Cn8⟩)) (g:=⟨Cn6,Cn7,Cn8⟩) dK gn4 Kn7 nan7_many nan7_house nan7_kept nan7_drawn nan7_drawn_rank z1 hc1 (by decide) ⟨⟨_,ax,fcH⟩,gaH,rdH⟩ b2 az me1 m1;have ej:=iH l.prog w base (j:=3) (Z:=(hsX (hs5 ⟨Cn4,Cn9,Cn2,Cn11,Cn1⟩) ⟨Cn6,Cn7,Cn8⟩)) (g:=⟨Cn6,Cn7,Cn8⟩) ed gn4 Kn8 nan8_many nan8_first nan8_second nan8_first_many nan8_first_full z1 hc1 ⟨⟨_,ax,fcH⟩,gaH,rdH⟩ me1;have m2:∀C,(hsX (hsX (hs5 ⟨Cn4,Cn9,Cn2,Cn11,Cn1⟩) ⟨Cn6,Cn7,Cn8⟩) ⟨Cn6,Cn7,Cn8⟩).dom C->cn l.prog w K mg base 6 C "rank" ["self","s"] (fF (hsX (hsX (hs5 ⟨Cn4,Cn9,Cn2,Cn11,Cn1⟩) ⟨Cn6,Cn7,Cn8⟩) ⟨Cn6,Cn7,Cn8⟩) C):=λC dm=>by(rcases dm with (dm|rfl|rfl|rfl)|rfl|rfl|rfl);exact cn.imp (cn.mono (m1 C (.inl dm)) (by decide)) (lR (nn C dm).1 (nn C dm).2.1 (nn C dm).2.2);exact⟨Kn6,_,⟨aI,aS,aT⟩,b3⟩;exact⟨Kn7,_,⟨a0,a3,a4⟩,b4⟩;exact⟨Kn8,_,⟨bl,bo,bp⟩,dc⟩;exact⟨Kn6,_,⟨aI,aS,aT⟩,b3⟩;exact⟨Kn7,_,⟨a0,a3,a4⟩,b4⟩;exact⟨Kn8,_,⟨bl,bo,bp⟩,dc⟩
 have ix:=xR l.prog w base z2 (k5.at X G) hc2 m2 me2 b5;have lp:=xU l.prog w base z2 (k8.at X G) hc2 m2 me2 b5 az;have ek:=iF l.prog w base (hn5_further.at X G);have cn5:=xV l.prog w base z2 T Dn5 hc2 CHn5 BM me2 b5 ix lp ek az b2;have cn3:=vi l.prog w base z2 T Dn3 hc2 CHn3 BM me2 b5 ix az b2;have cn0:=pe l.prog w base z2 zk T Dn0 hc2 CHn0 BM m2;have bj:=lg l.prog w base T (hh.at X G);have eE:=rJ l.prog w base T (j3.at X G);have bk:=lq l.prog w base (hi.at X G);have ez:=ji l.prog w base T (ep.at X G) bk;have ay:=kd l.prog w base T (e1.at X G);have h6:=nQ l.prog w base T (hP.at X G) ay;have hF:=lA l.prog w base T (hj.at X G);have dd:=nK l.prog w base T (hQ.at X G);have f3:=ka l.prog w base (c:=⟨Cn4,Cn9,Cn2,Cn11,Cn1⟩) T (e2.at X G) ay ⟨⟨_,⟨mkn2,cE,cM,kcn2⟩,c2⟩,gn2⟩;have h7:=nG l.prog w base (c:=⟨Cn4,Cn9,Cn2,Cn11,Cn1⟩) T (hR.at X G) dd ⟨⟨_,⟨mkn11,et,ew,kcn11⟩,ey⟩,gn11⟩;have h8:=nJ l.prog w base T (hS.at X G);have hG:=lB l.prog w base (c:=⟨Cn4,Cn9,Cn2,Cn11,Cn1⟩) T (hk.at X G) (hcA .bare) bk hF h6 h7 f3 dd h8 ⟨⟨_,⟨mkn4,dv,dw,kcn4⟩,ax⟩,gn4⟩ ⟨⟨_,⟨mkn9,eb,ec,kcn9⟩,ei⟩,gn9⟩ ⟨⟨_,⟨mkn1,cS,c1,kcn1⟩,c3⟩,gn1⟩;have hH:=lh l.prog w base T (hn.at X G) bj;have hI:=lC l.prog w base T (ho.at X G);have eA:=jh l.prog w base T (er.at X G);have el:=iG l.prog w base T (d3.at X G);have f5:=ke l.prog w base T (e3.at X G) bj;have hJ:=lj l.prog w base T (hp.at X G) ay;have hK:=lr l.prog w base T (hq.at X G);have h9:=nH l.prog w base (hT.at X G);have ih:=nL l.prog w base T (hW.at X G) bk;have il:=nN l.prog w base (c:=⟨Cn4,Cn9,Cn2,Cn11,Cn1⟩) (g:=⟨Cn6,Cn7,Cn8⟩) z2 zk rfl T (hX.at X G) ez eE hG hJ hK h9 ih ⟨⟨_,⟨mkn6,dy,dF,kcn6⟩,dS⟩,gn6⟩ ⟨⟨_,⟨mkn7,dM,dO,kcn7⟩,dT⟩,gn7⟩ ⟨⟨_,⟨mkn8,ee,ef,kcn8⟩,b7.mono ej (by decide)⟩,gn8⟩;exact BJ l.prog w base z2 zk (by decide) (by decide) (by decide) Fn10 T eE ay bj il eA cn3 f5 cn0 el cn5 hH hI
theorem walk{l:PySem.W.OpenLaw}{q:Program}{loose:List Str}{XP:(Str->Option Value)->Heap->Prop}{YP:World->Heap->Prop}{d:DefRec}{K:Params->PySem.W.Frag}(hn:l.most=some 63)(hdf:d.params.defaults=[])
  (hY:∀ (w:World) (h:Heap),YP w h->(K w.params).In h) (hP:∀ (w:World) (h:Heap),YP w h->∀t∈([(345,341),(175,173),(170,168)]:List (Addr×Addr)).map (·.2),h.get? t=some (PySem.W.tabObj #[])) (hC:∀ (w:World),∀t∈([(345,341),(175,173),(170,168)]:List (Addr×Addr)),codeHdIn (K w.params) t.1 t.2=true) (hnt:∀w:World,noTabs (K w.params)=true)
  (F:∀ (w:World) (mg:Str->Option Value) (fa:Addr) (h:Heap),(K w.params).In h->h.Ns mainGlobals mg->mg d.name=some (.ref fa)->
   ∃fd:FuncData,(∀ (s:Shared) (u:Value),BindsTo s fd ⟨[u],[]⟩ [("_law_script",u)])/\∀base:Heap,(K w.params).In base->base.Ns mainGlobals mg->fS mg base->fq l.prog w (K w.params) mg base CX0 9 fa fd ["_law_script"] (nj (K w.params) 341 173 168)):
  PySem.W.WalkO q loose XP YP l.row.toRowW d [] (λf vs=>PySem.call f vs):=
 L2.wD (ts:=[(345,341),(175,173),(170,168)]) (n:=63) (k:=9) (x:= "_law_script") (CX:=λ_=>CX0) (sp:=λw=>nj (K w.params) 341 173 168) hn (by decide) hdf ⟨rfl,by decide,by decide⟩ hY hP hC hnt F (λ_ _ a ns hl hO hS=>⟨a,ns,rfl,hS,hl,hO.1 _ (by simp),hO.1 _ (by simp),hO.1 _ (by simp),λ_=>rfl⟩) λ_ _ _ _ _ z=>z
end BhK
namespace Hd
open PySem PySem.W PySem.Calls PyProof.Rows
theorem _root_.PySem.W.Fast.te7239439084724097079:True:=trivial
open PySem.W.Fast PySem.Challenge BhK
noncomputable section
abbrev R(a:Nat):Value:= .ref a
abbrev V(x:Str)(t:Nat):Value:= .str x t
abbrev I(i:Int):Value:= .int i 0
abbrev E(P:Params)(x:Str)(t:Nat)(v:Value):DictEntry:=⟨PyData.keyHash P x, .str x t,v⟩
abbrev Y:Obj:=⟨.type "tuple",none, .seq #[] 0, #[]⟩
abbrev T(l:List Value):Obj:=⟨.type "tuple",none, .seq ⟨l⟩ 0, #[]⟩
abbrev Z:Obj:=⟨.none,none, .fields #[], #[]⟩
abbrev W(l:List Value):Obj:=⟨.none,none, .fields ⟨l⟩, #[]⟩
abbrev F(n q:Str)(s:Stmt)(g:Nat)(dv kv doc pm:Value)(an:Option Nat)(cd ct:Value)(b:Nat):FuncData:=⟨n,q,L2.a6 s, .stmts (L2.aF s),L2.ao s,g,[],dv,kv,doc,pm,an,cd,ct,b⟩
abbrev C(n q:Str)(t:Nat)(l k g:Int)(x:Nat)(b:Bool)(u v w:Value)(d:Nat):Obj:=⟨.type "code",none, .fields ⟨[.str n t, .str q (t.add 1), .str "/claim/cut.py" (t.add 2), .int l 0, .int k 0, .int 0 0, .int 0 0, .int g 0, .ref x, .bool b, .int 181 0, .ref (x.add 1), .none,u,v,w, .int d 0, .int l 0, .str "/claim/cut.py" (d.add 1)]⟩, #[]⟩
abbrev ff(n q:Str)(s:Stmt):Obj:=⟨.none,none, .func (F n q s 0 .none .none .none .none none .none .none 0), #[]⟩
abbrev fk(n q:Str)(s:Stmt)(m:Value)(c:Nat):Obj:=⟨.type "function",none, .func (F n q s 3 .none .none .none m none (.ref c) .none 0), #[]⟩
abbrev f1(n:Str)(s:Stmt):Obj:=ff n n s
abbrev f2(n:Str)(s:Stmt)(m:Value)(c:Nat):Obj:=fk n n s m c
abbrev C1(n:Str)(t:Nat)(l k g:Int)(x:Nat)(b:Bool)(u v w:Value)(d:Nat):Obj:=C n n t l k g x b u v w d
abbrev D(l:List DictEntry)(k:Nat):Obj:=⟨.type "dict",none, .dict ⟨l⟩ k, #[]⟩
abbrev fr(a b:Nat)(m:Value):Obj:=⟨.type "frame",none,Data.plain, #[some (R a),some (R 3),some (R b),none,some m,none,some (R 0)]⟩
abbrev bf(n:String)(v:Value):Obj:=⟨.type "builtin_function_or_method",none, .fields ⟨[.builtin n,v]⟩, #[]⟩
abbrev m0:Value:=V "basehouse.houses" 246
abbrev m1:Value:=V "basehouse.sets" 187
abbrev m2:Value:=V "House" 256
abbrev m3:Value:=V "House" 248
abbrev m4:Value:=V "basehouse.dealt" 372
abbrev m5:Value:=V "basehouse.nets" 399
abbrev m6:Value:=V "basehouse.pivots" 449
abbrev m7:Value:=V "basehouse.turned" 517
abbrev m8:Value:=V "basehouse.tables" 485
abbrev m9:Value:=V "law_basehouse_k34_whole_bounds" 646
abbrev o13:=C1 "<module>" 182 1 0 0 11 false .none .none .none 185
abbrev o14:=fr 13 3 (V "__main__" 164)
abbrev g0(P:Params):List DictEntry:=[E P "__name__" 165 m0]
abbrev g1(P:Params):List DictEntry:=[E P "__doc__" 166 .none,E P "__package__" 167 .none,E P "__loader__" 168 (.builtin "__main__.__loader__#opaque"),E P "__spec__" 169 .none,E P "__annotations__" 170 (R 6),E P "__builtins__" 171 (R 4),E P "__file__" 173 (V "/claim/cut.py" 172),E P "__cached__" 174 .none,E P "holds" 196 (R 21),E P "things" 202 (R 26),E P "size" 209 (R 33),E P "set_of" 218 (R 40),E P "parts" 224 (R 45),E P "spread" 230 (R 50),E P "all_of" 237 (R 57),E P "less" 245 (R 64)]
abbrev o3v1(P:Params):=D ((g0 P).append (g1 P)) 17
abbrev g2:List Value:=[(I 2)]
abbrev g3:List Value:=[(I 0),(R 20),(I 4),(I 0),(R 25),(I 6),(I 0),(R 32),(I 8),(I 0),(R 39),(I 13),(I 0),(R 44),(I 18),(I 0),(R 49),(I 20),(I 0),(R 56),(I 22),(I 0),(R 63)]
abbrev o12v1:=W (g2.append g3)
abbrev o17:=T [(V "s" 192),(V "thing" 193)]
abbrev o19:=f1 "holds" s_holds
abbrev o20:=C1 "holds" 189 2 2 3 15 true (R 17) (R 18) (R 19) 194
abbrev o21:=f2 "holds" s_holds m1 20
abbrev o24:=f1 "things" s_things
abbrev o25:=C1 "things" 197 4 1 3 22 true .none .none (R 24) 200
abbrev o26:=f2 "things" s_things m1 25
abbrev o29:=T [(V "s" 206)]
abbrev o31:=f1 "size" s_size
abbrev o32:=C1 "size" 203 6 1 3 27 true (R 29) (R 30) (R 31) 207
abbrev o33:=f2 "size" s_size m1 32
abbrev o36:=T [(V "some" 213),(V "s" 214),(V "thing" 215)]
abbrev o38:=f1 "set_of" s_set_of
abbrev o39:=C1 "set_of" 210 8 1 3 34 true (R 36) (R 37) (R 38) 216
abbrev o40:=f2 "set_of" s_set_of m1 39
abbrev o43:=f1 "parts" s_parts
abbrev o44:=C1 "parts" 219 13 1 3 41 true .none .none (R 43) 222
abbrev o45:=f2 "parts" s_parts m1 44
abbrev o48:=f1 "spread" s_spread
abbrev o49:=C1 "spread" 225 18 2 3 46 true .none .none (R 48) 228
abbrev o50:=f2 "spread" s_spread m1 49
abbrev o53:=T [(V "n" 234)]
abbrev o55:=f1 "all_of" s_all_of
abbrev o56:=C1 "all_of" 231 20 1 3 51 true (R 53) (R 54) (R 55) 235
abbrev o57:=f2 "all_of" s_all_of m1 56
abbrev o60:=T [(V "s" 241),(V "t" 242)]
abbrev o62:=f1 "less" s_less
abbrev o63:=C1 "less" 238 22 2 3 58 true (R 60) (R 61) (R 62) 243
abbrev o64:=f2 "less" s_less m1 63
abbrev g4(P:Params):List DictEntry:=[E P "House" 291 (R 95)]
abbrev o3v2(P:Params):=D ((g0 P).append ((g1 P).append (g4 P))) 18
abbrev g5:List Value:=[(I 25),(I 0),(R 70)]
abbrev o12v2:=W (g2.append (g3.append g5))
abbrev o66:=bf "type.__prepare__" (.type "type")
abbrev o67(P:Params):=D ([E P "__module__" 255 m0,E P "__qualname__" 257 m2,E P "__firstlineno__" 259 (.int 25 258),E P "__init__" 267 (R 78),E P "rank" 275 (R 85),E P "everything" 282 (R 92),E P "__static_attributes__" 284 (R 93)]) 7
abbrev o69:=W [(I 27),(I 4),(R 77),(I 30),(I 4),(R 84),(I 33),(I 4),(R 91)]
abbrev o70:=C1 "House" 250 25 0 0 68 false .none .none .none 253
abbrev o71:=fr 70 67 m0
abbrev o74:=T [(V "self" 263),(V "n" 264)]
abbrev o76:=ff "__init__" "House.__init__" s_House___init__
abbrev o77:=C "__init__" "House.__init__" 260 27 2 3 72 true (R 74) (R 75) (R 76) 265
abbrev o78:=fk "__init__" "House.__init__" s_House___init__ m0 77
abbrev o81:=T [(V "self" 271),(V "s" 272)]
abbrev o83:=ff "rank" "House.rank" s_House_rank
abbrev o84:=C "rank" "House.rank" 268 30 2 3 79 true (R 81) (R 82) (R 83) 273
abbrev o85:=fk "rank" "House.rank" s_House_rank m0 84
abbrev o88:=T [(V "self" 279)]
abbrev o90:=ff "everything" "House.everything" s_House_everything
abbrev o91:=C "everything" "House.everything" 276 33 1 3 86 true (R 88) (R 89) (R 90) 280
abbrev o92:=fk "everything" "House.everything" s_House_everything m0 91
abbrev o93:=T [(V "many" 283)]
abbrev o94(P:Params):=D ([E P "__module__" 255 m0,E P "__firstlineno__" 259 (.int 25 258),E P "__init__" 267 (R 78),E P "rank" 275 (R 85),E P "everything" 282 (R 92),E P "__static_attributes__" 284 (R 93),E P "__dict__" 286 (R 96),E P "__weakref__" 288 (R 97),E P "__doc__" 289 .none]) 4
abbrev o95:Obj:=⟨(.type "type"),none,Data.cls {name:=Str.ofString "House",bases:=[Value.type "object"],mro:=[Value.ref 95,Value.type "object"],ns:=94,qualname:=Str.ofString "House"}, #[none,none,some m3,some m2,some (.builtin "object.__new__"),some (.bool true)]⟩
abbrev o96:Obj:=⟨(.type "getset_descriptor"),none, .fields ⟨[(V "__dict__" 285),(R 95),(.builtin "function.__dict__"),(.builtin "function.__dict__#set")]⟩, #[]⟩
abbrev o97:Obj:=⟨(.type "getset_descriptor"),none, .fields ⟨[(V "__weakref__" 287),(R 95),(.builtin "ExceptionGroup.__weakref__"), .none]⟩, #[]⟩
abbrev o98:Obj:=⟨(.type "super"),none, .fields ⟨[(R 95),(R 95),(R 95)]⟩, #[]⟩
abbrev o99:=bf "object.__init_subclass__" (R 95)
abbrev g6(P:Params):List DictEntry:=[E P "Even" 325 (R 123)]
abbrev o3v3(P:Params):=D ((g0 P).append ((g1 P).append ((g4 P).append (g6 P)))) 19
abbrev g7:List Value:=[(I 35),(I 0),(R 105)]
abbrev o12v3:=W (g2.append (g3.append (g5.append g7)))
abbrev o95v1:Obj:=⟨(.type "type"),none,Data.cls {name:=Str.ofString "House",bases:=[Value.type "object"],mro:=[Value.ref 95,Value.type "object"],ns:=94,qualname:=Str.ofString "House",subclasses:=[Value.ref 123]}, #[none,none,some m3,some m2,some (.builtin "object.__new__"),some (.bool true)]⟩
abbrev o100:=T [(R 95)]
abbrev o101:=bf "type.__prepare__" (.type "type")
abbrev o102(P:Params):=D ([E P "__module__" 299 m0,E P "__qualname__" 301 (V "Even" 300),E P "__firstlineno__" 303 (.int 35 302),E P "__init__" 312 (R 113),E P "rank" 320 (R 120),E P "__static_attributes__" 322 (R 121)]) 6
abbrev o104:=W [(I 37),(I 4),(R 112),(I 41),(I 4),(R 119)]
abbrev o105:=C1 "Even" 294 35 0 0 103 false .none .none .none 297
abbrev o106:=fr 105 102 m0
abbrev o109:=T [(V "self" 307),(V "n" 308),(V "k" 309)]
abbrev o111:=ff "__init__" "Even.__init__" s_Even___init__
abbrev o112:=C "__init__" "Even.__init__" 304 37 3 3 107 true (R 109) (R 110) (R 111) 310
abbrev o113:=fk "__init__" "Even.__init__" s_Even___init__ m0 112
abbrev o116:=T [(V "self" 316),(V "s" 317)]
abbrev o118:=ff "rank" "Even.rank" s_Even_rank
abbrev o119:=C "rank" "Even.rank" 313 41 2 3 114 true (R 116) (R 117) (R 118) 318
abbrev o120:=fk "rank" "Even.rank" s_Even_rank m0 119
abbrev o121:=T [(V "most" 321)]
abbrev o122(P:Params):=D ([E P "__module__" 299 m0,E P "__firstlineno__" 303 (.int 35 302),E P "__init__" 312 (R 113),E P "rank" 320 (R 120),E P "__static_attributes__" 322 (R 121),E P "__doc__" 323 .none]) 2
abbrev o123:Obj:=⟨(.type "type"),none,Data.cls {name:=Str.ofString "Even",bases:=[Value.ref 95],mro:=[Value.ref 123,Value.ref 95,Value.type "object"],ns:=122,qualname:=Str.ofString "Even"}, #[some (R 100),none,some (V "Even" 292),some (V "Even" 300),some (.builtin "object.__new__"),some (.bool true)]⟩
abbrev o124:Obj:=⟨(.type "super"),none, .fields ⟨[(R 123),(R 123),(R 123)]⟩, #[]⟩
abbrev o125:=bf "object.__init_subclass__" (R 123)
abbrev g8(P:Params):List DictEntry:=[E P "__name__" 165 m4]
abbrev g9(P:Params):List DictEntry:=[E P "Listed" 357 (R 147),E P "ranks" 365 (R 154),E P "frees" 371 (R 159),E P "dealt_further" 384 (R 166)]
abbrev o3v4(P:Params):=D ((g8 P).append ((g1 P).append ((g4 P).append ((g6 P).append (g9 P))))) 23
abbrev g10:List Value:=[(I 43),(I 0),(R 131),(I 52),(I 0),(R 153),(I 54),(I 0),(R 158),(I 57),(I 0),(R 165)]
abbrev o12v4:=W (g2.append (g3.append (g5.append (g7.append g10))))
abbrev o95v2:Obj:=⟨(.type "type"),none,Data.cls {name:=Str.ofString "House",bases:=[Value.type "object"],mro:=[Value.ref 95,Value.type "object"],ns:=94,qualname:=Str.ofString "House",subclasses:=[Value.ref 123,Value.ref 147]}, #[none,none,some m3,some m2,some (.builtin "object.__new__"),some (.bool true)]⟩
abbrev o126:=T [(R 95)]
abbrev o127:=bf "type.__prepare__" (.type "type")
abbrev o128(P:Params):=D ([E P "__module__" 333 m0,E P "__qualname__" 335 (V "Listed" 334),E P "__firstlineno__" 337 (.int 43 336),E P "__init__" 346 (R 139),E P "rank" 352 (R 144),E P "__static_attributes__" 354 (R 145)]) 6
abbrev o130:=W [(I 45),(I 4),(R 138),(I 49),(I 4),(R 143)]
abbrev o131:=C1 "Listed" 328 43 0 0 129 false .none .none .none 331
abbrev o132:=fr 131 128 m0
abbrev o135:=T [(V "self" 341),(V "n" 342),(V "some" 343)]
abbrev o137:=ff "__init__" "Listed.__init__" s_Listed___init__
abbrev o138:=C "__init__" "Listed.__init__" 338 45 3 3 133 true (R 135) (R 136) (R 137) 344
abbrev o139:=fk "__init__" "Listed.__init__" s_Listed___init__ m0 138
abbrev o142:=ff "rank" "Listed.rank" s_Listed_rank
abbrev o143:=C "rank" "Listed.rank" 347 49 2 3 140 true .none .none (R 142) 350
abbrev o144:=fk "rank" "Listed.rank" s_Listed_rank m0 143
abbrev o145:=T [(V "listed" 353)]
abbrev o146(P:Params):=D ([E P "__module__" 333 m0,E P "__firstlineno__" 337 (.int 43 336),E P "__init__" 346 (R 139),E P "rank" 352 (R 144),E P "__static_attributes__" 354 (R 145),E P "__doc__" 355 .none]) 2
abbrev o147:Obj:=⟨(.type "type"),none,Data.cls {name:=Str.ofString "Listed",bases:=[Value.ref 95],mro:=[Value.ref 147,Value.ref 95,Value.type "object"],ns:=146,qualname:=Str.ofString "Listed"}, #[some (R 126),none,some (V "Listed" 326),some (V "Listed" 334),some (.builtin "object.__new__"),some (.bool true)]⟩
abbrev o148:Obj:=⟨(.type "super"),none, .fields ⟨[(R 147),(R 147),(R 147)]⟩, #[]⟩
abbrev o149:=bf "object.__init_subclass__" (R 147)
abbrev o152:=f1 "ranks" s_ranks
abbrev o153:=C1 "ranks" 360 52 1 3 150 true .none .none (R 152) 363
abbrev o154:=f2 "ranks" s_ranks (V "basehouse.tellings" 358) 153
abbrev o157:=f1 "frees" s_frees
abbrev o158:=C1 "frees" 366 54 1 3 155 true .none .none (R 157) 369
abbrev o159:=f2 "frees" s_frees (V "basehouse.tellings" 358) 158
abbrev o162:=T [(V "dealings" 377),(V "free" 378),(V "found" 379),(V "done" 380),(V "s" 381)]
abbrev o164:=f1 "dealt_further" s_dealt_further
abbrev o165:=C1 "dealt_further" 374 57 2 3 160 true (R 162) (R 163) (R 164) 382
abbrev o166:=f2 "dealt_further" s_dealt_further m4 165
abbrev g11(P:Params):List DictEntry:=[E P "__name__" 165 m5]
abbrev g12(P:Params):List DictEntry:=[E P "dealt" 390 (R 171),E P "common" 398 (R 176),E P "tied" 406 (R 181)]
abbrev o3v5(P:Params):=D ((g11 P).append ((g1 P).append ((g4 P).append ((g6 P).append ((g9 P).append (g12 P)))))) 26
abbrev g13:List Value:=[(I 64),(I 0),(R 170),(I 73),(I 0),(R 175),(I 82),(I 0),(R 180)]
abbrev o12v5:=W (g2.append (g3.append (g5.append (g7.append (g10.append g13)))))
abbrev o169:=f1 "dealt" s_dealt
abbrev o170:=C1 "dealt" 385 64 1 3 167 true .none .none (R 169) 388
abbrev o171:=f2 "dealt" s_dealt m4 170
abbrev o174:=f1 "common" s_common
abbrev o175:=C1 "common" 393 73 2 3 172 true .none .none (R 174) 396
abbrev o176:=f2 "common" s_common (V "basehouse.common" 391) 175
abbrev o179:=f1 "tied" s_tied
abbrev o180:=C1 "tied" 401 82 2 3 177 true .none .none (R 179) 404
abbrev o181:=f2 "tied" s_tied m5 180
abbrev g14(P:Params):List DictEntry:=[E P "__name__" 165 m6]
abbrev g15(P:Params):List DictEntry:=[E P "Net" 448 (R 210),E P "rests" 456 (R 217),E P "pivot_place" 466 (R 224)]
abbrev o3v6(P:Params):=D ((g14 P).append ((g1 P).append ((g4 P).append ((g6 P).append ((g9 P).append ((g12 P).append (g15 P))))))) 29
abbrev g16:List Value:=[(I 86),(I 0),(R 187),(I 102),(I 0),(R 216),(I 106),(I 0),(R 223)]
abbrev o12v6:=W (g2.append (g3.append (g5.append (g7.append (g10.append (g13.append g16))))))
abbrev o95v3:Obj:=⟨(.type "type"),none,Data.cls {name:=Str.ofString "House",bases:=[Value.type "object"],mro:=[Value.ref 95,Value.type "object"],ns:=94,qualname:=Str.ofString "House",subclasses:=[Value.ref 123,Value.ref 147,Value.ref 210]}, #[none,none,some m3,some m2,some (.builtin "object.__new__"),some (.bool true)]⟩
abbrev o182:=T [(R 95)]
abbrev o183:=bf "type.__prepare__" (.type "type")
abbrev o184(P:Params):=D ([E P "__module__" 414 m5,E P "__qualname__" 416 (V "Net" 415),E P "__firstlineno__" 418 (.int 86 417),E P "__init__" 424 (R 193),E P "pieces" 434 (R 200),E P "rank" 442 (R 207),E P "__static_attributes__" 445 (R 208)]) 7
abbrev o186:=W [(I 88),(I 4),(R 192),(I 93),(I 4),(R 199),(I 99),(I 4),(R 206)]
abbrev o187:=C1 "Net" 409 86 0 0 185 false .none .none .none 412
abbrev o188:=fr 187 184 m5
abbrev o191:=ff "__init__" "Net.__init__" s_Net___init__
abbrev o192:=C "__init__" "Net.__init__" 419 88 4 3 189 true .none .none (R 191) 422
abbrev o193:=fk "__init__" "Net.__init__" s_Net___init__ m5 192
abbrev o196:=T [(V "self" 428),(V "s" 429),(V "marks" 430),(V "thing" 431)]
abbrev o198:=ff "pieces" "Net.pieces" s_Net_pieces
abbrev o199:=C "pieces" "Net.pieces" 425 93 2 3 194 true (R 196) (R 197) (R 198) 432
abbrev o200:=fk "pieces" "Net.pieces" s_Net_pieces m5 199
abbrev o203:=T [(V "self" 438),(V "s" 439)]
abbrev o205:=ff "rank" "Net.rank" s_Net_rank
abbrev o206:=C "rank" "Net.rank" 435 99 2 3 201 true (R 203) (R 204) (R 205) 440
abbrev o207:=fk "rank" "Net.rank" s_Net_rank m5 206
abbrev o208:=T [(V "points" 443),(V "ties" 444)]
abbrev o209(P:Params):=D ([E P "__module__" 414 m5,E P "__firstlineno__" 418 (.int 86 417),E P "__init__" 424 (R 193),E P "pieces" 434 (R 200),E P "rank" 442 (R 207),E P "__static_attributes__" 445 (R 208),E P "__doc__" 446 .none]) 2
abbrev o210:Obj:=⟨(.type "type"),none,Data.cls {name:=Str.ofString "Net",bases:=[Value.ref 95],mro:=[Value.ref 210,Value.ref 95,Value.type "object"],ns:=209,qualname:=Str.ofString "Net"}, #[some (R 182),none,some (V "Net" 407),some (V "Net" 415),some (.builtin "object.__new__"),some (.bool true)]⟩
abbrev o211:Obj:=⟨(.type "super"),none, .fields ⟨[(R 210),(R 210),(R 210)]⟩, #[]⟩
abbrev o212:=bf "object.__init_subclass__" (R 210)
abbrev o215:=f1 "rests" s_rests
abbrev o216:=C1 "rests" 451 102 2 3 213 true .none .none (R 215) 454
abbrev o217:=f2 "rests" s_rests m6 216
abbrev o220:=T [(V "rows" 460),(V "column" 461),(V "place" 462),(V "row" 463)]
abbrev o222:=f1 "pivot_place" s_pivot_place
abbrev o223:=C1 "pivot_place" 457 106 2 3 218 true (R 220) (R 221) (R 222) 464
abbrev o224:=f2 "pivot_place" s_pivot_place m6 223
abbrev g17(P:Params):List DictEntry:=[E P "__name__" 165 m7]
abbrev g18(P:Params):List DictEntry:=[E P "cleared" 472 (R 229),E P "all_cleared" 478 (R 234),E P "rank_of" 484 (R 239),E P "Tabled" 516 (R 259)]
abbrev o3v7(P:Params):=D ((g17 P).append ((g1 P).append ((g4 P).append ((g6 P).append ((g9 P).append ((g12 P).append ((g15 P).append (g18 P)))))))) 33
abbrev g19:List Value:=[(I 111),(I 0),(R 228),(I 115),(I 0),(R 233),(I 119),(I 0),(R 238),(I 135),(I 0),(R 245)]
abbrev o12v7:=W (g2.append (g3.append (g5.append (g7.append (g10.append (g13.append (g16.append g19)))))))
abbrev o95v4:Obj:=⟨(.type "type"),none,Data.cls {name:=Str.ofString "House",bases:=[Value.type "object"],mro:=[Value.ref 95,Value.type "object"],ns:=94,qualname:=Str.ofString "House",subclasses:=[Value.ref 123,Value.ref 147,Value.ref 210,Value.ref 259]}, #[none,none,some m3,some m2,some (.builtin "object.__new__"),some (.bool true)]⟩
abbrev o227:=f1 "cleared" s_cleared
abbrev o228:=C1 "cleared" 467 111 4 3 225 true .none .none (R 227) 470
abbrev o229:=f2 "cleared" s_cleared m6 228
abbrev o232:=f1 "all_cleared" s_all_cleared
abbrev o233:=C1 "all_cleared" 473 115 4 3 230 true .none .none (R 232) 476
abbrev o234:=f2 "all_cleared" s_all_cleared m6 233
abbrev o237:=f1 "rank_of" s_rank_of
abbrev o238:=C1 "rank_of" 479 119 2 3 235 true .none .none (R 237) 482
abbrev o239:=f2 "rank_of" s_rank_of m6 238
abbrev o240:=T [(R 95)]
abbrev o241:=bf "type.__prepare__" (.type "type")
abbrev o242(P:Params):=D ([E P "__module__" 494 m8,E P "__qualname__" 496 (V "Tabled" 495),E P "__firstlineno__" 498 (.int 135 497),E P "__init__" 504 (R 251),E P "rank" 510 (R 256),E P "__static_attributes__" 513 (R 257)]) 6
abbrev o244:=W [(I 137),(I 4),(R 250),(I 142),(I 4),(R 255)]
abbrev o245:=C1 "Tabled" 489 135 0 0 243 false .none .none .none 492
abbrev o246:=fr 245 242 m8
abbrev o249:=ff "__init__" "Tabled.__init__" s_Tabled___init__
abbrev o250:=C "__init__" "Tabled.__init__" 499 137 4 3 247 true .none .none (R 249) 502
abbrev o251:=fk "__init__" "Tabled.__init__" s_Tabled___init__ m8 250
abbrev o254:=ff "rank" "Tabled.rank" s_Tabled_rank
abbrev o255:=C "rank" "Tabled.rank" 505 142 2 3 252 true .none .none (R 254) 508
abbrev o256:=fk "rank" "Tabled.rank" s_Tabled_rank m8 255
abbrev o257:=T [(V "prime" 511),(V "rows" 512)]
abbrev o258(P:Params):=D ([E P "__module__" 494 m8,E P "__firstlineno__" 498 (.int 135 497),E P "__init__" 504 (R 251),E P "rank" 510 (R 256),E P "__static_attributes__" 513 (R 257),E P "__doc__" 514 .none]) 2
abbrev o259:Obj:=⟨(.type "type"),none,Data.cls {name:=Str.ofString "Tabled",bases:=[Value.ref 95],mro:=[Value.ref 259,Value.ref 95,Value.type "object"],ns:=258,qualname:=Str.ofString "Tabled"}, #[some (R 240),none,some (V "Tabled" 487),some (V "Tabled" 495),some (.builtin "object.__new__"),some (.bool true)]⟩
abbrev o260:Obj:=⟨(.type "super"),none, .fields ⟨[(R 259),(R 259),(R 259)]⟩, #[]⟩
abbrev o261:=bf "object.__init_subclass__" (R 259)
abbrev g20(P:Params):List DictEntry:=[E P "Other" 554 (R 285)]
abbrev o3v8(P:Params):=D ((g17 P).append ((g1 P).append ((g4 P).append ((g6 P).append ((g9 P).append ((g12 P).append ((g15 P).append ((g18 P).append (g20 P))))))))) 34
abbrev g21:List Value:=[(I 146),(I 0),(R 267)]
abbrev o12v8:=W (g2.append (g3.append (g5.append (g7.append (g10.append (g13.append (g16.append (g19.append g21))))))))
abbrev o95v5:Obj:=⟨(.type "type"),none,Data.cls {name:=Str.ofString "House",bases:=[Value.type "object"],mro:=[Value.ref 95,Value.type "object"],ns:=94,qualname:=Str.ofString "House",subclasses:=[Value.ref 123,Value.ref 147,Value.ref 210,Value.ref 259,Value.ref 285]}, #[none,none,some m3,some m2,some (.builtin "object.__new__"),some (.bool true)]⟩
abbrev o262:=T [(R 95)]
abbrev o263:=bf "type.__prepare__" (.type "type")
abbrev o264(P:Params):=D ([E P "__module__" 526 m7,E P "__qualname__" 528 (V "Other" 527),E P "__firstlineno__" 530 (.int 146 529),E P "__init__" 538 (R 275),E P "rank" 547 (R 282),E P "__static_attributes__" 551 (R 283)]) 6
abbrev o266:=W [(I 148),(I 4),(R 274),(I 154),(I 4),(R 281)]
abbrev o267:=C1 "Other" 521 146 0 0 265 false .none .none .none 524
abbrev o268:=fr 267 264 m7
abbrev o271:=T [(V "self" 534),(V "house" 535)]
abbrev o273:=ff "__init__" "Other.__init__" s_Other___init__
abbrev o274:=C "__init__" "Other.__init__" 531 148 2 3 269 true (R 271) (R 272) (R 273) 536
abbrev o275:=fk "__init__" "Other.__init__" s_Other___init__ m7 274
abbrev o278:=T [(V "self" 542),(V "s" 543),(V "outside" 544)]
abbrev o280:=ff "rank" "Other.rank" s_Other_rank
abbrev o281:=C "rank" "Other.rank" 539 154 2 3 276 true (R 278) (R 279) (R 280) 545
abbrev o282:=fk "rank" "Other.rank" s_Other_rank m7 281
abbrev o283:=T [(V "full" 548),(V "full_rank" 549),(V "house" 550)]
abbrev o284(P:Params):=D ([E P "__module__" 526 m7,E P "__firstlineno__" 530 (.int 146 529),E P "__init__" 538 (R 275),E P "rank" 547 (R 282),E P "__static_attributes__" 551 (R 283),E P "__doc__" 552 .none]) 2
abbrev o285:Obj:=⟨(.type "type"),none,Data.cls {name:=Str.ofString "Other",bases:=[Value.ref 95],mro:=[Value.ref 285,Value.ref 95,Value.type "object"],ns:=284,qualname:=Str.ofString "Other"}, #[some (R 262),none,some (V "Other" 519),some (V "Other" 527),some (.builtin "object.__new__"),some (.bool true)]⟩
abbrev o286:Obj:=⟨(.type "super"),none, .fields ⟨[(R 285),(R 285),(R 285)]⟩, #[]⟩
abbrev o287:=bf "object.__init_subclass__" (R 285)
abbrev g22(P:Params):List DictEntry:=[E P "Minor" 593 (R 311)]
abbrev o3v9(P:Params):=D ((g17 P).append ((g1 P).append ((g4 P).append ((g6 P).append ((g9 P).append ((g12 P).append ((g15 P).append ((g18 P).append ((g20 P).append (g22 P)))))))))) 35
abbrev g23:List Value:=[(I 157),(I 0),(R 293)]
abbrev o12v9:=W (g2.append (g3.append (g5.append (g7.append (g10.append (g13.append (g16.append (g19.append (g21.append g23)))))))))
abbrev o95v6:Obj:=⟨(.type "type"),none,Data.cls {name:=Str.ofString "House",bases:=[Value.type "object"],mro:=[Value.ref 95,Value.type "object"],ns:=94,qualname:=Str.ofString "House",subclasses:=[Value.ref 123,Value.ref 147,Value.ref 210,Value.ref 259,Value.ref 285,Value.ref 311]}, #[none,none,some m3,some m2,some (.builtin "object.__new__"),some (.bool true)]⟩
abbrev o288:=T [(R 95)]
abbrev o289:=bf "type.__prepare__" (.type "type")
abbrev o290(P:Params):=D ([E P "__module__" 562 m7,E P "__qualname__" 564 (V "Minor" 563),E P "__firstlineno__" 566 (.int 157 565),E P "__init__" 577 (R 301),E P "rank" 585 (R 308),E P "__static_attributes__" 590 (R 309)]) 6
abbrev o292:=W [(I 159),(I 4),(R 300),(I 167),(I 4),(R 307)]
abbrev o293:=C1 "Minor" 557 157 0 0 291 false .none .none .none 560
abbrev o294:=fr 293 290 m7
abbrev o297:=T [(V "self" 570),(V "house" 571),(V "out" 572),(V "drawn" 573),(V "kept" 574)]
abbrev o299:=ff "__init__" "Minor.__init__" s_Minor___init__
abbrev o300:=C "__init__" "Minor.__init__" 567 159 4 3 295 true (R 297) (R 298) (R 299) 575
abbrev o301:=fk "__init__" "Minor.__init__" s_Minor___init__ m7 300
abbrev o304:=T [(V "self" 581),(V "s" 582)]
abbrev o306:=ff "rank" "Minor.rank" s_Minor_rank
abbrev o307:=C "rank" "Minor.rank" 578 167 2 3 302 true (R 304) (R 305) (R 306) 583
abbrev o308:=fk "rank" "Minor.rank" s_Minor_rank m7 307
abbrev o309:=T [(V "drawn" 586),(V "drawn_rank" 587),(V "house" 588),(V "kept" 589)]
abbrev o310(P:Params):=D ([E P "__module__" 562 m7,E P "__firstlineno__" 566 (.int 157 565),E P "__init__" 577 (R 301),E P "rank" 585 (R 308),E P "__static_attributes__" 590 (R 309),E P "__doc__" 591 .none]) 2
abbrev o311:Obj:=⟨(.type "type"),none,Data.cls {name:=Str.ofString "Minor",bases:=[Value.ref 95],mro:=[Value.ref 311,Value.ref 95,Value.type "object"],ns:=310,qualname:=Str.ofString "Minor"}, #[some (R 288),none,some (V "Minor" 555),some (V "Minor" 563),some (.builtin "object.__new__"),some (.bool true)]⟩
abbrev o312:Obj:=⟨(.type "super"),none, .fields ⟨[(R 311),(R 311),(R 311)]⟩, #[]⟩
abbrev o313:=bf "object.__init_subclass__" (R 311)
abbrev g24(P:Params):List DictEntry:=[E P "__name__" 165 m9]
abbrev g25(P:Params):List DictEntry:=[E P "Side" 630 (R 337),E P "heaviest" 645 (R 346),E P "_law_whole" 654 (R 353),E P "_law_at" 662 (R 360)]
abbrev o3v10(P:Params):=D ((g24 P).append ((g1 P).append ((g4 P).append ((g6 P).append ((g9 P).append ((g12 P).append ((g15 P).append ((g18 P).append ((g20 P).append ((g22 P).append (g25 P))))))))))) 39
abbrev g26:List Value:=[(I 169),(I 0),(R 319),(I 181),(I 0),(R 345),(I 190),(I 0),(R 352),(I 192),(I 0),(R 359)]
abbrev o12v10:=W (g2.append (g3.append (g5.append (g7.append (g10.append (g13.append (g16.append (g19.append (g21.append (g23.append g26))))))))))
abbrev o95v7:Obj:=⟨(.type "type"),none,Data.cls {name:=Str.ofString "House",bases:=[Value.type "object"],mro:=[Value.ref 95,Value.type "object"],ns:=94,qualname:=Str.ofString "House",subclasses:=[Value.ref 123,Value.ref 147,Value.ref 210,Value.ref 259,Value.ref 285,Value.ref 311,Value.ref 337]}, #[none,none,some m3,some m2,some (.builtin "object.__new__"),some (.bool true)]⟩
abbrev o314:=T [(R 95)]
abbrev o315:=bf "type.__prepare__" (.type "type")
abbrev o316(P:Params):=D ([E P "__module__" 601 m7,E P "__qualname__" 603 (V "Side" 602),E P "__firstlineno__" 605 (.int 169 604),E P "__init__" 614 (R 327),E P "rank" 622 (R 334),E P "__static_attributes__" 627 (R 335)]) 6
abbrev o318:=W [(I 171),(I 4),(R 326),(I 178),(I 4),(R 333)]
abbrev o319:=C1 "Side" 596 169 0 0 317 false .none .none .none 599
abbrev o320:=fr 319 316 m7
abbrev o323:=T [(V "self" 609),(V "one" 610),(V "other" 611)]
abbrev o325:=ff "__init__" "Side.__init__" s_Side___init__
abbrev o326:=C "__init__" "Side.__init__" 606 171 3 3 321 true (R 323) (R 324) (R 325) 612
abbrev o327:=fk "__init__" "Side.__init__" s_Side___init__ m7 326
abbrev o330:=T [(V "self" 618),(V "s" 619)]
abbrev o332:=ff "rank" "Side.rank" s_Side_rank
abbrev o333:=C "rank" "Side.rank" 615 178 2 3 328 true (R 330) (R 331) (R 332) 620
abbrev o334:=fk "rank" "Side.rank" s_Side_rank m7 333
abbrev o335:=T [(V "first" 623),(V "first_full" 624),(V "first_many" 625),(V "second" 626)]
abbrev o336(P:Params):=D ([E P "__module__" 601 m7,E P "__firstlineno__" 605 (.int 169 604),E P "__init__" 614 (R 327),E P "rank" 622 (R 334),E P "__static_attributes__" 627 (R 335),E P "__doc__" 628 .none]) 2
abbrev o337:Obj:=⟨(.type "type"),none,Data.cls {name:=Str.ofString "Side",bases:=[Value.ref 95],mro:=[Value.ref 337,Value.ref 95,Value.type "object"],ns:=336,qualname:=Str.ofString "Side"}, #[some (R 314),none,some (V "Side" 594),some (V "Side" 602),some (.builtin "object.__new__"),some (.bool true)]⟩
abbrev o338:Obj:=⟨(.type "super"),none, .fields ⟨[(R 337),(R 337),(R 337)]⟩, #[]⟩
abbrev o339:=bf "object.__init_subclass__" (R 337)
abbrev o342:=T [(V "house" 636),(V "weights" 637),(V "order" 638),(V "taken" 639),(V "thing" 640),(V "more" 641)]
abbrev o343:=T [(V "weights" 642)]
abbrev o344:=f1 "heaviest" s_heaviest
abbrev o345:=C1 "heaviest" 633 181 2 3 340 true (R 342) (R 343) (R 344) 643
abbrev o346:=f2 "heaviest" s_heaviest (V "basehouse.weights" 631) 345
abbrev o349:=T [(V "_law_found" 651)]
abbrev o351:=f1 "_law_whole" s__law_whole
abbrev o352:=C1 "_law_whole" 648 190 1 3 347 true (R 349) (R 350) (R 351) 652
abbrev o353:=f2 "_law_whole" s__law_whole m9 352
abbrev o356:=T [(V "_law_script" 658),(V "_law_k" 659)]
abbrev o358:=f1 "_law_at" s__law_at
abbrev o359:=C1 "_law_at" 655 192 2 3 354 true (R 356) (R 357) (R 358) 660
abbrev o360:=f2 "_law_at" s__law_at m9 359
abbrev g27(P:Params):List DictEntry:=[E P "_law_mixed" 671 (R 367),E P "_law_numbers" 677 (R 372),E P "_law_counts" 683 (R 377),E P "_law_even" 689 (R 382),E P "_law_folds" 695 (R 387),E P "_law_rank" 707 (R 394),E P "_law_listed" 713 (R 399),E P "_law_tied" 719 (R 404),E P "_law_rows" 725 (R 409),E P "_law_drawn" 731 (R 414),E P "_law_parts" 740 (R 421),E P "_law_dealt" 755 (R 428),E P "_law_weights" 761 (R 433)]
abbrev o3v11(P:Params):=D ((g24 P).append ((g1 P).append ((g4 P).append ((g6 P).append ((g9 P).append ((g12 P).append ((g15 P).append ((g18 P).append ((g20 P).append ((g22 P).append ((g25 P).append (g27 P)))))))))))) 52
abbrev g28:List Value:=[(I 196),(I 0),(R 366),(I 199),(I 0),(R 371),(I 202),(I 0),(R 376),(I 207),(I 0),(R 381),(I 218),(I 0),(R 386),(I 225),(I 0),(R 393),(I 234),(I 0),(R 398),(I 237),(I 0),(R 403),(I 245),(I 0),(R 408),(I 247),(I 0),(R 413),(I 267),(I 0),(R 420),(I 276),(I 0),(R 427),(I 288),(I 0),(R 432)]
abbrev o12v11:=W (g2.append (g3.append (g5.append (g7.append (g10.append (g13.append (g16.append (g19.append (g21.append (g23.append (g26.append g28)))))))))))
abbrev o363:=T [(V "_law_cell" 666),(V "_law_k" 667),(V "_law_number" 668)]
abbrev o365:=f1 "_law_mixed" s__law_mixed
abbrev o366:=C1 "_law_mixed" 663 196 2 3 361 true (R 363) (R 364) (R 365) 669
abbrev o367:=f2 "_law_mixed" s__law_mixed m9 366
abbrev o370:=f1 "_law_numbers" s__law_numbers
abbrev o371:=C1 "_law_numbers" 672 199 2 3 368 true .none .none (R 370) 675
abbrev o372:=f2 "_law_numbers" s__law_numbers m9 371
abbrev o375:=f1 "_law_counts" s__law_counts
abbrev o376:=C1 "_law_counts" 678 202 1 3 373 true .none .none (R 375) 681
abbrev o377:=f2 "_law_counts" s__law_counts m9 376
abbrev o380:=f1 "_law_even" s__law_even
abbrev o381:=C1 "_law_even" 684 207 3 3 378 true .none .none (R 380) 687
abbrev o382:=f2 "_law_even" s__law_even m9 381
abbrev o385:=f1 "_law_folds" s__law_folds
abbrev o386:=C1 "_law_folds" 690 218 2 3 383 true .none .none (R 385) 693
abbrev o387:=f2 "_law_folds" s__law_folds m9 386
abbrev o390:=T [(V "_law_columns" 699),(V "_law_s" 700),(V "_law_steps" 701),(V "_law_k" 702),(V "_law_left" 703),(V "_law_step" 704)]
abbrev o392:=f1 "_law_rank" s__law_rank
abbrev o393:=C1 "_law_rank" 696 225 2 3 388 true (R 390) (R 391) (R 392) 705
abbrev o394:=f2 "_law_rank" s__law_rank m9 393
abbrev o397:=f1 "_law_listed" s__law_listed
abbrev o398:=C1 "_law_listed" 708 234 2 3 395 true .none .none (R 397) 711
abbrev o399:=f2 "_law_listed" s__law_listed m9 398
abbrev o402:=f1 "_law_tied" s__law_tied
abbrev o403:=C1 "_law_tied" 714 237 3 3 400 true .none .none (R 402) 717
abbrev o404:=f2 "_law_tied" s__law_tied m9 403
abbrev o407:=f1 "_law_rows" s__law_rows
abbrev o408:=C1 "_law_rows" 720 245 2 3 405 true .none .none (R 407) 723
abbrev o409:=f2 "_law_rows" s__law_rows m9 408
abbrev o412:=f1 "_law_drawn" s__law_drawn
abbrev o413:=C1 "_law_drawn" 726 247 3 3 410 true .none .none (R 412) 729
abbrev o414:=f2 "_law_drawn" s__law_drawn m9 413
abbrev o417:=T [(V "_law_found" 735),(V "_law_rows_here" 736),(V "_law_s" 737)]
abbrev o419:=f1 "_law_parts" s__law_parts
abbrev o420:=C1 "_law_parts" 732 267 2 3 415 true (R 417) (R 418) (R 419) 738
abbrev o421:=f2 "_law_parts" s__law_parts m9 420
abbrev o424:=T [(V "_law_found" 744),(V "_law_rows_here" 745),(V "_law_sizes" 746),(V "_law_spent" 747),(V "_law_k" 748),(V "_law_part" 749),(V "_law_bound" 750),(V "_law_most" 751),(V "_law_told" 752)]
abbrev o426:=f1 "_law_dealt" s__law_dealt
abbrev o427:=C1 "_law_dealt" 741 276 3 3 422 true (R 424) (R 425) (R 426) 753
abbrev o428:=f2 "_law_dealt" s__law_dealt m9 427
abbrev o431:=f1 "_law_weights" s__law_weights
abbrev o432:=C1 "_law_weights" 756 288 3 3 429 true .none .none (R 431) 759
abbrev o433:=f2 "_law_weights" s__law_weights m9 432
abbrev g29(P:Params):List DictEntry:=[E P "_law_heaviest" 773 (R 440),E P "_law_other" 779 (R 445),E P "_law_minor" 790 (R 452),E P "_law_side" 801 (R 459),E P "_law_less" 815 (R 466),E P "_law_four" 833 (R 473),E P "_law_common" 839 (R 478),E P "law" 845 (R 483)]
abbrev o3v12(P:Params):=D ((g24 P).append ((g1 P).append ((g4 P).append ((g6 P).append ((g9 P).append ((g12 P).append ((g15 P).append ((g18 P).append ((g20 P).append ((g22 P).append ((g25 P).append ((g27 P).append (g29 P))))))))))))) 60
abbrev g30:List Value:=[(I 300),(I 0),(R 439),(I 312),(I 0),(R 444),(I 316),(I 0),(R 451),(I 322),(I 0),(R 458),(I 328),(I 0),(R 465),(I 337),(I 0),(R 472),(I 353),(I 0),(R 477),(I 364),(I 0),(R 482)]
abbrev o12v12:=W (g2.append (g3.append (g5.append (g7.append (g10.append (g13.append (g16.append (g19.append (g21.append (g23.append (g26.append (g28.append g30))))))))))))
abbrev o436:=T [(V "_law_told" 765),(V "_law_weights_here" 766),(V "_law_left" 767),(V "_law_s" 768),(V "_law_best" 769),(V "_law_k" 770)]
abbrev o438:=f1 "_law_heaviest" s__law_heaviest
abbrev o439:=C1 "_law_heaviest" 762 300 2 3 434 true (R 436) (R 437) (R 438) 771
abbrev o440:=f2 "_law_heaviest" s__law_heaviest m9 439
abbrev o443:=f1 "_law_other" s__law_other
abbrev o444:=C1 "_law_other" 774 312 1 3 441 true .none .none (R 443) 777
abbrev o445:=f2 "_law_other" s__law_other m9 444
abbrev o448:=T [(V "_law_told" 783),(V "_law_out" 784),(V "_law_drawn_here" 785),(V "_law_found" 786),(V "_law_s" 787)]
abbrev o450:=f1 "_law_minor" s__law_minor
abbrev o451:=C1 "_law_minor" 780 316 3 3 446 true (R 448) (R 449) (R 450) 788
abbrev o452:=f2 "_law_minor" s__law_minor m9 451
abbrev o455:=T [(V "_law_first" 794),(V "_law_second" 795),(V "_law_found" 796),(V "_law_high" 797),(V "_law_low" 798)]
abbrev o457:=f1 "_law_side" s__law_side
abbrev o458:=C1 "_law_side" 791 322 2 3 453 true (R 455) (R 456) (R 457) 799
abbrev o459:=f2 "_law_side" s__law_side m9 458
abbrev o462:=T [(V "_law_wide" 805),(V "_law_more" 806),(V "_law_cell" 807),(V "_law_left" 808),(V "_law_found" 809),(V "_law_number" 810),(V "_law_k" 811),(V "_law_thing" 812)]
abbrev o464:=f1 "_law_less" s__law_less
abbrev o465:=C1 "_law_less" 802 328 3 3 460 true (R 462) (R 463) (R 464) 813
abbrev o466:=f2 "_law_less" s__law_less m9 465
abbrev o469:=T [(V "_law_many" 819),(V "_law_script" 820),(V "_law_numbers_here" 821),(V "_law_house" 822),(V "_law_told" 823),(V "_law_found" 824),(V "_law_more" 825),(V "_law_out" 826),(V "_law_drawn_here" 827),(V "_law_cut" 828),(V "_law_other_here" 829),(V "_law_rest" 830)]
abbrev o471:=f1 "_law_four" s__law_four
abbrev o472:=C1 "_law_four" 816 337 2 3 467 true (R 469) (R 470) (R 471) 831
abbrev o473:=f2 "_law_four" s__law_four m9 472
abbrev o476:=f1 "_law_common" s__law_common
abbrev o477:=C1 "_law_common" 834 353 3 3 474 true .none .none (R 476) 837
abbrev o478:=f2 "_law_common" s__law_common m9 477
abbrev o481:=f1 "law" s_law
abbrev o482:=C1 "law" 840 364 1 3 479 true .none .none (R 481) 843
abbrev o483:=f2 "law" s_law m9 482
abbrev ub(x:Obj)(P:Params):List Obj:=[boot_o_0 P,boot_o_1 P,boot_o_2 P,x,boot_o_4 P,boot_o_5 P,boot_o_6 P,boot_o_7 P,boot_o_8 P,boot_o_9 P,boot_o_10 P,Y]
abbrev u0(P:Params):List Obj:=ub (boot_o_3 P) P
abbrev u1(P:Params):List Obj:=[Z,o13,o14]
abbrev u2(P:Params):List Obj:=ub (o3v1 P) P
abbrev u3(P:Params):List Obj:=[o12v1,o13,o14,Y,Z,o17,Y,o19,o20,o21,Y,Z]
abbrev u4(P:Params):List Obj:=[o24,o25,o26,Y,Z,o29,Y,o31,o32,o33,Y,Z]
abbrev u5(P:Params):List Obj:=[o36,Y,o38,o39,o40,Y,Z,o43,o44,o45,Y,Z]
abbrev u6(P:Params):List Obj:=[o48,o49,o50,Y,Z,o53,Y,o55,o56,o57,Y,Z]
abbrev u7(P:Params):List Obj:=[o60,Y,o62,o63,o64]
abbrev u8(P:Params):List Obj:=ub (o3v2 P) P
abbrev u9(P:Params):List Obj:=[o12v2,o13,o14,Y,Z,o17,Y,o19,o20,o21,Y,Z]
abbrev u10(P:Params):List Obj:=[o60,Y,o62,o63,o64,Y,o66,o67 P,Y,o69,o70,o71]
abbrev u11(P:Params):List Obj:=[Y,Z,o74,Y,o76,o77,o78,Y,Z,o81,Y,o83]
abbrev u12(P:Params):List Obj:=[o84,o85,Y,Z,o88,Y,o90,o91,o92,o93,o94 P,o95]
abbrev u13(P:Params):List Obj:=[o96,o97,o98,o99]
abbrev u14(P:Params):List Obj:=ub (o3v3 P) P
abbrev u15(P:Params):List Obj:=[o12v3,o13,o14,Y,Z,o17,Y,o19,o20,o21,Y,Z]
abbrev u16(P:Params):List Obj:=[o84,o85,Y,Z,o88,Y,o90,o91,o92,o93,o94 P,o95v1]
abbrev u17(P:Params):List Obj:=[o96,o97,o98,o99,o100,o101,o102 P,Y,o104,o105,o106,Y]
abbrev u18(P:Params):List Obj:=[Z,o109,Y,o111,o112,o113,Y,Z,o116,Y,o118,o119]
abbrev u19(P:Params):List Obj:=[o120,o121,o122 P,o123,o124,o125]
abbrev u20(P:Params):List Obj:=ub (o3v4 P) P
abbrev u21(P:Params):List Obj:=[o12v4,o13,o14,Y,Z,o17,Y,o19,o20,o21,Y,Z]
abbrev u22(P:Params):List Obj:=[o84,o85,Y,Z,o88,Y,o90,o91,o92,o93,o94 P,o95v2]
abbrev u23(P:Params):List Obj:=[o120,o121,o122 P,o123,o124,o125,o126,o127,o128 P,Y,o130,o131]
abbrev u24(P:Params):List Obj:=[o132,Y,Z,o135,Y,o137,o138,o139,Y,Z,o142,o143]
abbrev u25(P:Params):List Obj:=[o144,o145,o146 P,o147,o148,o149,Y,Z,o152,o153,o154,Y]
abbrev u26(P:Params):List Obj:=[Z,o157,o158,o159,Y,Z,o162,Y,o164,o165,o166]
abbrev u27(P:Params):List Obj:=ub (o3v5 P) P
abbrev u28(P:Params):List Obj:=[o12v5,o13,o14,Y,Z,o17,Y,o19,o20,o21,Y,Z]
abbrev u29(P:Params):List Obj:=[Z,o157,o158,o159,Y,Z,o162,Y,o164,o165,o166,Y]
abbrev u30(P:Params):List Obj:=[Z,o169,o170,o171,Y,Z,o174,o175,o176,Y,Z,o179]
abbrev u31(P:Params):List Obj:=[o180,o181]
abbrev u32(P:Params):List Obj:=ub (o3v6 P) P
abbrev u33(P:Params):List Obj:=[o12v6,o13,o14,Y,Z,o17,Y,o19,o20,o21,Y,Z]
abbrev u34(P:Params):List Obj:=[o84,o85,Y,Z,o88,Y,o90,o91,o92,o93,o94 P,o95v3]
abbrev u35(P:Params):List Obj:=[o180,o181,o182,o183,o184 P,Y,o186,o187,o188,Y,Z,o191]
abbrev u36(P:Params):List Obj:=[o192,o193,Y,Z,o196,Y,o198,o199,o200,Y,Z,o203]
abbrev u37(P:Params):List Obj:=[Y,o205,o206,o207,o208,o209 P,o210,o211,o212,Y,Z,o215]
abbrev u38(P:Params):List Obj:=[o216,o217,Y,Z,o220,Y,o222,o223,o224]
abbrev u39(P:Params):List Obj:=ub (o3v7 P) P
abbrev u40(P:Params):List Obj:=[o12v7,o13,o14,Y,Z,o17,Y,o19,o20,o21,Y,Z]
abbrev u41(P:Params):List Obj:=[o84,o85,Y,Z,o88,Y,o90,o91,o92,o93,o94 P,o95v4]
abbrev u42(P:Params):List Obj:=[o216,o217,Y,Z,o220,Y,o222,o223,o224,Y,Z,o227]
abbrev u43(P:Params):List Obj:=[o228,o229,Y,Z,o232,o233,o234,Y,Z,o237,o238,o239]
abbrev u44(P:Params):List Obj:=[o240,o241,o242 P,Y,o244,o245,o246,Y,Z,o249,o250,o251]
abbrev u45(P:Params):List Obj:=[Y,Z,o254,o255,o256,o257,o258 P,o259,o260,o261]
abbrev u46(P:Params):List Obj:=ub (o3v8 P) P
abbrev u47(P:Params):List Obj:=[o12v8,o13,o14,Y,Z,o17,Y,o19,o20,o21,Y,Z]
abbrev u48(P:Params):List Obj:=[o84,o85,Y,Z,o88,Y,o90,o91,o92,o93,o94 P,o95v5]
abbrev u49(P:Params):List Obj:=[Y,Z,o254,o255,o256,o257,o258 P,o259,o260,o261,o262,o263]
abbrev u50(P:Params):List Obj:=[o264 P,Y,o266,o267,o268,Y,Z,o271,Y,o273,o274,o275]
abbrev u51(P:Params):List Obj:=[Y,Z,o278,Y,o280,o281,o282,o283,o284 P,o285,o286,o287]
abbrev u52(P:Params):List Obj:=ub (o3v9 P) P
abbrev u53(P:Params):List Obj:=[o12v9,o13,o14,Y,Z,o17,Y,o19,o20,o21,Y,Z]
abbrev u54(P:Params):List Obj:=[o84,o85,Y,Z,o88,Y,o90,o91,o92,o93,o94 P,o95v6]
abbrev u55(P:Params):List Obj:=[o288,o289,o290 P,Y,o292,o293,o294,Y,Z,o297,Y,o299]
abbrev u56(P:Params):List Obj:=[o300,o301,Y,Z,o304,Y,o306,o307,o308,o309,o310 P,o311]
abbrev u57(P:Params):List Obj:=[o312,o313]
abbrev u58(P:Params):List Obj:=ub (o3v10 P) P
abbrev u59(P:Params):List Obj:=[o12v10,o13,o14,Y,Z,o17,Y,o19,o20,o21,Y,Z]
abbrev u60(P:Params):List Obj:=[o84,o85,Y,Z,o88,Y,o90,o91,o92,o93,o94 P,o95v7]
abbrev u61(P:Params):List Obj:=[o312,o313,o314,o315,o316 P,Y,o318,o319,o320,Y,Z,o323]
abbrev u62(P:Params):List Obj:=[Y,o325,o326,o327,Y,Z,o330,Y,o332,o333,o334,o335]
abbrev u63(P:Params):List Obj:=[o336 P,o337,o338,o339,Y,Z,o342,o343,o344,o345,o346,Y]
abbrev u64(P:Params):List Obj:=[Z,o349,Y,o351,o352,o353,Y,Z,o356,Y,o358,o359]
abbrev u65(P:Params):List Obj:=[o360]
abbrev u66(P:Params):List Obj:=ub (o3v11 P) P
abbrev u67(P:Params):List Obj:=[o12v11,o13,o14,Y,Z,o17,Y,o19,o20,o21,Y,Z]
abbrev u68(P:Params):List Obj:=[o360,Y,Z,o363,Y,o365,o366,o367,Y,Z,o370,o371]
abbrev u69(P:Params):List Obj:=[o372,Y,Z,o375,o376,o377,Y,Z,o380,o381,o382,Y]
abbrev u70(P:Params):List Obj:=[Z,o385,o386,o387,Y,Z,o390,Y,o392,o393,o394,Y]
abbrev u71(P:Params):List Obj:=[Z,o397,o398,o399,Y,Z,o402,o403,o404,Y,Z,o407]
abbrev u72(P:Params):List Obj:=[o408,o409,Y,Z,o412,o413,o414,Y,Z,o417,Y,o419]
abbrev u73(P:Params):List Obj:=[o420,o421,Y,Z,o424,Y,o426,o427,o428,Y,Z,o431]
abbrev u74(P:Params):List Obj:=[o432,o433]
abbrev u75(P:Params):List Obj:=ub (o3v12 P) P
abbrev u76(P:Params):List Obj:=[o12v12,o13,o14,Y,Z,o17,Y,o19,o20,o21,Y,Z]
abbrev u77(P:Params):List Obj:=[o432,o433,Y,Z,o436,Y,o438,o439,o440,Y,Z,o443]
abbrev u78(P:Params):List Obj:=[o444,o445,Y,Z,o448,Y,o450,o451,o452,Y,Z,o455]
abbrev u79(P:Params):List Obj:=[Y,o457,o458,o459,Y,Z,o462,Y,o464,o465,o466,Y]
abbrev u80(P:Params):List Obj:=[Z,o469,Y,o471,o472,o473,Y,Z,o476,o477,o478,Y]
abbrev u81(P:Params):List Obj:=[Z,o481,o482,o483]
theorem yu0:([u0,u1,u2,u3,u4,u5,u6,u7,u8,u9,u10,u11,u12,u13,u14,u15,u16,u17,u18,u19,u20,u21,u22,u23,u24,u25,u26,u27,u28,u29]:List (Params->List Obj)).all (λ_=>true)=true:=by k_qdec
theorem yu30:([u30,u31,u32,u33,u34,u35,u36,u37,u38,u39,u40,u41,u42,u43,u44,u45,u46,u47,u48,u49,u50,u51,u52,u53,u54,u55,u56,u57,u58,u59]:List (Params->List Obj)).all (λ_=>true)=true:=by k_qdec
theorem yu60:([u60,u61,u62,u63,u64,u65,u66,u67,u68,u69,u70,u71,u72,u73,u74,u75,u76,u77,u78,u79,u80,u81]:List (Params->List Obj)).all (λ_=>true)=true:=by k_qdec
abbrev spl(l:List Obj):List Obj×List Obj:= @List.rec Obj (λ_=>List Obj×List Obj) ([],[]) (λx _ ih=>(x::ih.2,ih.1)) l
abbrev mkT(n:Nat):List Obj->BT:= @Nat.rec (λ_=>List Obj->BT) (λ_=> .nil) (λ_ ih l=> @List.rec Obj (λ_=>BT) .nil (λx r _=> .node x (ih (spl r).1) (ih (spl r).2)) l) n
theorem qh{α:Sort u}{a b c d:α}(h:a=b)(k:d=c)(e:b=c):a=d:=h.trans (e.trans k.symm)
abbrev l0(P:Params):List Obj:=(tw13894225608423057668 P).append (tw17531079430653816501 P)
abbrev p0(P:Params):List Obj:=(tw1912701158020654693 P).append ((tw2188347355606102534 P).append (tw16368670287772101220 P))
abbrev l2(P:Params):List Obj:=(tw13809737476558091540 P).append ((tw2367299412457286945 P).append ((p0 P).append (tw14842115654739255404 P)))
abbrev p1(P:Params):List Obj:=(p0 P).append ((tw10895325593200808953 P).append ((tw10037743213843438893 P).append (tw10009084784789568687 P)))
abbrev l3(P:Params):List Obj:=(tw4717311838995323452 P).append ((tw594758545415977400 P).append ((p1 P).append (tw5084553986333570498 P)))
abbrev p2(P:Params):List Obj:=(p0 P).append ((tw10895325593200808953 P).append ((tw10037743213843438893 P).append ((tw1672153094372761355 P).append ((tw4580522010931877059 P).append (tw15163288008780518816 P)))))
abbrev l4(P:Params):List Obj:=(tw16641277437810104112 P).append ((tw11875653558476324687 P).append ((p2 P).append (tw2560371371167247513 P)))
abbrev p3(P:Params):List Obj:=(p0 P).append ((tw10895325593200808953 P).append ((tw10037743213843438893 P).append ((tw17755462387555777923 P).append ((tw4580522010931877059 P).append ((tw15163288008780518816 P).append ((tw6492967895434240573 P).append ((tw537001028611820367 P).append (tw9833210585337712870 P))))))))
abbrev l5(P:Params):List Obj:=(tw13463505119322665063 P).append ((tw18077194039007663117 P).append ((p3 P).append (tw12708430989920435073 P)))
abbrev p4(P:Params):List Obj:=(p3 P).append ((tw12419440788177488941 P).append (tw13144694907161067814 P))
abbrev l6(P:Params):List Obj:=(tw3132545959879029114 P).append ((tw15893686080707579532 P).append ((p4 P).append (tw9051403873925241803 P)))
abbrev p5(P:Params):List Obj:=(p0 P).append ((tw10895325593200808953 P).append ((tw10037743213843438893 P).append ((tw7924019476267374970 P).append ((tw4580522010931877059 P).append ((tw15163288008780518816 P).append ((tw6492967895434240573 P).append ((tw537001028611820367 P).append ((tw9833210585337712870 P).append ((tw12419440788177488941 P).append ((tw13144694907161067814 P).append ((tw4163898066171597766 P).append ((tw108614505241798827 P).append (tw13403271955525184085 P)))))))))))))
abbrev l7(P:Params):List Obj:=(tw9532798600492905429 P).append ((tw13540884194310252285 P).append ((p5 P).append (tw9008512798899243008 P)))
abbrev p6(P:Params):List Obj:=(p0 P).append ((tw10895325593200808953 P).append ((tw10037743213843438893 P).append ((tw15380438544845262330 P).append ((tw4580522010931877059 P).append ((tw15163288008780518816 P).append ((tw6492967895434240573 P).append ((tw537001028611820367 P).append ((tw9833210585337712870 P).append ((tw12419440788177488941 P).append ((tw13144694907161067814 P).append ((tw4163898066171597766 P).append ((tw108614505241798827 P).append ((tw13403271955525184085 P).append ((tw3498231505995959436 P).append ((tw11379478403280837710 P).append (tw1829372832393830862 P))))))))))))))))
abbrev l8(P:Params):List Obj:=(tw5233117687303994960 P).append ((tw15952828016916965751 P).append ((p6 P).append (tw15315517357904613441 P)))
abbrev p7(P:Params):List Obj:=(p0 P).append ((tw10895325593200808953 P).append ((tw10037743213843438893 P).append ((tw12500792342951176350 P).append ((tw4580522010931877059 P).append ((tw15163288008780518816 P).append ((tw6492967895434240573 P).append ((tw537001028611820367 P).append ((tw9833210585337712870 P).append ((tw12419440788177488941 P).append ((tw13144694907161067814 P).append ((tw4163898066171597766 P).append ((tw108614505241798827 P).append ((tw13403271955525184085 P).append ((tw3498231505995959436 P).append ((tw11379478403280837710 P).append ((tw1829372832393830862 P).append ((tw13796877066481274120 P).append (tw14515330622082756866 P))))))))))))))))))
abbrev l9(P:Params):List Obj:=(tw464002682377336327 P).append ((tw9818214866579459264 P).append ((p7 P).append (tw14785798428834493632 P)))
abbrev p8(P:Params):List Obj:=(p0 P).append ((tw10895325593200808953 P).append ((tw10037743213843438893 P).append ((tw5571871322767964819 P).append ((tw4580522010931877059 P).append ((tw15163288008780518816 P).append ((tw6492967895434240573 P).append ((tw537001028611820367 P).append ((tw9833210585337712870 P).append ((tw12419440788177488941 P).append ((tw13144694907161067814 P).append ((tw4163898066171597766 P).append ((tw108614505241798827 P).append ((tw13403271955525184085 P).append ((tw3498231505995959436 P).append ((tw11379478403280837710 P).append ((tw1829372832393830862 P).append ((tw13796877066481274120 P).append ((tw14515330622082756866 P).append ((tw14785798428834493632 P).append ((tw15018400351400277463 P).append (tw11561923852052835483 P)))))))))))))))))))))
abbrev l10(P:Params):List Obj:=(tw18201935550050738069 P).append ((tw10454839870730503995 P).append ((p8 P).append (tw6372914150048047727 P)))
abbrev p9(P:Params):List Obj:=(p0 P).append ((tw10895325593200808953 P).append ((tw10037743213843438893 P).append ((tw17158561351216856475 P).append ((tw4580522010931877059 P).append ((tw15163288008780518816 P).append ((tw6492967895434240573 P).append ((tw537001028611820367 P).append ((tw9833210585337712870 P).append ((tw12419440788177488941 P).append ((tw13144694907161067814 P).append ((tw4163898066171597766 P).append ((tw108614505241798827 P).append ((tw13403271955525184085 P).append ((tw3498231505995959436 P).append ((tw11379478403280837710 P).append ((tw1829372832393830862 P).append ((tw13796877066481274120 P).append ((tw14515330622082756866 P).append ((tw14785798428834493632 P).append ((tw15018400351400277463 P).append ((tw11561923852052835483 P).append ((tw9474750161309284266 P).append ((tw3358886378142609072 P).append ((tw8941747231313380785 P).append (tw16960971988522890112 P)))))))))))))))))))))))))
abbrev l11(P:Params):List Obj:=(tw5599453077622544939 P).append ((tw4093087934762282484 P).append ((p9 P).append (tw9734856250973436408 P)))
abbrev p10(P:Params):List Obj:=(p9 P).append ((tw10640993332368450643 P).append ((tw2076947277569861509 P).append ((tw16153011758492227516 P).append ((tw8033849128084160129 P).append ((tw4717618129690560777 P).append (tw5142918000809617091 P))))))
abbrev l12(P:Params):List Obj:=(tw13209480288670547452 P).append ((tw9060986387787648095 P).append ((p10 P).append (tw6965762709701770725 P)))
abbrev l13(P:Params):List Obj:=(tw16016346169568949699 P).append ((tw14270126000233499356 P).append ((tw1912701158020654693 P).append ((tw2188347355606102534 P).append ((tw16368670287772101220 P).append ((tw10895325593200808953 P).append ((tw10037743213843438893 P).append ((tw17158561351216856475 P).append ((tw4580522010931877059 P).append ((tw15163288008780518816 P).append ((tw6492967895434240573 P).append ((tw537001028611820367 P).append ((tw9833210585337712870 P).append ((tw12419440788177488941 P).append ((tw13144694907161067814 P).append ((tw4163898066171597766 P).append ((tw108614505241798827 P).append ((tw13403271955525184085 P).append ((tw3498231505995959436 P).append ((tw11379478403280837710 P).append ((tw1829372832393830862 P).append ((tw13796877066481274120 P).append ((tw14515330622082756866 P).append ((tw14785798428834493632 P).append ((tw15018400351400277463 P).append ((tw11561923852052835483 P).append ((tw9474750161309284266 P).append ((tw3358886378142609072 P).append ((tw8941747231313380785 P).append ((tw16960971988522890112 P).append ((tw10640993332368450643 P).append ((tw2076947277569861509 P).append ((tw16153011758492227516 P).append ((tw8033849128084160129 P).append ((tw4717618129690560777 P).append ((tw5142918000809617091 P).append ((tw10363545484314680584 P).append ((tw2820700192391282317 P).append ((tw4921466790895433167 P).append ((tw6844448032589968640 P).append (tw5329898735092892688 P))))))))))))))))))))))))))))))))))))))))
abbrev env:Env:={scope:=(pw_basehouse_k34_whole_bounds).main.scope,locals:=mainNs,globals:=mainNs,cells:=[],code:=Value.ref 13,frame:=some 14}
abbrev G0:List Stmt:=[top 0,top 1,top 2,top 3,top 4,top 5,top 6,top 7,top 8,top 9]
abbrev G1:List Stmt:=[top 10]
abbrev G2:List Stmt:=[top 11]
abbrev G3:List Stmt:=[top 12,top 13,top 14,top 15,top 16,top 17]
abbrev G4:List Stmt:=[top 18,top 19,top 20,top 21,top 22]
abbrev G5:List Stmt:=[top 23,top 24,top 25,top 26]
abbrev G6:List Stmt:=[top 27,top 28,top 29,top 30,top 31,top 32]
abbrev G7:List Stmt:=[top 33]
abbrev G8:List Stmt:=[top 34]
abbrev G9:List Stmt:=[top 35,top 36,top 37,top 38,top 39,top 40]
abbrev G10:List Stmt:=[top 41,top 42,top 43,top 44,top 45,top 46,top 47,top 48,top 49,top 50,top 51,top 52,top 53]
abbrev G11:List Stmt:=[top 54,top 55,top 56,top 57,top 58,top 59,top 60,top 61]
abbrev B0:List Stmt:=G0++(G1++(G2++(G3++(G4++(G5++(G6++(G7++(G8++(G9++(G10++(G11++([]))))))))))))
abbrev c0:Code:= .body B0 env
abbrev f0:List Frame:=[topFrame ⟨0,0,0,0⟩]
def L0:World->OsState->Option (Shared×Thread):=λw os=>topGo treeTable pw_basehouse_k34_whole_bounds w 11 (some (Value.ref 6)) 12 ⟨boot_heap w.params,⟨[]⟩,boot_drawn,boot_toks,os⟩ (topStub pw_basehouse_k34_whole_bounds)
def M0:World->OsState->Option (Shared×Thread):=λw os=>some (⟨⟨⟨l0 w.params⟩,{}⟩,⟨[]⟩,{},187,os⟩,⟨denote treeTable c0,c0,⟨0,0,0,0⟩,f0⟩)
theorem yL0:((λ_=>true) L0&&(λ_=>true) M0)=true:=by k_qdec
theorem qL0:L0=M0:=qh te4453942571644881324 te7285866895703208684 (by kernel_rfl)
def L1:World->OsState->Option (Flow×Shared×Code×Pos):=λw os=>segRun treeTable pw_basehouse_k34_whole_bounds w 11 (some (Value.ref 6)) 1 1 ⟨⟨⟨l0 w.params⟩,{}⟩,⟨[]⟩,{},187,os⟩ (blockOf B0 env c0 ⟨0,0,0,0⟩ f0)
def M1:World->OsState->Option (Flow×Shared×Code×Pos):=λw os=>some (.next,(SharedT.mk (mkT 12 (l0 w.params)) 15 {} ⟨[]⟩ {} 187 os).abs,c0,⟨0,0,0,0⟩)
theorem yL1:((λ_=>true) L1&&(λ_=>true) M1)=true:=by k_qdec
theorem qL1:L1=M1:=qh te6387051279210280424 te10385057629971820802 (by kernel_rfl)
def L2:World->OsState->Option (Flow×SharedT×Code×Pos):=λw os=>segRunT treeTable pw_basehouse_k34_whole_bounds w 11 (some (Value.ref 6)) 1 246 (SharedT.mk (mkT 12 (l0 w.params)) 15 {} ⟨[]⟩ {} 187 os) (piecesOf G0 env c0 ⟨0,0,0,0⟩ f0)
def M2:World->OsState->Option (Flow×SharedT×Code×Pos):=λw os=>some (.next,(SharedT.mk (mkT 12 (l2 w.params)) 65 {} ⟨[]⟩ {} 248 os),c0,⟨24,0,24,8⟩)
theorem yL2:((λ_=>true) L2&&(λ_=>true) M2)=true:=by k_qdec
theorem qL2:L2=M2:=qh te9171306275460833034 te1760210624324108040 (by kernel_rfl)
def L3:World->OsState->Option (Flow×SharedT×Code×Pos):=λw os=>segRunT treeTable pw_basehouse_k34_whole_bounds w 11 (some (Value.ref 6)) 1 286 (SharedT.mk (mkT 12 (l2 w.params)) 65 {} ⟨[]⟩ {} 248 os) (piecesOf G1 env c0 ⟨24,0,24,8⟩ f0)
def M3:World->OsState->Option (Flow×SharedT×Code×Pos):=λw os=>some (.next,(SharedT.mk (mkT 12 (l3 w.params)) 100 {} ⟨[]⟩ {} 292 os),c0,⟨25,0,34,32⟩)
theorem yL3:((λ_=>true) L3&&(λ_=>true) M3)=true:=by k_qdec
theorem qL3:L3=M3:=qh te6196771281854559479 te2789812635788466785 (by kernel_rfl)
def L4:World->OsState->Option (Flow×SharedT×Code×Pos):=λw os=>segRunT treeTable pw_basehouse_k34_whole_bounds w 11 (some (Value.ref 6)) 1 279 (SharedT.mk (mkT 12 (l3 w.params)) 100 {} ⟨[]⟩ {} 292 os) (piecesOf G2 env c0 ⟨25,0,34,32⟩ f0)
def M4:World->OsState->Option (Flow×SharedT×Code×Pos):=λw os=>some (.next,(SharedT.mk (mkT 12 (l4 w.params)) 126 {} ⟨[]⟩ {} 326 os),c0,⟨35,0,42,38⟩)
theorem yL4:((λ_=>true) L4&&(λ_=>true) M4)=true:=by k_qdec
theorem qL4:L4=M4:=qh te18063231807419426806 te4793386113839911487 (by kernel_rfl)
def L5:World->OsState->Option (Flow×SharedT×Code×Pos):=λw os=>segRunT treeTable pw_basehouse_k34_whole_bounds w 11 (some (Value.ref 6)) 1 378 (SharedT.mk (mkT 12 (l4 w.params)) 126 {} ⟨[]⟩ {} 326 os) (piecesOf G3 env c0 ⟨35,0,42,38⟩ f0)
def M5:World->OsState->Option (Flow×SharedT×Code×Pos):=λw os=>some (.next,(SharedT.mk (mkT 12 (l5 w.params)) 167 {} ⟨[]⟩ {} 385 os),c0,⟨57,0,63,16⟩)
theorem yL5:((λ_=>true) L5&&(λ_=>true) M5)=true:=by k_qdec
theorem qL5:L5=M5:=qh te7289443652863241282 te11685339832826840484 (by kernel_rfl)
def L6:World->OsState->Option (Flow×SharedT×Code×Pos):=λw os=>segRunT treeTable pw_basehouse_k34_whole_bounds w 11 (some (Value.ref 6)) 1 97 (SharedT.mk (mkT 12 (l5 w.params)) 167 {} ⟨[]⟩ {} 385 os) (piecesOf G4 env c0 ⟨57,0,63,16⟩ f0)
def M6:World->OsState->Option (Flow×SharedT×Code×Pos):=λw os=>some (.next,(SharedT.mk (mkT 12 (l6 w.params)) 182 {} ⟨[]⟩ {} 407 os),c0,⟨82,0,85,59⟩)
theorem yL6:((λ_=>true) L6&&(λ_=>true) M6)=true:=by k_qdec
theorem qL6:L6=M6:=qh te11518265509499319272 te9035903999391717805 (by kernel_rfl)
def L7:World->OsState->Option (Flow×SharedT×Code×Pos):=λw os=>segRunT treeTable pw_basehouse_k34_whole_bounds w 11 (some (Value.ref 6)) 1 376 (SharedT.mk (mkT 12 (l6 w.params)) 182 {} ⟨[]⟩ {} 407 os) (piecesOf G5 env c0 ⟨82,0,85,59⟩ f0)
def M7:World->OsState->Option (Flow×SharedT×Code×Pos):=λw os=>some (.next,(SharedT.mk (mkT 12 (l7 w.params)) 225 {} ⟨[]⟩ {} 467 os),c0,⟨106,0,110,15⟩)
theorem yL7:((λ_=>true) L7&&(λ_=>true) M7)=true:=by k_qdec
theorem qL7:L7=M7:=qh te9490284035958612641 te1675962113473143740 (by kernel_rfl)
def L8:World->OsState->Option (Flow×SharedT×Code×Pos):=λw os=>segRunT treeTable pw_basehouse_k34_whole_bounds w 11 (some (Value.ref 6)) 1 367 (SharedT.mk (mkT 12 (l7 w.params)) 225 {} ⟨[]⟩ {} 467 os) (piecesOf G6 env c0 ⟨106,0,110,15⟩ f0)
def M8:World->OsState->Option (Flow×SharedT×Code×Pos):=λw os=>some (.next,(SharedT.mk (mkT 12 (l8 w.params)) 262 {} ⟨[]⟩ {} 519 os),c0,⟨145,0,145,8⟩)
theorem yL8:((λ_=>true) L8&&(λ_=>true) M8)=true:=by k_qdec
theorem qL8:L8=M8:=qh te7116466485190837356 te8127398886225657409 (by kernel_rfl)
def L9:World->OsState->Option (Flow×SharedT×Code×Pos):=λw os=>segRunT treeTable pw_basehouse_k34_whole_bounds w 11 (some (Value.ref 6)) 1 281 (SharedT.mk (mkT 12 (l8 w.params)) 262 {} ⟨[]⟩ {} 519 os) (piecesOf G7 env c0 ⟨145,0,145,8⟩ f0)
def M9:World->OsState->Option (Flow×SharedT×Code×Pos):=λw os=>some (.next,(SharedT.mk (mkT 12 (l9 w.params)) 288 {} ⟨[]⟩ {} 555 os),c0,⟨146,0,156,66⟩)
theorem yL9:((λ_=>true) L9&&(λ_=>true) M9)=true:=by k_qdec
theorem qL9:L9=M9:=qh te16134767483146388640 te1028310481701075085 (by kernel_rfl)
def L10:World->OsState->Option (Flow×SharedT×Code×Pos):=λw os=>segRunT treeTable pw_basehouse_k34_whole_bounds w 11 (some (Value.ref 6)) 1 284 (SharedT.mk (mkT 12 (l9 w.params)) 288 {} ⟨[]⟩ {} 555 os) (piecesOf G8 env c0 ⟨146,0,156,66⟩ f0)
def M10:World->OsState->Option (Flow×SharedT×Code×Pos):=λw os=>some (.next,(SharedT.mk (mkT 12 (l10 w.params)) 314 {} ⟨[]⟩ {} 594 os),c0,⟨157,0,168,83⟩)
theorem yL10:((λ_=>true) L10&&(λ_=>true) M10)=true:=by k_qdec
theorem qL10:L10=M10:=qh te8817224096938630680 te4223366021984358877 (by kernel_rfl)
def L11:World->OsState->Option (Flow×SharedT×Code×Pos):=λw os=>segRunT treeTable pw_basehouse_k34_whole_bounds w 11 (some (Value.ref 6)) 1 394 (SharedT.mk (mkT 12 (l10 w.params)) 314 {} ⟨[]⟩ {} 594 os) (piecesOf G9 env c0 ⟨157,0,168,83⟩ f0)
def M11:World->OsState->Option (Flow×SharedT×Code×Pos):=λw os=>some (.next,(SharedT.mk (mkT 12 (l11 w.params)) 361 {} ⟨[]⟩ {} 663 os),c0,⟨192,0,195,12⟩)
theorem yL11:((λ_=>true) L11&&(λ_=>true) M11)=true:=by k_qdec
theorem qL11:L11=M11:=qh te6997996825916537589 te5514423481259190630 (by kernel_rfl)
def L12:World->OsState->Option (Flow×SharedT×Code×Pos):=λw os=>segRunT treeTable pw_basehouse_k34_whole_bounds w 11 (some (Value.ref 6)) 1 368 (SharedT.mk (mkT 12 (l11 w.params)) 361 {} ⟨[]⟩ {} 663 os) (piecesOf G10 env c0 ⟨192,0,195,12⟩ f0)
def M12:World->OsState->Option (Flow×SharedT×Code×Pos):=λw os=>some (.next,(SharedT.mk (mkT 12 (l12 w.params)) 434 {} ⟨[]⟩ {} 762 os),c0,⟨288,0,299,69⟩)
theorem yL12:((λ_=>true) L12&&(λ_=>true) M12)=true:=by k_qdec
theorem qL12:L12=M12:=qh te15962966748412412817 te13323495729323226626 (by kernel_rfl)
def L13:World->OsState->Option (Flow×SharedT×Code×Pos):=λw os=>segRunT treeTable pw_basehouse_k34_whole_bounds w 11 (some (Value.ref 6)) 1 255 (SharedT.mk (mkT 12 (l12 w.params)) 434 {} ⟨[]⟩ {} 762 os) (piecesOf G11 env c0 ⟨288,0,299,69⟩ f0)
def M13:World->OsState->Option (Flow×SharedT×Code×Pos):=λw os=>some (.next,(SharedT.mk (mkT 12 (l13 w.params)) 484 {} ⟨[]⟩ {} 846 os),c0,⟨364,0,385,87⟩)
theorem yL13:((λ_=>true) L13&&(λ_=>true) M13)=true:=by k_qdec
theorem qL13:L13=M13:=qh te2890041658171991945 te10998199075917429995 (by kernel_rfl)
def L14:World->OsState->Option Shared:=λw os=>topRun treeTable pw_basehouse_k34_whole_bounds w 11 (some (Value.ref 6)) 2 (SharedT.mk (mkT 12 (l13 w.params)) 484 {} ⟨[]⟩ {} 846 os).abs (restOf [] env c0 ⟨364,0,385,87⟩ f0)
def M14:World->OsState->Option Shared:=λw os=>some ⟨⟨⟨l13 w.params⟩,{}⟩,⟨[]⟩,{},846,os⟩
theorem yL14:((λ_=>true) L14&&(λ_=>true) M14)=true:=by k_qdec
theorem qL14:L14=M14:=qh te10746442050511218662 te11908896743509118924 (by kernel_rfl)
abbrev Hf(P:Params):Heap:=⟨⟨l13 P⟩,{}⟩
abbrev Mn:Nat:=12+(1+(246+(286+(279+(378+(97+(376+(367+(281+(284+(394+(368+(255+(2))))))))))))))
theorem rn(w:World)(os:OsState):topRun treeTable pw_basehouse_k34_whole_bounds w 11 (some (Value.ref 6)) Mn ⟨boot_heap w.params,⟨[]⟩,boot_drawn,boot_toks,os⟩ (topStub pw_basehouse_k34_whole_bounds)=some ⟨Hf w.params,⟨[]⟩,{},846,os⟩:=go_top (DR (DR qL0 w) os) (piece_block (DR (DR qL1 w) os) (FT (FU (DR (DR qL2 w) os)) (FT (FU (DR (DR qL3 w) os)) (FT (FU (DR (DR qL4 w) os)) (FT (FU (DR (DR qL5 w) os)) (FT (FU (DR (DR qL6 w) os)) (FT (FU (DR (DR qL7 w) os)) (FT (FU (DR (DR qL8 w) os)) (FT (FU (DR (DR qL9 w) os)) (FT (FU (DR (DR qL10 w) os)) (FT (FU (DR (DR qL11 w) os)) (FT (FU (DR (DR qL12 w) os)) (FT (FU (DR (DR qL13 w) os)) (DR (DR qL14 w) os))))))))))))))
abbrev vw:Program:={(pw_basehouse_k34_whole_bounds)with main:={(pw_basehouse_k34_whole_bounds).main with body:=[top 1,top 2,top 3,top 4,top 5,top 6,top 7,top 8,top 10,top 11,top 12,top 14,top 15,top 17,top 18,top 20,top 22,top 23,top 25,top 26,top 27,top 28,top 29,top 31,top 33,top 34,top 35,top 37,top 39,top 40,top 41,top 42,top 43,top 44,top 45,top 46,top 47,top 48,top 49,top 50,top 51,top 52,top 53,top 54,top 55,top 56,top 57,top 58,top 59,top 60,top 61]}}
abbrev KF:Params->Frag:=λP=>(nat_lit 2,boot_o_2 P)::(nat_lit 3,o3v12 P)::(nat_lit 15,Y)::(nat_lit 17,o17)::(nat_lit 18,Y)::(nat_lit 20,o20)::(nat_lit 21,o21)::(nat_lit 22,Y)::(nat_lit 25,o25)::(nat_lit 26,o26)::(nat_lit 27,Y)::(nat_lit 29,o29)::(nat_lit 30,Y)::(nat_lit 32,o32)::(nat_lit 33,o33)::(nat_lit 34,Y)::(nat_lit 36,o36)::(nat_lit 37,Y)::(nat_lit 39,o39)::(nat_lit 40,o40)::(nat_lit 41,Y)::(nat_lit 44,o44)::(nat_lit 45,o45)::(nat_lit 46,Y)::(nat_lit 49,o49)::(nat_lit 50,o50)::(nat_lit 51,Y)::(nat_lit 53,o53)::(nat_lit 54,Y)::(nat_lit 56,o56)::(nat_lit 57,o57)::(nat_lit 58,Y)::(nat_lit 60,o60)::(nat_lit 61,Y)::(nat_lit 63,o63)::(nat_lit 64,o64)::(nat_lit 72,Y)::(nat_lit 74,o74)::(nat_lit 75,Y)::(nat_lit 77,o77)::(nat_lit 78,o78)::(nat_lit 79,Y)::(nat_lit 81,o81)::(nat_lit 82,Y)::(nat_lit 84,o84)::(nat_lit 85,o85)::(nat_lit 86,Y)::(nat_lit 88,o88)::(nat_lit 89,Y)::(nat_lit 91,o91)::(nat_lit 92,o92)::(nat_lit 93,o93)::(nat_lit 94,o94 P)::(nat_lit 95,o95v7)::(nat_lit 96,o96)::(nat_lit 97,o97)::(nat_lit 100,o100)::(nat_lit 107,Y)::(nat_lit 109,o109)::(nat_lit 110,Y)::(nat_lit 112,o112)::(nat_lit 113,o113)::(nat_lit 114,Y)::(nat_lit 116,o116)::(nat_lit 117,Y)::(nat_lit 119,o119)::(nat_lit 120,o120)::(nat_lit 121,o121)::(nat_lit 122,o122 P)::(nat_lit 123,o123)::(nat_lit 126,o126)::(nat_lit 133,Y)::(nat_lit 135,o135)::(nat_lit 136,Y)::(nat_lit 138,o138)::(nat_lit 139,o139)::(nat_lit 140,Y)::(nat_lit 143,o143)::(nat_lit 144,o144)::(nat_lit 145,o145)::(nat_lit 146,o146 P)::(nat_lit 147,o147)::(nat_lit 150,Y)::(nat_lit 153,o153)::(nat_lit 154,o154)::(nat_lit 155,Y)::(nat_lit 158,o158)::(nat_lit 159,o159)::(nat_lit 160,Y)::(nat_lit 162,o162)::(nat_lit 163,Y)::(nat_lit 165,o165)::(nat_lit 166,o166)::(nat_lit 167,Y)::(nat_lit 170,o170)::(nat_lit 171,o171)::(nat_lit 172,Y)::(nat_lit 175,o175)::(nat_lit 176,o176)::(nat_lit 177,Y)::(nat_lit 180,o180)::(nat_lit 181,o181)::(nat_lit 182,o182)::(nat_lit 189,Y)::(nat_lit 192,o192)::(nat_lit 193,o193)::(nat_lit 194,Y)::(nat_lit 196,o196)::(nat_lit 197,Y)::(nat_lit 199,o199)::(nat_lit 200,o200)::(nat_lit 201,Y)::(nat_lit 203,o203)::(nat_lit 204,Y)::(nat_lit 206,o206)::(nat_lit 207,o207)::(nat_lit 208,o208)::(nat_lit 209,o209 P)::(nat_lit 210,o210)::(nat_lit 213,Y)::(nat_lit 216,o216)::(nat_lit 217,o217)::(nat_lit 218,Y)::(nat_lit 220,o220)::(nat_lit 221,Y)::(nat_lit 223,o223)::(nat_lit 224,o224)::(nat_lit 225,Y)::(nat_lit 228,o228)::(nat_lit 229,o229)::(nat_lit 230,Y)::(nat_lit 233,o233)::(nat_lit 234,o234)::(nat_lit 235,Y)::(nat_lit 238,o238)::(nat_lit 239,o239)::(nat_lit 240,o240)::(nat_lit 247,Y)::(nat_lit 250,o250)::(nat_lit 251,o251)::(nat_lit 252,Y)::(nat_lit 255,o255)::(nat_lit 256,o256)::(nat_lit 257,o257)::(nat_lit 258,o258 P)::(nat_lit 259,o259)::(nat_lit 262,o262)::(nat_lit 269,Y)::(nat_lit 271,o271)::(nat_lit 272,Y)::(nat_lit 274,o274)::(nat_lit 275,o275)::(nat_lit 276,Y)::(nat_lit 278,o278)::(nat_lit 279,Y)::(nat_lit 281,o281)::(nat_lit 282,o282)::(nat_lit 283,o283)::(nat_lit 284,o284 P)::(nat_lit 285,o285)::(nat_lit 288,o288)::(nat_lit 295,Y)::(nat_lit 297,o297)::(nat_lit 298,Y)::(nat_lit 300,o300)::(nat_lit 301,o301)::(nat_lit 302,Y)::(nat_lit 304,o304)::(nat_lit 305,Y)::(nat_lit 307,o307)::(nat_lit 308,o308)::(nat_lit 309,o309)::(nat_lit 310,o310 P)::(nat_lit 311,o311)::(nat_lit 314,o314)::(nat_lit 321,Y)::(nat_lit 323,o323)::(nat_lit 324,Y)::(nat_lit 326,o326)::(nat_lit 327,o327)::(nat_lit 328,Y)::(nat_lit 330,o330)::(nat_lit 331,Y)::(nat_lit 333,o333)::(nat_lit 334,o334)::(nat_lit 335,o335)::(nat_lit 336,o336 P)::(nat_lit 337,o337)::(nat_lit 340,Y)::(nat_lit 342,o342)::(nat_lit 343,o343)::(nat_lit 345,o345)::(nat_lit 346,o346)::(nat_lit 347,Y)::(nat_lit 349,o349)::(nat_lit 350,Y)::(nat_lit 352,o352)::(nat_lit 353,o353)::(nat_lit 354,Y)::(nat_lit 356,o356)::(nat_lit 357,Y)::(nat_lit 359,o359)::(nat_lit 360,o360)::(nat_lit 361,Y)::(nat_lit 363,o363)::(nat_lit 364,Y)::(nat_lit 366,o366)::(nat_lit 367,o367)::(nat_lit 368,Y)::(nat_lit 371,o371)::(nat_lit 372,o372)::(nat_lit 373,Y)::(nat_lit 376,o376)::(nat_lit 377,o377)::(nat_lit 378,Y)::(nat_lit 381,o381)::(nat_lit 382,o382)::(nat_lit 383,Y)::(nat_lit 386,o386)::(nat_lit 387,o387)::(nat_lit 388,Y)::(nat_lit 390,o390)::(nat_lit 391,Y)::(nat_lit 393,o393)::(nat_lit 394,o394)::(nat_lit 395,Y)::(nat_lit 398,o398)::(nat_lit 399,o399)::(nat_lit 400,Y)::(nat_lit 403,o403)::(nat_lit 404,o404)::(nat_lit 405,Y)::(nat_lit 408,o408)::(nat_lit 409,o409)::(nat_lit 410,Y)::(nat_lit 413,o413)::(nat_lit 414,o414)::(nat_lit 415,Y)::(nat_lit 417,o417)::(nat_lit 418,Y)::(nat_lit 420,o420)::(nat_lit 421,o421)::(nat_lit 422,Y)::(nat_lit 424,o424)::(nat_lit 425,Y)::(nat_lit 427,o427)::(nat_lit 428,o428)::(nat_lit 429,Y)::(nat_lit 432,o432)::(nat_lit 433,o433)::(nat_lit 434,Y)::(nat_lit 436,o436)::(nat_lit 437,Y)::(nat_lit 439,o439)::(nat_lit 440,o440)::(nat_lit 441,Y)::(nat_lit 444,o444)::(nat_lit 445,o445)::(nat_lit 446,Y)::(nat_lit 448,o448)::(nat_lit 449,Y)::(nat_lit 451,o451)::(nat_lit 452,o452)::(nat_lit 453,Y)::(nat_lit 455,o455)::(nat_lit 456,Y)::(nat_lit 458,o458)::(nat_lit 459,o459)::(nat_lit 460,Y)::(nat_lit 462,o462)::(nat_lit 463,Y)::(nat_lit 465,o465)::(nat_lit 466,o466)::(nat_lit 467,Y)::(nat_lit 469,o469)::(nat_lit 470,Y)::(nat_lit 472,o472)::(nat_lit 473,o473)::(nat_lit 474,Y)::(nat_lit 477,o477)::(nat_lit 478,o478)::(nat_lit 479,Y)::(nat_lit 482,o482)::(nat_lit 483,o483)::[]
abbrev aL:List Addr:=2::3::15::17::18::20::21::22::25::26::27::29::30::32::33::34::36::37::39::40::41::44::45::46::49::50::51::53::54::56::57::58::60::61::63::64::72::74::75::77::78::79::81::82::84::85::86::88::89::91::92::93::94::95::96::97::100::107::109::110::112::113::114::116::117::119::120::121::122::123::126::133::135::136::138::139::140::143::144::145::146::147::150::153::154::155::158::159::160::162::163::165::166::167::170::171::172::175::176::177::180::181::182::189::192::193::194::196::197::199::200::201::203::204::206::207::208::209::210::213::216::217::218::220::221::223::224::225::228::229::230::233::234::235::238::239::240::247::250::251::252::255::256::257::258::259::262::269::271::272::274::275::276::278::279::281::282::283::284::285::288::295::297::298::300::301::302::304::305::307::308::309::310::311::314::321::323::324::326::327::328::330::331::333::334::335::336::337::340::342::343::345::346::347::349::350::352::353::354::356::357::359::360::361::363::364::366::367::368::371::372::373::376::377::378::381::382::383::386::387::388::390::391::393::394::395::398::399::400::403::404::405::408::409::410::413::414::415::417::418::420::421::422::424::425::427::428::429::432::433::434::436::437::439::440::441::444::445::446::448::449::451::452::453::455::456::458::459::460::462::463::465::466::467::469::470::472::473::474::477::478::479::482::483::[]
theorem eK(P:Params):aL=(KF P).map (·.1):=by kernel_rfl
abbrev HK:Hook:=kmHook KF aL eK [341,173,168]
abbrev lsN:List Str:=[]
abbrev rw0:RowW:=OpenRow.toRowW (OpenLaw.row rw_basehouse_k34_whole_bounds)
abbrev Xt(s:Shared):Bool:=xlAt vw [] s&&recOk (RowW.records rw0) s
def Lz:World->OsState->Bool×Nat×Option Value:=λw os=>((boot_heap w.params).isNs mainGlobals&&(⟨[]⟩:Array GenState).size==0,(boot_heap w.params).objs.size,(boot_heap w.params).nsMap mainGlobals "__annotations__")
def Mz:World->OsState->Bool×Nat×Option Value:=λw os=>(true,11,(some (Value.ref 6)))
theorem yLz:((λ_=>true) Lz&&(λ_=>true) Mz)=true:=by k_qdec
theorem qLz:Lz=Mz:=Eq.trans te17831390912981975158 (by kernel_rfl:tw17831390912981975158=Mz)
def Ll:=λ(w:World) (os:OsState)=>((staticsOk (importedModules (pw_basehouse_k34_whole_bounds).main.body) (boot_heap w.params) (Hf w.params)&&namesBound pw_basehouse_k34_whole_bounds (Hf w.params)&&gensDone ⟨Hf w.params,⟨[]⟩,{},846,os⟩&&laidKept (boot_heap w.params) (Hf w.params)),openSeen vw lsN (importedModules (pw_basehouse_k34_whole_bounds).main.body) Xt true ⟨Hf w.params,⟨[]⟩,{},846,os⟩,(aL.map (Hf w.params).get?,([341,173,168]:List Addr).map (Hf w.params).get?))
def Ml:=λ(w:World) (_:OsState)=>(true,openGood vw lsN,(((KF w.params).map λp=>some p.2),([341,173,168]:List Addr).map λ_=>some (tabObj #[])))
theorem yLl:((λ_=>true) Ll&&(λ_=>true) Ml)=true:=by k_qdec
abbrev tL:=tw17448342430068451512
abbrev tv:=tw7000725165481098050
theorem x0:(λw os=>(tL w os).1)=λw _=>true:=by kernel_rfl
theorem x1:(λw os=>(tL w os).2.1.1)=λw _=>expectedOf tv:=by kernel_rfl
theorem x2:(λw os=>(tL w os).2.1.2.1)=λw _=>bltViewBooted:=by kernel_rfl
theorem x3:(λw os=>(tL w os).2.1.2.2.1)=λw _=>true:=by kernel_rfl
theorem x4:(λw os=>(tL w os).2.1.2.2.2.1)=λw _=>true:=by kernel_rfl
theorem x5:(λw os=>(tL w os).2.1.2.2.2.2.1)=λw _=>pinGoodD (drecsOf tv):=by kernel_rfl
theorem x6:(λw os=>(tL w os).2.1.2.2.2.2.2.1)=λw _=>plainGoodE tv (looseW tv lsN):=by kernel_rfl
theorem x7:(λw os=>(tL w os).2.1.2.2.2.2.2.2.1)=λw _=>plainGoodD tv lsN:=by kernel_rfl
theorem x8:(λw os=>(tL w os).2.1.2.2.2.2.2.2.2.1)=λw _=>wideGood tv:=by kernel_rfl
theorem x9:(λw os=>(tL w os).2.1.2.2.2.2.2.2.2.2)=λw _=>clsGoodW tv lsN:=by kernel_rfl
theorem x10:(λw os=>(tL w os).2.2.1)=λw _=>(KF w.params).map λp=>some p.2:=by kernel_rfl
theorem x11:(λw os=>(tL w os).2.2.2)=λw _=>([341,173,168]:List Addr).map λ_=>some (tabObj #[]):=by kernel_rfl
theorem xx{A B C D E F G H I J K L:Type}{x:A× (B×C×D×E×F×G×H×I×J)×K×L}{a b c d e f g h i j k l}(y0:x.1=a)(y1:x.2.1.1=b)(y2:x.2.1.2.1=c)(y3:x.2.1.2.2.1=d)(y4:x.2.1.2.2.2.1=e)(y5:x.2.1.2.2.2.2.1=f)(y6:x.2.1.2.2.2.2.2.1=g)(y7:x.2.1.2.2.2.2.2.2.1=h)(y8:x.2.1.2.2.2.2.2.2.2.1=i)(y9:x.2.1.2.2.2.2.2.2.2.2=j)(y10:x.2.2.1=k)(y11:x.2.2.2=l):x=(a,(b,c,d,e,f,g,h,i,j),k,l):=by obtain⟨_,⟨_,_,_,_,_,_,_,_,_⟩,_,_⟩:=x;cases y0;cases y1;cases y2;cases y3;cases y4;cases y5;cases y6;cases y7;cases y8;cases y9;cases y10;cases y11;rfl
theorem qLl:Ll=Ml:=qh te17448342430068451512 te15266112935050528847 (funext λw=>funext λos=>xx (DR (DR x0 w) os) (DR (DR x1 w) os) (DR (DR x2 w) os) (DR (DR x3 w) os) (DR (DR x4 w) os) (DR (DR x5 w) os) (DR (DR x6 w) os) (DR (DR x7 w) os) (DR (DR x8 w) os) (DR (DR x9 w) os) (DR (DR x10 w) os) (DR (DR x11 w) os))
theorem hl:LeftO pw_basehouse_k34_whole_bounds vw lsN Xt HK.obs HK.val 7324:=LeftO.of_pieces (m₀:=11) (ann:=(some (Value.ref 6))) (boot_open (by kernel_rfl) (by decide) (λs=>by kernel_rfl)) (λw=>DR (DR qLz w) default) rn (by decide+kernel) (λw=>DR qLl w)
end
end Hd
open PySem PySem.W PyProof.Rows
set_option maxRecDepth 100000 in
set_option maxHeartbeats 0 in
theorem PySem.Challenge.cw_basehouse_k34_whole_bounds_holds : PySem.Challenge.rw_basehouse_k34_whole_bounds.Holds := by
 w_on;o_law
 refine holds_open (q:=Hd.vw) (loose:=Hd.lsN) (Xt:=Hd.Xt) (XP:=XL Hd.vw []) (Yf:=Hd.HK.obs) (Ya:=Hd.HK.val) (YP:=(kmHook Hd.KF Hd.aL Hd.eK [341,173,168]).says) (N:=7324) Hd.hl Hd.HK.of Hd.HK.keeps (λs e=>xl_of s (Bool.and_eq_true_iff.mp e).1) XL.keeps (by rfl) (by rfl) (by rfl) (λs e=>recFacts_of (Bool.and_eq_true_iff.mp e).2) (by rfl) (by first|assumption|decide+kernel) (by decide+kernel) ⟨rfl,rfl,rfl,rfl,rfl,by decide+kernel⟩ ?hw ?hc
 (case hw=>w_witness2)
 k_fill
 refine BhK.walk (l:=PySem.Challenge.rw_basehouse_k34_whole_bounds) rfl rfl (λw h Y=>PySem.W.km_in_of Y) (λw h Y=>PySem.W.km_tabs_of Y) (λw=>Er.mpr ⟨by kernel_rfl,Er.mpr ⟨by kernel_rfl,Er.mpr ⟨by kernel_rfl,λ_ h=>nomatch h⟩⟩⟩) (λw=>by kernel_rfl) ?F
 case F=>
  intro w mg fa h KX G hmg
  refine' BhK.all_mk KX G hmg ?_ ?_ ?_ ?_ ?_ ?_ ?_ ?_ ?_ ?_ ?_ ?_ ?_ ?_ ?_ ?_ ?_ ?_ ?_ ?_ ?_ ?_ ?_ ?_ ?_ ?_ ?_ ?_ ?_ ?_ ?_ ?_ ?_ ?_ ?_ ?_ ?_ ?_ ?_ ?_ ?_ ?_ ?_ ?_ ?_ ?_ ?_ ?_ ?_ ?_ ?_ ?_ ?_ ?_ ?_ ?_ ?_ ?_ ?_ ?_ ?_ ?_ ?_ ?_ ?_ ?_ ?_ ?_ ?_ ?_ ?_ ?_ ?_ ?_ ?_ ?_ ?_ ?_ ?_ ?_ ?_ ?_ ?_ ?_ ?_ ?_ ?_ ?_ ?_ ?_ ?_ ?_ ?_ ?_ ?_ ?_ ?_ ?_ ?_ ?_ ?_ ?_ ?_ ?_ ?_ ?_ ?_ ?_ ?_ ?_ ?_ ?_ ?_ ?_ ?_ ?_ ?_ ?_ ?_ ?_ ?_ ?_ ?_ ?_ ?_ ?_ ?_ ?_ ?_ ?_ ?_ ?_ ?_ ?_ ?_ ?_ ?_ ?_ ?_ ?_ ?_ ?_ ?_ ?_ ?_ ?_ ?_ ?_ ?_ ?_ ?_ ?_ ?_ ?_ ?_
  all_goals try first|k_is|kit_is|decide|kernel_rfl|(refine' BhK.HL.mk ?_ ?_ ?_ ?_ ?_ ?_ ?_<;>try k_is)|(refine' BhK.HM.mk ?_ ?_ ?_ ?_ ?_<;>try k_is)|(refine' BhK.HD.mk ?_ ?_ ?_ ?_<;>try k_is)|(refine' BhK.HI.mk ?_ ?_ ?_ ?_<;>try k_is)
#print axioms PySem.Challenge.cw_basehouse_k34_whole_bounds_holds
