import PyProof.Rows.All
import Wide.All
import OpenK.AllK
import Wide.FinOn
import Lean
import PyProof.EqAt
import PyProof.EqKinds
import PyProof.TupleCall
import PyProof.AttrMissHeap
import KE.KIntText
import PyProof.Rows.Range3
import PyProof.EqKinds
import PySem.Challenge.RW_basehouse_k61_desk_houses
set_option maxHeartbeats 4000000
set_option Elab.async false
set_option compiler.extract_closed false
set_option linter.all false
set_option maxRecDepth 100000
open PySem.W(Frag instObj methodObj hideAll lookIn plainGet hasDictIn findIn isFn takerIn makesIn emptyDict keepIn specialIn kitOne fnOf codeIn nsIn excIn)
open PySem renaming Program->rj,Shared->rz,Around->tj,World->t4,wpAny_bind->RC,wpAny_pure->RS,mem_of_lookup->SH,wpAny_truthy_bool->Th,codeAny_builtin->Tx,wpAny_mono->TZ,wpAny_call_entry->T3,wpAny_setField->Ug,wpAny_Call_Name_kw->Uj,wpAny_ite_split->Up,wpAny_holding->Ur,wpAny_newObj_type->Uu,wpAny_askSetting->UA,wpAny_getItem_str_slice->UE,wpAny_callSpecial?_slot->UH,wpAny_execs_nil->UI,tupleKind_room_in1->UN,wpAny_pyIter_list->UT,codeAny_mono->UX,plainId_quiet->U8,wpAny_passesOwn->Vc,typeIs_str->Vs,boot_len->Vu,wpAny_pyIter_enum->Vy,builtinLookup_eq_fast->VI,post_val_or_str->VO,wpAny_fieldsOf->V2,wpAny_newList->Wj,wpAny_attempt->Wl,strLen_append->Wn,call_meets->Ww,wpAny_execs_cons->WB,wpAny_typeOf->WK,pushCells_keeps->WY,typeLookup_type->WZ,wpAny_field->W0,SetTable->dz,Params->aab,starEach->aad,wpAny->aag,mainGlobals->aak,compareOp->aal,cellsFrom->aam,strIterType->aan,backTo->aar,treeTable->aau,attributeBase->aay,OsState->aaA,behindInMarks->aaB,keywordEach->aaC,sysModules->aaE,binaryOp->aaF,foldedSetIterable->aaJ,swapsWith->aaS,intKind->aaU,codeAny->aaV,World->aaX,Builtin->aa1,backToKw->aa2,assignEach->aa4,getMethod->aa5,sliceBounds->aa8,pushCells->aa9,bootBuiltins->aba,Str->abc,pyNext->abd,pickOrder->abf,holding->abi,Value->abj,rawInt->abk,noteFrame->abo,callWith->abr,wpAny_letOwnedTupleGo_enum->abt,relabel->abw,valueAt->abx,wpAny_comprehension_free->abB,tupleKind->abC,bindArgs->abE,wpAny_Call_method0_late->abF,Paired->abK,builtinsNs->abM,standAt->abO,wpAny_pyNext_list_item->abP,wpAny_pyNext_range_end->abQ,wpAny_pyIter_rangeiter->abR,setEntries->abZ,letOwnedTupleGo->ab4,wpAny_isTrue_Compare1->ab6,wpAny_pyNext_list_end->ab7,IsRangeIter->ach,subscripted->acj,newFunctionEnv->ack,wpAny_seqItems->acm,wpAny_runValue->aco,relayAll->acp,isSubtype_type->acq,callerA->acw,evalArgs_none->acz,wpAny_pyIter_range->acI,wpAny_call->acJ,PlainAttrs->acK,getattributeRaised->acO,wpAny_rule->acP,setsByText->acR,Within->acT,wpAny_assign_Name->acU,BindsTo->ac2,NameKind->ac3,getItem->ac5,slot_list_getitem->ac6,Keyword->ac7,passOn->ac8,call_meetsIn->ac9,wpAny_storeSet_of->ada,fits_of_scanBound->adb,wpAny_setState_of->ade,wpAny_pyIter_slot->adg,setNext->adh,slotArgs->adi,assign->adn,pyIter->ado,wpAny_pyIter_zip->ady,wpAny_getItem_of->adA,wpAny_isInstance->adD,wpAny_Try_except->adF,atKey->adK,Addr->adT,wpAny_Name->adU,wpAny_load->adV,bindL->adY,bindC->adZ,typeLookup->ad0,call->ad3,entryFor->aea,intText?->aee,Shared->aer
open List renaming length_map->My,mem_of_getElem?->RG,mem_cons_self->RH,mem_cons_of_mem->RI,mem_map->RM,map_map->RP,getElem?_eq_getElem->RR,mem_cons->RT,getElem?_map->RU,length_range->RW,getElem?_eq_some_iff->RX,mem_singleton->RY,mem_range->R1,length_cons->R3,length_append->R4,map_append->R6,mem_append->R9,filter_eq_self->Sd,mem_append_right->Sf,map_cons->Sg,size_toArray->Si,getD_eq_getElem?_getD->Sj,length_take->Sk,mem_filter->Sn,length_eq_zero_iff->Sx,length_filter_le->SA,foldl_cons->SD,mem_append_left->SF,map_congr_left->SI,getElem?_range->SJ,take_length->SM,getElem?_of_mem->SO,getElem?_append_left->SR,all_eq_true->SU,length_drop->SW,getElem_mem->SX,take_add_one->SY,foldl_append->S0,getElem?_eq_none->S6,getElem?_append_right->S8,append_nil->Tc,range_succ->Td,lookup_cons->Tf,filter_cons->Tg,any_eq_true->Tu,filter_append->TB,append_assoc->TK,nodup_cons->TM,filterMap_cons->TQ,take_of_length_le->TY,map_id->T6,length_nil->T9,mem_of_mem_take->Ua,length_pos_of_mem->Ui,find?_cons->Uo,filter_congr->Ut,forall_mem_cons->Uw,not_mem_nil->Uy,length_erase_of_mem->Uz,map_eq_nil_iff->UD,ext_getElem?->UU,length_replicate->UY,take_append_drop->U0,range_eq_range'->U3,isEmpty_nil->U4,any_cons->U5,getElem?_eq_none_iff->Vg,mem_filterMap->Vi,getElem?_take_of_lt->Vk,zip_cons_cons->Vp,zip_nil_right->Vq,filter_cons_of_neg->Vw,nodup_append->Vz,pairwise_map->VA,flatten_cons->VC,sum_cons->VD,cons_append->VE,mem_erase_of_ne->VQ,eq_nil_iff_forall_not_mem->VT,filter_map->VU,mem_of_mem_drop->VY,length_eraseIdx_of_lt->Wm,map_drop->Wq,map_take->Wr,any_eq_false->Wt,map_nil->WC,range'_succ->WN,getElem?_replicate->WR,filter_cons_of_pos->WW,of_mem_zip->WX,drop_drop->W6,all_cons->Xb,range'->aaD,replicate->aaM,lookup->aa6,length->aa7,getElem?_set_self->abN,map_eq_append_iff->ab1,filter_eq_nil_iff->ab2,length_singleton->ab8,getElem?_set_ne->acg,map_eq_cons_iff->acr,getElem?_drop->acN,all_map->adm,mem_flatten->adH,foldl_map->ad6,drop_zero->ad7,Nodup->ad9,map->aeg,filter->aeJ
open Int renaming toNat_natCast->RA,eq_ofNat_of_zero_le->Sl,zero_add->Sy,natCast_nonneg->S1,emod_lt_of_pos->UO,one_mul->Vb,emod_nonneg->Vf,dvd_zero->Vo,mul_nonneg->V4,mul_one->V6,ofNat_dvd_left->Wc,fdiv_eq_ediv_of_nonneg->Wh,zero_dvd->WM,emod_eq_zero_of_dvd->WU,dvd_of_emod_eq_zero->WV,mul_le_mul->W8,sub_self->adj,natCast_mul->adQ,natAbs_mul->aeb,le_of_dvd->aen,toNat->aeq,sub_emod->aev,mul_emod->aew,mul_zero->aex
open Nat renaming le_trans->RB,lt_of_le_of_lt->RD,le_refl->RJ,lt_of_lt_of_le->RK,pow_le_pow_right->R7,eq_of_testBit_eq->Sa,ne_of_lt->Sb,succ_le_succ->Sh,testBit_and->Sr,pow_pos->Su,testBit_lt_two_pow->Sv,zero_le->Sw,xor_assoc->Sz,add_le_add_left->SE,testBit_two_pow_sub_one->SK,zero_testBit->SN,or_lt_two_pow->SQ,lt_irrefl->S2,lt_succ_self->S3,testBit_or->Ta,xor_self->To,lt_trans->Tp,testBit_xor->Tr,le_of_not_lt->Ts,testBit_div_two_pow->TJ,le_antisymm->TL,sub_lt_sub_left->TU,testBit_two_pow->TV,le_of_lt->TX,lt_of_not_le->T2,add_le_add->T5,ne_of_gt->T7,pow_lt_pow_right->T8,lt_succ_of_lt->Uc,le_succ->Uh,xor_zero->Uk,le_of_succ_le->Uv,zero_add->Ux,min_eq_left->UK,or_assoc->UZ,lt_pow_two_of_testBit->Vd,not_lt_zero->Ve,xor_comm->Vl,pos_of_ne_zero->Vm,testBit_eq_decide_div_mod_eq->VF,le_add_right->VG,and_le_left->VN,zero_xor->VP,mod_lt->VR,and_two_pow_sub_one_eq_mod->VV,mul_le_mul->V5,pow_add->V7,lt_of_le_of_ne->Wa,and_one_is_mod->We,not_lt->Wy,pow_succ->WD,not_lt_of_le->WH,add_comm->WJ,mul_comm->WO,zero_or->W2,log2_lt->W3,mul_add->W4,mul_one->W5,toDigits->aaP,div_div_eq_div_mul->abV,div_lt_iff_lt_mul->ab9,add_le_add_right->acs,mul_le_mul_left->acC,le_of_eq->acW,succ_mul->adl,min_le_right->adu,succ_ne_self->adx,min_eq_right->adz,gcd_dvd_left->adC,div_eq_of_lt->adE,mod_eq_of_lt->adG,or_comm->adJ,strongRecOn->adO,toList_repr->adP,sub_le->ad2,add_zero->aey
open PySem.Heap renaming get?_push_of_some->RN,lt_size->R0,get?_push_size->R8,size_push->S7,get?_update_self->Tj,get?_update_other->Tv,SameBut->aas,FlyingW->abU,MadeExcOf->ad5,ExtBut->aeI
open Bool renaming false_ne_true->RO,and_eq_true->RZ,not_eq_true'->SG,eq_iff_iff->SV,or_false->S9,false_eq_true->Tz,or_eq_true->TN,true_and->T1,eq_false_iff->Us,not_true->U9,false_and->Vr,and_false->Vt,and_eq_true_iff->VW,or_true->WI,xor_false->ad8,not_false->aej
open Option.some renaming inj->Sm
open Classical renaming byContradiction->So,choose_spec->ace
open Array renaming length_toList->Sq,getElem?_eq_getElem->SS,getElem?_toList->Tn,getElem?_eq_some_iff->U7,size_extract->Wd,getElem?_extract->abX,getElem?_eq_none->ab0,mem_toList_iff->aci,getElem?_push->acA,append_assoc->acG,getD->acQ,toList_push->adf,toList->aes
open PyProof.Rows renaming callWith_type1->S5,boot_int->Uq,cps_toList_append->UL,boot_min->U1,firstMet_succ->Va,boot_tuple->Vx,boot_all->VJ,boot_set->VL,firstMet_any->WA,boot_sorted->WQ,firstMet->aai,firstMet->aaN,envOfC->aaT,IntsAre->aa0,AllBare->abh,envOfC->abl,seqObj->abz,step_dedup->abI,subscriptTail_builtinR->abT,boot_list->ab3,boot_max->acd,entry_proto_collect'->acn,subscriptTail->acD,firstMet_succ->acE,slice_to_min_closes->adk,callWith_builtin1->adt,entry_list_iadd'->adB,boot_isinstance->adR,boot_range->adW,Subscript_->ad1,slice_from_eq->aeh,firstMet_zero->aei,step_length->aep,split_pos->aeu,boot_dict->aez,boot_any->aeA,boot_str->aeB,boot_sum->aeC,OwnCls->aeL
open PySem.Obj renaming data_mapFields->Te,isFreed_of_fields->Um,cls_mapFields->Wv,mapFields->aby,mapSeq->acL,putSet->aed
open True renaming intro->Ti
open PySem.W renaming kia_one->Tq,callWith_K->T4,piece_app->Ud,segRun_of->Ue,methodCall_KW->Ul,hideAll_get->UB,of_hideAll->Vh,plainGet_of->VZ,mg_of->Wi,SharedT->aaq,keepIn->aaG,piecesOf->aaQ,segRunT->aa3,kitOne->abb,findIn->abe,boot_heap->abp,instObj->abL,cellsFrom_some->abS,OpenLaw->ab5,hideAll_none->acf,hideAll->acv,callWith_K0->acy,plainOver->acV,kitx_list->acX,kitx_dict->acY,fnOf->ac4,handedIn->adp,specialIn->adq,codeIn->ads,takesIn->adL,findCls->adM,readsIn->adN,plainGet->adX,exmOne->aef,mroIn->ael,WalkO->aem
open PySem.Heap.SameBut renaming update->Tw,extBut->acB,refl->aeM
open PySem.F renaming called_set->TC,plainAttrs_str->UR,slot_list_getattribute->Vn,slot_dict_get->VH,args_str_split_2->V9,slot_str_startswith->Wf,type_str_startswith->Wg,entry_str_split->Wu,slot_dict_getitem->Wx,plain_extend_loop->Wz,slot_str_split->WE,slot_dict_values->WL,args_dict_get_3->WS,plainAttrs_dict->WT,entry_dict_get->abW,plain_set_new->aca,slot_set_iter->acb
open Ne renaming symm->TF
open PySem.Around renaming under_plainId->TH,under->acZ
open PySem.Calls renaming callWith_builtin->UP,evalArgs_plain->VM,spliced_cons->V8,Name_function_global->abq,call_function_entry->abu,Constant_str->acH,spliced_nil->ac1
open Option renaming map_eq_some_iff->UQ,isSome_iff_exists->Vj,isSome_map->VB,map_some->VS,isSome_some->acM,toList_some->acS,getD_none->adv,getD_some->adw,none->aeH
open PySem.World renaming withFollow_self->U2
open Or renaming inl->U6,inr->ad4
open PyProof.Rows.F renaming plain_set_update_loop->Vv
open List.Perm renaming refl->V3
open PySem.Code renaming quiet_builtin->Wb,isFrame->ac0,frames->aeF
open PySem.Value renaming isInt_shape->Ws,ref->aaa,type->aae,none->aav,int->aaZ,str->acu,bool->acF,float->adI,isStrOf->aek,isInt->aeD,bytes->aeE
open PySem.Challenge renaming pw_basehouse_k61_desk_houses->aac,pw_basehouse_k61_desk_houses->abH,rw_basehouse_k61_desk_houses->abJ
open PySem.Str renaming ofString->aaf,empty->abD,join->abG
open PySem.SetTable renaming below->aah,grown->aaO,insertAt->aaW,has->abY,Probe->aec,slot->aeo
open PySem.Builtin renaming bitAnd->aaj,bitOr->aao,bitXor->aaY
open PySem.NumText renaming digitsVal->aap,digitsVal->aaI
open PySem.Data renaming cls->aat,cell->abn,fields->abv,seq->aeG
open Sum renaming inl->aaw,inr->aax
open PySem.Builtin.List renaming listExtendWith->aaz,listLengthHint->abm,listSameRef->abA
open PySem.Txt renaming slice->aaH,join->aaK,split->acx,slice_le->aet
open PySem.Builtin.Range renaming rangeSize->aaL,rangeFitsLong->adS,small->aeK
open Unit renaming unit->aaR
open Char renaming toNat->abg
abbrev gj:=Array (Option abj)
abbrev gs:=abj->aer->Prop
abbrev hA:=List (abc×PySem.NameKind)
abbrev hP:=Unit->aer->Prop
abbrev jn:=abc->Option abj
abbrev n5:=Array (Int×abj)
abbrev n7:=List (adT×PySem.Obj)
abbrev oD:=List (abc×adT)
abbrev oS:=List (List Int)
abbrev pa:=Option adT
abbrev pj:=Array abj
abbrev pk:=List abj
abbrev pD:=List PySem.Expr
abbrev qq:=List abc
abbrev qs:=List Nat
abbrev qR:=List Int
abbrev q7:=List PySem.Env
abbrev sh:=String
noncomputable section
open List(range)
open PySem.Builtin(bitNot)
open PySem.Builtin.Int(intBits)
local macro_rules|`(tactic|show$e)=>`(tactic|refine$e)
open Lean in
def zzN(k:Name)(l:List Syntax):Syntax:=mkNode k l.toArray
open Lean in
def zzO(s:Syntax):=zzN `null [s]
open Lean Parser.Tactic in
def zzP(g:Syntax->Syntax)(t:Syntax):Syntax:=if t.isIdent then zzN ``rcasesPat.one [t] else if t.isOfKind ``Parser.Term.tuple then zzN ``rcasesPat.tuple [mkAtom "⟨",mkNullNode (mkSepArray ((zzO t[1][0]).getArgs++t[1][2].getSepArgs|>.map fun u=>zzN ``rcasesPatLo [zzN ``rcasesPatMed [zzO (g u)],mkNullNode]) (mkAtom ",")),mkAtom "⟩"] else t.setKind ``rcasesPat.ignore
open Lean in
def zzI(e:Term):Nat:=e.raw.isNatLit?.getD 0
open Lean in
def zzC(c:Char):List Nat:=match c with|'3'=>[0,0,0,2,2]|'7'=>[0,2]|'8'=>[0,0,2,2]|'4'=>[6]|'6'=>[10]|'1'=>[0]|'2'=>[2]|_=>[16]
open Lean Parser.Tactic in
local macro_rules|`(tactic|let$d:letDecl)=>let c:=d.raw[0];if c.isOfKind ``Parser.Term.letPatDecl then pure (zzN ``obtain [mkAtom "obtain",zzO (zzN ``rcasesPatMed [zzO (zzP (zzP (zzP id)) c[0])]),mkNullNode,zzN `null [mkAtom ":=",zzO c[4]]]) else`(tactic|have$d:letDecl)
open Lean in
local macro_rules|`(#[$x,*])=>do{let z:=x.getElems.toList;let e:=z.getLastD ⟨.missing⟩;let t<-`((by simpa using $e,_,rfl,by decide +kernel,∅,by simp,?_,λ_ _ _ _ h=>by rcases h with⟨⟩;subst_vars;rfl,_,()));let a:=t.raw[1][2];let k:=match z with|[e]=>zzI e|[b,_]=>if zzI b==5 then 10 else 0|_=>0;pure (if k==9 then a[4] else if k==5 then a[8] else if k==6 then a[12] else if k==10 then t.raw[1][0] else zzN ``Parser.Term.anonymousCtor [mkAtom "⟨",mkNullNode (mkSepArray (z.flatMap fun e=>if zzI e==0 then [e.raw] else (toString (zzI e)).toList.flatMap fun c=>(zzC c).map fun i=>a[i]).toArray (mkAtom ",")),mkAtom "⟩"])}
local macro_rules|`(tactic|show#[$x,*])=>`(tactic|refine#[$x,*])
local macro_rules|`(#v[$x,*])=>`(List.toArray [$x,*])
local macro_rules|`(())=>`(by lia)
local macro_rules|`(∅)=>`(by decide)
local macro_rules|`(⋯)=>`(by rfl)
noncomputable abbrev fv:List String:=["enumerate","zip","dict_itemiterator","dict_reverseitemiterator","odict_iterator","itertools.zip_longest","itertools.pairwise"]
abbrev Xc:="list"
abbrev Xd:="__debug__"
abbrev Xe:="many"
abbrev Xf:="set_iterator"
abbrev Xg:="object.__class__"
abbrev Xh:="range"
abbrev Xi:="set-order"
abbrev Xj:="enumerate"
abbrev Xk:="dict"
abbrev Xl:="tuple"
abbrev Xm:="method_descriptor"
abbrev Xn:="type.__call__"
abbrev Xo:="set_iterator.__next__"
abbrev Xp:="set_iterator.__iter__"
abbrev Xq:="rings"
abbrev Xr:="everything"
abbrev Xu:="bases"
abbrev Xv:="str_ascii_iterator"
abbrev Xw:="abcdefghijklmnopqrstuvwxyz"
abbrev Xx:="rank"
abbrev Xy:="getset_descriptor.__get__"
abbrev Xz:="flats"
abbrev XA:="set"
abbrev XB:="dict.update.loop"
abbrev XC:="__next__"
abbrev XD:="__name__"
abbrev XE:="table"
abbrev XF:="sorted"
abbrev XG:="same"
abbrev XH:="list.__iadd__"
abbrev XI:="isinstance"
abbrev XJ:="StopIteration"
abbrev XM:="str_iterator"
abbrev XN:="frees"
abbrev XO:="drawn"
abbrev XQ:="closed"
abbrev RE:=@decide_eq_true
abbrev RF:=@if_pos
abbrev RL:=@decide_eq_false
abbrev RQ:=@if_neg
abbrev RV:=@of_decide_eq_true
abbrev R5:=@congrFun
abbrev Se:=@congrArg
abbrev Ss:=@decide_eq_true_iff
abbrev S4:=@decide_eq_decide
abbrev Ub:=@decide_eq_true_eq
abbrev UC:=@beq_eq_false_iff_ne
abbrev UG:=@decide_eq_false_iff_not
abbrev UJ:=@beq_iff_eq
abbrev UM:=@of_decide_eq_false
abbrev UW:=@bne_self_eq_false
abbrev VX:=@and_congr_right
abbrev V0:=@ne_true_of_eq_false
abbrev V1:=@if_true
abbrev WG:=@or_false
abbrev Xa:=@if_false
namespace L2
open PySem PySem.Spec PyProof.Rows
abbrev Dn:=Sum Int Str
noncomputable def w6:Dn->Value->Bool
 | .inl k,v=>aeD k v
 | .inr x,v=>aek x v
noncomputable def Rh(w:t4):Dn->Int
 | .inl k=>hashInt k
 | .inr x=>hashStr w x
theorem bV:∀ {k:Dn} {v:Value},w6 k v=true->(∃i t,k=aaw i/\v=aaZ i t)\/(∃x t,k=aax x/\v=acu x t)
 | .inl i,v,h=>by let(t,e):=Ws (k:=i) (v:=v) h;show .inl #[i,t,2,e]
 | .inr x,v,h=>by let(t,e):=Value.isStrOf_shape (x:=x) (v:=v) h;show .inr #[x,t,2,e]
theorem FC(i:Int)(t:Tok):w6 (.inl i) (.int i t)=true:=by simp[w6,aeD]
theorem FA(x:Str)(t:Tok):w6 (.inr x) (.str x t)=true:=by simp[w6,aek]
theorem Pr(a b:Int):decide ((aaw a:Dn)=aaw b)=(a==b):=by grind
theorem Po(a b:Str):decide ((aax a:Dn)=aax b)=decide (a=b):=by grind
theorem Pq(a:Int)(b:Str):decide ((aaw a:Dn)=aax b)=false:=RL (λq=>nomatch q)
theorem Pp(a:Str)(b:Int):decide ((aax a:Dn)=aaw b)=false:=RL (λq=>nomatch q)
noncomputable def br(prog:rj)(w:t4):PySem.KeyKind prog w Dn where
 is:=w6
 hash:=Rh w
 inj:=λv a b ha f=>by
  rcases bV ha with ⟨i,t,rfl,rfl⟩|⟨x,t,rfl,rfl⟩
  .rcases bV f with ⟨j,u,rfl,e⟩|⟨y,u,rfl,e⟩
   .injection e with c _;rw[c]
   .show nomatch e
  .rcases bV f with ⟨j,u,rfl,e⟩|⟨y,u,rfl,e⟩
   .show nomatch e
   .injection e with c _;rw[c]
 byValue:=λk v h=>by rcases bV h with ⟨i,t,rfl,rfl⟩|⟨x,t,rfl,rfl⟩<;>rfl
 pyHash:=λd h=>by
  rcases bV d with ⟨i,t,rfl,rfl⟩|⟨x,t,rfl,rfl⟩
  .show wpAny_pyHash_int h
  .show wpAny_pyHash_str h
 eqBool:=λg d h=>by
  rcases bV g with ⟨i,t,rfl,rfl⟩|⟨x,t,rfl,rfl⟩
  .rcases bV d with ⟨j,u,rfl,rfl⟩|⟨y,u,rfl,rfl⟩
   .rw[Pr]at h;show wpAny_eqBool_int h
   .rw[Pq]at h;show SeqAt.EqAt.int_str i t y u _ _ _ _ h
  .rcases bV d with ⟨j,u,rfl,rfl⟩|⟨y,u,rfl,rfl⟩
   .rw[Pp]at h;show SeqAt.EqAt.str_int x t j u _ _ _ _ h
   .rw[Po]at h;show wpAny_eqBool_str h
 «strs»:=λk x t v h=>by
  rcases bV h with ⟨i,u,rfl,e⟩|⟨y,u,rfl,e⟩
  .show nomatch e
  .injection e with c _
   subst c;cases v<;>rfl
theorem Av(prog:rj)(w:t4)(i:Int)(t:Tok):(br prog w).is (.inl i) (.int i t)=true:=FC i t
theorem fG(prog:rj)(w:t4)(x:Str)(t:Tok):(br prog w).is (.inr x) (.str x t)=true:=FA x t
inductive V where
 |non|bl (b:Bool)|int (i:Int)|str (x:Str)|byt (b:Array UInt8)|flt (b:UInt64)|ref (a:Addr)|ty (n:sh)
 deriving DecidableEq
open V(int str)
abbrev XS(a:Addr):Option V:=some (.ref a)
noncomputable abbrev XZ(n:Nat):Option V:=some (.int n)
abbrev XX(n:Int):Option V:=some (.int n)
def aZ:V->Value->Prop
 | .non,u=>u=aav
 | .bl b,u=>u=acF b
 | .int i,u=>∃t,u=aaZ i t
 | .str x,u=>∃t,u=acu x t
 | .byt b,u=>∃t,u=aeE b t
 | .flt b,u=>∃t,u=adI b t
 | .ref a,u=>u=aaa a
 | .ty n,u=>u=aae n
abbrev zj:List V->List Value->Prop:=abK aZ
theorem zj.length{xs:List V}{us:pk}(r:zj xs us):xs.length=us.length:=Paired.length r
theorem zj.get:∀ {xs:List V} {us:pk} {i:Nat} {x:V},zj xs us->xs[i]?=some x->∃u,us[i]?=some u/\aZ x u
 |_,_,_,_, .nil,e=>by simp at e
 |_,_,0,_, .cons r _,e=>by simp at e;subst e;show#[7,r]
 |_,_,i+1,x, .cons _ t,e=>by let(u,a,b):=zj.get (i:=i) (x:=x) t #[5,e];show#[u,#[5,a],b]
theorem zj.append:∀ {xs a:List V} {us ws:pk},zj xs us->zj a ws->zj (xs++a) (us++ws)
 |_,_,_,_, .nil,s=>s
 |_,_,_,_, .cons r t,s=> .cons r (zj.append t s)
theorem zj.take:∀ {xs:List V} {us:pk} (n:Nat),zj xs us->zj (xs.take n) (us.take n)
 |_,_,0,_=> .nil
 |_,_,_+1, .nil=> .nil
 |_,_,n+1, .cons r t=> .cons r (zj.take n t)
theorem zj.drop:∀ {xs:List V} {us:pk} (n:Nat),zj xs us->zj (xs.drop n) (us.drop n)
 |_,_,0,r=>r
 |_,_,_+1, .nil=> .nil
 |_,_,n+1, .cons _ t=>zj.drop n t
def ki:Option V->Option Value->Prop
 |some v,some u=>aZ v u
 |none,none=>True
 |_,_=>False
def KV{κ:Type}:List (κ×V)->List (κ×Value)->Prop:=abK λ(p:κ×V) (q:κ×Value)=>p.1=q.1/\aZ p.2 q.2
noncomputable def kV:Dn->V
 | .inl i=> .int i
 | .inr x=> .str x
inductive HO where
 |lst (xs:List V)
 |tup (xs:List V)
 |dK (kvs:List (Dn×V))|dT (kvs:List (List Dn×V))
 |set (S:Int->Bool) (n:Nat)
 |ins (C dx:Addr) (fs:List (Str×V))
 |own (x:Addr)
 |xd (fs:List (Str×V))
 |met (f x:Addr)
 |rng (lo hi:Int)
 |frz (o:Obj) (u:HO)
 |tbl (ps:pj)
 |ext (φ:Heap->Prop)
abbrev Hp:=Addr->Option HO
noncomputable def upd(H:Hp)(a:Addr)(o:HO):Hp:=λb=>if b=a then some o else H b
theorem aa:upd H a o a=some o:=by unfold upd;rw[RF rfl]
theorem ak(h:b≠a):upd H a o b=H b:=by unfold upd;rw[RQ h]
theorem bU:upd (upd H a o) a u=upd H a u:=by funext b;unfold upd;split<;>rfl
theorem lr{H:Hp}(h:H a=some o)(h':H b=some u)(d:o≠u):a≠b:=by intro e;subst e;rw[h]at h';show d (Sm h')
theorem ah{H:Hp}(h:H a=some o)(h':H b=none):a≠b:=by intro e;subst e;rw[h]at h';cases h'
section
variable(P:rj)(w:t4)
def bG(H:Hp)(h:Heap)(a:Addr):HO->Prop
 | .lst xs=>xs.length<=sizeLine/\∃(c:pk)(n:Nat),zj xs c/\h.get? a=some {cls:= .type Xc,data:= .seq c.toArray n}
 | .tup xs=>xs.length<=sizeLine/\∃c:List Value,zj xs c/\IsTup h a c.toArray
 | .dK kvs=>kvs.length<=sizeLine/\(a==aaE)=false/\∃vs,KV kvs vs/\h.DictOf (br P w) a vs
 | .dT kvs=>kvs.length<=sizeLine/\(a==aaE)=false/\∃xs:List (List Dn×Addr×Value),
   abK (λ(p:List Dn×V) (q:List Dn×Addr×Value)=>p.1=q.1/\H q.2.1=some (.tup (p.1.map kV))/\aZ p.2 q.2.2) kvs xs/\
   ∃o es ep,h.get? a=some o/\o.ExactDict/\o.data= .dict es ep/\es.toList=xs.map (entryOfKey (abC (br P w)))/\(xs.map (·.1)).Nodup
 | .set S n=>h.SetOf (aaU P w) a S n
 | .ins C d fs=>H d=some (.own a)/\fs.length<=1000/\d≠a/\h.get? a=some (abL C d)/\
   ∃b,h.Ns1 d b/\(∀f,ki (fs.lookup f) (b f))/\acT b (fs.map (·.1))
 | .own _=>∃o,h.get? a=some o
 | .xd fs=>∃b,h.Ns1 a b/\∀f,ki (fs.lookup f) (b f)
 | .rng k j=>∃t u v,h.get? a=some {cls:= .type Xh,data:= .fields #v[.int k t, .int j u, .int 1 v]}
 | .frz o u=>h.get? a=some o/\bG H h a u
 | .tbl ps=>h.get? a=some {cls:= .none,data:= .fields ps}
 | .met f x=>h.get? a=some (methodObj (.ref f) (.ref x))
 | .ext e=>e h/\(∃o,h.get? a=some o)/\∀g i:Heap,e g->(∀o,g.get? a=some o->i.get? a=some o)->e i
def Rl(H:Hp)(h:Heap):Prop:=∀a o,H a=some o->bG P w H h a o
end
section
variable{P:rj}{w:t4}{H H':Hp}{h h':Heap}{a:Addr}{o:HO}
theorem bG.lt(x:bG P w H h a o):a<h.1.size:=by
 cases o with
 |lst xs=>let(_,_,_,_,e):=x;show R0 e
 |tup xs=>let(_,_,_,p):=x;show p.lt
 |dK kvs=>let(_,_,_,_,o,_,_,e,_):=x;show R0 e
 |dT kvs=>let(_,_,_,_,o,_,_,e,_):=x;show R0 e
 |set S n=>let(o,_,_,_,e,_):=x;show R0 e
 |ins C b fs=>let(_,_,_,e,_):=x;show R0 e
 |own y=>let(_,e):=x;show R0 e
 |xd fs=>let(_,(_,_,_,e,_),_):=x;show R0 e
 |rng d c=>let(_,_,_,e):=x;show R0 e
 |frz g u=>let(e,_):=x;show R0 e
 |tbl ps=>show R0 (show h.get? a=some _ from x)
 |met f y=>show R0 (show h.get? a=some _ from x)
 |ext i=>let(_,(_,e),_):=x;show R0 e
theorem abK.mapP:∀ {c:List d} {l₂:List e},abK F c l₂->(∀a b,F a b->G a b)->abK G c l₂
 |_,_, .nil,_=> .nil
 |_,_, .cons r t,f=> .cons (f _ _ r) (abK.mapP t f)
theorem bG.stay(x:bG P w H h a o)(k:∀b u,(b=a\/H b=some (.own a))->h.get? b=some u->h'.get? b=some u)(s:∀b,H b=some (.own a)->H' b=some (.own a))(A:∀b xs,H b=some (.tup xs)->H' b=some (.tup xs)):bG P w H' h' a o:=by
 induction o with
 |lst xs=>let(z,i,n,r,e):=x;show#[z,i,n,r,k _ _ (.inl rfl) e]
 |tup xs=>let(z,i,r,g,e,c):=x;show#[z,i,r,g,k _ _ (.inl rfl) e,c]
 |dK kvs=>let(z,y,vs,r,g,es,ep,e,c):=x;show#[z,y,vs,r,g,es,ep,k _ _ (.inl rfl) e,c]
 |dT kvs=>
  let(z,y,xs,r,g,es,ep,e,c):=x;show#[z,y,xs,abK.mapP r λp q z=>#[z.1,A _ _ z.2.1,z.2.2],g,es,ep,k _ _ (.inl rfl) e,c]
 |set S n=>let(g,es,ep,t,e,c):=x;show#[g,es,ep,t,k _ _ (.inl rfl) e,c]
 |ins C G fs=>
  let(d,z,ne,e,j,(l,es,ep,m,c),r):=x;show#[s _ d,z,ne,k _ _ (.inl rfl) e,j,#[l,es,ep,k _ _ (.inr d) m,c],r]
 |own y=>let(g,e):=x;show#[g,k _ _ (.inl rfl) e]
 |xd fs=>let(j,(l,es,ep,e,c),r):=x;show#[j,#[l,es,ep,k _ _ (.inl rfl) e,c],r]
 |rng K J=>let(t,u,v,e):=x;show#[t,u,v,k _ _ (.inl rfl) e]
 |frz g u B=>let(e,q):=x;show#[k _ _ (.inl rfl) e,B q]
 |tbl ps=>
  let e:h.get? a=some {cls:= .none,data:= .fields ps}:=x;change h'.get? a=some {cls:= .none,data:= .fields ps};show k a _ (.inl rfl) e
 |met f y=>
  let e:h.get? a=some (methodObj (.ref f) (.ref y)):=x;change h'.get? a=some (methodObj (.ref f) (.ref y));show k a _ (.inl rfl) e
 |ext L=>let(p,(o,e),st):=x;show#[st _ _ p λo q=>k _ _ (.inl rfl) q,#[o,k _ _ (.inl rfl) e],st]
theorem Rl.lt(x:Rl P w H h)(e:H a=some o):a<h.1.size:=(x a o e).lt
theorem Rl.fresh(x:Rl P w H h)(e:h.1.size<=a):H a=none:=by
 cases q:H a with
 |none=>rfl
 |some u=>show absurd (RK (x.lt q) e) (S2 _)
theorem Rl.kept(x:Rl P w H h)(k:∀b u,h.get? b=some u->h'.get? b=some u):Rl P w H h':=λa o e=>
 (x a o e).stay (λb u _ q=>k b u q) (λ_ q=>q) λ_ _ q=>q
theorem Rl.laid(x:Rl P w H h)(k:∀b u,h.get? b=some u->h'.get? b=some u)(g:h.1.size<=a)(new:bG P w (upd H a o) h' a o):Rl P w (upd H a o) h':=λb u e=>by
 let f:=x.fresh g;by_cases d:b=a
 .subst d;rw[aa]at e;cases e;show new
 .rw[ak d]at e;show(x b u e).stay (λc v _ q=>k c v q) (λc q=>by rw[ak (ah q f)];show q) λc xs q=>by rw[ak (ah q f)];show q
end
def Rd(H:Hp)(a:Addr)(u:HO):Prop:=H a=some u\/∃o,H a=some (.frz o u)
theorem Rd.of(h:H a=some u):Rd H a u:= .inl h
theorem Rd.ok(r:Rd H a u)(x:Rl P w H h):bG P w H h a u:=by
 rcases r with r|⟨o,r⟩
 .show x a u r
 .let(_,q):=x a _ r;show q
def ZJ:Option HO->Prop
 |some (.lst _)=>True
 |some (.dK _)=>True
 |some (.dT _)=>True
 |some (.set _ _)=>True
 |some (.ins _ _ _)=>True
 |some (.ext _)=>True
 |_=>False
section
variable{P:rj}{w:t4}{H:Hp}{h h':Heap}{x e:Addr}{o':HO}
theorem Rl.write(ok:Rl P w H h)(g:ZJ (H x))(i:e=x\/H e=some (.own x))(k:∀b u,b≠e->h.get? b=some u->h'.get? b=some u)(m:∃u,h'.get? e=some u)(new:bG P w (upd H x o') h' x o'):Rl P w (upd H x o') h':=λb u q=>by
 let j:∀c y,H c=some (.own y)->c≠x:=λc y r z=>by subst z;rwa[r]at g
 let o:∀c xs,H c=some (.tup xs)->c≠x:=λc xs r z=>by subst z;rwa[r]at g
 by_cases a:b=x
 .subst a;rw[aa]at q;cases q;show new
 .rw[ak a]at q;by_cases d:b=e
  .let l:H b=some (.own x):=by
    rcases i with z|z
    .show absurd (d.trans z) a
    .rw[d];show z
   rw[q]at l;cases l;let(v,n):=m;show#[v,by rw[d];show n]
  .show(ok b u q).stay (λc v f r=>k c v ?_ r) (λc r=>by rw[ak (j c b r)];show r) λc xs r=>by rw[ak (o c xs r)];show r
   rcases f with rfl|f
   .show d
   .rintro rfl;rcases i with z|z
    .show j c b f z
    .rw[f]at z;cases z;show a rfl
end
structure Un(fs ex:List Addr)(H H':Hp)(h h':Heap):Prop where
 keep:∀b o,h.get? b=some o->H b=none->b∉fs->b∉ex->h'.get? b=some o
 slot:∀b o,h.get? b=some o->H b=none->b∈fs->b∉ex->∃sl,h'.get? b=some {o with slots:=sl}
 free:∀b o,h.get? b=some o->H b=none->b∉ex->H' b=none
 there:∀b o,h.get? b=some o->b∉ex->∃o',h'.get? b=some o'
 tups:∀b xs,H b=some (.tup xs)->H' b=some (.tup xs)
 frzs:∀b o u,H b=some (.frz o u)->H' b=some (.frz o u)
 tbls:∀b ps,H b=some (.tbl ps)->∃more,H' b=some (.tbl (ps++more))
section
variable{fs fs' ex ex':List Addr}{H H1 H2:Hp}{h h1 h2 h':Heap}{a x e:Addr}{o:HO}
theorem Un.any(u:Un fs ex H H1 h h1)(q:h.get? b=some c)(n:H b=none)(hx:b∉ex):∃f,h1.get? b=some {c with slots:=f}:=by
 by_cases d:b∈fs
 .show u.slot b c q n d hx
 .show#[c.slots,u.keep b c q n d hx]
theorem Un.kept(k:∀b u,h.get? b=some u->h'.get? b=some u):Un fs ex H H h h':=
 #[λb c q _ _ _=>k b c q,λb c q _ _ _=>#[c.slots,k b c q],λ_ _ _ n _=>n,λb c q _=>#[c,k b c q],λ_ _ q=>q,λ_ _ _ q=>q,λ_ ps q=>#[#v[],by rw[q];simp]]
theorem Un.refl:Un fs ex H H h h:=Un.kept λ_ _ q=>q
theorem Un.laid(k:∀b u,h.get? b=some u->h'.get? b=some u)(c:h.1.size<=a)(hn:H a=none):Un fs ex H (upd H a o) h h' where
 keep:=λb u q _ _ _=>k b u q
 slot:=λb u q _ _ _=>#[u.slots,k b u q]
 free:=λb u q n _=>by rw[ak (Sb (RK (R0 q) c))];show n
 there:=λb u q _=>#[u,k b u q]
 tups:=λb xs q=>by rw[ak (ah q hn)];show q
 frzs:=λb u xs q=>by rw[ak (ah q hn)];show q
 tbls:=λb ps q=>#[#v[],by rw[ak (ah q hn),q];simp]
theorem Un.write(c:ZJ (H x))(i:e=x\/H e=some (.own x))(k:∀b u,b≠e->h.get? b=some u->h'.get? b=some u)(j:∃u,h'.get? e=some u):Un fs ex H (upd H x o) h h':=by
 let hx:∀b,H b=none->b≠x:=λb n z=>by subst z;rwa[n]at c
 let f:∀b,H b=none->b≠e:=λb n z=>by
  subst z;rcases i with r|r
  .show hx b n r
  .rw[n]at r;cases r
 let d:∀b u,H b=some u->¬ZJ (some u)->b≠x:=λb u q nm z=>by subst z;rw[q]at c;show nm c
 show#[λb u q n _ _=>k b u (f b n) q,λb u q n _ _=>#[u.slots,k b u (f b n) q],λb u q n _=>by rw[ak (hx b n)];show n,λb u q _=> ?_,
  λb xs q=>by rw[ak (d b _ q λz=>z)];show q,λb u xs q=>by rw[ak (d b _ q λz=>z)];show q,λb ps q=>#[#v[],by rw[ak (d b _ q λz=>z),q];simp]]
 by_cases g:b=e
 .subst g;show j
 .show#[u,k b u g q]
end
noncomputable def ZL(h:Heap)(H:Hp):List Addr:=(range h.1.size).filter λa=>(H a).isSome
def yL(h:Heap)(H:Hp):Heap:=acv h (ZL h H)
theorem FG(h:Heap)(H:Hp):(yL h H).1.size=h.1.size:=PySem.W.hideAll_size _ _
theorem JN{h:Heap}(e:h.get? b=some o)(n:H b=none):(yL h H).get? b=some o:=
 UB _ e λa=>by have q:(H b).isSome=true:=(Sn.mp a).2;rw[n]at q;simp at q
theorem LX{h:Heap}(e:(yL h H).get? b=some o):h.get? b=some o/\H b=none:=by
 let a:h.get? b=some o:=Vh (ZL h H) e;show#[a,6];cases q:H b with
 |none=>rfl
 |some x=>
  let c:b∈ZL h H:=Sn.mpr #[R1.mpr (R0 a),by simp[q]];let z:(yL h H).get? b=none:=acf (ZL h H) c;rw[z]at e;cases e
noncomputable def Na(g h:Heap)(L:Addr):List (Addr×Obj):=(range h.1.size).filterMap λa=>if a=L\/(g.get? a).isSome=true then none else(h.get? a).map λo=>(a,o)
noncomputable def rest(g h:Heap)(L d:Addr):List (Addr×Obj):=(Na g h L).filter λp=>decide (p.1≠d)
structure Mod(K:Frag)(mg:jn)(base:Heap):Prop where
 kin:K.In base
 glob:base.Ns aak mg
 blt:∃mb,base.Ns abM mb/\∀x:Str,x≠ XD->mb x=aba x
 nolimit:base.NoLimit
structure Cx where
 prog:Program
 w:aaX
 K:Frag
 mg:Str->Option Value
 base:Heap
 A:Around
 N:List Str
 s₀:Shared
 H₀:Hp
 env:Env
 outer:List Env
 stack:List Env
 ex:List Addr
 fn:Str->Bool
 calm:Bool
 pn:List (Addr×Obj)
 xe:Value->Shared->Prop
noncomputable def XY(l:q7):List Addr:=l.filterMap (·.frame)
abbrev Cx.fs(X:Cx):List Addr:=XY X.11
def Z7(a:Scope)(x:Str):Prop:=a.2.lookup x=some .local\/a.2.lookup x=some .cell\/a.2.lookup x=some .free
def Zm(a:Scope)(x:Str):Prop:=a.2.lookup x=some .local\/a.2.lookup x=some .cell
def Z9(env:Env)(h:Heap)(m:jn)(x:Str)(u:Value):Prop:=
 (env.kindOf x=some .local/\m x=some u)\/((env.kindOf x=some .cell\/env.kindOf x=some .free)/\∃c,env.cells.lookup x=some c/\h.IsCell c (some u))
structure Cx.Ok(X:Cx):Prop where
 mod:Mod X.K X.mg X.base
 kind:X.10.1.kind= .function
 glob:X.10.3=aak
 blt:X.10.9=abM
 above:X.s₀.1.1.size<=X.10.2
 inj:∀x y c,X.10.4.lookup x=some c->X.10.4.lookup y=some c->x=y
 has:∀x,(X.10.kindOf x=some .cell\/X.10.kindOf x=some .free)->∃c,X.10.4.lookup x=some c
 cab:∀x c,X.fn x=true->X.10.4.lookup x=some c->X.s₀.1.1.size<=c
 hd:X.calm=true->X.A.handled=none
 frames:X.A.frames=some X.12
 stk:X.12=X.11\/(X.12=X.10::X.11/\X.10.8=some X.10.2)
 exf:∀b∈X.ex,b≠X.10.2/\∀x c,X.10.4.lookup x=some c->c≠b
 bs:∀b o,X.base.get? b=some o->X.s₀.1.get? b=some o/\X.H₀ b=none
 bsz:X.base.1.size<=X.s₀.1.1.size
 noex:∀b o,X.base.get? b=some o->b∉X.ex
 exfs:∀b∈X.ex,b∉X.fs
 funs:X.s₀.1.FunFrames X.base X.11
 frf:∀b∈X.fs,X.H₀ b=none
structure wh(X:Cx)(pins:n7)(σ:List (Option V))(H:Hp)(s:rz):Prop where
 ok:X.Ok
 os:s.os=X.s₀.os
 bare:abh s.gens
 base:Un X.fs X.ex X.H₀ H X.s₀.1 s.1
 loc:∃m,s.1.Ns X.10.2 m/\∀(i:Nat)(x:Str)(v:V),X.N[i]?=some x->σ[i]?=some (some v)->Z7 X.10.1 x->∃u,aZ v u/\Z9 X.10 s.1 m x u
 cell:∀x c,X.10.4.lookup x=some c->∃v,s.1.IsCell c v
 free:H X.10.2=none
 freeC:∀x c,X.10.4.lookup x=some c->H c=none
 pin:∀p∈X.pn++pins,s.1.get? p.1=some p.2/\H p.1=none/\p.1≠X.10.2/\p.1∉X.fs/\∀v,p.2.data≠ .cell v
 hok:Rl X.1 X.w H s.1
 len:σ.length=X.N.length
section
variable{X:Cx}{pins:n7}{σ:List (Option V)}{H H':Hp}{s:rz}{h':Heap}
theorem Cx.Ok.nofr(ok:X.Ok)(e:X.base.get? b=some o):b∉X.fs:=λa=>by have:=(ok.funs.mem a).1;rw[e]at this;cases this
theorem wh.bs(I:wh X pins σ H s):∀b o,X.base.get? b=some o->s.1.get? b=some o/\H b=none:=λb o e=>
 #[I.base.keep b o (I.ok.bs b o e).1 (I.ok.bs b o e).2 (I.ok.nofr e) (I.ok.noex b o e),I.base.free b o (I.ok.bs b o e).1 (I.ok.bs b o e).2 (I.ok.noex b o e)]
theorem wh.bk(I:wh X pins σ H s):∀b o,X.base.get? b=some o->s.1.get? b=some o:=λb o e=>(I.bs b o e).1
theorem wh.mod(I:wh X pins σ H s):Mod X.K X.mg X.base:=I.ok.mod
theorem wh.kIn(I:wh X pins σ H s):X.K.In s.heap:=I.ok.mod.kin.keeps I.bk
theorem wh.lt(I:wh X pins σ H s):X.10.2<s.1.1.size:=let⟨_,a,_⟩:=I.loc;a.lt
theorem wh.sz(I:wh X pins σ H s):X.s₀.1.1.size<=s.1.1.size:=RB I.ok.above (TX I.lt)
theorem wh.nofs(I:wh X pins σ H s){a:Addr}(h:s.1.1.size<=a):a∉X.fs:=λb=>by let(_,o,c,_):=I.ok.funs.mem b;show absurd (RK (R0 c) (RB I.sz h)) (S2 _)
theorem wh.cne(I:wh X pins σ H s):∀x c,X.10.4.lookup x=some c->c≠X.10.locals:=λx c e z=>by let(v,o,b,a):=I.cell x c e;let(m,(g,es,ep,f,d,_),_):=I.loc;rw[z,f]at b;cases b;rw[d]at a;cases a
theorem wh.funs(I:wh X pins σ H s):s.1.FunFrames X.base X.outer:=by
 let all:∀(l:q7),(∀b∈XY l,b∈X.fs)->X.s₀.1.FunFrames X.base l->s.1.FunFrames X.base l:=by
  intro l
  induction l with
  |nil=>intro _ _;trivial
  |cons env r m=>
   intro f hl;let(h,(L,o,d,i,j,g),k):=hl;let a:L∈X.fs:=f L (by unfold XY;rw[TQ,d];show RH);let(n,e):=I.base.slot L o j (I.ok.frf L a) a λz=>I.ok.exfs L z a;show#[h,#[L,_,d,i,e,g],m (λb c=>f b (by unfold XY;rw[TQ,d];show RI _ c)) k]
 show all X.11 (λ_ c=>c) I.ok.funs
theorem wh.stack(I:wh X pins σ H s):s.1.FunFrames X.base X.stack:=by
 rcases I.ok.stk with e|⟨e,a⟩
 .rw[e];show I.funs
 .rw[e];let(m,b,_):=I.loc;show .cons (by rw[I.ok.kind];decide) a b ?_ I.funs;show Heap.get?_none_of_le (RB I.ok.bsz I.ok.above)
theorem wh.stkSub(I:wh X pins σ H s):∀b∈XY X.12,b∈X.10.2::X.fs:=λb a=>by
 rcases I.ok.stk with e|⟨e,c⟩
 .rw[e]at a;show RI _ a
 .rw[e]at a;unfold XY at a;rwa[TQ,c]at a
theorem wh.stkFree(I:wh X pins σ H s):∀b∈XY X.12,H b=none:=λb a=>by
 rcases RT.mp (I.stkSub b a)with e|a
 .rw[e];show I.free
 .let(_,o,c,_):=I.ok.funs.mem a;show I.base.free b o c (I.ok.frf b a) λz=>I.ok.exfs b z a
theorem wh.step{ch:List Addr}(I:wh X pins σ H s)(j:∀b∈ch,(b∈X.ex\/X.s₀.1.1.size<=b)/\b≠X.10.2/\(∀x c,X.10.4.lookup x=some c->c≠b)/\∀p∈X.pn++pins,p.1≠b)(keep:∀b o,b≠X.10.2->b∉X.fs->b∉ch->s.1.get? b=some o->H b=none->h'.get? b=some o)(slot:∀b o,b≠X.10.2->b∈X.fs->b∉ch->s.1.get? b=some o->H b=none->∃G,h'.get? b=some {o with slots:=G})(free:∀b o,b∉ch->s.1.get? b=some o->H b=none->H' b=none)(there:∀b o,b∉ch->s.1.get? b=some o->∃y,h'.get? b=some y)(aj:∀b xs,H b=some (.tup xs)->H' b=some (.tup xs))(O:∀b o u,H b=some (.frz o u)->H' b=some (.frz o u))(ai:∀b ps,H b=some (.tbl ps)->∃more,H' b=some (.tbl (ps++more)))(ns:∀m,s.1.Ns X.10.2 m->h'.Ns X.10.2 m)(ab:Rl X.1 X.w H' h')(Q:abh g'):
  wh X pins σ H' {s with heap:=h',gens:=g',drawn:=d',toks:=t'}:=by
 let L:∀b o,X.s₀.1.get? b=some o->b≠X.10.locals:=λb o e=>Sb (RK (R0 e) I.ok.above);let A:∀b o,X.s₀.1.get? b=some o->b∉X.ex->b∉ch:=λb o e hx f=>by
  rcases(j b f).1 with z|z
  .show hx z
  .show absurd (RK (R0 e) z) (S2 _)
 let cellK:∀x c,X.10.4.lookup x=some c->∀v,s.1.IsCell c v->h'.IsCell c v:=λx c e v ⟨o,g,B⟩=>by
  let t:c∉ch:=λz=>(j c z).2.2.1 x c e rfl;by_cases J:c∈X.fs
  .let(G,q):=slot c o (I.cne x c e) J t g (I.freeC x c e);show#[_,q,B]
  .show#[o,keep c o (I.cne x c e) J t g (I.freeC x c e),B]
 show#[I.ok,I.os,Q,#[λb o e n f hx=> ?_,λb o e n f hx=> ?_,λb o e n hx=> ?_,λb o e hx=> ?_,λb xs e=>aj b xs (I.base.tups b xs e),λb o xs e=>O b o xs (I.base.frzs b o xs e),λb ps e=> ?_],6,λx c e=> ?_,6,λx c e=> ?_,λp K=> ?_,ab,I.len]
 .show keep b o (L b o e) f (A b o e hx) (I.base.keep b o e n f hx) (I.base.free b o e n hx)
 .let(G,a):=I.base.slot b o e n f hx;let(af,h):=slot b _ (L b o e) f (A b o e hx) a (I.base.free b o e n hx);show#[af,h]
 .let(y,a):=I.base.there b o e hx;show free b y (A b o e hx) a (I.base.free b o e n hx)
 .let(y,a):=I.base.there b o e hx;show there b y (A b o e hx) a
 .let(m1,a):=I.base.tbls b ps e;let(m2,h):=ai b _ a;show#[m1++m2,by rw[h,acG]]
 .let(m,U,hl):=I.loc;show#[m,ns m U,λi x v a h N=> ?_];let(u,r,l):=hl i x v a h N;show#[u,r,6];rcases l with l|⟨k,c,e,z⟩
  .show .inl l
  .show .inr #[k,c,e,cellK x c e _ z]
 .let(v,z):=I.cell x c e;show#[v,cellK x c e v z]
 .let(m,(o,_,_,g,_),_):=I.loc;show free _ o (λz=>(j _ z).2.1 rfl) g I.free
 .let(v,o,g,B):=I.cell x c e;show free c o (λz=>(j c z).2.2.1 x c e rfl) g (I.freeC x c e)
 .let(e,n,ne,M,d):=I.pin p K;let t:p.1∉ch:=λz=>(j p.1 z).2.2.2 p K rfl;show#[keep p.1 p.2 ne M t e n,free p.1 p.2 t e n,ne,M,d]
theorem wh.un(I:wh X pins σ H s)(u:Un X.fs [] H H' s.1 h')(j:Rl X.1 X.w H' h'):wh X pins σ H' {s with heap:=h',toks:=t'}:=by
 let(m,(o,es,ep,c,r),_):=id I.loc;let(q,h):=u.any c I.free #[5];show I.step (g':=s.gens) (d':=s.drawn) (ch:=[]) (λ_ z=>nomatch z) (λb o _ a _ e n=>u.keep b o e n a #[5]) (λb o _ a _ e n=>u.slot b o e n a #[5]) (λb o _ e n=>u.free b o e n #[5]) (λb o _ e=>u.there b o e #[5]) u.tups u.frzs u.tbls (λl i=>by let(p,g,f,d,k):=i;rw[c]at d;cases d;show#[_,g,f,h,k]) j I.bare
theorem wh.call(I:wh X pins σ H s)(u:Un (XY X.12) ch H H' s.1 h')(t:Rl X.1 X.w H' h')(l:abh g')(f:∀b∈ch,(b∈X.ex\/X.s₀.1.1.size<=b)/\b≠X.10.2/\(∀x c,X.10.4.lookup x=some c->c≠b)/\∀p∈X.pn++pins,p.1≠b):
  wh X pins σ H' {s with heap:=h',gens:=g',drawn:=d',toks:=t'}:=by
 let(m,(o,es,ep,g,r),_):=id I.loc;let(B,d):=u.any g I.free λz=>(f _ z).2.1 rfl;show I.step (ch:=ch) f (λb o d k a e n=>u.keep b o e n (λz=>(RT.mp (I.stkSub b z)).elim d k) a) (λb o _ _ a e n=>u.any e n a) (λb o a e n=>u.free b o e n a) (λb o a e=>u.there b o e a) u.tups u.frzs u.tbls (λy q=>by let(A,j,i,h,v):=q;rw[g]at h;cases h;show#[_,j,i,d,v]) t l
theorem wh.turned(I:wh X pins σ H s)(k:∀b o,b≠it->s.1.get? b=some o->h'.get? b=some o)(t:H it=none)(d:it≠X.10.2)(g:it∈X.ex\/X.s₀.1.1.size<=it)(h:∀x c,X.10.4.lookup x=some c->c≠it)(i:∀p∈X.pn++pins,p.1≠it):wh X pins σ H {s with heap:=h',toks:=t'}:=by
 let f:∀b u,H b=some u->b≠it:=λb u e z=>by rw[z,t]at e;cases e
 show I.step (g':=s.gens) (d':=s.drawn) (ch:=[it]) (λb j=> ?_) (λb o _ _ a e _=>k b o (λz=>a (by simp[z])) e) (λb o _ _ a e _=>#[o.slots,k b o (λz=>a (by simp[z])) e]) (λ_ _ _ _ n=>n)
  (λb o a e=>#[o,k b o (λz=>a (by simp[z])) e]) (λ_ _ e=>e) (λ_ _ _ e=>e) (λb ps e=>#[#v[],by rw[e];simp]) (λm l=> ?_) (λb u e=> ?_) I.bare
 .let e:b=it:=#[5,j]
  subst e;show#[g,d,h,i]
 .let(o,es,ep,w,r):=l;show#[o,es,ep,k _ o (TF d) w,r]
 .show(I.hok b u e).stay (λc v a q=>k c v ?_ q) (λ_ q=>q) λ_ _ q=>q;rcases a with z|z
  .rw[z];show f b u e
  .show f c _ z
theorem wh.tok(I:wh X pins σ H s)(t:Nat):wh X pins σ H {s with toks:=t}:=I.un (h':=s.1) (t':=t) Un.refl I.hok
theorem wh.kept(I:wh X pins σ H s)(k:∀b u,s.1.get? b=some u->h'.get? b=some u):wh X pins σ H {s with heap:=h',toks:=t'}:=I.un (Un.kept k) (I.hok.kept k)
theorem wh.laid{a:Addr}(I:wh X pins σ H s)(k:∀b u,s.1.get? b=some u->h'.get? b=some u)(c:s.1.1.size<=a)(new:bG X.1 X.w (upd H a o) h' a o):
  wh X pins σ (upd H a o) {s with heap:=h',toks:=t'}:=I.un (Un.laid k c (I.hok.fresh c)) (I.hok.laid k c new)
theorem wh.write(I:wh X pins σ H s)(d:ZJ (H x))(a:e=x\/H e=some (.own x))(k:∀b u,b≠e->s.1.get? b=some u->h'.get? b=some u)(c:∃u,h'.get? e=some u)(new:bG X.1 X.w (upd H x o) h' x o):wh X pins σ (upd H x o) {s with heap:=h',toks:=t'}:=I.un (Un.write d a k c) (I.hok.write d a k c new)
theorem wh.pins_of(I:wh X pins σ H s)(h:∀p∈pins',s.1.get? p.1=some p.2/\H p.1=none/\p.1≠X.10.2/\p.1∉X.fs/\∀v,p.2.data≠ .cell v):wh X pins' σ H s:=
 #[I.ok,I.os,I.bare,I.base,I.loc,I.cell,I.free,I.freeC,λp a=>(R9.mp a).elim (λz=>I.pin p (SF _ z)) (h p),I.hok,I.len]
theorem An{N:qq}(c:N.Nodup){i j:Nat}(a:N[i]?=some x)(b:N[j]?=some x):i=j:=by grind [List.getElem_inj]
theorem vT{M:Model}{A:tj}{E:gs}{i:Nat}{x:Str}{v:V}{u:Value}{Q:hP}(I:wh X pins σ H s)(hN:X.N.Nodup)(K:X.N[i]?=some x)(hx:Zm X.10.1 x)(r:aZ v u)(h:∀s',wh X pins (σ.set i (some v)) H s'->(∃a,aas a s.1 s'.1/\(a=X.10.2\/X.10.4.lookup x=some a))->Q aaR s')(hf:X.fn x=true\/X.10.1.2.lookup x=some .local:=by first|show .inl rfl|show .inr rfl|assumption):aag M A (storeName X.10 x u) Q E s:=by
 let(m,hn,hl):=id I.loc;let bx:(X.10.1.kind== .class||(X.10.1.kind== .module&&X.10.2 !=X.10.3))=false:=by rw[I.ok.kind];rfl
 let bk:i<σ.length:=by rw[I.len];show(RX.mp K).1
 let cne:=I.cne;let tracked:∀ {a:Addr} {h':Heap},(∃o,s.1.get? a=some o/\H a=none)->aas a s.1 h'->Rl X.1 X.w H h':=λ{a h'} ha f b ob e=>by
  let(_,_,a7):=ha;show(I.hok b ob e).stay (λc O l q=>(f.2 c ?_).trans q) (λ_ q=>q) λ_ _ q=>q;rintro rfl;rcases l with rfl|l
  .rw[a7]at e;cases e
  .rw[a7]at l;cases l
 rcases hx with B|B
 .show wpAny_storeName_local B hn (λh' b0 f=> ?_) bx;let(oL,_,_,b1,_):=id hn;show h _ #[I.ok,I.os,I.bare,#[λb o e n G hx=> ?_,λb o e n G hx=> ?_,I.base.free,λb o e hx=> ?_,I.base.tups,I.base.frzs,I.base.tbls],#[_,b0,λj y v' g t U=> ?_],λy c e=> ?_,I.free,I.freeC,λp hp=> ?_,tracked #[oL,b1,I.free] f,#[5,I.len]] #[_,f, .inl rfl]
  .show(f.2 b (Sb (RK (R0 e) I.ok.above))).trans (I.base.keep b o e n G hx)
  .let(sl,g):=I.base.slot b o e n G hx;show#[sl,(f.2 b (Sb (RK (R0 e) I.ok.above))).trans g]
  .let(o',g):=I.base.there b o e hx;show#[o',(f.2 b (Sb (RK (R0 e) I.ok.above))).trans g]
  .by_cases J:j=i
   .subst J;rw[K]at g;cases g;rw[abN bk]at t;cases t;show#[u,r, .inl #[B,#[5]]]
   .rw[acg (TF J)]at t;let(u',r',q):=hl j y v' g t U;show#[u',r',6];rcases q with ⟨k,e⟩|⟨k,c,e,z⟩
    .show .inl #[k,6];have:y≠x:=λe=>J (An hN g (e▸K));simp[this,e]
    .show .inr #[k,c,e,z.sameBut f (cne y c e)]
  .let(O,z):=I.cell y c e;show#[O,z.sameBut f (cne y c e)]
  .let(e,n,ne,nf,d):=I.pin p hp;show#[(f.2 p.1 ne).trans e,n,ne,nf,d]
 .let ab:X.fn x=true:=by
   rcases hf with z|z
   .show z
   .rw[z]at B;cases B
  let(c,l):=I.ok.has x (.inl B);let(O,z):=I.cell x c l;show wpAny_storeName_cell I.ok.kind B l z (λh' a4 f=> ?_);let(oc,bo,b2):=id z;show h {s with heap:=h'} #[I.ok,I.os,I.bare,#[λb o e n G hx=> ?_,λb o e n G hx=> ?_,I.base.free,λb o e hx=> ?_,I.base.tups,I.base.frzs,I.base.tbls],#[m,hn.sameBut f (TF (cne x c l)),λj y v' g t U=> ?_],λy L e=> ?_,I.free,I.freeC,λp hp=> ?_,tracked #[oc,bo,I.freeC x c l] f,#[5,I.len]] #[c,f, .inr l]
  .show(f.2 b (Sb (RK (R0 e) (I.ok.cab x c ab l)))).trans (I.base.keep b o e n G hx)
  .let(sl,g):=I.base.slot b o e n G hx;show#[sl,(f.2 b (Sb (RK (R0 e) (I.ok.cab x c ab l)))).trans g]
  .let(o',g):=I.base.there b o e hx;show#[o',(f.2 b (Sb (RK (R0 e) (I.ok.cab x c ab l)))).trans g]
  .by_cases J:j=i
   .subst J;rw[K]at g;cases g;rw[abN bk]at t;cases t;show#[u,r, .inr #[.inl B,c,l,a4]]
   .rw[acg (TF J)]at t;let(u',r',q):=hl j y v' g t U;show#[u',r',6];rcases q with q|⟨k,L,e,z'⟩
    .show .inl q
    .show .inr #[k,L,e,z'.sameBut f ?_];rintro rfl;show J (An hN g (I.ok.inj _ _ _ e l▸K))
  .by_cases a5:L=c
   .subst a5;show#[_,a4]
   .let(w2,z2):=I.cell y L e;show#[w2,z2.sameBut f a5]
  .let(e,n,ne,nf,d):=I.pin p hp;show#[(f.2 p.1 ?_).trans e,n,ne,nf,d];intro q;rw[q,bo]at e;let q':oc=p.2:=Sm e;show d O (by rw[<-q'];show b2)
theorem zv{M:Model}{A:tj}{E:gs}{i:Nat}{x:Str}{v:V}{u:Value}{Q:hP}(I:wh X pins σ H s)(b:X.N.Nodup)(d:X.N[i]?=some x)(hx:Zm X.10.1 x)(r:aZ v u)(h:∀s',wh X pins (σ.set i (some v)) H s'->Q aaR s')(c:X.fn x=true\/X.10.1.2.lookup x=some .local:=by first|show .inl rfl|show .inr rfl|assumption):aag M A (storeName X.10 x u) Q E s:=
 vT I b d hx r (λs' a _=>h s' a) c
theorem wh.call'{s':rz}(I:wh X pins σ H s)(f:s'.os=s.os)(u:Un (XY X.12) ch H H' s.1 s'.1)(g:Rl X.1 X.w H' s'.1)(d:abh s'.gens)(a:∀b∈ch,(b∈X.ex\/X.s₀.1.1.size<=b)/\b≠X.10.2/\(∀x c,X.10.4.lookup x=some c->c≠b)/\∀p∈X.pn++pins,p.1≠b):wh X pins σ H' s':=by
 let(h',g',d',t',h):=s';let e:h=s.os:=f;subst e;show I.call (g':=g') (t':=t') (d':=d') u g d a
end
abbrev XK:=Value->Option Addr->Hp->Prop
abbrev St:=List (Option V)
abbrev VK:=V->Hp->Prop
abbrev TE:=St->Hp->VK->Prop
abbrev TT:=St->Hp->(Bool->Hp->Prop)->Prop
abbrev TA:=St->Hp->(List V->Hp->Prop)->Prop
structure Yg where
 nx:St->Hp->Prop
 rt:VK
 bk:St->Hp->Prop:=λ_ _=>False
 ct:St->Hp->Prop:=λ_ _=>False
abbrev TS:=Yg->St->Hp->Prop
def EP(X:Cx)(a:n7)(b:St)(Q:VK)(u:Value)(s':rz):Prop:=∃v H',wh X a b H' s'/\aZ v u/\Q v H'
def TP(X:Cx)(a:n7)(c:St)(Q:Bool->Hp->Prop)(b:Bool)(s':rz):Prop:=∃H',wh X a c H' s'/\Q b H'
def AP(X:Cx)(a:n7)(b:St)(Q:List V->Hp->Prop)(us:pk)(s':rz):Prop:=∃vs H',wh X a b H' s'/\zj vs us/\Q vs H'
def SP(X:Cx)(b:n7)(D:Yg)(f:Flow)(s':rz):Prop:=
 match f with
 | .next=>∃a H',wh X b a H' s'/\D.nx a H'
 | .brk=>∃a H',wh X b a H' s'/\D.bk a H'
 | .cont=>∃a H',wh X b a H' s'/\D.ct a H'
 | .ret u=>∃v a H',wh X b a H' s'/\aZ v u/\D.rt v H'
def PE(X:Cx)(e:Expr)(t:TE):Prop:=
 ∀(b:n7) (s:rz) (a:St) (H:Hp) (Q:VK),wh X b a H s->t a H Q->aag (model X.1 X.w) X.A (eval e X.10) (EP X b a Q) X.xe s
def PT(X:Cx)(e:Expr)(t:TT):Prop:=
 ∀(b:n7) (s:rz) (a:St) (H:Hp) (Q:Bool->Hp->Prop),wh X b a H s->t a H Q->aag (model X.1 X.w) X.A (isTrue e X.10 (eval e X.10)) (TP X b a Q) X.xe s
def PW(X:Cx)(e:Expr)(t:TT):Prop:=
 ∀(whole:Sem Value) (b:n7) (s:rz) (a:St) (H:Hp) (Q:Bool->Hp->Prop),wh X b a H s->t a H Q->aag (model X.1 X.w) X.A (isTrue e X.10 whole) (TP X b a Q) X.xe s
theorem PW.pt(h:PW X e t):PT X e t:=h _
def PA(X:Cx)(es:pD)(t:TA):Prop:=
 ∀(pos:Pos) (b:n7) (s:rz) (a:St) (H:Hp) (Q:List V->Hp->Prop),wh X b a H s->t a H Q->aag (model X.1 X.w) X.A (spliced (aar pos (aad es X.10))) (AP X b a Q) X.xe s
def PS(X:Cx)(st:Stmt)(t:TS):Prop:=
 ∀(a:n7) (s:rz) (b:St) (H:Hp) (D:Yg),wh X a b H s->t D b H->aag (model X.1 X.w) X.A (exec st X.10) (SP X a D) X.xe s
def X4(X:Cx)(st:List Stmt)(t:TS):Prop:=
 ∀(a:n7) (s:rz) (b:St) (H:Hp) (D:Yg),wh X a b H s->t D b H->aag (model X.1 X.w) X.A (execs st X.10) (SP X a D) X.xe s
theorem zk(h:aag M A t Q E s)(b:∀a s,Q a s->Q' a s):aag M A t Q' E s:=TZ h b λ_ _ x=>x
section
variable{X:Cx}
inductive RdV(o:Option (Option V))(H:Hp)(Q:VK):Prop
 |mk(v:V) (e:o=some (some v)) (q:Q v H):RdV o H Q
def KI(i:Nat):TE:=λa H Q=>RdV a[i]? H Q
def tC(v:V):TE:=λ_ H Q=>Q v H
theorem OS{i:Nat}{x:Str}{pos:Pos}(j:X.N[i]?=some x)(p:Z7 X.10.1 x)(d:(x==(Xd:Str))=false:=by decide)(k:(x==("__classdict__":Str))=false:=by decide):PE X (.Name x pos) (KI i):=by
 intro q s t H Q I h;let(v,e,h):=h;let(m,o,hl):=I.loc;let(u,r,l):=hl i x v j e p;let b:EP X q t Q u s:=#[v,H,I,r,h];rcases l with ⟨a,n⟩|⟨a,c,f,g⟩
 .show adU (wpAny_loadName_local I.ok.kind a o n b) d
 .rcases a with a|a
  .show adU (wpAny_loadName_cell I.ok.kind a f g b) d
  .show adU (wpAny_loadName_free I.ok.kind a f g b k) d
theorem dy{i j pos}:PE X (.Constant (.int i) j pos) (tC (.int i)):=λ_ _ _ H _ I h=>wpAny_Constant_int #[.int i,H,I.tok _,#[7],h]
theorem NG{b j pos}:PE X (.Constant (.bool b) j pos) (tC (.bl b)):=λ_ _ _ H _ I h=>Constant_bool #[.bl b,H,I,2,h]
theorem tT{j pos}:PE X (.Constant .none j pos) (tC .non):=λ_ _ _ H _ I h=>Constant_none #[.non,H,I,2,h]
theorem BO{x j pos}:PE X (.Constant (.str x) j pos) (tC (.str x)):=λ_ _ _ H _ I h=>acH #[.str x,H,I.tok _,#[7],h]
def Gl(X:Cx)(x:Str):Prop:=X.10.kindOf x=some .globalImplicit
theorem jT{E:gs}{d:n7}{s:rz}{e:St}{H:Hp}{x:Str}{u:Value}{pos:Pos}{Q:gs}(I:wh X d e H s)(b:Gl X x)(c:X.mg x=some u)(h:Q u s)(a:(x==(Xd:Str))=false:=by decide):aag (model X.1 X.w) X.A (eval (.Name x pos) X.10) Q E s:=
 abq I.ok.kind b (Calls.loadGlobal_global (by rw[I.ok.glob];show I.mod.glob.keeps I.bk) c h) a
theorem jU{E:gs}{i:n7}{s:rz}{j:St}{H:Hp}{x:Str}{u:Value}{pos:Pos}{Q:gs}(I:wh X i j H s)(d:Gl X x)(e:X.mg x=none)(g:aba x=some u)(h:Q u s)(f:x≠ XD:=by decide)(c:(x==(Xd:Str))=false:=by decide):aag (model X.1 X.w) X.A (eval (.Name x pos) X.10) Q E s:=by
 let(k,a,b):=I.mod.blt;show abq I.ok.kind d (Calls.loadGlobal_builtin (by rw[I.ok.glob];show I.mod.glob.keeps I.bk) e (by rw[I.ok.blt];show a.keeps I.bk) ((b x f).trans g) h) c
theorem bh{x:Str}{v:V}{u:Value}{pos:Pos}(b:Gl X x)(c:X.mg x=some u)(r:aZ v u)(a:(x==(Xd:Str))=false:=by decide):PE X (.Name x pos) (tC v):=
 λ_ _ _ H _ I h=>jT I b c #[v,H,I,r,h] a
theorem LL{x:Str}{v:V}{u:Value}{pos:Pos}(b:Gl X x)(c:X.mg x=none)(e:aba x=some u)(r:aZ v u)(d:x≠ XD:=by decide)(a:(x==(Xd:Str))=false:=by decide):PE X (.Name x pos) (tC v):=
 λ_ _ _ H _ I h=>jU I b c e #[v,H,I,r,h] d a
variable{a b:Expr}{ta tb:TE}{pos:Pos}
def PC(X:Cx)(e:CmpOp)(a b:Expr)(t:TE):Prop:=
 ∀(d:n7) (s:rz) (c:St) (H:Hp) (Q:VK),wh X d c H s->t c H Q->
  aag (model X.1 X.w) X.A (eval a X.10) (λv f=>aag (model X.1 X.w) X.A (eval b X.10) (λu g=>aag (model X.1 X.w) X.A (aal e v u) (EP X d c Q) X.xe g) X.xe f) X.xe s
theorem YN(b:Expr)(h:c≠ .In)(f:c≠ .NotIn):aaB c b=false:=by
 let d:(c==CmpOp.In)=false:=by cases c<;>first|rfl|show absurd rfl h
 let e:(c==CmpOp.NotIn)=false:=by cases c<;>first|rfl|show absurd rfl f
 cases b<;>simp[aaB,d,e]
inductive Zw(Q:Bool->Hp->Prop)(x:V)(H:Hp):Prop
 |mk(k:Bool) (e:x= .bl k) (q:Q k H):Zw Q x H
def tB(t:TE):TT:=λc H Q=>t c H (Zw Q)
theorem xZ{f:CmpOp}{t:TE}(h:PC X f a b t)(e:aaB f b=false:=by first|show YN _ ∅ ∅|rfl):PT X (.Compare a [f] [b] pos) (tB t):=by intro l s o H Q I k;show ab6 (zk (h l s o H _ I k) λv p e=>zk e λu r j=>zk j λc w ⟨x,g,i,n,m⟩=> ?_) e;let(d,rfl,q):=m;cases n;show Th #[g,i,q]
theorem cI{e:Expr}{t:TE}(h:PE X e t)(g:∀whole,isTrue e X.10 whole=(do let v<-whole;abO e.pos;abi [v] (truthy v)):=by intro _;rfl):PT X e (tB t):=by intro j s m H Q I i;show isTrue_plain (zk (h j s m H _ I i) λv n ⟨x,c,f,l,k⟩=> ?_) (g _);let(d,rfl,q):=k;cases l;show Th #[c,f,q]
variable{tA tB':TT}{rest:pD}
def Q3(t u:TT):TT:=λe H Q=>t e H λc d=>if c=true then u e d Q else Q false d
def tOr(t u:TT):TT:=λe H Q=>t e H λc d=>if c=true then Q true d else u e d Q
def Q0(t:TT):TT:=λe H Q=>t e H λc d=>Q (!c) d
theorem gm(d:PT X a tA):PW X (.BoolOp .And [a] pos) tA:=by
 intro j f s g H Q I h;show isTrue_and (zk (d f s g H Q I h) λc i e=> ?_);cases c with
 |true=>show isTrue_and_nil e
 |false=>show e
theorem OH(d:PT X a tA):PW X (.BoolOp .Or [a] pos) tA:=by
 intro j f s g H Q I h;show isTrue_or (zk (d f s g H Q I h) λc i e=> ?_);cases c with
 |false=>show isTrue_or_nil e
 |true=>show e
theorem jH(j:PT X a tA)(k:PW X (.BoolOp .And (b::rest) pos) tB'):PW X (.BoolOp .And (a::b::rest) pos) (Q3 tA tB'):=by
 intro m f s i H Q I h;show isTrue_and (zk (j f s i H _ I h) λc l ⟨d,e,g⟩=> ?_);cases c with
 |true=>show k m f l i d Q e g
 |false=>show#[d,e,g]
theorem Qq(j:PT X a tA)(k:PW X (.BoolOp .Or (b::rest) pos) tB'):PW X (.BoolOp .Or (a::b::rest) pos) (tOr tA tB'):=by
 intro m f s i H Q I h;show isTrue_or (zk (j f s i H _ I h) λc l ⟨d,e,g⟩=> ?_);cases c with
 |true=>show#[d,e,g]
 |false=>show k m f l i d Q e g
theorem k9(e:PT X a tA):PT X (.UnaryOp .Not a pos) (Q0 tA):=by intro f s g H Q I h;show isTrue_not (e f s g H (λc d=>Q (!c) d) I h)
def P7(ta tb:TE):TE:=λe H Q=>ta e H (Zw λc d=>if c=true then tb e d Q else Q (.bl false) d)
def QZ(ta tb:TE):TE:=λe H Q=>ta e H (Zw λc d=>if c=true then Q (.bl true) d else tb e d Q)
def PZ(ta:TE):TE:=λe H Q=>ta e H (Zw λc d=>Q (.bl (!c)) d)
theorem nK{op}(h:PE X a t):PE X (.BoolOp op [a] pos) t:=λd s e H Q I c=>BoolOp_one (h d s e H Q I c)
theorem qc(j:PE X a ta)(k:PE X (.BoolOp .And (b::rest) pos) tb):PE X (.BoolOp .And (a::b::rest) pos) (P7 ta tb):=by
 intro g s i H Q I h;show BoolOp_and (zk (j g s i H _ I h) λv m ⟨x,e,f,l,d⟩=> ?_);let(c,rfl,d):=d;cases l;show Th ?_;cases c with
 |true=>show k g m i e Q f d
 |false=>show#[.bl false,e,f,2,d]
theorem Qt(j:PE X a ta)(k:PE X (.BoolOp .Or (b::rest) pos) tb):PE X (.BoolOp .Or (a::b::rest) pos) (QZ ta tb):=by
 intro g s i H Q I h;show BoolOp_or (zk (j g s i H _ I h) λv m ⟨x,e,f,l,d⟩=> ?_);let(c,rfl,d):=d;cases l;show Th ?_;cases c with
 |false=>show k g m i e Q f d
 |true=>show#[.bl true,e,f,2,d]
theorem Im(g:PE X a ta):PE X (.UnaryOp .Not a pos) (PZ ta):=by intro i s k H Q I h;show UnaryOp_ (zk (g i s k H _ I h) λv l ⟨x,e,f,j,d⟩=> ?_);let(c,rfl,d):=d;cases j;show not_of (Th #[.bl (!c),e,f,2,d])
def tIf(t:TT)(ta tb:TE):TE:=λd H Q=>t d H λc e=>if c=true then ta d e Q else tb d e Q
theorem tV(n:PT X c tA)(l:PE X a ta)(m:PE X b tb):PE X (.IfExp c a b pos) (tIf tA ta tb):=by
 intro e s f H Q I h;show wpAny_IfExp (zk (n e s f H _ I h) λd k ⟨g,i,j⟩=> ?_);cases d with
 |true=>show l e k f g Q i j
 |false=>show m e k f g Q i j
end
def vr(K:Frag)(H:Hp)(a:Addr)(xs:List V):Prop:=
 Rd H a (.lst xs)\/
  ∃(o:Obj)(b:pj)(n:Nat),K.lookup a=some o/\o.cls= .type Xc/\o.dict=none/\o.data= .seq b n/\b.size<=sizeLine/\zj xs b.toList
def GB(K:Frag)(H:Hp)(a:Addr)(xs:List V):Prop:=
 Rd H a (.tup xs)\/
  ∃(o:Obj)(b:pj)(n:Nat),K.lookup a=some o/\o.cls= .type Xl/\o.data= .seq b n/\b.size<=sizeLine/\zj xs b.toList
noncomputable def Ro:Value->Option V
 | .none=>some .non
 | .bool b=>some (.bl b)
 | .int i _=>some (.int i)
 | .str x _=>some (.str x)
 | .bytes b _=>some (.byt b)
 | .float b _=>some (.flt b)
 | .ref a=>some (.ref a)
 | .type n=>some (.ty n)
 |_=>none
theorem aZ.abs(r:aZ x u):Ro u=some x:=by
 cases x with
 |non=>cases r;rfl
 |bl _=>cases r;rfl
 |int _=>let(t,rfl):=r;rfl
 |str _=>let(t,rfl):=r;rfl
 |byt _=>let(t,rfl):=r;rfl
 |flt _=>let(t,rfl):=r;rfl
 |ref _=>cases r;rfl
 |ty _=>cases r;rfl
theorem aZ.inj(r:aZ x u)(q:aZ y u):x=y:=Sm (r.abs.symm.trans q.abs)
theorem zj.inj:∀ {xs a:List V} {us:pk},zj xs us->zj a us->xs=a
 |_,_,_, .nil, .nil=>rfl
 |_,_,_, .cons r t, .cons b t'=>by rw[r.inj b,zj.inj t t']
section
variable{X:Cx}{pins:n7}{σ:St}{H:Hp}{s:rz}{a:Addr}{xs ys:List V}
theorem vr.of{K:Frag}(h:H a=some (.lst xs)):vr K H a xs:= .inl (.inl h)
theorem GB.of{K:Frag}(h:H a=some (.tup xs)):GB K H a xs:= .inl (.inl h)
theorem wh.list(I:wh X pins σ H s)(h:vr X.K H a xs):∃b:List Value,zj xs b/\PlainL s.1 a b.toArray/\xs.length<=sizeLine:=by
 rcases h with h|⟨o,b,n,f,c,d,g,hz,r⟩
 .let(z,b,n,r,e):=h.ok I.hok;show#[b,r,#[_,n,e,222],z]
 .show#[b.toList,r,#[o,n,I.kIn a o f,c,d,#[5,g]],6];let e:=r.length;simp only[Sq]at e;lia
theorem wh.tuple(I:wh X pins σ H s)(h:GB X.K H a xs):∃b:List Value,zj xs b/\IsTup s.1 a b.toArray/\xs.length<=sizeLine:=by
 rcases h with h|⟨o,b,n,d,c,f,hz,r⟩
 .let(z,b,r,p):=h.ok I.hok;show#[b,r,p,z]
 .show#[b.toList,r,#[o,I.kIn a o d,c,n,#[5,f]],6];let e:=r.length;simp only[Sq]at e;lia
theorem wh.list_inj(I:wh X pins σ H s)(h:vr X.K H a xs)(h':vr X.K H a ys):xs=ys:=by
 let(c,r,(o,n,e,_,_,d),_):=I.list h;let(its',f,(i,g,b,_,_,d'),_):=I.list h';rw[e]at b;cases b;rw[d]at d';injection d' with d1 _
 have:c=its':=#[5,Se aes d1]
 subst this;show r.inj f
theorem wh.tuple_inj(I:wh X pins σ H s)(h:GB X.K H a xs)(h':GB X.K H a ys):xs=ys:=by
 let(c,r,(o,e,_,n,d),_):=I.tuple h;let(its',f,(i,b,_,g,d'),_):=I.tuple h';rw[e]at b;cases b;rw[d]at d';injection d' with d1 _
 have:c=its':=#[5,Se aes d1]
 subst this;show r.inj f
end
noncomputable abbrev Cx.wish(X:Cx)(E:gs):Cx:={X with xe:=E}
noncomputable abbrev Cx.nox(X:Cx):Cx:=X.wish λ_ _=>False
theorem Cx.Ok.wish{X:Cx}(ok:X.Ok)(E:gs):(X.wish E).Ok:=
 #[ok.mod,ok.kind,ok.glob,ok.blt,ok.above,ok.inj,ok.has,ok.cab,ok.hd,ok.frames,ok.stk,ok.exf,ok.bs,ok.bsz,ok.noex,ok.exfs,ok.funs,ok.frf]
theorem Cx.Ok.unwish{X:Cx}(ok:(X.wish E).Ok):X.Ok:=
 #[ok.mod,ok.kind,ok.glob,ok.blt,ok.above,ok.inj,ok.has,ok.cab,ok.hd,ok.frames,ok.stk,ok.exf,ok.bs,ok.bsz,ok.noex,ok.exfs,ok.funs,ok.frf]
section
variable{X:Cx}{pins:n7}{σ:St}{H:Hp}{s:rz}{E:gs}
theorem wh.wish(I:wh X pins σ H s)(E:gs):wh (X.wish E) pins σ H s:=#[I.ok.wish E,I.os,I.bare,I.base,I.loc,I.cell,I.free,I.freeC,I.pin,I.hok,I.len]
theorem wh.unwish(I:wh (X.wish E) pins σ H s):wh X pins σ H s:=#[I.ok.unwish,I.os,I.bare,I.base,I.loc,I.cell,I.free,I.freeC,I.pin,I.hok,I.len]
theorem SP.unwish(h:SP (X.wish E) pins D f s'):SP X pins D f s':=by
 cases f with
 |next=>let(a,H',I,q):=h;show#[a,H',I.unwish,q]
 |brk=>let(a,H',I,q):=h;show#[a,H',I.unwish,q]
 |cont=>let(a,H',I,q):=h;show#[a,H',I.unwish,q]
 |ret u=>let(v,a,H',I,r,q):=h;show#[v,a,H',I.unwish,r,q]
theorem X4.nox{st:List Stmt}(h:X4 X.nox st t):X4 X st t:=λpins s σ H D I a=>
 TZ (h pins s σ H D (I.wish _) a) (λ_ _ q=>q.unwish) λ_ _ z=>False.elim z
end
section
variable{X:Cx}{st:Stmt}{rest:List Stmt}{t u:TS}{e:Expr}{te:TE}{pos:Pos}
def P0:TS:=λD a H=>D.nx a H
def Eh(t u:TS):TS:=λD a H=>t {D with nx:=u D} a H
theorem Ls:X4 X [] P0:=λ_ _ a H _ I h=>UI #[a,H,I,h]
theorem Ic(c:PS X st t)(d:X4 X rest u):X4 X (st::rest) (Eh t u):=by
 intro a s i H D I h;show WB (zk (c a s i H {D with nx:=u D} I h) λf g q=> ?_);cases f with
 |next=>
  let(j,H',b,q):=q;show d a g j H' D b q
 |ret v=>show q
 |brk=>show q
 |cont=>show q
theorem rW(a:PS X st t):X4 X [st] t:=by
 intro b s c H D I h;show WB (zk (a b s c H D I h) λf d q=> ?_);cases f with
 |next=>show UI q
 |ret v=>show q
 |brk=>show q
 |cont=>show q
theorem wh.quiet{a:St}(I:wh X pins a H s):interactive X.10=false:=by simp[interactive,I.ok.kind]
def P2(te:TE):TS:=λD a H=>te a H λ_ b=>D.nx a b
theorem Lw(d:PE X e te)(f:aaS e none pos.line X.10=pure false:=by rfl):PS X (.Expr e pos) (P2 te):=by intro g s a H D I h;show wpAny_Expr_any (zk (d g s a H _ I h) λv k ⟨x,b,c,j,i⟩=>#[a,b,c,i]) I.quiet f
def PX(te:TE):TS:=λD a H=>te a H D.rt
theorem OJ(d:PE X e te):PS X (.Return (some e) pos) (PX te):=by intro f s a H D I h;show wpAny_Return_some (zk (d f s a H _ I h) λv j ⟨x,b,c,i,g⟩=>#[x,a,b,c,i,g])
def Q1(c:TT)(t u:TS):TS:=λD a H=>c a H λb d=>if b=true then t D a d else u D a d
theorem Qs(o:PT X c tc)(m:X4 X a t)(n:X4 X b u):PS X (.If c a b pos) (Q1 tc t u):=by
 intro f s g H D I h;show wpAny_If (zk (o f s g H _ I h) λd l ⟨i,j,k⟩=> ?_);cases d with
 |true=>show m f l g i D j k
 |false=>show n f l g i D j k
def N0:TS:=λ_ _ _=>False
theorem oO:PS X st N0:=λ_ _ _ _ _ _ h=>h.elim
end
abbrev TG:=V->St->Hp->(St->Hp->Prop)->Prop
abbrev Y1:=List V->St->Hp->(St->Hp->Prop)->Prop
def PG(X:Cx)(target:Expr)(t:TG):Prop:=
 ∀(a:n7) (s:rz) (b:St) (H:Hp) (v:V) (u:Value) (Q:St->Hp->Prop),wh X a b H s->aZ v u->t v b H Q->
  aag (model X.1 X.w) X.A (adn target X.10 u) (λ_ s'=>∃c H',wh X a c H' s'/\Q c H') X.xe s
def ZG(X:Cx)(ts:pD)(t:Y1):Prop:=
 ∀(a:n7) (s:rz) (b:St) (H:Hp) (vs:List V) (us:pk) (Q:St->Hp->Prop),wh X a b H s->zj vs us->t vs b H Q->
  aag (model X.1 X.w) X.A (assignInOrder ((aa4 ts X.10).map (·.2)) us) (λ_ s'=>∃c H',wh X a c H' s'/\Q c H') X.xe s
section
variable{X:Cx}{pos:Pos}
def aH(i:Nat):TG:=λv a H Q=>Q (a.set i (some v)) H
theorem yb{i:Nat}{x:Str}(b:X.N.Nodup)(d:X.N[i]?=some x)(hx:Zm X.10.1 x)(c:X.fn x=true\/X.10.1.2.lookup x=some .local:=by first|show .inl rfl|show .inr rfl|assumption):PG X (.Name x pos) (aH i):=by intro e s f H v u Q I r h;show acU (zv I b d hx r (λs' a=>#[_,H,a,h]) c)
def Rj:Y1:=λvs a H Q=>vs=[]/\Q a H
inductive RdC(t:TG)(u:Y1)(vs:List V)(σ:St)(H:Hp)(Q:St->Hp->Prop):Prop
 |mk(v:V) (r:List V) (e:vs=v::r) (q:t v σ H λσ' H'=>u r σ' H' Q):RdC t u vs σ H Q
def QE(t:TG)(u:Y1):Y1:=λvs a H Q=>RdC t u vs a H Q
theorem ie:ZG X [] Rj:=by intro b s a H vs us Q I r h;let(e,h):=h;subst e;cases r;show assignInOrder_nil #[a,H,I,h]
theorem bR{e:Expr}{es:pD}{t:TG}{u:Y1}(f:PG X e t)(g:ZG X es u)(i:(aa4 (e::es) X.10).map (·.2)=adn e X.10::(aa4 es X.10).map (·.2):=by rfl):ZG X (e::es) (QE t u):=by
 intro a s m H vs us Q I r h;let(v,o,d,h):=h;subst d;cases r with
 |cons r k=>
  rw[i];show assignInOrder_cons (zk (f a s m H _ _ _ I r h) λ_ l ⟨n,b,c,j⟩=> ?_);show g a l n b _ _ Q c k j
inductive RdT(K:Frag)(n:Nat)(t:Y1)(v:V)(σ:St)(H:Hp)(Q:St->Hp->Prop):Prop
 |mk(a:Addr) (xs:List V) (e:v= .ref a) (s:GB K H a xs) (l:xs.length=n) (q:t xs σ H Q):RdT K n t v σ H Q
def QD(K:Frag)(n:Nat)(t:Y1):TG:=λv a H Q=>RdT K n t v a H Q
theorem OR{es:pD}{k:Nat}{t:Y1}{n:Nat}(l:X.calm=true)(h:ZG X es t)(m:(aa4 es X.10).length=n:=by rfl)(q:(aa4 es X.10).findIdx? (·.1)=none:=by rfl):PG X (.Tuple es k pos) (QD X.K n t):=by
 intro d s g H v u Q I r c;let(a,xs,j,p,hl,c):=c;subst j;cases r;let(x,f,w,hz):=I.tuple p;show assign_Tuple_tuple (I.ok.hd l) w (by simp[m,<-hl,f.length]) q λh' hx=> ?_;let i:wh X d g H {s with heap:=h'}:=I.kept (t':=s.4) λb o e=>hx b o (Sb (R0 e)) e;show h d _ g H xs _ Q i #[5,f] c
def GJ(c:TE)(g:TG):TS:=λD a H=>c a H λx b=>g x a b D.nx
theorem ON{a e:Expr}{c:TE}{g:TG}(k:PE X e c)(l:PG X a g)(m:swapsWithSole [a] e pos.line X.10=pure false:=by rfl)(n:swappedStores [a] e X.10=pure none:=by rfl)(j:(aa4 [a] X.10).map (·.2)=[adn a X.10]:=by rfl):PS X (.Assign [a] e pos) (GJ c g):=by
 intro b s d H D I h;show wpAny_Assign_stores (zk (k b s d H _ I h) λv r ⟨x,f,i,p,o⟩=> ?_) m n;rw[j];show zk (l b r d f x v _ i p o) λ_ t q=>q
theorem OI{i:Nat}{x:Str}{e:Expr}{a:TE}{pos':Pos}(f:X.N.Nodup)(k:X.N[i]?=some x)(hx:Zm X.10.1 x)(g:PE X e a)(l:aaS e (some (.Name x pos')) pos.line X.10=pure false:=by rfl)(j:X.fn x=true\/X.10.1.2.lookup x=some .local:=by first|show .inl rfl|show .inr rfl|assumption):
  PS X (.Assign [.Name x pos'] e pos) (GJ a (aH i)):=by
 intro m s p H D I h;show wpAny_Assign_Name (zk (g m s p H _ I h) λv q ⟨y,b,c,o,n⟩=> ?_) l;show zv c f k hx o (λr d=>#[_,b,d,n]) j
end
structure It where
 go:Nat->Hp->Prop
 yld:Nat->Hp->V->Hp->Prop
 stop:Nat->Hp->Prop
def vN(X:Cx)(a:n7)(H:Hp)(b:Addr):Prop:=
 H b=none/\b≠X.10.2/\b∉X.fs/\(b∈X.ex\/X.s₀.1.1.size<=b)/\(∀x c,X.10.4.lookup x=some c->c≠b)/\∀p∈X.pn++a,p.1≠b
theorem wh.fpOk{g:St}{s:rz}{b:Addr}(I:wh X pins g H s)(a:s.1.1.size<=b)(d:H' b=none):vN X pins H' b:=by
 show#[d,T7 (RK I.lt a),I.nofs a, .inr (RB I.sz a),λx c e z=> ?_,λp f z=> ?_]
 .let(v,q):=I.cell x c e;show absurd (RK q.lt (by rw[z];show a)) (S2 _)
 .show absurd (RK (R0 (I.pin p f).1) (by rw[z];show a)) (S2 _)
structure X8(P:rj)(w:t4)(K:Frag)(tg:Expr)(J:It)(fp:List Addr)(it:Addr)(tn:Nat->Heap->Prop):Prop where
 mem:it∈fp
 obj:∀i h,tn i h->∀b∈fp,∃o,h.get? b=some o/\∀v,o.data≠ .cell v
 keep:∀i h h',tn i h->(∀b∈fp,∀o,h.get? b=some o->h'.get? b=some o)->tn i h'
 item:∀(X:Cx),X.1=P->X.w=w->X.K=K->X.calm=true->∀(i:Nat) (pins:n7) (s:rz) (σ:St) (H:Hp) (E:gs),wh X pins σ H s->(∀b∈fp,vN X pins H b)->tn i s.1->J.go i H->
  aag (model P w) X.A (abd (.ref it)) (λr s1=>∃u,r=some u/\
   aag (model P w) X.A (ab4 tg (.ref it) u) (λ_ s2=>∃x H',wh X pins σ H' s2/\aZ x u/\J.yld i H x H'/\tn (i+1) s2.1/\∀b∈fp,H' b=none) E s1) E s
 done:∀(X:Cx),X.1=P->X.w=w->X.K=K->X.calm=true->∀(i:Nat) (pins:n7) (s:rz) (σ:St) (H:Hp) (E:gs),wh X pins σ H s->(∀b∈fp,vN X pins H b)->tn i s.1->J.stop i H->
  aag (model P w) X.A (abd (.ref it)) (λr s1=>r=none/\wh X pins σ H s1) E s
 self:∀(A:tj)(i:Nat)(s:rz)(Q:gs)(E:gs),tn i s.1->Q (.ref it) s->aag (model P w) A (ado (.ref it)) Q E s
abbrev TI:=St->Hp->(It->Hp->Prop)->Prop
def PIE(X:Cx)(c:n7)(h:St)(g:Expr)(R:It->Hp->Prop)(f:Value)(d:rz):Prop:=
 ∃(it:Addr)(a:List Addr)(e:Nat->Heap->Prop)(J:It)(H':Hp),f= .ref it/\wh X c h H' d/\X8 X.1 X.w X.K g J a it e/\e 0 d.1/\(∀b∈a,vN X c H' b)/\R J H'
def PI(X:Cx)(d iter:Expr)(e:TI):Prop:=
 ∀(b:n7) (s:rz) (a:St) (H:Hp) (R:It->Hp->Prop),wh X b a H s->e a H R->
  aag (model X.1 X.w) X.A (eval iter X.10) (λv c=>aag (model X.1 X.w) X.A (ado v) (PIE X b a d R) X.xe c) X.xe s
theorem AM{s:rz}{o:Obj}(e:s.1.get? it=some o)(b:o.cls= .type n)(c:o.data= .fields vs)(d:fv.contains n=false)(a:Q aaR s):aag M A (ab4 f (.ref it) u) Q E s:=by
 unfold ab4;cases f<;>first
  |show RS a
  |(cases u<;>first
    |show RS a
    |(show RC (adV e ?_)
      rw[b,c];change aag M A (if(fv.contains n&&vs[0]?==some (abk _))=true then _ else _) Q E s;rw[RQ (by intro h;rw[d,Vr]at h;cases h)];show RS a))
noncomputable def YU(K:Frag)(a:Addr):It:=
 #[λi H=>∃xs x,vr K H a xs/\xs[i]?=some x,λi H x H'=>H'=H/\∀xs,vr K H a xs->xs[i]?=some x,λi H=>∃xs,vr K H a xs/\xs.length<=i]
noncomputable def ZV(K:Frag)(a:Addr):It:=
 #[λi H=>∃xs x,GB K H a xs/\xs[i]?=some x,λi H x H'=>H'=H/\∀xs,GB K H a xs->xs[i]?=some x,λi H=>∃xs,GB K H a xs/\xs.length<=i]
noncomputable def Ze(a:Int)(n:Nat):It:=#[λi _=>i<n,λi H x H'=>H'=H/\x= .int (a+i),λi _=>n<=i]
theorem D9{P:rj}{w:t4}{K:Frag}{tg:Expr}(a it:Addr):X8 P w K tg (YU K a) [it] it (λi h=>h.IsListIter it a i) where
 mem:=#[5]
 obj:=λi h st b f=>by
  let e:b=it:=#[5,f]
  subst e;let(o,e,c,d):=st;show#[o,e,λv z=>by rw[d]at z;cases z]
 keep:=λi h h' st k=>st.at λo e=>k it #[5] o e
 item:=by intro X r y q B i G s L H E I g st t;subst r y q;let(xs,x,j,hx):=t;let(U,A,p,hz):=I.list j;let(u,O,ru):=A.get hx;let(f0,f1,f2,l,m,n):=g it #[5];show abP st p.isList (x:=u) #[5,O] λh' J sb=> ?_;let M:wh X G L H {s with heap:=h'}:=I.turned (t':=s.4) (λb o f e=>(sb.2 b f).trans e) f0 f1 l m n;let(o,e,c,d):=id J;show#[u,2,AM (s:={s with heap:=h'}) e c d ∅ #[x,H,M,ru,#[2,λys Q=>by rw[I.list_inj Q j];show hx],J,λb f=>(g b f).1]]
 done:=by intro X r y q B i G s L H E I g st t;subst r y q;let(xs,j,hx):=t;let(U,A,p,hz):=I.list j;let(f0,f1,f2,l,m,n):=g it #[5];let hl:=A.length;show ab7 (I.ok.hd B) st p.isList (by simp;lia) λh' N=>#[2,I.turned (t':=s.4) (λb o f e=>N b o f e) f0 f1 l m n]
 self:=λ_ _ _ _ _ st h=>wpAny_pyIter_listiter st h
theorem Be{P:rj}{w:t4}{K:Frag}{tg:Expr}(a it:Addr):X8 P w K tg (ZV K a) [it] it (λi h=>h.IsTupleIter it a i) where
 mem:=#[5]
 obj:=λi h st b f=>by
  let e:b=it:=#[5,f]
  subst e;let(o,e,c,d):=st;show#[o,e,λv z=>by rw[d]at z;cases z]
 keep:=λi h h' st k=>st.at λo e=>k it #[5] o e
 item:=by intro X r y q G i J s M H E I g st t;subst r y q;let(xs,x,j,hx):=t;let(A,B,p,hz):=I.tuple j;let(u,Q,ru):=B.get hx;let(f0,f1,f2,l,m,n):=g it #[5];show wpAny_pyNext_tuple_item st (show s.1.IsTuple a A.toArray from p) (x:=u) #[5,Q] λh' L sb=> ?_;let N:wh X J M H {s with heap:=h'}:=I.turned (t':=s.4) (λb o f e=>(sb.2 b f).trans e) f0 f1 l m n;let(o,e,c,d):=id L;show#[u,2,AM (s:={s with heap:=h'}) e c d ∅ #[x,H,N,ru,#[2,λys U=>by rw[I.tuple_inj U j];show hx],L,λb f=>(g b f).1]]
 done:=by intro X r y q G i J s M H E I g st t;subst r y q;let(xs,j,hx):=t;let(A,B,p,hz):=I.tuple j;let(f0,f1,f2,l,m,n):=g it #[5];let hl:=B.length;show wpAny_pyNext_tuple_end (I.ok.hd G) st (show s.1.IsTuple a A.toArray from p) (by simp;lia) λh' O=>#[2,I.turned (t':=s.4) (λb o f e=>O b o f e) f0 f1 l m n]
 self:=λ_ _ _ _ _ st h=>wpAny_pyIter_tupleiter st h
theorem Bf{P:rj}{w:t4}{K:Frag}{M:Expr}(it:Addr)(d:Int)(n:Nat):X8 P w K M (Ze d n) [it] it (λi h=>ach h it (d+(i:Nat)*1) ((n:Int) - (i:Nat)) 1) where
 mem:=#[5]
 obj:=λi h st b a=>by
  let e:b=it:=#[5,a]
  subst e;show#[_,st,λv z=>by have N:abv _=abn v:=z;cases N]
 keep:=λi h h' st k=>k it #[5] _ st
 item:=by intro X m r l p i u s A H E I c st q;subst m r l;let(f0,f1,f2,f,g,j):=c it #[5];let W:=Walks.range (prog:=X.1) (w:=X.w) (I.ok.hd p) it d 1 n;show W.item i s _ _ q st λv h' y J x L=> ?_;let(t,rfl):=J;let B:wh X u A H {s with heap:=h',toks:=y}:=I.turned (λb o a e=>L b o #[5,a] e) f0 f1 f g j;show#[7,AM (s:={s with heap:=h',toks:=y}) (n:= "range_iterator") x rfl rfl ∅ #[.int (d+i),H,B,#[t,6],#[22],x,λb a=>(c b a).1]];rw[V6]
 done:=by intro X m r l p i u s A H E I c st q;subst m r l;let(f0,f1,f2,f,g,j):=c it #[5];show abQ (I.ok.hd p) st (by have:n<=i:=q;lia) λh' G=>#[2,I.turned (t':=s.4) (λb o a e=>G b o a e) f0 f1 f g j]
 self:=λ_ _ _ _ _ st h=>abR st h
section
variable{X:Cx}{tg:Expr}
inductive RdL(K:Frag)(R:It->Hp->Prop)(x:V)(H:Hp):Prop
 |mk(a:Addr) (e:x= .ref a) (s:∃xs,vr K H a xs) (q:R (YU K a) H):RdL K R x H
def JG(K:Frag)(a:TE):TI:=λb H R=>a b H (RdL K R)
def Pw(K:Frag)(c:TE):TI:=λd H R=>c d H λx b=>∃a,x= .ref a/\(∃xs,GB K b a xs)/\R (ZV K a) b
theorem LB(hl:PE X l tl):PI X tg l (JG X.K tl):=by
 intro j s n H R I h;show zk (hl j s n H _ I h) λv d ⟨x,f,c,m,k⟩=> ?_;let(a,e,(xs,i),q):=k;subst e;cases m;let(r,t,p,hz):=c.list i;show UT p.isList ?_;show#[d.1.1.size,[d.1.1.size],11,f,2,c.kept (t':=d.4) λb o e=>RN _ e,D9 a _,#[_,R8 _ rfl,22],λb g=> ?_,q];let e:b=d.1.1.size:=#[5,g]
 subst e;show c.fpOk (RJ _) (c.hok.fresh (RJ _))
theorem OP(hl:PE X l tl):PI X tg l (Pw X.K tl):=by
 intro k s r H R I h;show zk (hl k s r H _ I h) λv c ⟨x,f,d,n,m⟩=> ?_;let(a,e,(xs,i),q):=m;subst e;cases n;let(j,t,p,hz):=d.tuple i;show wpAny_pyIter_tuple (show c.1.IsTuple a j.toArray from p) ?_;show#[c.1.1.size,[c.1.1.size],11,f,2,d.kept (t':=c.4) λb o e=>RN _ e,Be a _,#[_,R8 _ rfl,22],λb g=> ?_,q];let e:b=c.1.1.size:=#[5,g]
 subst e;show d.fpOk (RJ _) (d.hok.fresh (RJ _))
theorem HU{f:St}{s:rz}{a c:Int}(I:wh X g f H s)(j: -(2^62)<=a)(k:a<2^62)(l: -(2^62)<=c)(m:c<2^62)(q:R (Ze a (c-a).toNat) H):aag (model X.1 X.w) X.A (ado (.ref s.1.1.size)) (PIE X g f tg R) E {s with heap:=s.1.push {cls:= .type Xh,data:= .fields #v[.int a t, .int c u, .int 1 v]},toks:=tk}:=by
 show acI (IsRange.new ..) (small_one j k l m) ?_;let d:wh X g f H {s with heap:=s.1.push {cls:= .type Xh,data:= .fields #v[.int a t, .int c u, .int 1 v]},toks:=tk}:=I.kept λb o e=>RN _ e;show#[(s.1.push {cls:= .type Xh,data:= .fields #v[.int a t, .int c u, .int 1 v]}).1.size,[(s.1.push {cls:= .type Xh,data:= .fields #v[.int a t, .int c u, .int 1 v]}).1.size],11,H,2,
  d.kept (t':=tk) λb o e=>RN _ e,Bf _ a (c-a).toNat,6,λb n=> ?_,q]
 .let h:a+((0:Nat):Int)*1=a:=#[5]
  let i:(((c-a).toNat:Nat):Int) - ((0:Nat):Int)=aaL a c 1:=by rw[rangeSize_one];split<;>lia
  change ach _ _ (a+((0:Nat):Int)*1) ((((c-a).toNat:Nat):Int) - ((0:Nat):Int)) 1;rw[h,i];show R8 _ rfl
 .let e:b=(s.1.push {cls:= .type Xh,data:= .fields #v[.int a t, .int c u, .int 1 v]}).1.size:=#[5,n]
  subst e;show d.fpOk (RJ _) (d.hok.fresh (RJ _))
def NM(b:TA):TI:=λc H R=>b c H λvs a=>∃j:Int,vs=[.int j]/\ -(2^62)<=j/\j<2^62/\R (Ze 0 j.toNat) a
theorem EO{a:Expr}{c:TA}{p pos:Pos}(g:Gl X Xh)(i:X.mg Xh=none)(f:PA X [a] c)(k:aad [a] X.10=[(false,eval a X.10)]:=by rfl):PI X tg (.Call (.Name Xh p) [a] [] pos) (NM c):=by
 intro l s u H R I h;show Call_ (jU I g i adW (S5 (zk (f pos l s u H _ I h) λus w ⟨vs,v,d,n,b⟩=> ?_) k rfl));let(j,e,b,m,q):=b;subst e;cases n with
 |cons r o=>
  cases o;let(t,rfl):=r;show call_range_1 (HU d () () b m #[5,q])
def P1(h:TI)(g:TG)(f:TS):TS:=λD a H=>h a H λJ d=>∃W:Nat->Nat->St->Hp->Prop,(∃m,W 0 m a d)/\∀i m a H,W i m a H->
 (J.stop i H/\D.nx a H)\/(J.go i H/\∃N:St->Hp->Prop,(∀c H',N c H'->∃b,b<m/\W (i+1) b c H')/\∀x H',J.yld i H x H'->g x a H' λj e=>f {D with nx:=N,ct:=N,bk:=D.nx} j e)
noncomputable def tP(a:List Addr)(h:Heap):List (Addr×Obj):=a.filterMap λb=>(h.get? b).map λo=>(b,o)
theorem jS{h:Heap}(a:b∈fp)(e:h.get? b=some o):(b,o)∈tP fp h:=Vi.mpr #[b,a,by rw[e];rfl]
theorem E7{h:Heap}(d:p∈tP fp h):p.1∈fp/\h.get? p.1=some p.2:=by
 let(b,c,e):=Vi.mp d;cases q:h.get? b with
 |none=>rw[q]at e;cases e
 |some o=>
  rw[q]at e;let a:(b,o)=p:=Sm e;subst a;show#[c,q]
theorem wh.pinned{g:St}{s:rz}(I:wh X pins g H s)(h:∀b∈c,vN X pins H b)(i:∀b∈c,∃o,s.1.get? b=some o/\∀v,o.data≠ .cell v):wh X (pins++tP c s.1) g H s:=
 I.pins_of λp j=>(R9.mp j).elim (λz=>I.pin p (Sf _ z)) λz=>by let(f,e):=E7 z;let(f0,f1,f2,_):=h p.1 f;let(o,a,d):=i p.1 f;rw[e]at a;cases a;show#[e,f0,f1,f2,d]
theorem wh.unpinned{a:St}(I:wh X (pins++pl) a H s):wh X pins a H s:=I.pins_of λp b=>I.pin p (Sf _ (SF _ b))
theorem OL{iter:Expr}{Q:List Stmt}{wi:TI}{g:TG}{tb:TS}{pos:Pos}(t:PassesOwn (model X.1 X.w) X.A X.10 X.xe)(hc:X.calm=true)(hi:PI X tg iter wi)(hg:PG X tg g)(j:X4 X Q tb)(hs:∀x,aaJ iter X.10 x=pure x:=by intro _;rfl):PS X (.For tg iter Q [] pos) (P1 wi g tb):=by
 intro p s σ H D I h;show wpAny_For (zk (hi p s σ H _ I h) λv s1 h1=>zk h1 λcT s2 h2=> ?_) hs;let(it,q,tn,J,H2,e,I2,T,cz,f2,W,(m0,w0),turn):=h2;subst e;let M:∀ {H':Hp},(∀b∈q,H' b=none)->∀b∈q,vN X p H' b:=λhn b j=>#[hn b j,(f2 b j).2];show codeAny_forLoop_any (λn s'=>∃i z H',wh X p z H' s'/\tn i s'.1/\(∀b∈q,H' b=none)/\W i n z H') ?_ m0 #[0,σ,H2,I2,cz,λb j=>(f2 b j).1,w0];rintro n s3 ⟨i,B,G,I3,aj,U,w3⟩;rcases turn i n B G w3 with ⟨stop,qn⟩|⟨go,N,hN,step⟩
 .show Vc t (zk (T.done X rfl rfl rfl hc i p s3 B G X.xe I3 (M U) aj stop) λr s4 ⟨K,I4⟩=> ?_);subst K;show UI #[B,G,I4,qn]
 .show Vc t (zk (T.item X rfl rfl rfl hc i p s3 B G X.xe I3 (M U) aj go) λr s4 ⟨u,K,h4⟩=> ?_);subst K;show Vc t (zk h4 λ_ s5 ⟨x,O,I5,r5,y5,L,bt⟩=> ?_);let bk:=I5.pinned (M bt) (T.obj _ _ L);show Vc t (zk (hg _ s5 B O x u _ bk r5 (step x O y5)) λ_ s6 ⟨cS,H6,I6,q6⟩=> ?_);show Vc t (zk (j _ s6 cS H6 _ I6 q6) λf s7 l=> ?_);let again:∀ {k:St} {a:Hp},wh X (p++tP q s5.1) k a s7->N k a->∃m,m<n/\∃i z H',wh X p z H' s7/\tn i s7.1/\(∀b∈q,H' b=none)/\W i m z H':=λ{k a} c y=>by let(m',hm,w7):=hN k a y;show#[m',hm,i+1,k,a,c.unpinned,T.keep _ _ _ L λb j o e=>(c.pin (b,o) (Sf _ (Sf _ (jS j e)))).1,λb j=> ?_,w7];let(o,e,d):=T.obj _ _ L b j;show(c.pin (b,o) (Sf _ (Sf _ (jS j e)))).2.1
  cases f with
  |next=>let(k,a,c,y):=l;show again c y
  |cont=>let(k,a,c,y):=l;show again c y
  |brk=>let(k,a,c,l):=l;show#[k,a,c.unpinned,l]
  |ret v=>let(x7,k,a,c,r7,l):=l;show#[x7,k,a,c.unpinned,r7,l]
end
theorem aP{K:Frag}{xs:List V}{g:TG}{l:TS}{D:Yg}(Pv:Nat->St->Hp->Prop)(n:Pv 0 b H)(hl:∀i b H,i<=xs.length->Pv i b H->vr K H a xs)(r:∀i x b H,xs[i]?=some x->Pv i b H->g x b H λh d=>l {D with nx:=Pv (i+1),ct:=Pv (i+1),bk:=D.nx} h d)(o:∀b H,Pv xs.length b H->D.nx b H):
  ∃W:Nat->Nat->St->Hp->Prop,(∃m,W 0 m b H)/\∀i m b H,W i m b H->
   ((YU K a).stop i H/\D.nx b H)\/((YU K a).go i H/\∃N:St->Hp->Prop,(∀f H',N f H'->∃k,k<m/\W (i+1) k f H')/\∀x H',(YU K a).yld i H x H'->g x b H' λh d=>l {D with nx:=N,ct:=N,bk:=D.nx} h d):=by
 show#[λi m b H=>m=xs.length-i/\i<=xs.length/\Pv i b H,#[xs.length,#[5],Sw _,n],6];rintro i m b H ⟨rfl,j,p⟩;let q:=hl i b H j p;by_cases c:i<xs.length
 .show .inr #[#[xs,xs[i],q,by simp[c]],Pv (i+1),λf H' s=>#[xs.length- (i+1),TU c (S3 _),2,c,s],λx H' y=> ?_];let(e,y):=y;subst e;show r i x b _ (y xs q) p
 .let e:i=xs.length:=TL j (Ts c);subst e;show .inl #[#[xs,q,RJ _],o b H p]
theorem cg{c:Int}{g:TG}{k:TS}{D:Yg}(Pv:Nat->St->Hp->Prop)(l:Pv 0 a H)(r:∀i a H,i<n->Pv i a H->g (.int (c+i)) a H λh d=>k {D with nx:=Pv (i+1),ct:=Pv (i+1),bk:=D.nx} h d)(o:∀a H,Pv n a H->D.nx a H):
  ∃W:Nat->Nat->St->Hp->Prop,(∃m,W 0 m a H)/\∀i m a H,W i m a H->
   ((Ze c n).stop i H/\D.nx a H)\/((Ze c n).go i H/\∃N:St->Hp->Prop,(∀f H',N f H'->∃j,j<m/\W (i+1) j f H')/\∀x H',(Ze c n).yld i H x H'->g x a H' λh d=>k {D with nx:=N,ct:=N,bk:=D.nx} h d):=by
 show#[λi m a H=>m=n-i/\i<=n/\Pv i a H,#[n,#[5],Sw _,l],6];rintro i m a H ⟨rfl,q,p⟩;by_cases b:i<n
 .show .inr #[b,Pv (i+1),λf H' s=>#[n- (i+1),TU b (S3 _),2,b,s],λx H' y=> ?_];let(e,y):=y;subst e y;show r i a _ b p
 .let e:i=n:=TL q (Ts b);subst e;show .inl #[RJ _,o a H p]
abbrev R2:=V->V->Hp->VK->Prop
def Ol(X:Cx)(f:Value->Value->Sem Value)(r:R2):Prop:=
 ∀(a:n7) (s:rz) (b:St) (H:Hp) (x y:V) (v u:Value) (Q:VK),wh X a b H s->aZ x v->aZ y u->r x y H Q->
  aag (model X.1 X.w) X.A (f v u) (EP X a b Q) X.xe s
def Z8(X:Cx)(f:Value->Sem Value)(r:V->Hp->VK->Prop):Prop:=
 ∀(a:n7) (s:rz) (b:St) (H:Hp) (x:V) (v:Value) (Q:VK),wh X a b H s->aZ x v->r x H Q->
  aag (model X.1 X.w) X.A (f v) (EP X a b Q) X.xe s
def bK(X:Cx)(f:Value)(r:List V->Hp->VK->Prop):Prop:=
 ∀(a:n7) (s:rz) (b:St) (H:Hp) (xs:List V) (us:pk) (Q:VK),wh X a b H s->zj xs us->r xs H Q->
  aag (model X.1 X.w) X.A (call f us) (EP X a b Q) X.xe s
def Y9(r:R2)(d e:TE):TE:=λa H Q=>d a H λx b=>e a b λy c=>r x y c Q
def tUn(r:V->Hp->VK->Prop)(b:TE):TE:=λc H Q=>b c H λx a=>r x a Q
inductive RdI(C:Int->Int->Prop)(g:Int->Int->V)(x y:V)(H:Hp)(Q:VK):Prop
 |mk(i j:Int) (e1:x= .int i) (e2:y= .int j) (c:C i j) (q:Q (g i j) H):RdI C g x y H Q
def rI(C:Int->Int->Prop)(g:Int->Int->V):R2:=λx y H Q=>RdI C g x y H Q
inductive QQ(g:Int->Int->V)(x y:V)(H:Hp)(Q:VK):Prop
 |mk(i j:Int) (e1:x= .int i) (e2:y= .int j) (q:Q (g i j) H):QQ g x y H Q
def YK(g:Int->Int->V):R2:=λx y H Q=>QQ g x y H Q
def rU(g:Int->V):V->Hp->VK->Prop:=λx H Q=>∃i,x= .int i/\Q (g i) H
section
variable{X:Cx}{a b c:Expr}{ta tb tc:TE}{pos:Pos}
theorem PN(l:PE X a ta)(m:PE X b tb){e:St}{R:V->V->Hp->Prop}(I:wh X pins e H s)(h:ta e H λx i=>tb e i λy d=>R x y d){f:Value->Value->Sem Value}(n:∀v u g x y d,wh X pins e d g->aZ x v->aZ y u->R x y d->aag (model X.1 X.w) X.A (f v u) Q X.xe g):
  aag (model X.1 X.w) X.A (eval a X.10) (λv z=>aag (model X.1 X.w) X.A (eval b X.10) (λu B=>aag (model X.1 X.w) X.A (f v u) Q X.xe B) X.xe z) X.xe s:=by
 show zk (l pins s e H _ I h) λv t ⟨x,i,j,q,o⟩=> ?_;show zk (m pins t e i _ j o) λu g ⟨y,d,k,r,p⟩=> ?_;show n v u g x y d k q r p
theorem mJ(i:Ol X (aaF op) r)(f:PE X a ta)(g:PE X b tb):PE X (.BinOp a op b pos) (Y9 r ta tb):=by intro j s n H Q I h;show wpAny_BinOp (PN f g I h λv u m x y d e k l q=>i j m n d x y v u Q e k l q)
theorem tS(j:Z8 X (unaryOp op) r)(i:PE X a ta):PE X (.UnaryOp op a pos) (tUn r ta):=by intro d s e H Q I h;show UnaryOp_ (zk (i d s e H _ I h) λv m ⟨x,f,g,l,k⟩=>j d m e f x v Q g l k)
theorem Za{g:Int->Int->Int}(rule:∀(i j:Int)(t u:Tok)(s:rz)(Q:gs)(E:gs),C i j->Q (.int (g i j) s.4) {s with toks:=s.4+1}->aag (model X.1 X.w) X.A (f (.int i t) (.int j u)) Q E s):
  Ol X f (rI C λi j=> .int (g i j)):=by
 intro l s m H x y v u Q I e k h;let(i,j,rfl,rfl,d,q):=h;let(t,rfl):=e;let(t',rfl):=k;show rule i j t t' s _ _ d #[.int (g i j),H,I.tok _,#[7],q]
theorem IE{g:Int->Int->Int}(rule:∀(i j:Int)(t u:Tok)(s:rz)(Q:gs)(E:gs),Q (.int (g i j) s.4) {s with toks:=s.4+1}->aag (model X.1 X.w) X.A (f (.int i t) (.int j u)) Q E s):
  Ol X f (YK λi j=> .int (g i j)):=by
 intro k s l H x y v u Q I d e h;let(i,j,rfl,rfl,q):=h;let(t,rfl):=d;let(t',rfl):=e;show rule i j t t' s _ _ #[.int (g i j),H,I.tok _,#[7],q]
theorem LR{g:Int->Int->Bool}(rule:∀(i j:Int)(t u:Tok)(s:rz)(Q:gs)(E:gs),Q (.bool (g i j)) s->aag (model X.1 X.w) X.A (f (.int i t) (.int j u)) Q E s):
  Ol X f (YK λi j=> .bl (g i j)):=by
 intro k s l H x y v u Q I d e h;let(i,j,rfl,rfl,q):=h;let(t,rfl):=d;let(t',rfl):=e;show rule i j t t' s _ _ #[.bl (g i j),H,I,2,q]
def Rz(i j:Int):Prop:=0<j/\j<1073741824
def QS(i j:Int):Prop:=0<=j/\j<=1000000/\i.natAbs<2^64
def Gk(i j:Int):Prop:=(-(2^64)<i/\i<2^64)\/(-(2^64)<j/\j<2^64)
theorem Gk.ok(h:Gk i j):IntMulOk i j:=by
 rcases h with ⟨d,e⟩|⟨d,e⟩
 .show .of_left (intBits_le_64 d e)
 .show .of_right (intBits_le_64 d e)
theorem ng(k:Nat):(0:Int)<=2^k:=by rw[two_pow_cast];show S1 _
theorem yh:Ol X (aaF .Add) (YK λi j=> .int (i+j)):=IE λ_ _ _ _ _ _ _ q=>add_int q
theorem O5:Ol X (aaF .Sub) (YK λi j=> .int (i-j)):=IE λ_ _ _ _ _ _ _ q=>sub_int q
theorem IC:Ol X (aaF .Mult) (rI Gk λi j=> .int (i*j)):=Za λ_ _ _ _ _ _ _ d q=>mul_int q d.ok
theorem DD:Ol X (aaF .FloorDiv) (rI Rz λi j=> .int (i/j)):=Za λi j _ _ _ _ _ d q=>by have e:(0:Int)<j:=d.1;let f:j<1073741824:=d.2;show floordiv_int () (by rw[Wh i ()];show q) (.inl (PyProof.noPylong_small ()))
theorem BY:Ol X (aaF .Mod) (rI (λ_ j=>0<j) λi j=> .int (i % j)):=Za λi j _ _ _ _ _ d q=>by have e:(0:Int)<j:=d;show mod_int' () (by rw[Int.fmod_eq_emod_of_nonneg i ()];show q)
theorem O6:Ol X (aaF .Pow) (rI QS λi j=> .int (i^j.toNat)):=Za λ_ _ _ _ _ _ _ d q=>pow_int_small d.1 d.2.1 d.2.2 q
theorem IB:Ol X (aaF .LShift) (rI QS λi j=> .int (i*2^j.toNat)):=Za λ_ _ _ _ _ _ _ d q=>lshift_int_small d.1 d.2.1 d.2.2 q
theorem qf:Ol X (aaF .RShift) (rI (λ_ j=>0<=j) λi j=> .int (i/2^j.toNat)):=Za λi j _ _ _ _ _ d q=>
 rshift_int d (by rw[Wh i (ng _)];show q)
theorem Pa:Ol X (aaF .BitAnd) (YK λi j=> .int (aaj i j)):=IE λ_ _ _ _ _ _ _ q=>and_int q
theorem NI:Ol X (aaF .BitOr) (YK λi j=> .int (aao i j)):=IE λ_ _ _ _ _ _ _ q=>or_int q
theorem BX:Ol X (aaF .BitXor) (YK λi j=> .int (aaY i j)):=IE λ_ _ _ _ _ _ _ q=>xor_int q
theorem unI{g:Int->Int}(rule:∀(i:Int)(t:Tok)(s:rz)(Q:gs)(E:gs),Q (.int (g i) s.4) {s with toks:=s.4+1}->aag (model X.1 X.w) X.A (f (.int i t)) Q E s):
  Z8 X f (rU λi=> .int (g i)):=by
 intro e s j H x v Q I d h;let(i,rfl,q):=h;let(t,rfl):=d;show rule i t s _ _ #[.int (g i),H,I.tok _,#[7],q]
theorem nc:Z8 X (unaryOp .USub) (rU λi=> .int (-i)):=unI λ_ _ _ _ _ q=>neg_int q
end
noncomputable def ZA:V->V->Bool
 | .non, .non=>true| .non, .int _=>true| .int _, .non=>true| .non, .bl _=>true| .bl _, .non=>true| .non, .str _=>true| .str _, .non=>true
 | .int _, .int _=>true| .bl _, .bl _=>true| .str _, .str _=>true| .byt _, .byt _=>true
 | .int _, .str _=>true| .str _, .int _=>true| .bl _, .str _=>true| .str _, .bl _=>true
 |_,_=>false
def rEq:R2:=λx y H Q=>ZA x y=true/\Q (.bl (decide (x=y))) H
def rNe:R2:=λx y H Q=>ZA x y=true/\Q (.bl (!decide (x=y))) H
theorem cB:decide (int i=int j)=(i==j):=by rw[SV];simp
theorem J6:decide (V.bl i=V.bl j)=(i==j):=by rw[SV];simp
theorem DS:decide (str i=str j)=(i==j):=by rw[SV];simp
theorem DT{i j:Array UInt8}:decide (V.byt i=V.byt j)=(i.toList==j.toList):=by rw[SV];cases i;cases j;simp
section
variable{X:Cx}{a b c:Expr}{ta tb tc:TE}{pos:Pos}
theorem aY{d:St}(I:wh X pins d H s)(q:Q (.bl k) H)(e:k=k'):EP X pins d Q (.bool k') s:=by subst e;show#[.bl k,H,I,2,q]
theorem DF:Ol X (aal .Eq) rEq:=by
 intro g s k H x y v u Q I f d h;let(e,q):=h;cases x with
 |non=>
  cases f;cases y with
  |non=>cases d;show PySem.EqNone.eq_none_none (aY I q #[5])
  |bl j=>cases d;show PySem.EqNone.eq_none_bool (aY I q #[5])
  |int j=>let(t',rfl):=d;show PySem.EqNone.eq_none_int (aY I q #[5])
  |str j=>let(t',rfl):=d;show PySem.EqNone.eq_none_str (aY I q #[5])
  |_=>show absurd (show false=true from e) RO
 |bl i=>
  cases f;cases y with
  |non=>cases d;show PySem.EqNone.eq_bool_none (aY I q #[5])
  |bl j=>cases d;show eq_bool (aY I q J6)
  |str j=>let(t',rfl):=d;show PySem.EqMixed.eq_bool_str (aY I q #[5])
  |_=>show absurd (show false=true from e) RO
 |int i=>
  let(t,rfl):=f;cases y with
  |non=>cases d;show PySem.EqNone.eq_int_none (aY I q #[5])
  |int j=>let(t',rfl):=d;show eq_int (aY I q cB)
  |str j=>let(t',rfl):=d;show PySem.EqMixed.eq_int_str (aY I q #[5])
  |_=>show absurd (show false=true from e) RO
 |str i=>
  let(t,rfl):=f;cases y with
  |non=>cases d;show PySem.EqNone.eq_str_none (aY I q #[5])
  |bl j=>cases d;show PySem.EqMixed.eq_str_bool (aY I q #[5])
  |int j=>let(t',rfl):=d;show PySem.EqMixed.eq_str_int (aY I q #[5])
  |str j=>let(t',rfl):=d;show eq_str (aY I q DS)
  |_=>show absurd (show false=true from e) RO
 |byt i=>
  let(t,rfl):=f;cases y with
  |byt j=>let(t',rfl):=d;show PySem.W.eq_bytes (aY I q DT)
  |_=>show absurd (show false=true from e) RO
 |_=>cases y<;>show absurd (show false=true from e) RO
theorem uc:Ol X (aal .NotEq) rNe:=by
 intro g s k H x y v u Q I f d h;let(e,q):=h;cases x with
 |non=>
  cases f;cases y with
  |non=>cases d;show PySem.EqNone.ne_none_none (aY I q #[5])
  |bl j=>cases d;show PySem.EqNone.ne_none_bool (aY I q #[5])
  |int j=>let(t',rfl):=d;show PySem.EqNone.ne_none_int (aY I q #[5])
  |str j=>let(t',rfl):=d;show PySem.EqNone.ne_none_str (aY I q #[5])
  |_=>show absurd (show false=true from e) RO
 |bl i=>
  cases f;cases y with
  |non=>cases d;show PySem.EqNone.ne_bool_none (aY I q #[5])
  |bl j=>cases d;show ne_bool (aY I q (Se not J6))
  |str j=>let(t',rfl):=d;show PySem.EqMixed.ne_bool_str (aY I q #[5])
  |_=>show absurd (show false=true from e) RO
 |int i=>
  let(t,rfl):=f;cases y with
  |non=>cases d;show PySem.EqNone.ne_int_none (aY I q #[5])
  |int j=>let(t',rfl):=d;show ne_int (aY I q (Se not cB))
  |str j=>let(t',rfl):=d;show PySem.EqMixed.ne_int_str (aY I q #[5])
  |_=>show absurd (show false=true from e) RO
 |str i=>
  let(t,rfl):=f;cases y with
  |non=>cases d;show PySem.EqNone.ne_str_none (aY I q #[5])
  |bl j=>cases d;show PySem.EqMixed.ne_str_bool (aY I q #[5])
  |int j=>let(t',rfl):=d;show PySem.EqMixed.ne_str_int (aY I q #[5])
  |str j=>let(t',rfl):=d;show ne_str (aY I q (Se not DS))
  |_=>show absurd (show false=true from e) RO
 |byt i=>
  let(t,rfl):=f;cases y with
  |byt j=>let(t',rfl):=d;show PySem.W.ne_bytes (aY I q (Se not DT))
  |_=>show absurd (show false=true from e) RO
 |_=>cases y<;>show absurd (show false=true from e) RO
theorem ud:Ol X (aal .Lt) (YK λi j=> .bl (decide (i<j))):=LR λ_ _ _ _ _ _ _ q=>lt_int q
theorem wD:Ol X (aal .LtE) (YK λi j=> .bl (decide (i<=j))):=LR λ_ _ _ _ _ _ _ q=>le_int q
theorem oR:Ol X (aal .Gt) (YK λi j=> .bl (decide (j<i))):=LR λ_ _ _ _ _ _ _ q=>gt_int q
theorem NJ:Ol X (aal .GtE) (YK λi j=> .bl (decide (j<=i))):=LR λ_ _ _ _ _ _ _ q=>ge_int q
theorem wF:Ol X (aal .In) (λx y H Q=>∃i j,x= .str i/\y= .str j/\Q (.bl (!(Builtin.Str.occurrences j i 0 j.length 1).isEmpty)) H):=by intro f s g H x y v u Q I d e h;let(i,j,rfl,rfl,q):=h;let(t,rfl):=d;let(t',rfl):=e;show in_str (aY I q rfl)
theorem qg:Ol X (aal .Is) (λx y H Q=>y= .non/\Q (.bl (decide (x= .non))) H):=by
 intro f s g H x y v u Q I d e h;let(rfl,q):=h;cases e;show is_none_gen (aY I q ?_);cases x<;>first
  |(cases d;rfl)
  |(let(t,rfl):=d;rfl)
theorem yf:Ol X (aal .IsNot) (λx y H Q=>y= .non/\Q (.bl (!decide (x= .non))) H):=by
 intro f s g H x y v u Q I d e h;let(rfl,q):=h;cases e;show isnot_none_gen (aY I q ?_);cases x<;>first
  |(cases d;rfl)
  |(let(t,rfl):=d;rfl)
theorem YM(b:Expr){d:CmpOp}(h:d≠ .In:=by decide)(g:d≠ .NotIn:=by decide):aaB d b=false:=by
 let e:(d==CmpOp.In)=false:=by cases d<;>first|rfl|show absurd rfl h
 let f:(d==CmpOp.NotIn)=false:=by cases d<;>first|rfl|show absurd rfl g
 cases b<;>simp[aaB,e,f]
theorem lQ(j:Ol X (aal op) r)(f:PE X a ta)(g:PE X b tb)(i:aaB op b=false):PE X (.Compare a [op] [b] pos) (Y9 r ta tb):=by intro k s o H Q I h;show wpAny_Compare1 (PN f g I h λv u n x y d e l m q=>j k n o d x y v u Q e l m q) i
def GD(t:TE):TT:=λd H Q=>t d H (Zw Q)
theorem rV(q:Ol X (aal op) r)(n:PE X a ta)(o:PE X b tb)(p:aaB op b=false):PT X (.Compare a [op] [b] pos) (GD (Y9 r ta tb)):=by
 intro d s f H Q I h;show ab6 (zk (n d s f H _ I h) λv K ⟨x,g,l,B,t⟩=>zk (o d K f g _ l t) λu L ⟨y,i,m,G,w⟩=>
  zk (q d L f i x y v u _ m B G w) λc M ⟨z,j,I3,J,k,e,A⟩=> ?_) p
 subst e;cases J;show Th #[j,I3,A]
def GH(r h:R2)(ta tb tc:TE):TE:=λd H Q=>ta d H λx f=>tb d f λy g=>r x y g λz e=>∃k,z= .bl k/\
 (if k=true then tc d e λi H4=>h y i H4 Q else Q (.bl false) e)
theorem Ir{i j:CmpOp}{r n:R2}(L:Ol X (aal i) r)(M:Ol X (aal j) n)(B:PE X a ta)(G:PE X b tb)(J:PE X c tc)(K:lastMarks [i,j] [b,c]=false:=by with_unfolding_all rfl):PE X (.Compare a [i,j] [b,c] pos) (GH r n ta tb tc):=by
 intro f s g H Q I h;show Compare_chain (zk (B f s g H _ I h) λv s1 ⟨x,p,t,r1,N⟩=>chain_link (zk (G f s1 g p _ t N) λu s2 ⟨y,q,w,o,O⟩=>
  zk (L f s2 g q x y v u _ w r1 o O) λd s3 ⟨z,l,I3,r3,k,e,m⟩=> ?_)) K
 subst e;cases r3;show Th ?_;cases k with
 |false=>show ite_ff #[.bl false,l,I3,2,m]
 |true=>show ite_tt (chain_last (zk (J f s3 g l _ I3 m) λw' s4 ⟨z',H4,A,r4,U⟩=>M f s4 g H4 y z' u w' Q A o r4 U))
theorem HZ{i j:CmpOp}{r n:R2}(U:Ol X (aal i) r)(ab:Ol X (aal j) n)(L:PE X a ta)(M:PE X b tb)(N:PE X c tc)(O:lastMarks [i,j] [b,c]=false:=by with_unfolding_all rfl):PT X (.Compare a [i,j] [b,c] pos) (GD (GH r n ta tb tc)):=by
 intro f s g H Q I h;show isTrue_chain (zk (L f s g H _ I h) λv s1 ⟨x,p,w,r1,q1⟩=>test_link (zk (M f s1 g p _ w q1) λu s2 ⟨y,q,A,o,q2⟩=>
  zk (U f s2 g q x y v u _ A r1 o q2) λd s3 ⟨z,l,I3,r3,k,e,m⟩=> ?_)) O
 subst e;cases r3;show Th ?_;cases k with
 |false=>
  let(k',J,q'):=m;cases J;show ite_ff #[l,I3,q']
 |true=>
  show ite_tt (test_last (zk (N f s3 g l _ I3 m) λw' s4 ⟨z',H4,B,r4,q4⟩=>zk (ab f s4 g H4 y z' u w' _ B o r4 q4) λd' s5 ⟨z2,t,G,r5,k2,K,q5⟩=> ?_));subst K;cases r5;show Th #[t,G,q5]
theorem uC:(sizeLine:Nat)<2^63:=by rw[sizeLine_eq];decide
theorem BZ:Ol X (aaF .Add) (λx y H Q=>∃i j,x= .str i/\y= .str j/\i.length+j.length<=sizeLine/\Q (.str (i++j)) H):=by intro f s k H x y v u Q I d e h;let(i,j,rfl,rfl,hz,q):=h;let(t,rfl):=d;let(t',rfl):=e;show add_str (λt' g=>#[.str (i++j),H,I.tok _,#[7],q]) hz
theorem gA(r:zj [x] us):∃u,us=[u]/\aZ x u:=by
 cases r with
 |cons d e=>cases e;show#[7,d]
theorem Nd(r:zj [x,y] us):∃u d,us=[u,d]/\aZ x u/\aZ y d:=by
 cases r with
 |cons e f=>
  cases f with
  |cons g h=>cases h;show#[17,e,g]
theorem me(e:X.calm=true):bK X (.builtin "min") (λxs H Q=>∃i j,xs=[.int i, .int j]/\Q (.int (if j<i then j else i)) H):=by
 intro f s m H xs us Q I r h;let(i,j,rfl,q):=h;let(u,l,rfl,(t,rfl),(t',rfl)):=Nd r;show min_two_ints (I.ok.hd e) λh' g k=>#[_,H,I.kept k,6,q];by_cases d:j<i
 .rw[RF d,RF d];show#[7]
 .rw[RQ d,RQ d];show#[7]
theorem mj:bK X (.type "int") (λxs H Q=>(∃i,xs=[.int i]/\Q (.int i) H)\/∃k,xs=[.bl k]/\Q (.int (if k then 1 else 0)) H):=by
 intro e s f H xs us Q I r h;rcases h with ⟨i,rfl,q⟩|⟨k,rfl,q⟩
 .let(u,rfl,t,rfl):=gA r;show call_int_int #[.int i,H,I,#[7],q]
 .let(u,rfl,d):=gA r;cases d;show call_int_bool #[.int (if k then 1 else 0),H,I.tok _,#[7],q]
theorem yT:bK X (.type "str") (λxs H Q=>∃i,xs=[.int i]/\i.natAbs.log2<1920/\Q (.str (toString i)) H):=by intro d s e H xs us Q I r h;let(i,rfl,hz,q):=h;let(u,rfl,t,rfl):=gA r;show PySem.P.str_of_int hz #[.str _,H,I.tok _,#[7],q]
end
structure CS(h:Heap)(x dx C:Addr)(mA:jn):Prop where
 obj:h.get? x=some (abL C dx)
 ns:h.Ns1 dx mA
 ne:dx≠x
theorem Fv{h:Heap}(n:h.Ns1 dx mA):∃b,h.get? dx=some b/\∀name,lookIn name b=some (mA name):=by
 let(o,es,ep,j,d,f,_,i):=n;show#[o,j,λname=> ?_];let e:=i name;unfold nsFind findBy at e;rw[<-Array.find?_toList]at e;unfold lookIn;rw[d];dsimp only;split
 .rename_i y q;rw[q]at e;show Se some e
 .rename_i q;rw[q]at e;let a:es.toList.any (·.refKey)=false:=by rw[Wt];intro y k;let(z,t,g):=f y (aci.mp k);simp[DictEntry.refKey,g]
  let c:¬es.toList.any (·.refKey)=true:=by rw[a];show RO
  rw[RQ c];show Se some e
theorem CS.look(I:CS h x dx C mA):∃a,PySem.W.InstAt h x (abL C dx) C (some a)/\∀name,lookIn name a=some (mA name):=
 let⟨a,b,hl⟩:=Fv I.ns
 #[a,#[I.obj,22,b],hl]
section
variable{prog:rj}{w:t4}{A:tj}{E:gs}{s:rz}{K:Frag}{x dx C f:Addr}{mA:jn}{name:Str}{v:Value}
theorem MO(X:K.In s.1)(I:CS s.1 x dx C mA)(b:adX K C name=true)(c:hasDictIn K C=true)(a:abe K (.ref C) name=some none)(d:mA name=some v)(e:adp v=true)(h:Q v {s with toks:=s.4+1}):
  aag (model prog w) A (getAttr (.ref x) name expr) Q E s:=by
 let(g,J,hl):=I.look;show PySem.W.get_value X J (VZ b).1 (PySem.W.findObj_own c a rfl (by rw[hl,d])) e h
theorem JO(X:K.In s.1)(I:CS s.1 x dx C mA)(a:adX K C name=true)(b:abe K (.ref C) name=some (some (.ref f)))(c:isFn K (.ref f)=true)(d:mA name=none)(h:Q (.ref f,[.ref x]) s):
  aag (model prog w) A (aa5 (.ref x) name pl) Q E s:=by
 let(e,J,hl):=I.look;show PySem.W.method_fn X J (VZ a).1 (VZ a).2 b (UJ.mp c) (by show(lookIn name e).map (·.isSome)=some false;rw[hl,d];rfl) h
theorem Lb{ns:qq}(X:K.In s.1)(I:CS s.1 x dx C mA)(m:abe K (.ref C) "__setattr__"=some (some (.builtin "object.__setattr__")))(l:acV K C=true)(n:takerIn K C name=some none)(j:hasDictIn K C=true)(o:acT mA ns)(hsz:ns.length<=sizeLine)(h:∀h',CS h' x dx C (λy=>if y=name then some v else mA y)->aas dx s.1 h'->Q aaR {s with heap:=h',toks:=s.4+2}):
  aag (model prog w) A (setAttr (.ref x) name v) Q E s:=by
 let(z,J,hl):=I.look;show PySem.W.set_plain X J m (PySem.W.osa_open (s:={s with toks:=s.4+1}) (r:=none) X J l n λb=> ?_);let(p,e,g):=PySem.W.any_some j;let hx:s.1.get? x=some #[.ref C,some dx, .plain, #v[]]:=I.obj;show RC (RS (RC (RC (wpAny_loadPart hx (RC (PySem.W.Looks.here (s:={s with toks:=s.4+1}) (PySem.W.looks_clsIn X e) ?_))))));rw[g];show RS (a:=some dx) (RC (RS (RC ?_)));show wpAny_nsSet1 (s:={s with toks:=s.4+1}) I.ns λh' c d=> ?_;let(u,t,q,k,i,YD):=c.count (PySem.Within.cons name v o);show RC (wpAny_lookBehind k (by rw[i];show pastItsLine_dict (RB YD (by rw[R3];lia))) ?_);show RS (h _ #[(d.2 _ (TF I.ne)).trans I.obj,c,I.ne] d)
theorem Jo(X:K.In s.1)(e:makesIn K C=true)(c:abe K (.ref C) "__init__"=some (some (.ref f)))(b:PySem.W.typeIn K (.ref f)=some (.type "function"))(h:aaV (model prog w) (A.under (.builtin Xn #[.ref C::vs,a])) (.call (.ref f) #[.ref (s.1.1.size+1)::vs,a]) (PySem.W.InitBack (s.1.1.size+1) R)
   {s with heap:=(s.1.push emptyDict).push (abL C s.1.1.size)}):
  aaV (model prog w) A (.call (.ref C) #[vs,a]) R s:=by
 let(i,g,d,t,os):=s;show PySem.W.make_core (PySem.W.makes_of X e) (PySem.W.looks_findIn X c) (λself=>PySem.W.bind_fn X self b) (.inl rfl) h
end
noncomputable def aE(f:Str)(v:V):List (Str×V)->List (Str×V)
 | []=>[(f,v)]
 |(g,x)::r=>if g=f then(g,v)::r else(g,x)::aE f v r
theorem ip(f g:Str)(v:V):∀fs:List (Str×V),(aE f v fs).lookup g=if g=f then some v else fs.lookup g
 | []=>by
  change aa6 g [(f,v)]=_;by_cases h:g=f
  .let a:(g==f)=true:=UJ.mpr h;simp only[aa6,a,RF h]
  .let a:(g==f)=false:=UC.mpr h;simp only[aa6,a,RQ h]
 |(k,x)::r=>by
  let c:=ip f g v r;rw[show aE f v ((k,x)::r)=(if k=f then(k,v)::r else(k,x)::aE f v r)from rfl];by_cases b:k=f
  .rw[RF b];by_cases h:g=k
   .let a:(g==k)=true:=UJ.mpr h;simp only[aa6,a,RF (h.trans b)]
   .let a:(g==k)=false:=UC.mpr h;simp only[aa6,a,RQ (λe:g=f=>h (e.trans b.symm))]
  .rw[RQ b];by_cases h:g=k
   .let a:(g==k)=true:=UJ.mpr h;simp only[aa6,a,RQ (λe:g=f=>b (h.symm.trans e))]
   .let a:(g==k)=false:=UC.mpr h;simp only[aa6,a];show c
theorem qx(f:Str)(v:V):∀fs:List (Str×V),f∈(aE f v fs).map (·.1)/\∀g,g∈fs.map (·.1)->g∈(aE f v fs).map (·.1)
 | []=>#[by simp[aE],λg h=>by simp at h]
 |(k,x)::r=>by
  let(b,c):=qx f v r;rw[show aE f v ((k,x)::r)=(if k=f then(k,v)::r else(k,x)::aE f v r)from rfl];by_cases a:k=f
  .rw[RF a];subst a;show#[#[5],λg h=>#[5,h]]
  .rw[RQ a];show#[6,λg h=> ?_]
   .rw[Sg];show RI _ b
   .rw[Sg]at h⊢;rcases RT.mp h with e|e
    .show RT.mpr (.inl e)
    .show RI _ (c g e)
theorem av(f:Str)(v:V):∀fs:List (Str×V),(aE f v fs).length<=fs.length+1
 | []=>by simp[aE]
 |(k,x)::r=>by
  let b:=av f v r;rw[show aE f v ((k,x)::r)=(if k=f then(k,v)::r else(k,x)::aE f v r)from rfl];by_cases a:k=f
  .rw[RF a,R3,R3];lia
  .rw[RQ a,R3,R3];lia
theorem ki.some_of(r:ki (some v) o):∃u,o=some u/\aZ v u:=by
 cases o with
 |none=>show(show False from r).elim
 |some u=>show#[u,2,r]
theorem ki.none_of(r:ki none o):o=none:=by
 cases o with
 |none=>rfl
 |some u=>show(show False from r).elim
theorem FH(r:aZ v u):adp u=true:=by
 cases v with
 |non=>cases (show u=aav from r);rfl
 |bl b=>cases (show u=acF b from r);rfl
 |int i=>let(t,e):=(show∃t,u=aaZ i t from r);cases e;rfl
 |str x=>let(t,e):=(show∃t,u=acu x t from r);cases e;rfl
 |byt b=>let(t,e):=(show∃t,u=aeE b t from r);cases e;rfl
 |flt b=>let(t,e):=(show∃t,u=adI b t from r);cases e;rfl
 |ref a=>cases (show u=aaa a from r);rfl
 |ty n=>cases (show u=aae n from r);rfl
section
variable{P:rj}{w:t4}{H H':Hp}{h h':Heap}{a C dx:Addr}{fs fs':List (Str×V)}
theorem se(c:Rl P w H h)(e:H a=some (.ins C dx fs)):∃b,CS h a dx C b/\(∀f,ki (fs.lookup f) (b f))/\acT b (fs.map (·.1))/\fs.length<=1000/\H dx=some (.own a):=by let(d,z,ne,g,b,n,r,q):=(show bG P w H h a (.ins C dx fs)from c a _ e);show#[b,#[g,n,ne],r,q,z,d]
end
structure Cls(K:Frag)(C:Addr):Prop where
 pg:adX K C abD=true
 hd:hasDictIn K C=true
 po:acV K C=true
 sa:abe K (.ref C) "__setattr__"=some (some (.builtin "object.__setattr__"))
theorem Cls.get{K:Frag}(c:Cls K C)(f:Str):adX K C f=true:=c.pg
def iM(K:Frag)(C:Addr)(f:Str):Prop:=abe K (.ref C) f=some none
theorem iM.taker{K:Frag}(n:iM K C f):takerIn K C f=some none:=by unfold takerIn;rw[show abe K (.ref C) f=some none from n];rfl
structure YR(K:Frag)(C:Addr)(m:Str)(f:Addr):Prop where
 at_:abe K (.ref C) m=some (some (.ref f))
 fn:isFn K (.ref f)=true
 kp:aaG K (.ref f)=true
section
variable{X:Cx}{pins:n7}{σ:St}{H:Hp}{s:rz}{a C dx:Addr}{fs:List (Str×V)}{f:Str}{v:V}{A:tj}{E:gs}
theorem Cy(I:wh X pins σ H s)(e:H a=some (.ins C dx fs))(c:Cls X.K C)(n:iM X.K C f)(l:fs.lookup f=some v)(h:∀u s',wh X pins σ H s'->aZ v u->Q u s'):aag (model X.1 X.w) A (getAttr (.ref a) f b) Q E s:=by
 let(i,O,r,_,_,_):=se I.hok e;let(u,g,d):=ki.some_of (v:=v) (o:=i f) (by rw[<-l];show r f);show MO I.kIn O (c.get f) c.hd n g (FH d) (h u _ (I.tok _) d)
theorem jV(I:wh X pins σ H s)(e:H a=some (.ins C dx fs))(c:Cls X.K C)(k:YR X.K C m g)(l:fs.lookup m=none)(h:Q (.ref g,[.ref a]) s):aag (model X.1 X.w) A (aa5 (.ref a) m pl) Q E s:=by
 let(d,O,r,_,_,_):=se I.hok e;let b:d m=none:=ki.none_of (by rw[<-l];show r m);show JO I.kIn O (c.get m) k.at_ k.fn b h
theorem Bv(I:wh X pins σ H s)(e:H a=some (.ins C dx fs))(c:Cls X.K C)(n:iM X.K C f)(hl:fs.length<1000)(B:aZ y u)(h:∀s',wh X pins σ (upd H a (.ins C dx (aE f y fs))) s'->Q aaR s'):aag (model X.1 X.w) A (setAttr (.ref a) f u) Q E s:=by
 let(j,O,r,k,_,i):=se I.hok e;let hz:(fs.map (·.1)).length<=sizeLine:=by rw[My,sizeLine_eq];lia
 show Lb I.kIn O c.sa c.po n.taker c.hd k hz λh' d G=>h _ ?_;let p:∃o,h'.get? dx=some o:=let⟨o,_,_,l,_⟩:=d.ns;#[o,l];show I.write (x:=a) (e:=dx) (by rw[e];show Ti) (.inr i) (λb q m z=>(G.2 b m).trans z) p ?_;show#[by rw[ak O.ne];show i,6,O.ne,d.obj,_,d.ns,λg=> ?_,λg t=> ?_]
 .have:=av f y fs;lia
 .show ki ((aE f y fs).lookup g) (if g=f then some u else j g);rw[ip];by_cases q:g=f
  .rw[RF q,RF q];show B
  .rw[RQ q,RQ q];show r g
 .by_cases q:g=f
  .rw[q];show(qx f y fs).1
  .show(qx f y fs).2 g (k g λz=>t ?_);show(if g=f then some u else j g)=none;rw[RQ q];show z
theorem wh.made(I:wh X pins σ H s):wh X pins σ (upd (upd H s.1.1.size (.own (s.1.1.size+1))) (s.1.1.size+1) (.ins C s.1.1.size []))
  {s with heap:=(s.1.push emptyDict).push (abL C s.1.1.size)}:=by
 let c:(s.1.push emptyDict).get? s.1.1.size=some emptyDict:=R8 s.1 rfl;let g:((s.1.push emptyDict).push (abL C s.1.1.size)).get? (s.1.1.size+1)=some (abL C s.1.1.size):=by
  have:=R8 (s.1.push emptyDict) (o:=abL C s.1.1.size) rfl
  rwa [S7]at this
 let h:(s.1.push emptyDict).Ns s.1.1.size (λ_=>none):=#[emptyDict, #v[],_,c,2,(λe i=>absurd i #[5]),λ_=>rfl];let d:=I.laid (a:=s.1.1.size) (o:= .own (s.1.1.size+1)) (h':=s.1.push emptyDict) (t':=s.4) (λb u q=>RN _ q) (RJ _) #[_,c];show d.laid (a:=s.1.1.size+1) (o:= .ins C s.1.1.size []) (t':=s.4) (λb u q=>RN _ q) (acW (S7 _ _)) ?_;let ne:s.1.1.size≠s.1.1.size+1:=Sb (S3 _);show#[by rw[ak ne,aa],Sw _,ne,g,λ_=>none,(Heap.Ns1.of_empty h).at λo q=>RN _ q,λ_=>Ti,λy j=>absurd rfl j]
theorem MY(b:aay e f env (eval e env)=eval e env)(h:aag (model prog w) A (eval e env) (λo c=>aag (model prog w) A (getAttr o f true) Q E c) E s):aag (model prog w) A (eval (.Attribute e f pos) env) Q E s:=
 Attribute_any_ h (by rw[arm_eval_Attribute,b])
end
inductive RdF(K:Frag)(f:Str)(Q:VK)(x:V)(H:Hp):Prop
 |mk(a C dx:Addr) (fs:List (Str×V)) (v:V) (e1:x= .ref a) (e2:H a=some (.ins C dx fs)) (c:Cls K C) (n:iM K C f) (l:fs.lookup f=some v) (q:Q v H):RdF K f Q x H
def N4(K:Frag)(a:TE)(f:Str):TE:=λb H Q=>a b H (RdF K f Q)
def Oy(K:Frag)(g tv:TE)(f:Str):TS:=λD b H=>tv b H λy e=>g b e λx c=>∃a C d fs,x= .ref a/\c a=some (.ins C d fs)/\Cls K C/\iM K C f/\fs.length<1000/\
 D.nx b (upd c a (.ins C d (aE f y fs)))
section
variable{X:Cx}{o e value:Expr}{f:Str}{pos pos' tpos:Pos}{ta tv:TE}
theorem OX(m:PE X e ta)(k:aay e f X.10 (eval e X.10)=eval e X.10):PE X (.Attribute e f pos) (N4 X.K ta f):=by intro r s y H Q I h;show MY k (zk (m r s y H _ I h) λu A p=> ?_);let(x,b,d,w,a,C,z,fs,v,j,i,c,n,l,q):=p;subst j;obtain rfl:u=aaa a:=w;show Cy d i c n l λG B g t=>#[v,b,g,t,q]
theorem OM(p:PE X o ta)(v:PE X value tv)(t:aaS value (some (.Attribute o f pos')) pos.line X.10=pure false):PS X (.Assign [.Attribute o f pos'] value pos) (Oy X.K ta tv f):=by intro d s b H D I h;show plainObj_wpAny_Assign_Attribute (zk (v d s b H _ I h) λu G ⟨y,g,i,B,q⟩=>zk (p d G b g _ i q) λw M r=> ?_) t;let(x,J,j,A,a,C,L,fs,m,k,c,n,l,z):=r;subst m;obtain rfl:w=aaa a:=A;show Bv j k c n l B λN I3=>#[b,_,I3,z]
end
section
variable{X:Cx}{pins:n7}{σ:St}{H:Hp}{s:rz}{A:tj}{E:gs}{Q:gs}{c:Value}{b:Bool}
inductive qI(K:Frag)(H:Hp):V->Value->Prop where
 |non:qI K H .non (.type "NoneType")
 |bl (x:Bool):qI K H (.bl x) (.type "bool")
 |int (i:Int):qI K H (.int i) (.type "int")
 |str (x:Str):qI K H (.str x) (.type "str")
 |flt (x:UInt64):qI K H (.flt x) (.type "float")
 |lst {a:Addr} {xs:List V} (e:H a=some (.lst xs)):qI K H (.ref a) (.type Xc)
 |frz {a:Addr} {o:Obj} {xs:List V} (e:H a=some (.frz o (.lst xs))):qI K H (.ref a) (.type Xc)
 |tup {a:Addr} {xs:List V} (e:H a=some (.tup xs)):qI K H (.ref a) (.type Xl)
 |dK {a:Addr} {kvs:List (Dn×V)} (e:H a=some (.dK kvs)):qI K H (.ref a) (.type Xk)
 |dT {a:Addr} {kvs:List (List Dn×V)} (e:H a=some (.dT kvs)):qI K H (.ref a) (.type Xk)
 |ins {a C dx:Addr} {fs:List (Str×V)} (e:H a=some (.ins C dx fs)) (cl:Cls K C) (ha:abe K (.ref C) "__class__"=some (some (.builtin Xg)))
   (hn:adq K (.builtin Xg) "__get__"=some (some (.builtin Xy))) (htk:adL K (.builtin Xg)=some true)
   (hm:ael K C (.type "object")=some true):qI K H (.ref a) (.ref C)
theorem FD(I:wh X pins σ H s)(f:aZ x u)(ty:qI X.K H x t)(e:abb X.K t c=some b)(h:∀B,Q (.bool b) {s with toks:=B}):
  aag (model X.1 X.w) A (call (.builtin XI) [u,c]) Q E s:=by
 cases ty with
 |non=>cases (show u=aav from f);show Tq PySem.W.kitx_none I.kIn Ti e (λz=>nomatch z) h
 |bl y=>cases (show u=acF y from f);show Tq PySem.W.kitx_bool I.kIn Ti e (λz=>nomatch z) h
 |int i=>let(t,q):=(show∃t,u=aaZ i t from f);cases q;show Tq PySem.W.kitx_int I.kIn Ti e (λz=>nomatch z) h
 |str y=>let(t,q):=(show∃t,u=acu y t from f);cases q;show Tq PySem.W.kitx_str I.kIn Ti e (λz=>nomatch z) h
 |flt y=>let(t,q):=(show∃t,u=adI y t from f);cases q;show Tq PySem.W.kitx_float I.kIn Ti e (λz=>nomatch z) h
 | @lst a xs d=>
  cases (show u=aaa a from f);let(_,_,n,_,g):=(show bG X.1 X.w H s.1 a (.lst xs)from I.hok a _ d);show Tq acX I.kIn #[_,g,2] e (λz=>nomatch z) h
 | @frz a v xs d=>
  cases (show u=aaa a from f);let(_,_,_,n,_,g):=(show bG X.1 X.w H s.1 a (.frz v (.lst xs))from I.hok a _ d);show Tq acX I.kIn #[_,g,2] e (λz=>nomatch z) h
 | @tup a xs d=>
  cases (show u=aaa a from f);let(_,_,_,p):=(show bG X.1 X.w H s.1 a (.tup xs)from I.hok a _ d);let(o,g,j,_):=p;show Tq PySem.W.kitx_tuple I.kIn #[o,g,j] e (λz=>nomatch z) h
 | @dK a kvs d=>
  cases (show u=aaa a from f);let(_,_,vs,_,p):=(show bG X.1 X.w H s.1 a (.dK kvs)from I.hok a _ d);let(o,es,ep,g,j,_):=p;show Tq acY I.kIn #[o,g,j.1] e (λz=>nomatch z) h
 | @dT a kvs d=>
  cases (show u=aaa a from f);let(_,_,xs,_,o,es,ep,g,j,_):=(show bG X.1 X.w H s.1 a (.dT kvs)from I.hok a _ d);show Tq acY I.kIn #[o,g,j.1] e (λz=>nomatch z) h
 | @ins a C G fs d cl k m r l=>
  cases (show u=aaa a from f);let(L,O,_):=se I.hok d;let(M,J,_):=O.look;show Tq (PySem.W.kitx_own (cl.get _) cl.hd k m r l) I.kIn J e (λz=>nomatch z) h
end
structure z3(k:Nat)(A:tj):Prop where
 hd:A.handled=none
 dp:A.depth+3*k+5<recursionLimit
 un:A.units+16*k+200<cLine
 gd:A.guards=some []
theorem z3.mono(r:z3 k A)(h:j<=k):z3 j A:=#[r.hd,by have:=r.dp;lia,by have:=r.un;lia,r.gd]
theorem z3.deeper{A:tj}(r:z3 (k+1) A)(env:Env):z3 k (A.deeper env):=
 #[r.hd,by have:=r.dp;change A.depth+1+3*k+5<_;lia,by have:=r.un;change A.units+3+16*k+200<_;lia,r.gd]
theorem Co{A:tj}:(A.under (.builtin Xn #[.ref C::us,kw])).depth=A.depth+1:=by
 first|rfl|simp[acZ,Code.weight,Code.isCreation,Code.isGuard,Code.isCaller,aeF,ac0,guardIds]
theorem Cm{A:tj}:(A.under (.builtin Xn #[.ref C::us,kw])).units=A.units+1:=by
 first|rfl|simp[acZ,Code.cUnits,aeF,ac0]
theorem z3.make{A:tj}(r:z3 (k+1) A)(C:Addr)(us:pk)(a:List (Str×Value)):z3 k (A.under (.builtin Xn #[.ref C::us,a])):=
 #[r.hd,by have:=r.dp;rw[Co];lia,by have:=r.un;rw[Cm];lia,r.gd]
theorem z3.depth{A:tj}(r:z3 k A):A.depth<recursionLimit:=by have:=r.dp;lia
theorem z3.units{A:tj}(r:z3 k A):A.units+64<cLine:=by have:=r.un;lia
def xE:TA:=λ_ H Q=>Q [] H
def sx(d:TE)(e:TA):TA:=λa H Q=>d a H λx b=>e a b λxs c=>Q (x::xs) c
section
variable{X:Cx}{e:Expr}{es:pD}{te:TE}{t:TA}{pos:Pos}
theorem qe:PA X [] xE:=λ_ _ _ _ H Q I h=>ac1 #[[],H,I, .nil,h]
theorem fh(i:PE X e te)(j:PA X es t)(k:aad (e::es) X.10=(false,eval e X.10)::aad es X.env:=by rfl):PA X (e::es) (sx te t):=by intro pos a s b H Q I h;rw[k];change aag _ _ (spliced ((false,eval e X.10)::aar pos (aad es X.10))) _ _ s;show V8 (zk (i a s b H _ I h) λu p ⟨x,c,f,n,l⟩=> ?_);show zk (j pos a p b c _ f l) λus q ⟨xs,d,g,o,m⟩=>#[x::xs,d,g, .cons n o,m]
def QX(t:TA):TE:=λb H Q=>t b H λxs a=>xs.length<=sizeLine/\∀p,a p=none->Q (.ref p) (upd a p (.tup xs))
def N3(t:TA):TE:=λb H Q=>t b H λxs a=>xs.length<=sizeLine/\∀p,a p=none->Q (.ref p) (upd a p (.lst xs))
theorem OT{x1}(h:PA X es t):PE X (.Tuple es x1 pos) (QX t):=by intro i s j H Q I g;show wpAny_Tuple_spliced (zk (h pos i s j H _ I g) λus a ⟨xs,c,d,r,z,q⟩=>#[by rw[<-r.length];show z,6]);let f:c a.1.1.size=none:=d.hok.fresh (RJ _);show#[.ref a.1.1.size,upd c a.1.1.size (.tup xs),d.laid (t':=a.4) (λb u e=>RN _ e) (RJ _) ?_,2,q _ f];show#[z,us,r,#[_,R8 _ rfl,27]]
theorem Ip(h:PA X es t):PE X (.List es pos) (N3 t):=by intro i s j H Q I g;show wpAny_List_spliced (zk (h pos i s j H _ I g) λus a ⟨xs,c,d,r,z,q⟩=>#[by rw[<-r.length];show z,6]);let f:c a.1.1.size=none:=d.hok.fresh (RJ _);show#[.ref a.1.1.size,upd c a.1.1.size (.lst xs),d.laid (t':=a.4) (λb u e=>RN _ e) (RJ _) ?_,2,q _ f];show#[z,us,0,r,R8 _ rfl]
end
abbrev Sp:=List V->Hp->VK->XK->Prop
abbrev Y8:=List Env->Hp->Shared->XK->Value->Shared->Prop
structure CW(P:rj)(w:t4)(K:Frag)(mg:jn)(base:Heap)(A:tj)(outer:q7)(s:rz)(H:Hp):Prop where
 frames:A.frames=some outer
 mod:Mod K mg base
 bs:∀b o,base.get? b=some o->s.1.get? b=some o/\H b=none
 bsz:base.1.size<=s.1.1.size
 funs:s.1.FunFrames base outer
 frf:∀b∈XY outer,H b=none
 hok:Rl P w H s.1
 bare:abh s.gens
def CE(a:q7)(P:rj)(w:t4)(H:Hp)(s:rz)(Q:VK)(u:Value)(s':rz):Prop:=
 ∃v H',s'.os=s.os/\abh s'.gens/\Un (XY a) [] H H' s.1 s'.1/\Rl P w H' s'.1/\aZ v u/\Q v H'
def CR(CX:Y8)(a:q7)(P:rj)(w:t4)(H:Hp)(s:rz)(Q:VK)(E:XK)(r:Result)(s':rz):Prop:=
 match r with
 | .ok (.ret u)=>CE a P w H s Q u s'
 | .ok _=>False
 | .error e=>CX a H s E e s'
structure dJ(P:rj)(w:t4)(K:Frag)(mg:jn)(base:Heap)(CX:Y8)(k:Nat)(f:Addr)(fd:FuncData)(ps:qq)(sp:Sp):Prop where
 len:∀vs H Q E,sp vs H Q E->vs.length=ps.length
 run:∀(A:tj)(outer:q7)(s:rz)(H:Hp)(args:Args)(us:pk)(vs:List V)(Q:VK)(E:XK),z3 k A->CW P w K mg base A outer s H->ac2 s fd args (ps.zip us)->zj vs us->sp vs H Q E->
  aaV (model P w) A (.call (.ref f) args) (CR CX outer P w H s Q E) s
theorem dJ.mono{K:Frag}{a:FuncData}{ps:qq}{sp:Sp}(F:dJ P w K mg base CX j f a ps sp)(h:j<=k):
  dJ P w K mg base CX k f a ps sp:=#[F.len,λA c s H args us vs Q E b=>F.run A c s H args us vs Q E (b.mono h)]
theorem dJ.imp{K:Frag}{a:FuncData}{ps:qq}{sp b:Sp}(F:dJ P w K mg base CX k f a ps sp)(h:∀vs H Q E,b vs H Q E->sp vs H Q E):dJ P w K mg base CX k f a ps b:=
 #[λvs H Q E q=>F.len vs H Q E (h _ _ _ _ q),λA j s H args us vs Q E e d c i g=>F.run A j s H args us vs Q E e d c i (h _ _ _ _ g)]
theorem CW.make{K:Frag}{A:tj}(e:CW P w K mg base A outer s H)(C:Addr)(us:pk)(a:List (Str×Value)):
  CW P w K mg base (A.under (.builtin Xn #[.ref C::us,a])) outer s H:=#[by first|show e.frames|(simpa [acZ,Code.envs,ac0,pushEnvs]using e.frames),e.mod,e.bs,e.bsz,e.funs,e.frf,e.hok,e.bare]
section
variable{X:Cx}{pins:n7}{σ:St}{H:Hp}{s s':rz}
theorem wh.env0(I:wh X pins σ H s):CW X.1 X.w X.K X.mg X.base X.A X.12 s H:=
 #[I.ok.frames,I.ok.mod,I.bs,RB I.ok.bsz I.sz,I.stack,I.stkFree,I.hok,I.bare]
theorem wh.after(I:wh X pins σ H s)(h:CE X.12 X.1 X.w H s Q u s'):EP X pins σ Q u s':=by let(v,H',os,bare,un,c,r,q):=h;let(a,g,d,t,e):=s';obtain rfl:e=s.os:=os;show#[v,H',I.call (h':=a) (g':=g) (d':=d) (t':=t) (ch:=[]) un c bare (λb z=>absurd z #[5]),r,q]
end
def GI(sp:Sp)(dvs:List V)(E:XK)(t:TA):TE:=λb H Q=>t b H λvs a=>sp (vs++dvs) a Q E
def GG(C:Addr)(m:Str)(sp:Sp)(dvs:List V)(E:XK)(f:TE)(t:TA):TE:=λc H Q=>f c H λx b=>∃a e fs,x= .ref a/\b a=some (.ins C e fs)/\fs.lookup m=none/\
 t c b λvs d=>sp (x::(vs++dvs)) d Q E
def C5(C:Addr)(sp:Sp)(dvs:List V)(E:XK)(t:TA):TE:=λd H Q=>t d H λvs b=>∀x a,b x=none->b a=none->a≠x->
 sp (.ref x::(vs++dvs)) (upd (upd b a (.own x)) x (.ins C a [])) (λv c=>v= .non/\Q (.ref x) c) E
def cR(K:Frag)(b:FuncData)(ps:qq)(a:pk):Prop:=
 ∀(s:rz)(us:pk),K.In s.1->(us++a).length=ps.length->ac2 s b #[us,[]] (ps.zip (us++a))
theorem cR.all{K:Frag}{ps:qq}(h:∀us:List Value,us.length=ps.length->abE fd #[us,[]]=pure (ps.zip us)):cR K fd ps []:=λs us _ hl=>by rw[Tc]at hl⊢;show .of_eq (h us hl)
def gY(CX:Y8)(X:Cx)(E:XK):Prop:=∀(a:n7) (b:St) (H:Hp) (s:rz) (e:Value) (s':rz),wh X a b H s->CX X.12 H s E e s'->X.xe e s'
section
variable{X:Cx}{CX:Y8}{k:Nat}{f C:Addr}{fd:FuncData}{ps:qq}{sp:Sp}{dvs:List V}{ds:pk}{E:XK}{x m:Str}{p pos apos:Pos}{e o:Expr}{es:pD}{ta:TE}{t:TA}
theorem pY{b:St}(F:dJ X.1 X.w X.K X.mg X.base CX k f fd ps sp)(j:z3 k X.A)(g:cR X.K fd ps ds)(i:zj dvs ds)(hx:gY CX X E)(I:wh X pins b H s)(r:zj vs us)(h:sp (vs++dvs) H Q E):aag (model X.1 X.w) X.A (call (.ref f) us) (EP X pins b Q) X.xe s:=by
 let c:zj (vs++dvs) (us++ds):=r.append i;let hl:(us++ds).length=ps.length:=by rw[<-c.length];show F.len _ _ _ _ h
 show acJ (UX (F.run X.A X.12 s H #[us,[]] (us++ds) (vs++dvs) Q E j I.env0 (g s us I.kIn hl) c h) λr s' a=> ?_);cases r with
 |error e=>show hx pins b H s e s' I a
 |ok d=>
  cases d with
  |ret u=>show I.after a
  |next=>show False.elim a
  |brk=>show False.elim a
  |cont=>show False.elim a
theorem LJ(F:dJ X.1 X.w X.K X.mg X.base CX k f fd ps sp)(v:z3 k X.A)(j:Gl X x)(n:X.mg x=some (.ref f))(l:aaG X.K (.ref f)=true)(c:cR X.K fd ps ds)(d:zj dvs ds)(hx:gY CX X E)(b:PA X (e::es) t)(g:(x==(Xd:Str))=false:=by decide)(i:aad (e::es) X.10=(false,eval e X.10)::aad es X.env:=by rfl)(u:(aar pos (aad es X.10)).any (·.1)=false:=by rfl):
  PE X (.Call (.Name x p) (e::es) [] pos) (GI sp dvs E t):=by
 intro y s z H Q I h;show Uj (jT I j n ?_ g);show T4 (h₀:=X.base) I.ok.mod.kin l (zk (b pos y s z H _ I h) λus G ⟨vs,B,a,r,q⟩=>#[a.kIn,6]) i u;show pY F v c d hx a r q
theorem LF{pl:Sem Bool}(L:PE X o ta)(c:Cls X.K C)(g:YR X.K C m f)(F:dJ X.1 X.w X.K X.mg X.base CX k f fd ps sp)(O:z3 k X.A)(G:cR X.K fd ps ds)(J:zj dvs ds)(hx:gY CX X E)(B:PA X (e::es) t)(U:aad (e::es) X.10=(false,eval e X.10)::aad es X.env:=by rfl)(M:(aar pos (aad es X.10)).any (·.1)=false:=by rfl)(ht:eval (.Call (.Attribute o m apos) (e::es) [] pos) X.10=(do
   let i<-eval o X.10
   abO apos.atName
   let(f,first)<-abi [i] (aa5 i m pl)
   abr pos f first (aar pos (aad (e::es) X.10)) (aa2 pos (aaC [] X.10))):=by rfl):
  PE X (.Call (.Attribute o m apos) (e::es) [] pos) (GG C m sp dvs E ta t):=by
 intro j s n H Q I h;show Ul (pl:=pl) (zk (L j s n H _ I h) λu s1 N=> ?_) ht;let(x,v,b,rx,a,dx,fs,z,y,l,q):=N;subst z;obtain rfl:u=aaa a:=rx;show jV b y c g l ?_;show T4 (first:=[.ref a]) (h₀:=X.base) I.ok.mod.kin g.kp (zk (B pos j s1 n v _ b q) λus s2 ⟨vs,H2,d,r,q2⟩=>#[d.kIn,6]) U M;show pY (us:= .ref a::us) (vs:= .ref a::vs) F O G J hx d (.cons rfl r) q2
structure Mk(K:Frag)(C f:Addr):Prop where
 makes:makesIn K C=true
 init:abe K (.ref C) "__init__"=some (some (.ref f))
 fn:isFn K (.ref f)=true
 kp:aaG K (.ref C)=true
theorem zU{d:St}(M:Mk X.K C f)(F:dJ X.1 X.w X.K X.mg X.base CX k f fd ps sp)(z:z3 (k+1) X.A)(q:cR X.K fd ps ds)(y:zj dvs ds)(hx:gY CX X E)(I:wh X pins d H s)(r:zj vs us)(h:∀x c,H x=none->H c=none->c≠x->sp (.ref x::(vs++dvs)) (upd (upd H c (.own x)) x (.ins C c [])) (λv j=>v= .non/\Q (.ref x) j) E):
  aag (model X.1 X.w) X.A (call (.ref C) us) (EP X pins d Q) X.xe s:=by
 let g:=h (s.1.1.size+1) s.1.1.size (I.hok.fresh (Uh _)) (I.hok.fresh (RJ _)) (Sb (S3 _));let b:=wh.made (C:=C) I;let i:zj (V.ref (s.1.1.size+1)::(vs++dvs)) (aaa (s.1.1.size+1)::(us++ds)):= .cons rfl (r.append y);let hl:(aaa (s.1.1.size+1)::us++ds).length=ps.length:=by have e:=i.length;rw[F.len _ _ _ _ g]at e;show e.symm
 show acJ (Jo (f:=f) I.kIn M.makes M.init (UJ.mp M.fn) (UX (F.run _ X.12 _ _ #[aaa (s.1.1.size+1)::us,[]] (aaa (s.1.1.size+1)::(us++ds)) _ _ E (z.make C us [])
  (b.env0.make C us []) (q _ (aaa (s.1.1.size+1)::us) b.kIn hl) i g) λr s' a=> ?_))
 cases r with
 |error e=>show hx pins d _ _ e s' b a
 |ok n=>
  cases n with
  |ret u=>
   let(v,H',I3,G,l,B):=b.after a;subst l;show#[G,#[V.ref (s.1.1.size+1),H',I3,2,B]]
  |next=>show False.elim a
  |brk=>show False.elim a
  |cont=>show False.elim a
theorem LG(M:Mk X.K C f)(F:dJ X.1 X.w X.K X.mg X.base CX k f fd ps sp)(u:z3 (k+1) X.A)(j:Gl X x)(l:X.mg x=some (.ref C))(c:cR X.K fd ps ds)(d:zj dvs ds)(hx:gY CX X E)(b:PA X (e::es) t)(g:(x==(Xd:Str))=false:=by decide)(i:aad (e::es) X.10=(false,eval e X.10)::aad es X.env:=by rfl)(n:(aar pos (aad es X.10)).any (·.1)=false:=by rfl):
  PE X (.Call (.Name x p) (e::es) [] pos) (C5 C sp dvs E t):=by
 intro v s y H Q I h;show Uj (jT I j l ?_ g);show T4 (h₀:=X.base) I.ok.mod.kin M.kp (zk (b pos v s y H _ I h) λus B ⟨vs,z,a,r,q⟩=>#[a.kIn,6]) i n;show zU M F u c d hx a r q
theorem Io(M:Mk X.K C f)(F:dJ X.1 X.w X.K X.mg X.base CX k f fd ps sp)(i:z3 (k+1) X.A)(d:Gl X x)(g:X.mg x=some (.ref C))(a:cR X.K fd ps ds)(b:zj dvs ds)(hx:gY CX X E)(c:(x==(Xd:Str))=false:=by decide):PE X (.Call (.Name x p) [] [] pos) (C5 C sp dvs E xE):=by
 intro j s l H Q I h;show Uj (jT I d g ?_ c);show acy I.kIn M.kp (zU (us:=[]) M F i a b hx I .nil h)
end
structure eQ(N P:qq)(sc:Scope):Prop where
 kind:sc.kind= .function
 co:sc.isCoroutine=false
 gen:sc.isGenerator=false
 nd:N.Nodup
 pre:N.take P.length=P
 par:∀x∈P,sc.2.lookup x=some .local\/sc.2.lookup x=some .cell
 nofree:∀y∈sc.2,y.2≠ .free
theorem xu{kindOf:Str->Option ac3}:∀ {binds:List (Str×Value)} {m:jn},(∀v,(x,v)∉binds)->adY kindOf binds m x=m x
 | [],_,_=>rfl
 |(n,v)::r,m,h=>by
  unfold adY;rw[xu λw a=>h w (RI _ a)];split
  .have:x≠n:=by rintro rfl;show h v RH
   simp[this]
  .rfl
theorem xw{kindOf:Str->Option ac3}:∀ {binds:List (Str×Value)} {m:jn},(∀v,(x,v)∉binds)->adZ kindOf binds m x=m x
 | [],_,_=>rfl
 |(n,v)::r,m,h=>by
  unfold adZ;rw[xw λw a=>h w (RI _ a)];split
  .rfl
  .have:x≠n:=by rintro rfl;show h v RH
   simp[this]
theorem xv{kindOf:Str->Option ac3}:∀ {P:qq} {vs:pk} {i:Nat} {m:jn},P.Nodup->P[i]?=some x->vs[i]?=some v->kindOf x=some .local->
  adY kindOf (P.zip vs) m x=some v
 | [],_,_,_,_,h,_,_=>by simp at h
 |_::_,[],_,_,_,_,h,_=>by simp at h
 |p::P,w::vs,0,m,d,a,b,c=>by simp at a b;subst a;subst b;change adY kindOf ((p,w)::P.zip vs) m p=_;unfold adY;rw[xu λv e=>(TM.mp d).1 (WX e).1,RF c];simp
 |p::P,w::vs,i+1,m,d,a,b,c=>by change adY kindOf ((p,w)::P.zip vs) m x=_;unfold adY;show xv (i:=i) (TM.mp d).2 #[5,a] #[5,b] c
theorem xy{kindOf:Str->Option ac3}:∀ {P:qq} {vs:pk} {i:Nat} {m:jn},P.Nodup->P[i]?=some x->vs[i]?=some v->kindOf x≠some .local->
  adZ kindOf (P.zip vs) m x=some v
 | [],_,_,_,_,h,_,_=>by simp at h
 |_::_,[],_,_,_,_,h,_=>by simp at h
 |p::P,w::vs,0,m,d,a,b,c=>by simp at a b;subst a;subst b;change adZ kindOf ((p,w)::P.zip vs) m p=_;unfold adZ;rw[xw λv e=>(TM.mp d).1 (WX e).1,RQ c];simp
 |p::P,w::vs,i+1,m,d,a,b,c=>by change adZ kindOf ((p,w)::P.zip vs) m x=_;unfold adZ;show xy (i:=i) (TM.mp d).2 #[5,a] #[5,b] c
noncomputable def start(N:qq)(vs:List V):St:=vs.map some++aaM (N.length-vs.length) none
noncomputable def mv(CX:Y8)(P:rj)(w:t4)(K:Frag)(mg:jn)(base:Heap)(N:qq)(b:Str)(scope:Scope)(f:Addr)(a:Value)(A:tj)(outer:q7)(s:rz)(H:Hp)(E:XK):Cx where
 prog:=P
 w:=w
 K:=K
 mg:=mg
 base:=base
 A:=A.deeper (aaT b scope s.1.1.size f a)
 N:=N
 s₀:=s
 H₀:=H
 env:=aaT b scope s.1.1.size f a
 outer:=outer
 stack:=aaT b scope s.1.1.size f a::outer
 ex:=[]
 calm:=true
 fn:=λ_=>true
 pn:=[]
 xe:=λe s'=>aag (model P w) (A.deeper (aaT b scope s.1.1.size f a)) (leaving (aaT b scope s.1.1.size f a) e) (λ_ c=>CX outer H s E e c) (λd c=>CX outer H s E d c) s'
theorem A1{a:Scope}(h:a.2.lookup x=some .cell):∃c,(aam n a.2 []).lookup x=some c:=by have q:=abS a.2 n [] (.inl h);show Vj.mp q
theorem FE{K:Frag}{N ps:qq}{scope:Scope}{m:Value}{A:tj}{G:q7}{s U:rz}{H:Hp}{E:XK}{us:pk}{vs:List V}(S:eQ N ps scope)(hd:A.handled=none)(g:CW P w K O base A G s H)(hl:vs.length=ps.length)(r:zj vs us)(x:InCallC s s.1.1.size (adY (aaT J scope s.1.1.size f m).kindOf (ps.zip us) λ_=>none) (aam (s.1.1.size+1) scope.2 []) (adZ (aaT J scope s.1.1.size f m).kindOf (ps.zip us) λ_=>none) U):
  wh (mv CX P w K O base N J scope f m A G s H E) [] (start N vs) H U:=by
 let ar:ps.length<=N.length:=by have:=Se aa7 S.pre;rw[Sk]at this;lia
 let(o,tk,rfl,L):=x.done;let B:∀b:Addr,b∉ (mv CX P w K O base N J scope f m A G s H E).ex:=λb z=>absurd (show b∈([]:List Addr)from z) #[5];show#[#[g.mod,S.kind,22,RJ _,λy z c o d=> ?_,λy j=> ?_,λy c _ h=> ?_,λ_=>hd,Around.frames_deeper g.frames, .inr #[22],λb z=>absurd z (B b),g.bs,g.bsz,λb _ _=>B b,λb z=>absurd z (B b),g.funs,g.frf],2,g.bare,Un.kept L,#[_,x.toInCall.ns,λi y v o d h3=> ?_],λy c h=>#[_,x.cell y c h],g.hok.fresh (RJ _),λy c h=> ?_,λp l=>absurd (show p∈([]:n7)from l) #[5],g.hok.kept L,6]
 .show name_of_addr x.apart (SH o) (SH d)
 .let j:scope.2.lookup y=some .cell\/scope.2.lookup y=some .free:=j;rcases j with j|j
  .show A1 j
  .show absurd rfl (S.nofree _ (SH j))
 .show TX (x.above y c (SH h))
 .let t:i<vs.length:=by
   unfold start at d;by_cases t:i<vs.length
   .show t
   .rw[S8 #[5,t]]at d;rw[WR]at d;split at d<;>cases d
  let ha:vs[i]?=some v:=by
   unfold start at d;rw[SR #[5,t],RU]at d;cases e:vs[i]? with
   |none=>rw[e]at d;cases d
   |some a=>rw[e]at d;cases d;rfl
  let(u,M,rv):=r.get ha;let l:ps[i]?=some y:=by rw[<-S.pre,Vk ()];show o
  let Q:ps.Nodup:=by rw[<-S.pre];show S.nd.sublist (List.take_sublist _ _)
  show#[u,rv,6];rcases S.par y (RG l)with k|k
  .show .inl #[k,xv Q l M k]
  .let(c,e):=A1 (n:=s.1.1.size+1) k;show .inr #[.inl k,c,e,6];let q:=x.cell y c e;rwa[xy Q l M (by change scope.2.lookup y≠_;rw[k];decide)]at q
 .show g.hok.fresh (TX (x.above y c (SH h)))
 .unfold start;change _=N.length;rw[R4,My,UY];lia
theorem NO{K:Frag}{params:Arguments}{j:List Stmt}{scope:Scope}{G kV L U a B oc:Value}{an od:pa}{bk:gj}{N ps:qq}{sp:Sp}(lk:K.lookup f=some #[oc,od, .func (ac4 name g params j scope G kV L U an a B),bk])(ar:ads K a g=true)(S:eQ N ps scope)(len:∀vs H Q E,sp vs H Q E->vs.length=ps.length)(aj:∀(A:tj)(d:q7)(s:rz)(H:Hp)(vs:List V)(Q:VK)(E:XK),z3 k (A.deeper (aaT g scope s.1.1.size f a))->sp vs H Q E->
   ∃t,X4 (mv CX P w K m base N g scope f a A d s H E) j t/\t {nx:=λ_ H'=>Q .non H',rt:=Q} (start N vs) H):
  dJ P w K m base CX (k+1) f (ac4 name g params j scope G kV L U an a B) ps sp:=by
 show#[len,λA d s H args us vs Q E l h hb r O=> ?_];let hl:=len _ _ _ _ O;let z:K.In s.heap:=h.mod.kin.keeps λb o e=>(h.bs b o e).1;let a4:s.1.NoLimit:=h.mod.nolimit.keeps λb o e=>(h.bs b o e).1;let ay:∀y∈ps.zip us,scope.2.lookup y.1=some .local\/(scope.2.lookup y.1=some .cell/\((aam (s.1.1.size+1) scope.2 []).lookup y.1).isSome=true):=λ⟨n,v⟩ hy=>by
  rcases S.par n (WX hy).1 with q|q
  .show .inl q
  .show .inr #[q,abS _ _ _ (.inl q)]
 show codeAny_call_function l.depth (z _ _ lk) rfl S.co S.gen rfl (PySem.W.codeRec_of z ar) (hb _ _ _ _ ?_);show wpAny_newFunctionEnv_cells S.kind ay λenv he s1 x=> ?_;subst he;show#[a4.keeps x.toInCall.keep,codeAny_func ?_];let(t,ht,hq):=aj A d s H vs Q E (l.deeper _) O;let I:wh (mv CX P w K m base N g scope f a A d s H E) [] (start N vs) H s1:=FE S l.hd h hl r x;show TZ (ht [] s1 (start N vs) H _ I hq) (λfl s' c=> ?_) λe s' c=>c;let M:∀ {i:St} {H':Hp} {v:V} {u:Value},wh (mv CX P w K m base N g scope f a A d s H E) [] i H' s'->aZ v u->Q v H'->CE d P w H s Q u s':=
  λ{i H' v u} J p q=>#[v,H',J.os,J.bare,J.base,J.hok,p,q]
 cases fl with
 |ret u=>
  let(v,i,H',J,p,q):=c;show M J p q
 |next=>
  let(i,H',J,q):=c;show M (v:=V.non) (u:=aav) J rfl q
 |brk=>
  let(_,_,_,q):=c;show False.elim q
 |cont=>
  let(_,_,_,q):=c;show False.elim q
section
variable{X:Cx}{x:Str}{p pos:Pos}{e:Expr}{es:pD}{t:TA}{id T:sh}{r:List V->Hp->VK->Prop}
def Z3(r:List V->Hp->VK->Prop)(t:TA):TE:=λb H Q=>t b H λvs a=>r vs a Q
theorem bj(g:bK X (.builtin id) r)(k:Gl X x)(l:X.mg x=none)(o:aba x=some (.builtin id))(f:PA X (e::es) t)(m:x≠ XD:=by decide)(i:(x==(Xd:Str))=false:=by decide)(j:aad (e::es) X.10=(false,eval e X.10)::aad es X.env:=by rfl)(n:(aar pos (aad es X.10)).any (·.1)=false:=by rfl):PE X (.Call (.Name x p) (e::es) [] pos) (Z3 r t):=by
 intro a s b H Q I h;show Uj (jU I k l o ?_ m i);show adt (zk (f pos a s b H _ I h) λus v ⟨vs,c,d,u,q⟩=>g a v b c vs us Q d u q) j n
theorem bz(g:bK X (.type T) r)(k:Gl X x)(l:X.mg x=none)(o:aba x=some (.type T))(f:PA X (e::es) t)(m:x≠ XD:=by decide)(i:(x==(Xd:Str))=false:=by decide)(j:aad (e::es) X.10=(false,eval e X.10)::aad es X.env:=by rfl)(n:(aar pos (aad es X.10)).any (·.1)=false:=by rfl):PE X (.Call (.Name x p) (e::es) [] pos) (Z3 r t):=by
 intro a s b H Q I h;show Uj (jU I k l o ?_ m i);show S5 (zk (f pos a s b H _ I h) λus v ⟨vs,c,d,u,q⟩=>g a v b c vs us Q d u q) j n
end
end L2
open L2.V(int str)
namespace HT
open PySem PyProof.Rows
section
variable{prog:rj}{w:t4}{A:tj}{E:gs}{s:rz}
noncomputable def sIx(n d:Nat):Option Int->Nat
 |none=>d
 |some v=>if v<0 then(v+(n:Int)).toNat else min v.toNat n
theorem zT(n d:Nat):sIx n d none=d:=rfl
theorem rO(n d k:Nat):sIx n d (some (k:Int))=min k n:=by show(if(k:Int)<0 then((k:Int)+(n:Int)).toNat else min (k:Int).toNat n)=min k n;rw[RQ (),RA]
end
end HT
namespace L2
open PySem PySem.Spec PyProof.Rows
abbrev TO:=St->Hp->(Option Int->Hp->Prop)->Prop
def PO(X:Cx)(e:Option Expr)(t:TO):Prop:=
 ∀(b:n7) (s:rz) (a:St) (H:Hp) (Q:Option Int->Hp->Prop),wh X b a H s->t a H Q->
  aag (model X.1 X.w) X.A (evalPart e X.10) (λu s'=>∃o H',wh X b a H' s'/\IsPart u o/\Q o H') X.xe s
def KJ:TO:=λ_ H Q=>Q none H
def PY(t:TE):TO:=λb H Q=>t b H λx a=>∃i,x= .int i/\Q (some i) a
theorem dS{ns:qR}:∀ {us:pk},zj (ns.map int) us->aa0 us ns:=by
 induction ns with
 |nil=>intro us r;rw[WC]at r;cases r;show .nil
 |cons n ns a=>
  intro us r;rw[Sg]at r;cases r with
  |cons b c=>
   let(t,e):=b;subst e;show .cons n t (a c)
section
variable{X:Cx}{e:Expr}{te:TE}{lo hi:Option Expr}{tl th:TO}{pos p2:Pos}
theorem eC:PO X none KJ:=by intro a s b H Q I h;rw[evalPart_none];show RS #[none,H,I, .none,h]
theorem c7(h:PE X e te):PO X (some e) (PY te):=by intro d s j H Q I c;rw[evalPart_some];show zk (h d s j H _ I c) λu k ⟨x,a,b,g,f⟩=> ?_;let(i,rfl,q):=f;let(t,rfl):=g;show#[some i,a,b, .int i t,q]
def ZT(X:Cx)(r:V->Option Int->Option Int->Hp->VK->Prop):Prop:=
 ∀(a:n7) (s:rz) (f:St) (H:Hp) (x:V) (v c d:Value) (lo hi:Option Int) (b:Addr) (Q:VK),wh X a f H s->aZ x v->s.1.IsSliceOf b c d .none->IsPart c lo->IsPart d hi->r x lo hi H Q->
  ∃T id,ad0 (.type T) "__getitem__"=pure (some (.builtin id))/\s.TypeIs v T/\aag (model X.1 X.w) X.A (ac5 v (.ref b)) (EP X a f Q) X.xe s
def tSl(r:V->Option Int->Option Int->Hp->VK->Prop)(te:TE)(tl th:TO):TE:=λa H Q=>te a H λx b=>tl a b λl c=>th a c λu d=>r x l u d Q
theorem cb(z:ZT X r)(t:PE X e te)(hl:PO X lo tl)(G:PO X hi th):PE X (.Subscript e (.Slice lo hi none p2) pos) (tSl r te tl th):=by intro c s d H Q I h;show ad1 (zk (t c s d H _ I h) λv O ⟨x,j,m,N,K⟩=> ?_);show wpAny_Slice (zk (hl c O d j _ m K) λf U ⟨l,k,n,pl,L⟩=>zk (G c U d k _ n L) λg a ⟨u,i,I3,J,M⟩=> ?_);rw[evalPart_none];show RS ?_;let o:wh X c d i {a with heap:=a.1.push {cls:= .type "slice",data:= .fields #v[f,g, .none]}}:=I3.kept (t':=a.4) λb ob q=>RN _ q;let(T,id,p,B,y):=z c {a with heap:=a.1.push {cls:= .type "slice",data:= .fields #v[f,g, .none]}} d i x v f g l u a.1.1.size Q o N (Heap.IsSliceOf.new ..) pl J M;change aag (model X.1 X.w) X.A (acD e (.Slice lo hi none p2) v (.ref a.1.1.size)) (EP X c d Q) X.xe {a with heap:=a.1.push {cls:= .type "slice",data:= .fields #v[f,g, .none]}};show tail_any (ops:=[.ref a.1.1.size,v]) B p y (by with_unfolding_all rfl)
noncomputable def kh(xs:List V)(lo hi:Option Int):List V:=(xs.drop (HT.sIx xs.length 0 lo)).take (HT.sIx xs.length xs.length hi-HT.sIx xs.length 0 lo)
theorem AV(xs:List V)(lo hi:Option Int):(kh xs lo hi).length<=xs.length:=by unfold kh;rw[Sk,SW];show RB (adu _ _) (ad2 _ _)
end
noncomputable def Zb(n:Nat)(i:Int):Option Nat:=if 0<=i then(if i<n then some i.toNat else none)else if-(n:Int)<=i then some (i+n).toNat else none
noncomputable def F1{a:Type}(xs:List a)(i:Int):Option a:=(Zb xs.length i).bind λj=>xs[j]?
theorem MK(h:Zb n i=some j):seqIndex? i n=some j/\j<n/\ -(n:Int)<=i/\i<n:=by
 unfold Zb at h;by_cases b:0<=i
 .rw[RF b]at h;by_cases a:i<n
  .rw[RF a]at h;let e:i.toNat=j:=Sm h;show#[by rw[seqIndex_of b a,e],99,a]
  .rw[RQ a]at h;cases h
 .rw[RQ b]at h;by_cases a: -(n:Int)<=i
  .rw[RF a]at h;let e:(i+n).toNat=j:=Sm h;show#[by rw[seqIndex_neg () a,e],9,a,9]
  .rw[RQ a]at h;cases h
theorem yY{xs:List α}(h:F1 xs i=some v):∃j,seqIndex? i xs.length=some j/\xs[j]?=some v/\j<xs.length/\ -(xs.length:Int)<=i/\i<xs.length:=by
 unfold F1 at h;cases e:Zb xs.length i with
 |none=>rw[e]at h;cases h
 |some j=>
  rw[e]at h;let(a,b,c,d):=MK e;show#[j,a,h,b,c,d]
theorem bB{j:Nat}(h:xs[j]?=some v):F1 xs (j:Int)=some v:=by
 let a:j<xs.length:=(RX.mp h).1;let e:Zb xs.length (j:Int)=some j:=by unfold Zb;rw[RF (),RF ()];simp
 unfold F1;rw[e];show h
def yZ(b:Expr):Prop:=∀o i,acj b false o i=operate [o,i] (ac5 o i)
def Zy(X:Cx)(r:R2):Prop:=
 ∀(c slice:Expr) (a:n7) (s:rz) (b:St) (H:Hp) (x y:V) (v u:Value) (Q:VK),wh X a b H s->aZ x v->aZ y u->r x y H Q->
  acj slice false v u=operate [v,u] (ac5 v u)->aag (model X.1 X.w) X.A (acD c slice v u) (EP X a b Q) X.xe s
def Y5(X:Cx)(id:sh)(r:V->List V->Hp->VK->Prop):Prop:=
 ∀(a:n7) (s:rz) (b:St) (H:Hp) (x:V) (xs:List V) (v:Value) (us:pk) (Q:VK),wh X a b H s->aZ x v->zj xs us->r x xs H Q->
  aag (model X.1 X.w) X.A (call (.builtin id) (v::us)) (EP X a b Q) X.xe s
section
variable{X:Cx}{a b:Expr}{ta tb:TE}{pos:Pos}
theorem tU(g:Zy X r)(e:PE X a ta)(f:PE X b tb)(i:yZ b):PE X (.Subscript a b pos) (Y9 r ta tb):=by intro j s n H Q I h;show ad1 (PN e f I h λv u m x y c d k l q=>g a b j m n c x y v u Q d k l q (i _ _))
inductive RdX(K:Frag)(x y:V)(H:Hp)(Q:VK):Prop
 |mk(p:Addr) (xs:List V) (i:Int) (v:V) (e1:x= .ref p) (e2:y= .int i) (s:vr K H p xs) (a:F1 xs i=some v) (q:Q v H):RdX K x y H Q
def OG(K:Frag):R2:=λx y H Q=>RdX K x y H Q
def OF(K:Frag):R2:=λx y H Q=>∃p xs i v,x= .ref p/\y= .int i/\GB K H p xs/\F1 xs i=some v/\Q v H
def Rf:R2:=λx y H Q=>∃z i c,x= .str z/\y= .int i/\z.length<=sizeLine/\F1 z.cps.toList i=some c/\Q (.str #[#v[c]]) H
theorem MJ:Zy X (OG X.K):=by
 intro ab slice l s m H x y v u Q I M N h k;let(p,xs,i,z,rfl,rfl,G,B,q):=h;cases M;let(t,rfl):=N;let(J,r,pl,hz):=I.list G;let(j,c,n,O,o,A):=yY B;let(w,e,L):=r.get n;let hl:=r.length;let U:=uC;let f:EP X l m Q w s:=#[z,H,I,L,q];by_cases g:0<=i
 .let d:i.toNat=j:=by rw[seqIndex_of g A]at c;show Sm c
  show item_listR pl.isList g () (by rw[d];simpa using e) f k
 .let d:(i+(J.toArray.size:Int)).toNat=j:=by rw[seqIndex_neg () o]at c;rw[Si,<-hl];show Sm c
  show abT (x:=w) pl.isList.typeIs ac6.lookup
   (wpAny_getItem_list_neg (Q:=λr s'=>r=w/\EP X l m Q r s') pl.isList () (by rw[Si]<;>lia) () (by rw[d];simpa using e) #[2,f]) k
theorem Pt:Zy X (OF X.K):=by
 intro O slice c s d H x y v u Q I A B h n;let(p,xs,i,z,rfl,rfl,m,l,q):=h;cases A;let(t,rfl):=B;let(N,r,pl,hz):=I.tuple m;let(j,g,k,G,J,L):=yY l;let(w,e,o):=r.get k;let hl:=r.length;let M:=uC;let f:EP X c d Q w s:=#[z,H,I,o,q];show abT (x:=w) pl.typeIs slot_tuple_getitem.lookup
  (getItem_tuple (j:=j) (Q:=λr s'=>r=w/\EP X c d Q r s') pl () () (by rw[Si,<-hl];show g) #[5,e] #[2,f]) n
theorem uH:Zy X Rf:=by
 intro B slice A s G H x y v u Q I o p h n;let(z,i,c,rfl,rfl,hz,m,q):=h;let(t,rfl):=o;let(t',rfl):=p;let(j,d,g,r,k,l):=yY m;let hl:z.cps.toList.length=z.length:=by simp[Str.length]
 rw[hl]at d k l;let w:=uC;show tail_any (Vs s z t) slot_str_getitem.lookup (getItem_str (c:=c) (by
  let e:decide (i< -(2^63:Int))=false:=RL ();let f:decide (i>=2^63)=false:=RL ();rw[e,f,S9]) (by rw[d];simpa using g) #[.str #[#v[c]],H,I.tok _,#[7],q]) n
theorem xI(d c:Option Int)(n:Nat):(aa8 d c none n).1=((HT.sIx n 0 d:Nat):Int)/\(aa8 d c none n).2.1=((HT.sIx n n c:Nat):Int)/\(aa8 d c none n).2.2=1:=by
 show#[662]
 .cases d with
  |none=>simp[aa8,HT.sIx]
  |some i=>
   simp only[aa8,HT.sIx,adv,show(1:Int)>0 by decide,V1];by_cases h:i<0
   .simp only[h,V1]<;>lia
   .simp only[h,Xa]<;>lia
 .cases c with
  |none=>simp[aa8,HT.sIx]
  |some i=>
   simp only[aa8,HT.sIx,adv,show(1:Int)>0 by decide,V1];by_cases h:i<0
   .simp only[h,V1]<;>lia
   .simp only[h,Xa]<;>lia
theorem vm(c:pk)(d e:Option Int):slicePick c.toArray d e none=((c.drop (HT.sIx c.length 0 d)).take (HT.sIx c.length c.length e-HT.sIx c.length 0 d)).toArray:=by let(f,g,h):=xI d e c.toArray.size;unfold slicePick;rw[f,g,h];simp only[sliceRange_one,pick_run,Si]<;>rfl
def Qk(K:Frag):V->Option Int->Option Int->Hp->VK->Prop:=λx d c H Q=>∃a xs,x= .ref a/\vr K H a xs/\∀p,H p=none->Q (.ref p) (upd H p (.lst (kh xs d c)))
theorem K9:ZT X (Qk X.K):=by intro m s u H x v p t c d n Q I j g pl i h;let(a,xs,rfl,hx,q):=h;cases j;let(k,r,e,hz):=I.list hx;let f:=r.length;show#[Xc,_,ac6.lookup,e.isList.typeIs,6];show wpAny_getItem_list_slice e.isList g pl i .none #[5] ?_ (by rw[Si]<;>lia);rw[vm,<-f];show#[.ref s.1.1.size,_,I.laid (t':=s.4) (o:= .lst (kh xs c d)) (λb l q=>RN _ q) (RJ _) ?_,2,q _ (I.hok.fresh (RJ _))];show#[RB (AV xs c d) hz,_,0,(r.drop (HT.sIx xs.length 0 c)).take (HT.sIx xs.length xs.length d-HT.sIx xs.length 0 c),R8 _ rfl]
noncomputable def o4:V->Bool
 | .non=>true
 | .bl _=>true
 | .int _=>true
 | .str _=>true
 |_=>false
noncomputable def YZ:V->V->Bool
 | .non, .non=>true
 | .bl a, .bl b=>a==b
 | .bl a, .int b=>(if a then 1 else 0)==b
 | .int a, .bl b=>a==(if b then 1 else 0)
 | .int a, .int b=>a==b
 | .str a, .str b=>a==b
 |_,_=>false
theorem PB(e:aZ y u)(c:aZ x v)(f:o4 y=true)(d:o4 x=true):SeqAt.EqAt A s u v (YZ y x):=by
 cases y with
 |non=>
  cases e;cases x with
  |non=>cases c;show SeqAt.EqAt.same _
  |bl b=>cases c;show SeqAt.EqAt.none_bool b
  |int b=>let(t,rfl):=c;show SeqAt.EqAt.none_int b t
  |str b=>let(t,rfl):=c;show SeqAt.EqAt.none_str b t
  |_=>show absurd (show false=true from d) RO
 |bl a=>
  cases e;cases x with
  |non=>cases c;show SeqAt.EqAt.bool_none a
  |bl b=>cases c;show SeqAt.EqAt.bool_bool a b
  |int b=>let(t,rfl):=c;show SeqAt.EqAt.bool_int a b t
  |str b=>let(t,rfl):=c;show SeqAt.EqAt.bool_str a b t
  |_=>show absurd (show false=true from d) RO
 |int a=>
  let(t',rfl):=e;cases x with
  |non=>cases c;show SeqAt.EqAt.int_none a t'
  |bl b=>cases c;show SeqAt.EqAt.int_bool a t' b
  |int b=>let(t,rfl):=c;show SeqAt.EqAt.int_int a t' b t
  |str b=>let(t,rfl):=c;show SeqAt.EqAt.int_str a t' b t
  |_=>show absurd (show false=true from d) RO
 |str a=>
  let(t',rfl):=e;cases x with
  |non=>cases c;show SeqAt.EqAt.str_none a t'
  |bl b=>cases c;show SeqAt.EqAt.str_bool a t' b
  |int b=>let(t,rfl):=c;show SeqAt.EqAt.str_int a t' b t
  |str b=>let(t,rfl):=c;show SeqAt.EqAt.str_str a t' b t
  |_=>show absurd (show false=true from d) RO
 |_=>show absurd (show false=true from f) RO
noncomputable def Yp(x:V)(u:Value):Bool:=match u with
 | .none=>YZ .non x
 | .bool b=>YZ (.bl b) x
 | .int i _=>YZ (.int i) x
 | .str z _=>YZ (.str z) x
 |_=>false
theorem J2(r:aZ y u)(f:o4 y=true):Yp x u=YZ y x:=by
 cases y with
 |non=>cases r;rfl
 |bl b=>cases r;rfl
 |int i=>let(t,rfl):=r;rfl
 |str z=>let(t,rfl):=r;rfl
 |_=>show absurd (show false=true from f) RO
theorem pG:∀ {xs:List V} {us:pk},zj xs us->xs.all o4=true->us.any (Yp x)=xs.any λy=>YZ y x
 |_,_, .nil,_=>rfl
 |y::xs,u::us, .cons r t,f=>by rw[Xb,RZ]at f;rw[U5,U5,J2 r f.1,pG t f.2]
theorem lu(e:aZ x v)(d:o4 x=true):∀ {xs:List V} {us:pk},zj xs us->xs.all o4=true->∀u∈us,SeqAt.EqAt A s u v (Yp x u)
 |_,_, .nil,_=>λu c=>by cases c
 |y::xs,u::us, .cons r t,f=>λg c=>by
  rw[Xb,RZ]at f;rcases RT.mp c with rfl|c
  .rw[J2 r f.1];show PB r e f.1 d
  .show lu e d t f.2 g c
noncomputable def YG(x:V)(xs:List V):Bool:=xs.any λy=>YZ y x
def ZN(K:Frag)(c:Bool):R2:=λx y H Q=>∃p xs,y= .ref p/\(vr K H p xs\/GB K H p xs)/\o4 x=true/\xs.all o4=true/\Q (.bl (if c then !YG x xs else YG x xs)) H
theorem E3:Ol X (aal .In) (ZN X.K false):=by
 intro j s k H x y v u Q I g i h;let(p,xs,rfl,c,f,fs,q):=h;cases i;rcases c with c|c
 .let(d,r,pl,hz):=I.list c;show SeqAt.in_listAt (Yp x) pl.isList (λw e=>lu g f r fs w #[5,e]) #[.bl _,H,I,26];rw[show d.toArray.any (Yp x)=d.any (Yp x) by simp,pG r fs];show q
 .let(d,r,pl,hz):=I.tuple c;show SeqAt.in_tupleAt (Yp x) pl (λw e=>lu g f r fs w #[5,e]) #[.bl _,H,I,26];rw[show d.toArray.any (Yp x)=d.any (Yp x) by simp,pG r fs];show q
theorem yg:Ol X (aal .NotIn) (ZN X.K true):=by
 intro j s k H x y v u Q I g i h;let(p,xs,rfl,c,f,fs,q):=h;cases i;rcases c with c|c
 .let(d,r,pl,hz):=I.list c;show SeqAt.notIn_listAt (Yp x) pl.isList (λw e=>lu g f r fs w #[5,e]) #[.bl _,H,I,26];rw[show d.toArray.any (Yp x)=d.any (Yp x) by simp,pG r fs];show q
 .let(d,r,pl,hz):=I.tuple c;show SeqAt.notIn_tupleAt (Yp x) pl (λw e=>lu g f r fs w #[5,e]) #[.bl _,H,I,26];rw[show d.toArray.any (Yp x)=d.any (Yp x) by simp,pG r fs];show q
theorem yW:bK X (.builtin "len") (λxs H Q=>∃p c,xs=[.ref p]/\(vr X.K H p c\/GB X.K H p c)/\Q (.int c.length) H):=by
 intro k s l H xs us Q I r h;let(p,c,rfl,d,q):=h;let(u,rfl,i):=gA r;cases i;let j:=uC;rcases d with d|d
 .let(g,f,pl,hz):=I.list d;let e:=f.length;show Calls.call_len_list pl.isList (by simp only[Si]<;>lia) #[.int c.length,H,I.tok _,#[s.4+1,by rw[Si,e]],q]
 .let(g,f,pl,hz):=I.tuple d;let e:=f.length;show len_tuple pl (by simp only[Si]<;>lia) #[.int c.length,H,I.tok _,#[s.4+1,by rw[Si,e]],q]
theorem pB:bK X (.builtin "len") (λxs H Q=>∃z,xs=[.str z]/\z.length<=sizeLine/\Q (.int z.length) H):=by intro d s e H xs us Q I r h;let(z,rfl,hz,q):=h;let(u,rfl,t,rfl):=gA r;let c:=uC;show len_str () #[.int z.length,H,I.tok _,#[7],q]
theorem yV:bK X (.type Xc) (λxs H Q=>∃p g,xs=[.ref p]/\(vr X.K H p g\/GB X.K H p g)/\∀l,H l=none->Q (.ref l) (upd H l (.lst g))):=by
 intro z s B H xs us Q I r h;let(p,g,rfl,i,q):=h;let(u,rfl,A):=gA r;cases A;let v:∀(c:pk),zj g c->g.length<=sizeLine->∀(h':Heap)(d:Nat),(∀b x,s.1.get? b=some x->h'.get? b=some x)->
   h'.get? s.1.1.size=some {cls:= .type Xc,dict:=none,data:= .seq c.toArray d,slots:= #v[]}->EP X z B Q (.ref s.1.1.size) {s with heap:=h'}:=λc f hz h' d j e=>
  #[.ref s.1.1.size,_,I.laid (t':=s.4) j (RJ _) (show bG X.1 X.w _ h' _ (.lst g)from#[hz,c,d,f,e]),2,q _ (I.hok.fresh (RJ _))]
 rcases i with i|i
 .let(c,f,pl,hz):=I.list i;let y:=f.length;let(o,t,k,n,m):=pl.isList;show call_list_seq p (.inl rfl) t k m (λh' d j e=>v c f hz h' d j e) (by simp only[Si]<;>lia)
 .let(c,f,pl,hz):=I.tuple i;let y:=f.length;let(o,t,k,n,m):=pl;show call_list_seq p (.inr rfl) t k m (λh' d j e=>v c f hz h' d j e) (by simp only[Si]<;>lia)
theorem vJ:bK X (.type Xl) (λxs H Q=>∃p c,xs=[.ref p]/\((vr X.K H p c/\∀l,H l=none->Q (.ref l) (upd H l (.tup c)))\/(GB X.K H p c/\Q (.ref p) H))):=by
 intro j s k H xs us Q I r h;let(p,c,rfl,h):=h;let(u,rfl,t):=gA r;cases t;rcases h with ⟨d,q⟩|⟨d,q⟩
 .let(f,g,pl,hz):=I.list d;let v:=g.length;show call_tuple_list pl.isList (λh' n=> ?_) (by simp only[Si]<;>lia);let i:wh X j k H {s with heap:=h'}:=I.kept (t':=s.4) n;let m:wh X j k (upd H h'.1.size (.tup c)) {s with heap:=h'.push {cls:= .type Xl,data:= .seq f.toArray}}:=
   i.laid (t':=s.4) (λb o e=>RN _ e) (RJ _) (show bG X.1 X.w _ _ _ (.tup c)from#[hz,f,g,IsTup.new _ _])
  show#[.ref h'.1.size,_,m,2,q _ (i.hok.fresh (RJ _))]
 .let(f,g,pl,hz):=I.tuple d;show call_tuple_same pl #[.ref p,H,I,2,q]
def Z1(K:Frag)(T:sh)(x:V)(H:Hp):Prop:=match x with
 | .str _=>T= "str"
 | .int _=>T= "int"
 | .ref p=>(T= Xc/\∃xs,vr K H p xs)\/(T= Xl/\∃o,K.lookup p=some o/\o.cls= .type Xl/\o.dict=none)\/
   (T= Xk/\((∃kvs,H p=some (.dK kvs))\/∃kvs,H p=some (.dT kvs)))\/(T= XA/\∃S n,H p=some (.set S n))
 |_=>False
theorem Gn{m:St}{s:rz}(I:wh X pins m H s)(r:aZ x v)(ty:Z1 X.K T x H):
  s.TypeIs v T/\∀a,v= .ref a->∃j,s.1.get? a=some j/\j.dict=none:=by
 cases x with
 |str z=>
  let(t,rfl):=r;cases (show T= "str" from ty);show#[Vs s z t,λ_ e=>nomatch e]
 |int i=>
  let(t,rfl):=r;cases (show T= "int" from ty);show#[typeIs_int s i t,λ_ e=>nomatch e]
 |ref p=>
  cases r;rcases ty with ⟨rfl,xs,l⟩|⟨rfl,o,d,k,h⟩|⟨rfl,d⟩|⟨rfl,S,n,d⟩
  .let(q,_,pl,_):=I.list l;show#[pl.isList.typeIs,λa e=> ?_];cases e;let(o,n,e,c,h,_):=pl;show#[o,e,h]
  .show#[#[o,I.kIn p o d,k],λa e=> ?_];cases e;show#[o,I.kIn _ o d,h]
  .let z:∃o,s.1.get? p=some o/\o.ExactDict:=by
    rcases d with ⟨kvs,d⟩|⟨kvs,d⟩
    .let(_,_,_,_,o,_,_,e,f,_):=I.hok p _ d;show#[o,e,f]
    .let(_,_,_,_,o,_,_,e,f,_):=I.hok p _ d;show#[o,e,f]
   let(o,e,f):=z;show#[#[o,e,f.1],λa g=> ?_];cases g;show#[o,e,f.2.1]
  .let(o,_,_,_,e,f,_):=I.hok p _ d;show#[#[o,e,f.1],λa g=> ?_];cases g;show#[o,e,f.2.1]
 |_=>show False.elim ty
def P6(K:Frag)(T:sh)(r:V->List V->Hp->VK->Prop)(to:TE):TE:=λd H Q=>to d H λx c=>Z1 K T x c/\r x [] c Q
def tBM(K:Frag)(T:sh)(r:V->List V->Hp->VK->Prop)(to:TE)(t:TA):TE:=λd H Q=>to d H λx c=>Z1 K T x c/\t d c λxs e=>r x xs e Q
variable{o e:Expr}{es:pD}{to:TE}{t:TA}{name:Str}{apos cpos:Pos}{T id:sh}{r:V->List V->Hp->VK->Prop}
theorem OZ(u:acK T)(slot:Slot T name id)(q:typeOf (.builtin id)=pure (.type Xm))(n:Y5 X id r)(p:PE X o to)(l:aay o name X.10 (eval o X.10)=eval o X.env:=by rfl)(m:(apos.endLine==cpos.line)=true:=by rfl):PE X (.Call (.Attribute o name apos) [] [] cpos) (P6 X.K T r to):=by
 intro d s g H Q I h;show abF l m (zk (p d s g H _ I h) λv y ⟨x,i,c,f,ty,w⟩=> ?_);let(j,k):=Gn c f ty;show#[T,id,u,slot,q,j,k,UP rfl (acz (n d y g i x [] v [] Q c f .nil w))]
theorem Qu(J:acK T)(slot:Slot T name id)(G:typeOf (.builtin id)=pure (.type Xm))(y:Y5 X id r)(z:PE X o to)(p:PA X (e::es) t)(q:aay o name X.10 (eval o X.10)=eval o X.env:=by rfl)(u:((aar cpos (aad (e::es) X.10)).all (λx=> !x.1)&&(aa2 cpos (aaC [] X.10)).all (λx=>x.1.isSome)
   &&decide ((e::es).length+([]:List ac7).length+(if([]:List ac7).isEmpty then 0 else 1)<30))=true:=by rfl)(w:(apos.endLine==cpos.line)=true:=by rfl)(B:aad (e::es) X.10=(false,eval e X.10)::aad es X.env:=by rfl)(A:(aar cpos (aad es X.10)).any (·.1)=false:=by rfl):
  PE X (.Call (.Attribute o name apos) (e::es) [] cpos) (tBM X.K T r to t):=by
 intro c s d H Q I h;show wpAny_Call_method_late q u w rfl (zk (z c s d H _ I h) λv O ⟨x,j,f,i,ty,L⟩=> ?_);let(m,n):=Gn f i ty;show#[T,id,J,slot,G,m,n,6];let g:=p cpos c O d j _ f L;rw[B]at g⊢;show UP (by show(false||(aar cpos (aad es X.10)).any (·.1))=false;rw[A]<;>rfl) (VM ?_);show zk g λus U ⟨vs,k,l,N,M⟩=>y c U d k x vs v us Q l i N M
end
def MtM(X:Cx)(id:sh)(r:V->List V->Hp->VK->Prop):Prop:=
 ∀(a:n7) (s:rz) (b:St) (H:Hp) (x:V) (xs:List V) (v:Value) (us:pk) (Q:VK),wh X a b H s->aZ x v->zj xs us->r x xs H Q->
  aag (model X.1 X.w) X.A (call (.builtin id) (v::us)) (EP X a b Q) X.xe s
theorem zj.one(h:zj [x] us):∃u,us=[u]/\aZ x u:=by
 cases h with
 |cons r q=>cases q;show#[7,r]
theorem zj.two(h:zj [x,y] us):∃u v,us=[u,v]/\aZ x u/\aZ y v:=by
 cases h with
 |cons r q=>let(v,rfl,a):=zj.one q;show#[17,r,a]
theorem zj.zero:∀ {us:pk},zj [] us->us=[]
 |_, .nil=>rfl
section
variable{X:Cx}{pins:n7}{σ:St}{H:Hp}{s:rz}{l b:Addr}{xs ys zs:List V}
theorem wh.lset{a its':pk}(I:wh X pins σ H s)(c:H l=some (.lst xs))(e:s.1.get? l=some {cls:= .type Xc,data:= .seq a.toArray n})(g:f a.toArray=its'.toArray)(i:zj ys its')(hz:ys.length<=sizeLine):
  wh X pins σ (upd H l (.lst ys)) {s with heap:=s.1.update l (acL f),toks:=t'}:=by
 let q:=PySem.IsL.update e f;rw[g]at q;show I.write (x:=l) (e:=l) (by rw[c];show trivial) (.inl rfl) (λj u d h=>(Tv s.1 (acL f) (TF d)).trans h) #[_,q] ?_;show#[hz,its',_,i,q]
theorem wh.lnew{a:pk}(I:wh X pins σ H s)(c:zj ys a)(hz:ys.length<=sizeLine):
  wh X pins σ (upd H s.1.1.size (.lst ys)) {s with heap:=s.1.push {cls:= .type Xc,data:= .seq a.toArray},toks:=t'}:=
 I.laid (λ_ _ q=>RN _ q) (RJ _) #[hz,a,0,c,R8 _ rfl]
theorem wh.fresh(I:wh X pins σ H s):H s.1.1.size=none:=I.hok.fresh (RJ _)
theorem wh.lstM(I:wh X pins σ H s)(c:H l=some (.lst xs)):xs.length<=sizeLine/\∃(a:pk)(n:Nat),zj xs a/\xs.length=a.length/\s.1.get? l=some {cls:= .type Xc,data:= .seq a.toArray n}:=by let(z,a,n,r,e):=I.hok l _ c;show#[z,a,n,r,r.length,e]
end
section
variable{X:Cx}
inductive RdA(x:V)(vs:List V)(H:Hp)(Q:VK):Prop
 |mk(l:Addr) (xs:List V) (y:V) (e1:x= .ref l) (e2:vs=[y]) (h:H l=some (.lst xs)) (n:xs.length<sizeLine) (q:Q .non (upd H l (.lst (xs++[y])))):RdA x vs H Q
def Lr:V->List V->Hp->VK->Prop:=λx vs H Q=>RdA x vs H Q
theorem wR:MtM X "list.append" Lr:=by intro g s i H x vs v us Q I f d h;let(l,xs,y,rfl,rfl,a,hz,q):=h;cases f;let(u,rfl,c):=d.one;let(z,b,n,r,hl,e):=I.lstM a;show Ww F.slot_list_append #[_,e,2] F.entry_list_append (F.args_list_append_2 _ _) (PySem.list_append l b.toArray n u (by rw[Si];lia)) #[e,6];show#[.non,_,I.lset (its':=b++[u]) a e #[5] (r.append (.cons c .nil)) ?_,2,q];rw[R4,ab8];lia
def Rg:R2:=λx y H Q=>∃l b xs a,x= .ref l/\y= .ref b/\H l=some (.lst xs)/\H b=some (.lst a)/\xs.length+a.length<=sizeLine/\∀p,H p=none->Q (.ref p) (upd H p (.lst (xs++a)))
theorem O9:Ol X (aaF .Add) Rg:=by
 intro t s B H x y v u Q I k m h;let(l,b,xs,A,rfl,rfl,i,g,hz,q):=h;cases k;cases m;let(z,a,n,r,hl,e):=I.lstM i;let(w,c,p,j,o,d):=I.lstM g;show PySem.P.add_list e d ?_ (by rw[Si,Si];lia);let f:a.toArray++c.toArray=(a++c).toArray:=#[5]
 rw[f];show#[.ref _,_,I.lnew (t':=s.4) (r.append j) (by rw[R4];lia),2,q _ I.fresh]
end
end L2
namespace Att
open PySem PySem.W PySem.Calls PyProof.Rows
theorem rJ:∀(ns:qR)(vs:pk),WellAll P h vs (ns.map WData.int)->aa0 vs ns:=by
 intro ns
 induction ns with
 |nil=>
  intro vs w;rw[WC]at w;cases w;show .nil
 |cons n ns c=>
  intro vs w;rw[Sg]at w;cases w with
  |cons a b=>
   cases a;show .cons _ _ (c _ b)
theorem ED{l:OpenLaw}(o:l.most=some n){h:Heap}(f:l.row.toRowW.claim.pre args=true)(t:WellAll P h vals args):
  ∃a vs ns,vals=[aaa a]/\args=[WData.list (ns.map WData.int)]/\h.get? a=some {cls:= .type Xc,data:= .seq vs.toArray}/\aa0 vs ns/\ns.length<=n:=by
 let s:WShape.hasAll [] args [.list .int]=true:=(pre_splitW f).1;let e:l.pre.holds [] {args:=args}=true:=(pre_splitW f).2;let(d,r,rfl,g,i):=hasAllW_cons s;obtain rfl:=hasAllW_nil i;let(xs,rfl,j):=hasW_list g;let(ns,rfl):=items_int j;let m:ns.length<=n:=by
  unfold OpenLaw.pre at e;let b:(WTm.not (.lt (.lit (.int (n:Int))) (.len (.arg 0)))).holds [] {args:=[.list (ns.map .int)]}=true:=by have b:=(holds_andW e).1;rwa[o]at b
  let c:=condW_of b (w_not (w_lt w_lit (w_len_list (w_arg rfl))));rw[My]at c;show Ts λq=> ?_;let u:(n:Int)<((ns.length:Nat):Int):=()
  first
   |(rw[RE u]at c;show absurd c ∅)
   |(simp at c;lia)
 cases t with
 |cons v w=>
  cases w;cases v with
  |list p k=>show#[11,ns,22,p,rJ ns _ k,m]
theorem EM(l:OpenLaw)(args:List WData):l.row.toRowW.claim.post args (.bool true) args=true:=
 postW_of (r:=l.row.toRowW) (X:=(true==true))
  (show WShape.has [] (.bool true) .bool=true by first|rfl|decide|simp[WShape.has,WShape.arms,WShape.armsAll])
  (show(WTm.eq .res (.lit (.bool true))).value [] {args:=args,res:=some (.bool true),after:=args}=some (.bool (true==true))from w_eq_bool (w_res rfl) w_lit) rfl
theorem A6{l:OpenLaw}{d:DefRec}(J:l.most=some n)(y:d.params.defaults=[])(call:∀(w:t4)(k b:rz)(g i:jn)(c:Addr)(o:Obj)(j e h:Value)(a:Addr)(vs:pk)(ns:qR),
   Ground q loose [] XP w k g i b.1->YP w b.1->
   b.1.get? c=some o->o.data= .func (docDef d.name d.params d.body d.scope j e h)->b.1.CodeRec e d.name->g d.name=some (.ref c)->
   b.1.get? a=some {cls:= .type Xc,data:= .seq vs.toArray}->aa0 vs ns->ns.length<=n->b.gens= #v[]->
   aaV (model l.prog w) acw (.call (.ref c) #[[.ref a],[]]) (λr s'=>r= .ok (.ret (.bool true))/\OldK b.1 s'.1/\s'.os=b.os/\abh s'.gens) b):
  WalkO q loose XP YP l.row.toRowW d [] (λf vs=>ad3 f vs):=by
 intro w k b g i G Y c o j e h p kV K x v m H z args vals as M Q ab O U;obtain rfl:p= .none:=Dflts.none m y;obtain rfl:kV= .none:=Dflts.noKw m;let(a,vs,ns,rfl,rfl,L,hints,A):=ED J M O;show enter_call (UX (call w k b g i c o j e h a vs ns G Y K (fd_plain x) v H L hints A z) λr s' N=> ?_);let(rfl,s,t,u):=N;show#[.inl #[.bool true, .bool true,[],2,λ_=>rfl, .bool true,EM l _,λ_=>#[List.Pairwise.nil,λ_ B=>(nomatch B)]],s,t,u]
end Att
namespace L2
open PySem PySem.Spec PyProof.Rows
theorem iN:∀ {vs:pk} {ns:qR},aa0 vs ns->zj (ns.map int) vs
 |_,_, .nil=> .nil
 |_,_, .cons n t h=> .cons #[t,2] (iN h)
def Zl(H:Hp):Prop:=∀b,H b=none\/∃o xs,H b=some (.frz o (.lst xs))
theorem Jy{K:Frag}{c:rz}{vs:pk}{ns:qR}(y:K.In c.1)(N:c.1.Ns aak j)(f:c.1.Ns abM Q)(a3:∀x:Str,x≠ XD->Q x=aba x)(a7:c.1.NoLimit)(hg:c.gens= #v[])(i:c.1.get? a=some {cls:= .type Xc,data:= .seq vs.toArray})(M:aa0 vs ns)(hl:ns.length<=sizeLine)(hr:z3 k acw)(F:∀base:Heap,K.In base->base.Ns aak j->dJ P w K j base CX k fa fd [x] sp)(a4:∀(s:rz)(u:Value),ac2 s fd #[[u],[]] [(x,u)])(bt:∀H:Hp,Zl H->vr K H a (ns.map int)->sp [.ref a] H (λv _=>v= .bl true) λ_ _ _=>False)(ax:∀H e s',CX [] H c (λ_ _ _=>False) e s'->False):
  aaV (model P w) acw (.call (.ref fa) #[[.ref a],[]]) (λr s'=>r= .ok (.ret (.bool true))/\OldK c.1 s'.1/\s'.os=c.os/\abh s'.gens) c:=by
 let U:=iN M;let bu:=M.length;let core:∀H:Hp,Zl H->vr K H a (ns.map int)->Rl P w H c.1->(∀b,H b≠none->b=a)->(H a≠none->K.lookup a=none)->
   aaV (model P w) acw (.call (.ref fa) #[[.ref a],[]]) (λr s'=>r= .ok (.ret (.bool true))/\OldK c.1 s'.1/\s'.os=c.os/\abh s'.gens) c:=by
  intro H L hS O G hK;let A:∀ {b:Addr} {o:Obj},c.1.get? b=some o->H b=none->(yL c.1 H).get? b=some o:=λe n=>JN e n;let bN:∀ {b:Addr} {o:Obj} {es:Array DictEntry} {ep:Nat},c.1.get? b=some o->o.data= .dict es ep->H b=none:=λ{b o es ep} e d=>by
   cases q:H b with
   |none=>rfl
   |some u=>
    let p:b=a:=G b (by rw[q];simp);subst p;rw[i]at e;cases e;let d':aeG vs.toArray _=Data.dict es ep:=d;cases d'
  let l:∀ {b:Addr} {m:jn},c.1.Ns b m->(yL c.1 H).Ns b m:=λ{b m} ⟨o,es,ep,e,d,r⟩=>#[o,es,ep,A e (bN e d),d,r];let J:K.In (yL c.1 H):=λb o e=>A (y b o e) (by
   cases q:H b with
   |none=>rfl
   |some u=>
    let p:b=a:=G b (by rw[q];simp);subst p;rw[hK (by rw[q];simp)]at e;cases e)
  let hM:Mod K j (yL c.1 H):=#[J,l N,#[Q,l f,a3],let⟨mc,h1,h2⟩:=a7;#[mc,l h1,h2]];let e0:CW P w K j (yL c.1 H) acw [] c H:=#[2,hM,λb o e=>LX e,acW (FG _ _),trivial,λb f=>absurd (show b∈([]:List Addr)from f) #[5],O, .of_eq hg];show UX ((F _ J (l N)).run acw [] c H #[[.ref a],[]] [.ref a] [.ref a] _ _ hr e0 (a4 c (.ref a)) (.cons rfl .nil) (bt H L hS)) λr s' h=> ?_;cases r with
  |error e=>show(ax H e s' h).elim
  |ok fl=>
   cases fl with
   |next=>show False.elim h
   |brk=>show False.elim h
   |cont=>show False.elim h
   |ret u=>
    let(v,H',os,bare,un,bk,r',q):=h;let q':v= .bl true:=q;subst q';obtain rfl:u=acF true:=r';show#[2,OldK.of_keep λb o e=> ?_,os,bare];cases q:H b with
    |none=>show un.keep b o e q (by intro z;show absurd (show b∈([]:List Addr)from z) #[5]) #[5]
    |some u=>
     rcases L b with z|⟨ob,xs,z⟩
     .rw[q]at z;cases z
     .let z2:=un.frzs b ob _ z;let(B,_):=O b _ z;let(e2,_):=bk b _ z2;rw[e]at B;cases B;show e2
 cases t:K.lookup a with
 |some o=>
  let e:=y a o t;rw[i]at e;cases e;show core (λ_=>none) (λ_=> .inl rfl) (.inr #[_,vs.toArray,_,t,222,by rw[Si,bu];show hl,#[5,U]]) (λb u z=>by have g:(none:Option HO)=some u:=z;cases g) (λb z=>absurd rfl z) λz=>absurd rfl z
 |none=>
  show core (λb=>if b=a then some (.frz {cls:= .type Xc,data:= .seq vs.toArray} (.lst (ns.map int)))else none) (λb=> ?_) (.inl (.inr #[{cls:= .type Xc,data:= .seq vs.toArray},RF rfl])) (λb u z=> ?_) (λb z=> ?_) λ_=>t
  .by_cases f:b=a
   .show .inr #[11,RF f]
   .show .inl (RQ f)
  .by_cases f:b=a
   .let g:=(RF f).symm.trans z;cases g;subst f;show#[i,by rw[My];show hl,vs,_,U,i]
   .let g:=(RQ f).symm.trans z;cases g
  .by_cases f:b=a
   .show f
   .show absurd (RQ f) z
theorem CZ{l:ab5}{d:DefRec}{K:aab->Frag}{CX:aaX->Y8}{sp:aaX->Sp}{x:Str}(M:l.most=some n)(N:n<=sizeLine)(B:d.params.defaults=[])(Q:z3 k acw)(hY:∀(w:t4)(h:Heap),YP w h->(K w.params).In h)(F:∀(w:t4)(c:jn)(i:Addr)(h:Heap),(K w.params).In h->h.Ns aak c->c d.name=some (.ref i)->
   ∃j:FuncData,(∀(s:rz)(u:Value),ac2 s j #[[u],[]] [(x,u)])/\
    ∀base:Heap,(K w.params).In base->base.Ns aak c->dJ l.prog w (K w.params) c base (CX w) k i j [x] (sp w))(U:∀(w:t4)(H:Hp)(a:Addr)(ns:qR),ns.length<=n->Zl H->vr (K w.params) H a (ns.map int)->sp w [.ref a] H (λv _=>v= .bl true) λ_ _ _=>False)(r:∀(w:t4)(H:Hp)(s:rz)(e:Value)(s':rz),CX w [] H s (λ_ _ _=>False) e s'->False):
  aem q loose XP YP l.row.toRowW d [] (λf vs=>ad3 f vs):=by
 show Att.A6 M B λw a0 ab c mb i o pm cd ai a vs ns G Y ho hd aj L O hints p J=> ?_;let m:=hY w _ Y;let(j,A,t):=F w c i _ m G.T.g L;show Jy m G.T.g G.T.b G.T.builtins G.T.nolimit J O hints (RB p N) Q t A (λH y z=>U w H a ns p y z) λH e s'=>r w H ab e s'
noncomputable def a6(s:Stmt)(j:Nat):Stmt:=match s with
 | .ClassDef _ _ _ a _ _ _ _ _ _ _=>a.getD j (.Pass #[0,0,0,0])
 |_=> .Pass #[0,0,0,0]
noncomputable def cP(s:Stmt):Arguments:=match s with
 | .FunctionDef _ a _ _ _ _ _ _ _ _=>a
 |_=>{posonlyargs:=[],args:=[],vararg:=none,kwonlyargs:=[],kw_defaults:=[],kwarg:=none,defaults:=[]}
noncomputable def bA(s:Stmt):List Stmt:=match s with
 | .FunctionDef _ _ b _ _ _ _ _ _ _=>b
 |_=>[]
noncomputable def aC(s:Stmt):Scope:=match s with
 | .FunctionDef _ _ _ _ _ _ a _ _ _=>a
 |_=>{kind:= .function,names:=[],isGenerator:=false,isCoroutine:=false}
abbrev X6:Y8:=λ_ _ _ _ _ _=>False
abbrev E0:XK:=λ_ _ _=>False
theorem mK:gY X6 X E0:=λ_ _ _ _ _ _ _ h=>h.elim
structure Zf(K:Frag)(x qual:Str)(st:Stmt)(f:Addr)(fd:FuncData):Prop where
 ex:∃(oc:Value)(od:pa)(kV doc pm:Value)(an:pa)(cdv ct:Value) (osl:gj),
  fd=ac4 x qual (cP st) (bA st) (aC st) .none kV doc pm an cdv ct/\K.lookup f=some #[oc,od, .func fd,osl]/\ads K cdv qual=true
 kp:aaG K (.ref f)=true
section
variable{P:rj}{w:t4}{K:Frag}{mg:jn}{base:Heap}
theorem Zf.ok{x c:Str}{st:Stmt}{f:Addr}{d:FuncData}{N ps:qq}{k:Nat}{sp:Sp}(F:Zf K x c st f d)(S:eQ N ps (aC st))(e:∀(a:Value)(A:tj)(b:q7)(s:rz)(H:Hp)(vs:List V)(Q:VK)(E:XK),z3 k (A.deeper (aaT c (aC st) s.1.1.size f a))->sp vs H Q E->
   ∃t,X4 (mv X6 P w K mg base N c (aC st) f a A b s H E).nox (bA st) t/\t {nx:=λ_ H'=>Q .non H',rt:=Q} (start N vs) H)(len:∀vs H Q E,sp vs H Q E->vs.length=ps.length:=by intro _ _ _ _ h;cases h;subst_vars;rfl):dJ P w K mg base X6 (k+1) f d ps sp:=by
 let(n,o,kV,m,r,an,a,l,p,rfl,lk,g):=F.ex;show NO lk g S len λA b s H vs Q E i j=> ?_;let(t,h,q):=e a A b s H vs Q E i j;show#[t,h.nox,q]
theorem Zf.binds{st:Stmt}{ps:qq}(F:Zf K x qual st f fd)(h:∀(kV c d:Value)(an:pa)(a b:Value)(us:pk),us.length=ps.length->abE (ac4 x qual (cP st) (bA st) (aC st) .none kV c d an a b) #[us,[]]=pure (ps.zip us)):cR K fd ps []:=by
 let(g,i,kV,c,d,an,a,b,j,rfl,lk,e):=F.ex;show .all (h kV c d an a b)
theorem uK{st:Stmt}{kV d e a b:Value}(l:K.lookup f=some #[g,h, .func (ac4 x qual (cP st) (bA st) (aC st) .none kV d e an a b),i])(c:ads K a qual=true)(k:aaG K (.ref f)=true):Zf K x qual st f (ac4 x qual (cP st) (bA st) (aC st) .none kV d e an a b):=#[#[g,h,kV,d,e,an,a,b,i,2,l,c],k]
end
section
variable{X:Cx}
theorem pv(i:Nat){x:Str}{pos:Pos}(a:X.N[i]?=some x:=by rfl)(d:Z7 X.10.1 x:=by first|show U6 rfl|show ad4 (U6 rfl)|show ad4 (ad4 rfl))(c:(x==(Xd:Str))=false:=by decide)(b:(x==("__classdict__":Str))=false:=by decide):PE X (.Name x pos) (KI i):=OS a d c b
end
theorem aX{A B:Prop}(h:B):if false=true then A else B:=by rw[RQ RO];show h
theorem bS{A B:Prop}(h:A):if true=true then A else B:=by rw[RF rfl];show h
theorem bM{c A B:Prop}[Decidable c](a:c->A)(b:¬c->B):if c then A else B:=by
 by_cases h:c
 .rw[RF h];show a h
 .rw[RQ h];show b h
theorem QA{c A B:Prop}[Decidable c](a:c)(h:B):if(!decide c)=true then A else B:=by rw[RE a];show aX h
def vc(H H':Hp):Prop:=∀b o,H b=some o->H' b=some o
theorem vc.refl(H:Hp):vc H H:=λ_ _ h=>h
theorem vc.trans(a:vc H H1)(b:vc H1 H2):vc H H2:=λc o h=>b c o (a c o h)
theorem vc.free(e:vc H H')(h:H' l=aeH):H l=aeH:=by
 cases q:H l with
 |none=>rfl
 |some o=>
  rw[e l o q]at h;cases h
theorem vc.seq{K:Frag}(e:vc H H')(h:vr K H a xs):vr K H' a xs:=by
 rcases h with (h|⟨o,h⟩)|h
 .show .inl (.inl (e _ _ h))
 .show .inl (.inr #[o,e _ _ h])
 .show .inr h
theorem qC{b a:Type}{f:b->a->Sem (ForInStep a)}(g:a->b->a):∀(l:List b)(c:a),(∀x∈l,∀c,f x c=pure (.yield (g c x)))->forIn l c f=pure (l.foldl g c):=by
 intro l
 induction l with
 |nil=>intro c _;rfl
 |cons x l e=>
  intro c h;rw[List.forIn_cons,h x RH,pure_bind];show e _ λy d=>h y (RI _ d)
noncomputable def f9(env:Env)(a:oD)(y:Str×ac3):List (Str×Addr):=if(y.2==NameKind.free)=true then(y.1,(env.cells.lookup y.1).getD 0)::a else a
noncomputable def jX(env:Env)(a:hA):List (Str×Addr):=a.foldl (f9 env) []
theorem mX{env:Env}{b:Scope}(h:∀y∈b.2,y.2= .free->∃c,env.cells.lookup y.1=some c):closureFor b env=pure (jX env b.2):=by
 simp only[closureFor];rw[qC (f9 env) b.2 [] (λx hx c=>by
  let(n,kind):=x;by_cases f:kind= .free
  .subst f;let(a,g):=h _ hx rfl;let d:env.cells.lookup n=some a:=g;let e:cellOf env n=pure a:=by simp only[cellOf,d]
   simp only[f9,e,d,beq_self_eq_true,V1,pure_bind,adw]
  .have:(kind==NameKind.free)=false:=#[5,f]
   simp only[f9,this,Tz,Xa])]
 rfl
theorem F2(env:Env):∀(f:hA) (b:oD),(∀y∈f,y.2= .free->∃c,env.cells.lookup y.1=some c)->(∀x c,b.lookup x=some c->env.cells.lookup x=some c)->
  ∀x c,(f.foldl (f9 env) b).lookup x=some c->env.cells.lookup x=some c:=by
 intro f
 induction f with
 |nil=>intro b _ d x c e;show d x c e
 |cons y r k=>
  intro b h d;show k _ (λz hz=>h z (RI _ hz)) λx c e=> ?_;unfold f9 at e;split at e
  .rename_i i;let(a,g):=h y RH #[5,i];rw[Tf]at e;cases hx:x==y.1 with
   |true=>
    rw[hx]at e;let j:x=y.1:=#[5,hx]
    rw[g]at e;rw[j,g];show e
   |false=>rw[hx]at e;show d x c e
  .show d x c e
theorem F3(env:Env):∀(b:hA) (a:oD) (x:Str),((∃y∈b,y.1=x/\y.2= .free)\/∃c,a.lookup x=some c)->∃c,(b.foldl (f9 env) a).lookup x=some c:=by
 intro b
 induction b with
 |nil=>
  intro a x h;rcases h with ⟨y,i,_⟩|h
  .cases i
  .show h
 |cons y r j=>
  intro a x h;show j _ x ?_;let lk:∀c,a.lookup x=some c->∃c,(f9 env a y).lookup x=some c:=λc e=>by
   unfold f9;split
   .rw[Tf];cases hx:x==y.1 with
    |true=>show#[7]
    |false=>show#[c,e]
   .show#[c,e]
  rcases h with ⟨z,hz,f,d⟩|⟨c,e⟩
  .rcases RT.mp hz with e|g
   .subst e;show .inr ?_;unfold f9;rw[d,RF ⋯,Tf,f];simp
   .show .inl #[z,g,f,d]
  .show .inr (lk c e)
theorem PL{env:Env}(h:∀y∈a,y.2= .free->∃c,env.cells.lookup y.1=some c)(e:(jX env a).lookup x=some c):env.cells.lookup x=some c:=
 F2 env a [] h (λ_ _ z=>by simp at z) x c e
theorem Kf(h:∃y∈a,y.1=x/\y.2= .free):∃c,(jX env a).lookup x=some c:=F3 env a [] x (.inl h)
noncomputable def Yk(a:Nat)(fr:qs)(b:St):St:=aaM a none++fr.map λj=>(b[j]?).join
def rN(X:Cx)(a:Scope):List Nat->List Str->Prop
 | [],[]=>True
 |j::b,x::xs=>(X.N[j]?=some x/\(X.10.kindOf x=some .cell\/X.10.kindOf x=some .free)/\((abw a X.10).2.lookup x=some .cell\/(abw a X.10).2.lookup x=some .free))/\rN X a b xs
 |_,_=>False
theorem rN.get{X:Cx}:∀ {fr:qs} {a:qq} {k j:Nat},rN X sc fr a->fr[k]?=some j->
  ∃x,a[k]?=some x/\X.N[j]?=some x/\(X.10.kindOf x=some .cell\/X.10.kindOf x=some .free)/\((abw sc X.10).2.lookup x=some .cell\/(abw sc X.10).2.lookup x=some .free)
 | [],[],_,_,_,e=>by simp at e
 | [],_::_,_,_,h,_=>h.elim
 |_::_,[],_,_,h,_=>h.elim
 |j::f,x::xs,0,i,h,e=>by
  let b:j=i:=#[5,e]
  subst b;show#[x,2,h.1]
 |j::f,x::xs,k+1,i,h,e=>by let(y,c,d):=rN.get (k:=k) (j:=i) h.2 #[5,e];show#[y,#[5,c],d]
theorem rN.len:∀ {fr:qs} {a:qq},rN X sc fr a->fr.length=a.length
 | [],[],_=>rfl
 | [],_::_,h=>h.elim
 |_::_,[],h=>h.elim
 |_::_,_::_,h=>by rw[R3,R3,rN.len h.2]
def Zc(X:Cx)(ifs:pD)(t:TT):Prop:=
 ∀(b:n7) (s:rz) (a:St) (H:Hp) (Q:Bool->Hp->Prop),wh X b a H s->t a H Q->
  aag (model X.1 X.w) X.A (forIn ifs true λc r=>if r=true then do let ok<-isTrue c X.10 (eval c X.10);pure (ForInStep.yield ok)else pure (ForInStep.yield r)) (TP X b a Q) X.xe s
def bw:TT:=λ_ H Q=>Q true H
theorem Dz:Zc X [] bw:=λ_ _ _ H _ I h=>wpAny_tests_nil #[H,I,h]
theorem bZ(h:PT X c t):Zc X [c] t:=λa s b H Q I q=>wpAny_tests_one (h a s b H Q I q)
def Yb(J:It)(g:TG)(o:TT)(p:TE)(n:Nat)(fr:qs)(q:St)(d:Hp)(Q:VK):Prop:=∀D,d D=none->
 ∃W:Nat->Nat->St->Hp->Prop,(∃m,W 0 m (Yk n fr q) (upd d D (.lst [])))/\∀i m j H',W i m j H'->
  (J.stop i H'/\Q (.ref D) H')\/(J.go i H'/\∃N:St->Hp->Prop,(∀k c,N k c->∃h,h<m/\W (i+1) h k c)/\
   ∀x e,J.yld i H' x e->g x j e λa l=>o a l λb H4=>if b=true then p a H4 λy f=>∃xs,f D=some (.lst xs)/\xs.length<sizeLine/\N a (upd f D (.lst (xs++[y])))else N a H4)
def ZM(f:TI)(g:TG)(d:TT)(e:TE)(c:Nat)(fr:qs):TE:=λa H Q=>f a H λJ b=>Yb J g d e c fr a b Q
section
variable{X:Cx}{elt target iter:Expr}{ifs:pD}{sc:Scope}{pos:Pos}{wi:TI}{g:TG}{tc:TT}{te:TE}{vars frn:qq}{fr:qs}
def Ku(X:Cx)(a:n7)(b:St)(Q:VK)(D C:Addr)(s':rz):Prop:=
 ∃H',wh X a b H' s'/\Q (.ref D) H'/\(∃m,s'.1.Ns C m)/\H' C=none/\C≠X.10.2/\X.s₀.1.1.size<=C/\(∀x c,X.10.4.lookup x=some c->c≠C)/\∀p∈X.pn++a,p.1≠C
theorem NP{env:Env}(h:sc.2.all (λy=> !(y.2== .free)||(env.kindOf y.1==some .cell||env.kindOf y.1==some .free))=true):∀y∈sc.2,y.2= .free->env.kindOf y.1=some .cell\/env.kindOf y.1=some .free:=λy b a=>by have:=SU.mp h y b;rw[a]at this;simpa using this
theorem NL(h:sc.2.all (λy=> !(y.2== .local)||(sc.2.lookup y.1==some .local))=true):∀y∈sc.2,y.2= .local->sc.2.lookup y.1=some .local:=λy b a=>by have:=SU.mp h y b;rw[a]at this;simpa using this
end
section
variable{X:Cx}{e st:Expr}{te ts:TE}{pos p2:Pos}
def Qp:V->List V->Hp->VK->Prop:=λx vs H Q=>∃i,x= .int i/\vs=[]/\Q (.int (intBits i:Nat)) H
theorem Mj:Y5 X "int.bit_length" Qp:=by intro c s d H x vs v us Q I b a h;let(i,rfl,rfl,q):=h;let(t,rfl):=b;cases a.zero;show call_gives F.slot_int_bit_length (typeIs_int s i t) F.entry_int_bit_length (F.args_int_bit_length_1 _) (PySem.AutoIntG2.int_bit_length_int_0 i t) #[.int (intBits i:Nat),H,I.tok _,#[7],q]
def Ql(K:Frag):List V->Hp->VK->Prop:=λxs H Q=>∃x n t b,xs=[x, .ty n]/\qI K H x t/\abb K t (.type n)=some b/\Q (.bl b) H
theorem A3:bK X (.builtin XI) (Ql X.K):=by intro g s i H vs us Q I c h;let(x,n,t,b,rfl,ty,e,q):=h;let(u,w,rfl,a,d):=c.two;cases (show w=aae n from d);show FD I a ty e λf=>#[.bl b,H,I.tok f,2,q]
def Qo(K:Frag):R2:=λx y H Q=>∃(a b:Addr)(ns ms:qR),x= .ref a/\y= .ref b/\vr K H a (ns.map int)/\vr K H b (ms.map int)/\Q (.bl (decide (ns=ms))) H
theorem O8(f:X.A.units+64<cLine):Ol X (aal .Eq) (Qo X.K):=by intro m s n H x y v u Q I j k h;let(a,b,ns,ms,rfl,rfl,c,d,q):=h;cases j;cases k;let(is,g,p1,_):=I.list c;let(l,i,p2,_):=I.list d;show PySem.W.eq_intsK p1.isList (dS g) p2.isList (dS i) f #[.bl (decide (ns=ms)),H,I,2,q]
def Qj(K:Frag):List V->Hp->VK->Prop:=λxs H Q=>∃(a:Addr)(ns:qR),xs=[.ref a]/\vr K H a (ns.map int)/\Q (.int ns.sum) H
theorem Kh(g:X.calm=true):bK X (.builtin "sum") (Qj X.K):=by
 intro m s o H vs us Q I l h;let(a,ns,rfl,f,q):=h;let(u,rfl,k):=l.one;cases k;let(is,j,p1,_):=I.list f;let d:=dS j;let(xs,c):=d.allInts.items;let hl:=p1.isList;rw[c]at hl;let b:numsOf (intItems xs).toList=ns:=by rw[<-c];show d.numsOf
 rw[nums_intItems]at b;show sum_intListG (I.ok.hd g) hl λh' n t' i=> ?_;show#[.int ns.sum,H,I.kept i,#[t',6],q];rw[preSum_eq,TY #[5],b]
end
noncomputable def Zn(K:Frag)(a:Addr):It:=
 #[λi H=>∃xs x,vr K H a xs/\xs[i]?=some x,
  λi H x H'=>∃t,x= .ref t/\H t=none/\∃v,(∀xs,vr K H a xs->xs[i]?=some v)/\H'=upd H t (.tup [.int (i:Nat),v]),
  λi H=>∃xs,vr K H a xs/\xs.length<=i]
theorem wh.own{s:rz}{i:St}{h₂:Heap}(ch:List Addr)(I:wh X pins i H s)(d:∀b∈ch,vN X pins H b)(g:∀b o,b∉ch->s.1.get? b=some o->h₂.get? b=some o):wh X pins i H {s with heap:=h₂,gens:=s.gens,drawn:=s.drawn,toks:=t'}:=by
 let l:Rl X.1 X.w H h₂:=λb v e=>(I.hok b v e).stay (λc o a q=>g c o (λf=>by
   let n:=(d c f).1;rcases a with z|z
   .rw[z,e]at n;cases n
   .rw[z]at n;cases n) q) (λ_ q=>q) λ_ _ q=>q
 let j:∀m,s.1.Ns X.10.2 m->h₂.Ns X.10.2 m:=λm f=>by let(o,es,ep,k,r):=f;show#[o,es,ep,g _ o (λf=>(d _ f).2.1 rfl) k,r]
 show I.step (h':=h₂) (g':=s.gens) (d':=s.drawn) (t':=t') (ch:=ch) (λb h=>#[(d b h).2.2.2.1,(d b h).2.1,(d b h).2.2.2.2.1,(d b h).2.2.2.2.2]) (λb o _ _ a e _=>g b o a e)
  (λb o _ _ a e _=>#[o.slots,g b o a e]) (λ_ _ _ _ n=>n) (λb o a e=>#[o,g b o a e]) (λ_ _ e=>e) (λ_ _ _ e=>e) (λb ps e=>#[#v[],by rw[e];simp]) j l I.bare
theorem rh:0<=sizeLine:=∅
theorem Ei:1<=sizeLine:=∅
theorem bP:2<=sizeLine:=∅
theorem GK:3<=sizeLine:=∅
theorem P8:4<=sizeLine:=∅
theorem Q5:6<=sizeLine:=∅
theorem Q4:7<=sizeLine:=∅
theorem nx{u:TS}{D:Yg}{N:St->Hp->Prop}{b a:St}{H:Hp}(k:∀a H',u D a H'->N a H')(h:u D a H)(e:b=a:=by dsimp only[List.set]):N b H:=e▸k a H h
theorem wh.pairIn{s h:rz}{i:St}(I:wh X pins i H s)(a:wh X pins i H h)(A:aZ x u)(B:aZ y v)(l:h.1.get? s.1.1.size=some {cls:= .type Xl,data:= .seq #v[u,v]}):wh X pins i (upd H s.1.1.size (.tup [x,y])) h:=by
 let g:H s.1.1.size=none:=I.fresh;show#[a.ok,a.os,a.bare,#[λb o e n d hx=>a.base.keep b o e n d hx,λb o e n d hx=>a.base.slot b o e n d hx,λb o e n hx=> ?_,a.base.there,λb k e=> ?_,λb o u e=> ?_,λb ps e=> ?_],a.loc,a.cell,6,λy c e=> ?_,λp j=> ?_,6,a.len]
 .let d:b≠s.1.1.size:=Sb (RK (R0 e) I.sz);rw[ak d];show a.base.free b o e n hx
 .let f:=a.base.tups b k e;rw[ak (ah f g)];show f
 .let f:=a.base.frzs b o u e;rw[ak (ah f g)];show f
 .let(more,f):=a.base.tbls b ps e;show#[more,by rw[ak (ah f g)];show f]
 .rw[ak (Sb I.lt)];show a.free
 .let(v,q):=I.cell y c e;rw[ak (Sb q.lt)];show a.freeC y c e
 .let(m,r,t,w,z):=a.pin p j;let d:p.1≠s.1.1.size:=Sb (R0 (I.pin p j).1);show#[m,by rw[ak d];show r,t,w,z]
 .intro b o e;by_cases d:b=s.1.1.size
  .subst d;rw[aa]at e;cases e;show#[bP,[u,v], .cons A (.cons B .nil),#[_,l,27]]
  .rw[ak d]at e;show(a.hok b o e).stay (λ_ _ _ q=>q) (λc q=> ?_) λc k q=> ?_
   .rw[ak (ah q g)];show q
   .rw[ak (ah q g)];show q
theorem Ea{P:rj}{w:t4}{K:Frag}{af:pD}{x1:Nat}{tp:Pos}(a it f:Addr)(O:f≠it):
  X8 P w K (.Tuple af x1 tp) (Zn K a) [f,it] f (λi h=>(∃old,IsEnum h f it ((i:Nat):Int) old)/\h.IsListIter it a i) where
 mem:=#[5]
 obj:=λi h st b j=>by
  let((old,g),hi):=st;rcases RT.mp j with e|e
  .subst e;show#[_,g,λv z=>by have z':abv _=abn v:=z;cases z']
  .let e:b=it:=#[5,e]
   subst e;let(o,e,c,d):=hi;show#[o,e,λv z=>by rw[d]at z;cases z]
 keep:=λi h h' st k=>#[let⟨old,g⟩:=st.1;#[old,k f #[5] _ g],st.2.at λo e=>k it #[5] o e]
 item:=by
  intro X t A r M i B s J H E I m st y;subst t A r;let(xs,x,q,hx):=y;let((old,g),n):=st;let(bx,G,p,hz):=I.list q;let(u,hu,ru):=G.get hx;let(f0,f1,f2,f3,f4,f5):=m f #[5];let(g0,g1,g2,g3,g4,g5):=m it #[5];show wpAny_pyNext_enum_item g n p.isList (x:=u) #[5,hu] O λbu aj a0 a5 bt a3=> ?_;show#[7,abt aj λh₂ ar l=> ?_];replace l:aas f bu h₂:=l;let N:f<s.1.1.size:=R0 g;let(oi,a4,b6,b7):=id n;let az:it<s.1.1.size:=R0 a4;let ax:H s.1.1.size=none:=I.fresh;let a7:h₂.get? s.1.1.size=some {cls:= .type Xl,data:= .seq #v[.int i s.4,u]}:=(l.2 _ (T7 N)).trans a5;let kk:∀b o,b≠f->b≠it->s.1.get? b=some o->h₂.get? b=some o:=λb o L h2 e=>(l.2 b L).trans (a3 b o L h2 e);let Q:wh X B J H {s with heap:=h₂,gens:=s.gens,drawn:=s.drawn,toks:=s.4+1}:=I.own [f,it] m λb o j e=>kk b o (λz=>j (by simp[z])) (λz=>j (by simp[z])) e;let b8:h₂.1.size=s.1.1.size+1:=l.1.trans bt;let U:wh X B J (upd H s.1.1.size (.tup [.int (i:Nat),x])) {s with heap:=h₂,toks:=s.4+1}:=I.pairIn Q #[7] ru a7;show#[.ref s.1.1.size,_,U,2,#[7,ax,x,λys hy=>by rw[I.list_inj hy q];show hx,2],#[#[u,6],6],λb j=> ?_]
  .have:((i+1:Nat):Int)=(i:Int)+1:=()
   rw[this];show ar
  .let(o,e,c,d):=a0;show#[o,(l.2 it (TF O)).trans e,c,d]
  .rcases RT.mp j with e|e
   .rw[e,ak (Sb N)];show f0
   .let e:b=it:=#[5,e]
    rw[e,ak (Sb az)];show g0
 done:=by intro X t A r M i B s J H E I m st y;subst t A r;let(xs,q,hx):=y;let((old,g),n):=st;let(bx,G,p,hz):=I.list q;let(g0,g1,g2,g3,g4,g5):=m it #[5];let hl:=G.length;show wpAny_pyNext_enum_end (I.ok.hd M) g n p.isList (by simp;lia) λh' eb=>#[2,I.turned (t':=s.4) (λb o j e=>eb b o j e) g0 g1 g3 g4 g5]
 self:=λ_ _ _ _ _ st h=>let⟨_,g⟩:=st.1;Vy g h
section
variable{X:Cx}{elts:pD}{x1:Nat}{tp:Pos}
def NN(K:Frag)(c:TA):TI:=λd H R=>c d H λvs b=>∃a,vs=[.ref a]/\(∃xs,b a=some (.lst xs))/\R (Zn K a) b
theorem LC{a:Expr}{i:TA}{p pos:Pos}(o:Gl X Xj)(w:X.mg Xj=none)(k:PA X [a] i)(x:aad [a] X.10=[(false,eval a X.10)]:=by rfl):PI X (.Tuple elts x1 tp) (.Call (.Name Xj p) [a] [] pos) (NN X.K i):=by
 intro y s J H R I h;show Call_ (jU I o w boot_enumerate (S5 (zk (k pos y s J H _ I h) λus c ⟨vs,j,d,B,A⟩=> ?_) x rfl));let(l,e,(xs,hx),q):=A;subst e;let(u,rfl,G):=B.one;cases G;let(z,L,n,r,hl,e):=d.lstM hx;show call_enumerate_1 e λh' g t hsz v=> ?_;show Vy g #[c.1.1.size+1,[c.1.1.size+1,c.1.1.size],_,Zn X.K l,j,2,d.kept (t':=c.4) v,Ea l _ _ (adx _),#[#[_,g],t],λb m=> ?_,q];let f:c.1.1.size<=b:=by
  rcases RT.mp m with e|e
  .rw[e];show Uh _
  .let e:b=c.1.1.size:=#[5,e]
   rw[e];show RJ _
 show d.fpOk f (d.hok.fresh f)
end
structure YV(P:rj)(w:t4)(K:Frag)(mg:jn)(base:Heap)(k:Nat)(x:Str)(ps:qq)(sp:Sp):Prop where
 ex:∃(f:Addr)(fd:FuncData),dJ P w K mg base X6 k f fd ps sp/\mg x=some (.ref f)/\aaG K (.ref f)=true/\cR K fd ps []
structure Kt(K:Frag)(mg:jn)(x:Str)(st:Stmt)(ps:qq):Prop where
 ex:∃(f:Addr)(fd:FuncData),Zf K x x st f fd/\cR K fd ps []/\mg x=some (.ref f)
theorem PH{K:Frag}{h:Heap}{st:Stmt}{ps:qq}{kV g i d e:Value}(X:K.In h)(G:h.Ns aak mg)(a:nsIn K aak x=some (some (.ref f)))(l:K.lookup f=some #[oc,od, .func (ac4 x x (cP st) (bA st) (aC st) .none kV g i an d e),osl])(c:ads K d x=true)(k:aaG K (.ref f)=true)(b:∀(kV g i:Value)(an:pa)(d e:Value)(us:pk),us.length=ps.length->abE (ac4 x x (cP st) (bA st) (aC st) .none kV g i an d e) #[us,[]]=pure (ps.zip us)):Kt K mg x st ps:=
 #[f,_,uK (st:=st) l c k,(uK (st:=st) l c k).binds b,Wi X G a]
section
variable{P:rj}{w:t4}{K:Frag}{mg:jn}{base:Heap}
theorem Kt.cal{x:Str}{st:Stmt}{N ps:qq}{k:Nat}{sp:Sp}(D:Kt K mg x st ps)(S:eQ N ps (aC st))(e:∀(f:Addr)(a:Value)(A:tj)(c:q7)(s:rz)(H:Hp)(vs:List V)(Q:VK)(E:XK),z3 k (A.deeper (aaT x (aC st) s.1.1.size f a))->sp vs H Q E->
   ∃t,X4 (mv X6 P w K mg base N x (aC st) f a A c s H E).nox (bA st) t/\t {nx:=λ_ H'=>Q .non H',rt:=Q} (start N vs) H)(len:∀vs H Q E,sp vs H Q E->vs.length=ps.length:=by intro _ _ _ _ h;cases h;subst_vars;rfl):YV P w K mg base (k+1) x ps sp:=by
 let(f,d,F,b,m):=D.ex;show#[f,d,F.ok S (len:=len) λa A c s H vs Q E g i=>e f a A c s H vs Q E g i,m,F.kp,b]
end
section
variable{X:Cx}{x:Str}{ps:qq}{j k:Nat}{sp:Sp}{e:Expr}{es:pD}{t:TA}{p pos:Pos}
theorem OY(C:YV X.1 X.w X.K X.mg X.base j x ps sp)(l:z3 k X.A)(h:j<=k)(g:Gl X x)(a:PA X (e::es) t)(c:(x==(Xd:Str))=false:=by decide)(d:aad (e::es) X.10=(false,eval e X.10)::aad es X.env:=by rfl)(i:(aar pos (aad es X.10)).any (·.1)=false:=by rfl):PE X (.Call (.Name x p) (e::es) [] pos) (GI sp [] E0 t):=by
 let(f,o,F,m,n,b):=C.ex;show LJ F (l.mono h) g m n b .nil mK a c d i
end
theorem vc.upd{H a:Hp}{l:Addr}{o:HO}(e:vc H a)(h:H l=none):vc H (upd a l o):=λb u q=>by rw[ak (ah q h)];show e b u q
theorem vc.new(h:H l=none):vc H (L2.upd H l o):=(vc.refl H).upd h
theorem vc.at(e:vc H H1)(h:H l=some o):H1 l=some o:=e l o h
noncomputable def bc(p:Nat->Bool)(f:Nat->V)(i:Nat):List V:=((range i).filter p).map f
theorem BR(p:Nat->Bool)(f:Nat->V)(i:Nat):bc p f (i+1)=if p i=true then bc p f i++[f i]else bc p f i:=by unfold bc;rw[Td,TB,R6];cases a:p i<;>simp[a]
theorem EY(p:Nat->Bool)(f:Nat->V)(i:Nat):(bc p f i).length<=i:=by unfold bc;rw[My];show RB (SA _ _) #[5]
section
variable{J:It}{g:TG}{tc:TT}{te:TE}{nv:Nat}{fr:qs}{σ:St}{H:Hp}{Q:VK}
theorem Cr(n:Nat)(hn:n<=sizeLine)(I:Nat->V->Hp->Hp->Prop)(M:∀i H',i<n->vc H H'->J.go i H')(hy:∀i H' x c,i<n->vc H H'->J.yld i H' x c->vc H' c/\I i x H' c)(ab:∀H',vc H H'->J.stop n H')(O:Addr->Nat->Hp->List V->Prop)(G:∀D H',O D 0 H' [])(K:∀D i H' a,O D i H' a->a.length<=i)(U:∀(D:Addr)(i:Nat)(x:V)(vs:St)(H' c:Hp)(a:List V)(R:V->St->Hp->Prop)(S:St->Hp->Prop),i<n->I i x H' c->vs.length=nv->vc H H'->vc H' c->H' D=some (.lst a)->O D i H' a->
   (∀y f d,f.length=nv->vc c d->O D (i+1) (upd d D (.lst (a++[y]))) (a++[y])->R y (f++fr.map λj=>(σ[j]?).join) d)->(∀f d,f.length=nv->vc c d->O D (i+1) d a->S (f++fr.map λj=>(σ[j]?).join) d)->
   g x (vs++fr.map λj=>(σ[j]?).join) c λk B=>tc k B λb H4=>if b=true then te k H4 λy t=>R y k t else S k H4)(L:∀D H' a,H D=none->vc H H'->H' D=some (.lst a)->O D n H' a->Q (.ref D) H'):Yb J g tc te nv fr σ H Q:=by
 intro D w
 letI N:Nat->St->Hp->Prop:=λi v H'=>∃(vs:St)(a:List V),vs.length=nv/\v=vs++(fr.map λj=>(σ[j]?).join)/\vc H H'/\H' D=some (.lst a)/\O D i H' a
 show#[λi m v H'=>m=n-i/\i<=n/\N i v H',#[n,2,Sw _,aaM nv none,[],UY,2,vc.new w,aa,G D _],6];rintro i m v H' ⟨rfl,hi,vs,a,hv,rfl,h,u,z⟩;by_cases p:i<n
 .show .inr #[M i H' p h,N (i+1),λax d q=>#[n- (i+1),TU p (S3 _),2,p,q],λx c y=> ?_];let(r,hx):=hy i H' x c p h y;let l:=K D i H' a z;show U D i x vs H' c a (λy k t=>∃xs,t D=some (.lst xs)/\xs.length<sizeLine/\N (i+1) k (upd t D (.lst (xs++[y])))) _ p hx hv h r u z (λy f d A s o=>#[a,s D _ (r D _ u),9,f,a++[y],A,2,((h.trans r).trans s).upd w,aa,o]) λf d A s o=>#[f,a,A,2,(h.trans r).trans s,s D _ (r D _ u),o]
 .let e:i=n:=()
  subst e;show .inl #[ab H' h,L D H' a w h u z]
theorem AH(n:Nat)(A:n<=sizeLine)(I:Nat->V->Hp->Hp->Prop)(z:∀i H',i<n->vc H H'->J.go i H')(L:∀i H' x a,i<n->vc H H'->J.yld i H' x a->vc H' a/\I i x H' a)(G:∀H',vc H H'->J.stop n H')(out:Nat->List V)(p:Nat->V->Bool)(f:Nat->V->V)(O:out 0=[])(ol:∀i,(out i).length<=i)(U:∀i x H' a,i<n->I i x H' a->out (i+1)=if p i x=true then out i++[f i x]else out i)(B:∀(i:Nat)(x:V)(vs:St)(H' a:Hp)(R:V->St->Hp->Prop)(S:St->Hp->Prop),i<n->I i x H' a->vs.length=nv->vc H H'->vc H' a->
   (∀d c,d.length=nv->vc a c->if p i x=true then R (f i x) (d++fr.map λj=>(σ[j]?).join) c else S (d++fr.map λj=>(σ[j]?).join) c)->
   g x (vs++fr.map λj=>(σ[j]?).join) a λm t=>tc m t λb H4=>if b=true then te m H4 λy u=>R y m u else S m H4)(w:∀D H',H D=none->vc H H'->H' D=some (.lst (out n))->Q (.ref D) H'):Yb J g tc te nv fr σ H Q:=
 Cr n A I z L G (λ_ i _ l=>l=out i) (λ_ _=>O.symm) (λ_ i _ l e=>e▸ol i) (λD i x vs H' a l R S q hx K o s2 hz e M N=>B i x vs H' a R S q hx K o s2 λd c r s=>by
  let k:=U i x H' a q hx;split
  .rename_i h;rw[RF h]at k;show M _ d c r s (by rw[k,e])
  .rename_i h;rw[RQ h]at k;show N d c r s (e.trans k.symm)) λD H' l v o hz e=>w D H' v o (e▸hz)
end
theorem aQ{l:Int}{fr:qs}{a:St}{Q:VK}(p:Nat->Bool)(f:Nat->V)(v:n<=sizeLine)(w:∀(i:Nat)(vs:St)(H':Hp)(R:V->St->Hp->Prop)(S:St->Hp->Prop),i<n->vs.length=nv->vc H H'->
   (∀m d,m.length=nv->vc H' d->if p i=true then R (f i) (m++fr.map λj=>(a[j]?).join) d else S (m++fr.map λj=>(a[j]?).join) d)->
   g (.int (l+i)) (vs++fr.map λj=>(a[j]?).join) H' λc o=>tc c o λb H4=>if b=true then te c H4 λy q=>R y c q else S c H4)(t:∀D H',H D=none->vc H H'->H' D=some (.lst (bc p f n))->Q (.ref D) H'):Yb (Ze l n) g tc te nv fr a H Q:=by
 show AH n v (λi x H' e=>H'=e/\x= .int (l+i)) (λi H' h _=>h) (λi H' x e _ _ y=>by let(r,s):=y;subst r s;show#[vc.refl _,22]) (λ_ _=>RJ _) (bc p f) (λi _=>p i) (λi _=>f i) rfl (EY p f) (λi _ _ _ _ _=>BR p f i) (λi x vs H' e R S u h z A _ k=> ?_) t;let(rfl,rfl):=h;show w i vs H' R S u z A k
noncomputable def bD(p:V->Bool)(f:V->V)(xs:List V):List V:=(xs.filter p).map f
theorem t5(p:V->Bool)(f:V->V)(xs:List V)(i:Nat)(x:V)(h:xs[i]?=some x):bD p f (xs.take (i+1))=if p x=true then bD p f (xs.take i)++[f x]else bD p f (xs.take i):=by unfold bD;rw[SY,h,TB,R6];cases a:p x<;>simp[a]
theorem wB(p:V->Bool)(f:V->V)(xs:List V):(bD p f xs).length<=xs.length:=by unfold bD;rw[My];show SA _ _
theorem aG{K:Frag}{xs:List V}{fr:qs}{c:St}{Q:VK}(p:V->Bool)(f:V->V)(n:vr K H a xs)(w:xs.length<=sizeLine)(z:∀(i:Nat)(x:V)(vs:St)(H':Hp)(R:V->St->Hp->Prop)(S:St->Hp->Prop),xs[i]?=some x->vs.length=nv->vc H H'->
   (∀q l,q.length=nv->vc H' l->if p x=true then R (f x) (q++fr.map λj=>(c[j]?).join) l else S (q++fr.map λj=>(c[j]?).join) l)->
   g x (vs++fr.map λj=>(c[j]?).join) H' λd r=>tc d r λb H4=>if b=true then te d H4 λy t=>R y d t else S d H4)(v:∀D H',H D=none->vc H H'->H' D=some (.lst (bD p f xs))->Q (.ref D) H'):Yb (YU K a) g tc te nv fr c H Q:=by
 show AH xs.length w (λi x H' m=>H'=m/\xs[i]?=some x) (λi H' h s=>#[xs,xs[i],s.seq n,by simp[h]]) (λi H' x m _ s y=>by let(e,h):=y;subst e;show#[vc.refl _,2,h xs (s.seq n)]) (λH' s=>#[xs,s.seq n,RJ _]) (λi=>bD p f (xs.take i)) (λ_ x=>p x) (λ_ x=>f x) rfl (λi=>RB (wB p f _) (by rw[Sk];lia)) (λi x _ _ _ h=>t5 p f xs i x h.2) (λi x vs H' m R S _ h A o _ k=> ?_) λD H' u o hz=>v D H' u o (by rw[hz,SM]);let(rfl,h):=h;show z i x vs H' R S h A o k
noncomputable def cZ(p:Nat->V->Bool)(f:Nat->V->V):Nat->List V->List V
 |_,[]=>[]
 |i,x::r=>if p i x=true then f i x::cZ p f (i+1) r else cZ p f (i+1) r
theorem t6(p:Nat->V->Bool)(f:Nat->V->V):∀(i:Nat)(xs:List V)(x:V),cZ p f i (xs++[x])=if p (i+xs.length) x=true then cZ p f i xs++[f (i+xs.length) x]else cZ p f i xs
 |i,[],x=>by simp[cZ]
 |i,y::r,x=>by
  let e:i+(y::r).length=i+1+r.length:=by simp;lia
  rw[VE,cZ,t6 p f (i+1) r x,e]
  conv=>rhs;rw[cZ]
  by_cases a:p i y=true<;>by_cases b:p (i+1+r.length) x=true<;>simp[a,b]
theorem wC(p:Nat->V->Bool)(f:Nat->V->V):∀(i:Nat)(xs:List V),(cZ p f i xs).length<=xs.length
 |_,[]=>RJ _
 |i,x::r=>by have:=wC p f (i+1) r;rw[cZ];split<;>simp<;>lia
theorem AI{K:Frag}{xs:List V}{fr:qs}{d:St}{Q:VK}(p:Nat->V->Bool)(f:Nat->V->V)(ha:vr K H a xs)(hn:xs.length<=sizeLine)(hs:∀(i:Nat)(x:V)(t:Addr)(vs:St)(H':Hp)(R:V->St->Hp->Prop)(S:St->Hp->Prop),xs[i]?=some x->vs.length=h->vc H H'->H' t=some (.tup [.int (i:Nat),x])->
   (∀k c,k.length=h->vc H' c->if p i x=true then R (f i x) (k++fr.map λj=>(d[j]?).join) c else S (k++fr.map λj=>(d[j]?).join) c)->
   g (.ref t) (vs++fr.map λj=>(d[j]?).join) H' λl U=>tc l U λb H4=>if b=true then te l H4 λy n=>R y l n else S l H4)(hd:∀D H',H D=none->vc H H'->H' D=some (.lst (cZ p f 0 xs))->Q (.ref D) H'):Yb (Zn K a) g tc te h fr d H Q:=by
 intro D w;show#[λi m N H'=>m=xs.length-i/\i<=xs.length/\∃vs:St,vs.length=h/\N=vs++(fr.map λj=>(d[j]?).join)/\vc H H'/\H' D=some (.lst (cZ p f 0 (xs.take i))),#[xs.length,#[5],Sw _,aaM h none,#[5],2,vc.new w,aa],6];rintro i m N H' ⟨rfl,J,vs,hv,rfl,o,z⟩;let A:=o.seq ha;by_cases r:i<xs.length
 .show .inr #[#[xs,xs[i],A,by simp[r]],λO c=>∃vs:St,vs.length=h/\O=vs++(fr.map λj=>(d[j]?).join)/\vc H c/\c D=some (.lst (cZ p f 0 (xs.take (i+1)))),λO c q=>#[xs.length- (i+1),TU r (S3 _),2,r,q],λx H2 y=> ?_];let(t,e1,ht,v,e2,e3):=y;subst e1 e3;let hx:=e2 xs A;let s:vc H' (upd H' t (.tup [.int (i:Nat),v])):=vc.new ht;show hs i v t vs _ (λy l n=>∃u,n D=some (.lst u)/\u.length<sizeLine/\∃vs:St,vs.length=h/\l=vs++(fr.map λj=>(d[j]?).join)/\vc H (upd n D (.lst (u++[y])))/\upd n D (.lst (u++[y])) D=some (.lst (cZ p f 0 (xs.take (i+1))))) _ hx hv (o.trans s) aa λk c M B=> ?_;let e:cZ p f 0 (xs.take (i+1))=if p i v=true then cZ p f 0 (xs.take i)++[f i v]else cZ p f 0 (xs.take i):=by rw[SY,hx];change cZ p f 0 (xs.take i++[v])=_;rw[t6,Sk,UK J,Ux]
  let G:=B D _ (s D _ z);cases L:p i v with
  |true=>
   rw[L,RF rfl]at e;rw[RF rfl];show#[_,G,RD (wC p f _ _) ?_,k,M,2,((o.trans s).trans B).upd w,by rw[aa,e]];rw[Sk];lia
  |false=>
   rw[L,RQ RO]at e;rw[RQ RO];show#[k,M,2,(o.trans s).trans B,by rw[e];show G]
 .let e:i=xs.length:=TL J (Ts r);subst e;show .inl #[#[xs,A,RJ _],hd D H' w o ?_];rwa[SM]at z
inductive RdN(K:Frag)(xs:List V)(H:Hp)(Q:VK):Prop
 |mk(p:Addr) (ys:List V) (e:xs=[.ref p]) (s:vr K H p ys\/GB K H p ys) (q:Q (.int ys.length) H):RdN K xs H Q
def NA(K:Frag):List V->Hp->VK->Prop:=λxs H Q=>RdN K xs H Q
def Lp(K:Frag):List V->Hp->VK->Prop:=λxs H Q=>∃p a,xs=[.ref p]/\(vr K H p a\/GB K H p a)/\∀l,H l=none->Q (.ref l) (upd H l (.lst a))
section
variable{X:Cx}{K:Frag}
theorem JA(h:X.K=K):Zy X (OG K):=by subst h;show MJ
theorem MI(h:X.K=K):Zy X (OF K):=by subst h;show Pt
theorem nP(h:X.K=K):Ol X (aal .In) (ZN K false):=by subst h;show E3
theorem vn(h:X.K=K):Ol X (aal .NotIn) (ZN K true):=by subst h;show yg
theorem vL(h:X.K=K):bK X (.builtin "len") (NA K):=by subst h;intro c s f H xs us Q I r a;let(p,d,e,b,q):=a;show yW c s f H xs us Q I r #[p,d,e,b,q]
theorem vK(h:X.K=K):bK X (.type Xc) (Lp K):=by subst h;show yV
theorem yX(h:X.K=K):bK X (.builtin XI) (Ql K):=by subst h;show A3
theorem F6(h:X.K=K)(a:X.calm=true):bK X (.builtin "sum") (Qj K):=by subst h;show Kh a
theorem DE(h:X.K=K)(a:X.A.units+64<cLine):Ol X (aal .Eq) (Qo K):=by subst h;show O8 a
theorem cW(h:X.K=K):ZT X (Qk K):=by subst h;show K9
theorem LK{o:Expr}{to:TE}{name:Str}{a b:Pos}{T id:sh}{r:V->List V->Hp->VK->Prop}(h:X.K=K)(i:acK T)(slot:Slot T name id)(g:typeOf (.builtin id)=pure (.type Xm))(e:Y5 X id r)(f:PE X o to)(c:aay o name X.10 (eval o X.10)=eval o X.env:=by rfl)(d:(a.endLine==b.line)=true:=by rfl):PE X (.Call (.Attribute o name a) [] [] b) (P6 K T r to):=by subst h;show OZ i slot g e f c d
theorem tX{o e:Expr}{es:pD}{to:TE}{t:TA}{name:Str}{b a:Pos}{T id:sh}{r:V->List V->Hp->VK->Prop}(h:X.K=K)(n:acK T)(slot:Slot T name id)(m:typeOf (.builtin id)=pure (.type Xm))(i:Y5 X id r)(j:PE X o to)(c:PA X (e::es) t)(d:aay o name X.10 (eval o X.10)=eval o X.env:=by rfl)(f:((aar a (aad (e::es) X.10)).all (λx=> !x.1)&&(aa2 a (aaC [] X.10)).all (λx=>x.1.isSome)
   &&decide ((e::es).length+([]:List ac7).length+(if([]:List ac7).isEmpty then 0 else 1)<30))=true:=by rfl)(g:(b.endLine==a.line)=true:=by rfl)(l:aad (e::es) X.10=(false,eval e X.10)::aad es X.env:=by rfl)(k:(aar a (aad es X.10)).any (·.1)=false:=by rfl):
  PE X (.Call (.Attribute o name b) (e::es) [] a) (tBM K T r to t):=by subst h;show Qu n slot m i j c d f g l k
theorem Ik(h:X.K=K)(hl:PE X l tl):PI X tg l (JG K tl):=by subst h;show LB hl
theorem LA(h:X.K=K)(hl:PE X l tl):PI X tg l (Pw K tl):=by subst h;show OP hl
theorem tQ{c:pD}{x1:Nat}{i:Pos}{a:Expr}{b:TA}{p pos:Pos}(h:X.K=K)(e:Gl X Xj)(f:X.mg Xj=none)(d:PA X [a] b)(g:aad [a] X.10=[(false,eval a X.10)]:=by rfl):
  PI X (.Tuple c x1 i) (.Call (.Name Xj p) [a] [] pos) (NN K b):=by subst h;show LC e f d g
theorem jI{es:pD}{k:Nat}{t:Y1}{n:Nat}{pos:Pos}(h:X.K=K)(a:X.calm=true)(c:ZG X es t)(b:(aa4 es X.10).length=n:=by rfl)(d:(aa4 es X.10).findIdx? (·.1)=none:=by rfl):
  PG X (.Tuple es k pos) (QD K n t):=by subst h;show OR a c b d
end
end L2
namespace Bh
noncomputable def yn(n:Nat):List Int:=((range 8).filter n.testBit).map λ(k:Nat)=>(k:Int)
theorem aM{n:Nat}:z∈yn n↔∃k:Nat,k<8/\n.testBit k=true/\z=k:=by
 unfold yn;simp only[RM,Sn,R1];constructor
 .rintro⟨k,⟨a,b⟩,rfl⟩;show#[k,a,b,2]
 .rintro⟨k,a,b,rfl⟩;show#[k,#[a,b],2]
theorem yG{n k:Nat}(h:k<8):(k:Int)∈yn n↔n.testBit k=true:=by
 rw[aM];constructor
 .rintro⟨j,_,a,e⟩;have:k=j:=()
  rw[this];show a
 .intro a;show#[k,h,a,2]
theorem gW(h:z∈yn n):0<=z/\z<8:=by let(k,a,_,rfl):=aM.mp h;lia
theorem bq(n:Nat):(yn n).length<=8:=by unfold yn;rw[My];show RB (SA _ _) #[5]
noncomputable def vH(p:Nat->Bool):Nat:=(range 8).foldl (λt k=>if p k=true then t+2^k else t) 0
theorem B9(h:∀k,k<8->p k=q k):vH p=vH q:=by unfold vH;simp only[range,range.loop,List.foldl,h 0 (),h 1 (),h 2 (),h 3 (),h 4 (),h 5 (),h 6 (),h 7 ()]
theorem Qv(b:n<256)(a:m<256):n|||m<256:=SQ (n:=8) b a
theorem Kp(a:n<256):n&&&m<256:=RD VN a
noncomputable def Bx(ns:qR):Nat:=ns.foldl (λs t=>s|||2^t.toNat) 0
theorem xK:∀(ns:qR)(s k:Nat),(∀z∈ns,0<=z)->((ns.foldl (λs (t:Int)=>s|||2^t.toNat) s).testBit k=true↔s.testBit k=true\/(k:Int)∈ns)
 | [],s,k,_=>by simp
 |z::r,s,k,h=>by
  rw[SD,xK r _ k (λy a=>h y (RI _ a)),Ta,TN,TV,RT,Ub];let hz:=h z RH;have:z.toNat=k↔(k:Int)=z:=()
  rw[this,or_assoc]
theorem CB{n m:Nat}(e:n<256)(d:m<256)(h:∀k,k<8->(n.testBit k=true↔m.testBit k=true)):n=m:=by
 show Sa λk=> ?_;by_cases c:k<8
 .have:=h k c;cases a:n.testBit k with
  |true=>show(this.mp a).symm
  |false=>
   cases b:m.testBit k with
   |true=>show absurd (this.mpr b) (by rw[a];simp)
   |false=>rfl
 .let f:2^8<=2^k:=R7 () ();rw[Sv (),Sv ()]
theorem Dl:∀(ns:qR)(s:Nat),s<256->(∀z∈ns,0<=z/\z<8)->ns.foldl (λs (t:Int)=>s|||2^t.toNat) s<256
 | [],s,a,_=>a
 |z::r,s,a,h=>by rw[SD];show Dl r _ (Qv a ?_) λy b=>h y (RI _ b);let hz:=h z RH;show RK (T8 () (show z.toNat<8 by lia)) ()
theorem Ld(c:n<256)(a:∀z∈ns,0<=z/\z<8)(h:∀z,z∈ns↔z∈yn n):Bx ns=n:=by show CB (Dl ns 0 () a) c λk b=> ?_;unfold Bx;rw[xK ns 0 k (λz hz=>(a z hz).1),h,yG b,SN];simp
theorem kq{n k:Nat}:n.testBit k=decide (n/2^k % 2=1):=VF
theorem Ki:∀n:Nat,n<256->(range (if n=0 then 0 else n.log2+1)).filter n.testBit=(range 8).filter n.testBit:=#[9]
noncomputable def XU(p:Nat->Int->Bool):Nat->List Int->List Int
 |_,[]=>[]
 |i,z::r=>if p i z=true then z::XU p (i+1) r else XU p (i+1) r
theorem wU{p:Nat->Int->Bool}:∀ {d:qR} {i:Nat} {y:Int},y∈XU p i d↔∃(j:Nat),d[j]?=some y/\p (i+j) y=true
 | [],i,y=>by simp[XU]
 |x::r,i,y=>by
  let e:= @wU p r (i+1) y;let key:(∃(j:Nat),(x::r)[j]?=some y/\p (i+j) y=true)↔(p i x=true/\y=x)\/∃(j:Nat),r[j]?=some y/\p (i+1+j) y=true:=by
   constructor
   .rintro⟨j,a,b⟩;cases j with
    |zero=>
     have:x=y:=#[5,a]
     subst this;show .inl #[b,2]
    |succ j=>show .inr #[j,#[5,a],by rw[show i+1+j=i+(j+1) by lia];show b]
   .rintro(⟨a,b⟩|⟨j,a,b⟩)
    .subst b;show#[0,2,a]
    .show#[j+1,#[5,a],by rw[show i+(j+1)=i+1+j by lia];show b]
  rw[key,XU];split
  .rename_i c;rw[RT,e];constructor
   .rintro(h|h)
    .show .inl #[c,h]
    .show .inr h
   .rintro(⟨_,h⟩|h)
    .show .inl h
    .show .inr h
  .rename_i c;rw[e];constructor
   .intro h;show .inr h
   .rintro(⟨h,_⟩|h)
    .show absurd h c
    .show h
theorem qa:∀(a:qR)(i:Nat),(XU p i a).Sublist a
 | [],_=>List.Sublist.slnil
 |x::r,i=>by
  rw[XU];split
  .show(qa r (i+1)).cons_cons x
  .show(qa r (i+1)).cons x
noncomputable def bL(s h:Nat):Nat:=Bx (XU (λi _=>s.testBit i) 0 (yn h))
theorem qP:∀z∈XU p 0 (yn h),0<=z/\z<8:=λz hz=>gW ((qa _ _).mem hz)
theorem zN(h:∀z∈ns,0<=z)(k:Nat):(Bx ns).testBit k=true↔(k:Int)∈ns:=by unfold Bx;rw[xK ns 0 k h,SN];simp
noncomputable def ia(f:qR)(t:Int):List Int:=f++f.map λp=>((p.toNat|||2^t.toNat:Nat):Int)
noncomputable def Iu(n:Nat):List Int:=(yn n).foldl ia [0]
theorem Em(f:qR)(t:Int):(ia f t).length=2*f.length:=by unfold ia;rw[R4,My];lia
theorem xh:∀(ts:qR)(f:qR),(ts.foldl ia f).length=2^ts.length*f.length
 | [],f=>by simp
 |t::r,f=>by rw[SD,xh r,Em,R3,WD,Nat.mul_assoc]
theorem GQ(h:∀p∈f,0<=p):∀p∈ia f t,0<=p:=λp a=>by
 rcases R9.mp a with q|q
 .show h p q
 .let(x,_,rfl):=RM.mp q;lia
theorem AO:∀(ts:qR)(f:qR),(∀p∈f,0<=p)->∀p∈ts.foldl ia f,0<=p
 | [],_,h=>h
 |t::r,f,h=>by rw[SD];show AO r _ (GQ h)
theorem E9:∀a b c d e f g h:Bool,∀k:Fin 8,(vH λk=>[a,b,c,d,e,f,g,h].getD k false).testBit k.val=[a,b,c,d,e,f,g,h].getD k.val false:=#[9]
theorem IK:∀a b c d e f g h:Bool,(vH λk=>[a,b,c,d,e,f,g,h].getD k false)<256:=#[9]
theorem wI(p:Nat->Bool):vH p=vH λk=>[p 0,p 1,p 2,p 3,p 4,p 5,p 6,p 7].getD k false:=by
 show B9 λk a=> ?_
 match k,a with
 |0,_=>rfl
 |1,_=>rfl
 |2,_=>rfl
 |3,_=>rfl
 |4,_=>rfl
 |5,_=>rfl
 |6,_=>rfl
 |7,_=>rfl
theorem IL(p:Nat->Bool)(a:k<8):(vH p).testBit k=p k:=by
 rw[wI];show(E9 _ _ _ _ _ _ _ _ #[k,a]).trans ?_
 match k,a with
 |0,_=>rfl
 |1,_=>rfl
 |2,_=>rfl
 |3,_=>rfl
 |4,_=>rfl
 |5,_=>rfl
 |6,_=>rfl
 |7,_=>rfl
theorem Md(p:Nat->Bool):vH p<256:=by rw[wI];show IK _ _ _ _ _ _ _ _
noncomputable def Jz(n:Nat):List Nat:=(range 8).filter n.testBit
noncomputable def mF(n:Nat):List Nat:=if n=0 then [45]else(Jz n).map (97+ ·)
noncomputable def Yz(L:qs):Nat:=vH λk=>decide (97+k∈L)
theorem BI(L:qs):Yz L<256:=Md _
theorem DY(n:Nat):yn n=(Jz n).map λ(k:Nat)=>(k:Int):=rfl
end Bh
namespace L2
open PySem PySem.Spec PyProof.Rows
noncomputable def Its(z:Str):It:=#[λi _=>i<z.cps.size,λi H x H'=>H'=H/\∃c,z.cps[i]?=some c/\x= .str #[#v[c]],λi _=>i=z.cps.size]
theorem Ek(z:Str):fv.contains (aan z)=false:=by unfold aan;split<;>decide
theorem vO{A:tj}(b:A.handled=none)(it:Addr)(z:Str)(t:Tok):Walks P w A it [it] [it] z.cps.size (SignAt z) (λi h=>h.IsStrIter it (aan z) z t i):=by
 cases a:z.cps.all (· <128)
 .let e:aan z= XM:=by simp[aan,a]
  rw[e];show Walks.strWide b it z t
 .let e:aan z= Xv:=by simp[aan,a]
  rw[e];show Walks.strAscii b it z t
theorem xm{A:tj}(b:A.handled=none)(it:Addr)(z:Str)(t:Tok):
  Draws P w A it [it] z.cps.size (λi v=>∃c u,z.cps[i]?=some c/\v= .str #[#v[c]] u) (λi h=>h.IsStrIter it (aan z) z t i):=by
 cases a:z.cps.all (· <128)
 .let e:aan z= XM:=by simp[aan,a]
  rw[e];show Draws.strWide b it z t
 .let e:aan z= Xv:=by simp[aan,a]
  rw[e];show Draws.strAscii b it z t
theorem JB{s:rz}(st:s.1.IsStrIter it (aan z) z t i)(h:Q (.ref it) s):
  aag (model P w) A (ado (.ref it)) Q E s:=by
 cases a:z.cps.all (· <128)
 .let e:aan z= XM:=by simp[aan,a]
  rw[e]at st;show wpAny_pyIter_striter_wide st h
 .let e:aan z= Xv:=by simp[aan,a]
  rw[e]at st;show wpAny_pyIter_striter_ascii st h
theorem Gv{P:rj}{w:t4}{K:Frag}{Q:Expr}(it:Addr)(z:Str)(t:Tok):X8 P w K Q (Its z) [it] it (λi h=>h.IsStrIter it (aan z) z t i) where
 mem:=#[5]
 obj:=λi h st b a=>by
  let e:b=it:=#[5,a]
  subst e;let(o,e,c,d):=st;show#[o,e,λv z=>by rw[d]at z;cases z]
 keep:=λi h h' st k=>let⟨o,e,r⟩:=st;#[o,k it #[5] o e,r]
 item:=by intro X p x n f i B s J H E I g st q;subst p x n;let(f0,f1,f2,j,l,m):=g it #[5];let W:=vO (P:=X.1) (w:=X.w) (I.ok.hd f) it z t;show W.item i s _ _ q st λv h' A O G y=> ?_;let(c,u,f,rfl):=O;let L:wh X B J H {s with heap:=h',toks:=A}:=I.turned (λb o a e=>y b o #[5,a] e) f0 f1 j l m;let(o,e,M,hd):=id G;show#[7,AM (s:={s with heap:=h',toks:=A}) e M hd (Ek z) #[.str #[#v[c]],H,L,#[u,2],#[2,c,f,2],G,λb a=>(g b a).1]]
 done:=by intro X p x n f i B s J H E I g st q;subst p x n;let(f0,f1,f2,j,l,m):=g it #[5];let W:=vO (P:=X.1) (w:=X.w) (I.ok.hd f) it z t;let N:i=z.cps.size:=q;subst N;show W.done s _ _ st λh' A y=>#[2,I.turned (λb o a e=>y b o #[5,a] e) f0 f1 j l m]
 self:=λ_ _ _ _ _ st h=>JB st h
noncomputable def Y7(z:Str):It:=
 #[λi _=>i<z.cps.size,λi H x H'=>∃t,x= .ref t/\H t=none/\∃c,z.cps[i]?=some c/\H'=upd H t (.tup [.int (i:Nat), .str #[#v[c]]]),λi _=>i=z.cps.size]
theorem Bg{P:rj}{w:t4}{K:Frag}{a5:pD}{x1:Nat}{tp:Pos}(z:Str)(t:Tok)(it j:Addr)(ab:j≠it):
  X8 P w K (.Tuple a5 x1 tp) (Y7 z) [j,it] j (λi h=>(∃old,IsEnum h j it ((i:Nat):Int) old)/\h.IsStrIter it (aan z) z t i) where
 mem:=#[5]
 obj:=λi h st b a=>by
  let((old,x),hi):=st;rcases RT.mp a with e|e
  .subst e;show#[_,x,λv z=>by have z':abv _=abn v:=z;cases z']
  .let e:b=it:=#[5,e]
   subst e;let(o,e,c,d):=hi;show#[o,e,λv z=>by rw[d]at z;cases z]
 keep:=λi h h' st k=>#[let⟨old,x⟩:=st.1;#[old,k j #[5] _ x],let⟨o,e,r⟩:=st.2;#[o,k it #[5] o e,r]]
 item:=by
  intro X Q hw O g i ai s σ H E I M st U;subst Q hw O;let((old,x),N):=st;let(f0,f1,f2,f3,f4,f5):=M j #[5];let(g0,g1,g2,g3,g4,g5):=M it #[5];show wpAny_pyNext_enum_itemD (xm (P:=X.1) (w:=X.w) (A:=X.A.in1) (I.ok.hd g) it z t) x N U ab #[5,ab] λu cj L hu bN b4 b7 cT b5=> ?_;let(c,tu,bx,rfl):=hu;show#[7,abt bN λh₂ b0 G=> ?_];replace G:aas j cj h₂:=G;let ax:j<s.1.1.size:=R0 x;let(oi,b6,cO,cS):=id N;let b3:it<s.1.1.size:=R0 b6;let B:H s.1.1.size=none:=I.fresh;let b8:h₂.get? s.1.1.size=some {cls:= .type Xl,data:= .seq #v[.int i L, .str #[#v[c]] tu]}:=(G.2 _ (T7 ax)).trans b7;let J:∀b o,b≠j->b≠it->s.1.get? b=some o->h₂.get? b=some o:=λb o l h2 e=>(G.2 b l).trans (b5 b o l h2 e);let ay:∀b v,H b=some v->b≠j/\b≠it:=λb v e=>#[λz=>(by rw[z,f0]at e;cases e),λz=>(by rw[z,g0]at e;cases e)];let hok:Rl X.1 X.w H h₂:=λb v e=>(I.hok b v e).stay (λc o g q=>by
    have:c≠j/\c≠it:=by
     rcases g with z|z
     .rw[z];show ay b v e
     .show ay c _ z
    show J c o this.1 this.2 q) (λ_ q=>q) λ_ _ q=>q
  let hL:∀m,s.1.Ns X.10.2 m->h₂.Ns X.10.2 m:=λm hm=>by let(o,es,ep,ho,r):=hm;show#[o,es,ep,J _ o (TF f1) (TF g1) ho,r]
  let f:wh X ai σ H {s with heap:=h₂,gens:=s.gens,drawn:=s.drawn,toks:=L+1}:=by
   show I.step (h':=h₂) (g':=s.gens) (d':=s.drawn) (t':=L+1) (ch:=[j,it]) (λb a=> ?_) (λb o _ _ g e _=>J b o (λz=>g (by simp[z])) (λz=>g (by simp[z])) e)
    (λb o _ _ g e _=>#[o.slots,J b o (λz=>g (by simp[z])) (λz=>g (by simp[z])) e]) (λ_ _ _ _ n=>n)
    (λb o g e=>#[o,J b o (λz=>g (by simp[z])) (λz=>g (by simp[z])) e]) (λ_ _ e=>e) (λ_ _ _ e=>e) (λb ps e=>#[#v[],by rw[e];simp]) hL hok I.bare
   rcases RT.mp a with e|e
   .subst e;show#[f3,f1,f4,f5]
   .let e:b=it:=#[5,e]
    subst e;show#[g3,g1,g4,g5]
  let I2:wh X ai σ (upd H s.1.1.size (.tup [.int (i:Nat), .str #[#v[c]]])) {s with heap:=h₂,toks:=L+1}:=by
   show#[f.ok,f.os,f.bare,#[λb o e n a hx=>f.base.keep b o e n a hx,λb o e n a hx=>f.base.slot b o e n a hx,λb o e n hx=> ?_,f.base.there,λb ys e=> ?_,λb o u e=> ?_,λb ps e=> ?_],f.loc,f.cell,6,λy c e=> ?_,λp hp=> ?_,6,f.len]
   .let a:b≠s.1.1.size:=Sb (RK (R0 e) I.sz);rw[ak a];show f.base.free b o e n hx
   .let l:=f.base.tups b ys e;rw[ak (ah l B)];show l
   .let l:=f.base.frzs b o u e;rw[ak (ah l B)];show l
   .let(more,l):=f.base.tbls b ps e;show#[more,by rw[ak (ah l B)];show l]
   .rw[ak (Sb I.lt)];show f.free
   .let(v,q):=I.cell y c e;rw[ak (Sb q.lt)];show f.freeC y c e
   .let(q1,q2,q3,q4,q5):=f.pin p hp;let a:p.1≠s.1.1.size:=Sb (R0 (I.pin p hp).1);show#[q1,by rw[ak a];show q2,q3,q4,q5]
   .intro b v e;by_cases a:b=s.1.1.size
    .subst a;rw[aa]at e;cases e;show#[bP,[.int i L, .str #[#v[c]] tu], .cons #[7] (.cons #[7] .nil),#[_,b8,27]]
    .rw[ak a]at e;show(hok b v e).stay (λ_ _ _ q=>q) (λc q=> ?_) λc ys q=> ?_
     .rw[ak (ah q B)];show q
     .rw[ak (ah q B)];show q
  show#[.ref s.1.1.size,_,I2,2,#[7,B,c,bx,2],#[#[.str #[#v[c]] tu,6],6],λb a=> ?_]
  .have:((i+1:Nat):Int)=(i:Int)+1:=()
   rw[this];show b0
  .let(o,e,c,d):=b4;show#[o,(G.2 it (TF ab)).trans e,c,d]
  .rcases RT.mp a with e|e
   .rw[e,ak (Sb ax)];show f0
   .let e:b=it:=#[5,e]
    rw[e,ak (Sb b3)];show g0
 done:=by intro X Q hw O g i ai s σ H E I M st U;subst Q hw O;let((old,x),N):=st;let(g0,g1,g2,g3,g4,g5):=M it #[5];let b1:i=z.cps.size:=U;subst b1;show wpAny_pyNext_enum_endD (xm (P:=X.1) (w:=X.w) (A:=X.A.in1) (I.ok.hd g) it z t) x N λh' eb=>#[2,I.turned (t':=s.4) (λb o a e=>eb b o a e) g0 g1 g3 g4 g5]
 self:=λ_ _ _ _ _ st h=>let⟨_,x⟩:=st.1;Vy x h
section
variable{X:Cx}{tg:Expr}{elts:pD}{x1:Nat}{tp:Pos}
def Ri(b:TE):TI:=λc H R=>b c H λx a=>∃z,x= .str z/\R (Its z) a
theorem OQ(hl:PE X l tl):PI X tg l (Ri tl):=by
 intro g s k H R I h;show zk (hl g s k H _ I h) λv a ⟨x,d,c,j,i⟩=> ?_;let(z,e,q):=i;subst e;let(t,rfl):=j;show wpAny_pyIter_strU ?_;show#[a.1.1.size,[a.1.1.size],11,d,2,c.kept (t':=a.4) λb o e=>RN _ e,Gv _ z t,#[_,R8 _ rfl,22],λb f=> ?_,q];let e:b=a.1.1.size:=#[5,f]
 subst e;show c.fpOk (RJ _) (c.hok.fresh (RJ _))
def Px(b:TA):TI:=λc H R=>b c H λvs a=>∃z,vs=[.str z]/\R (Y7 z) a
theorem Il{a:Expr}{i:TA}{p pos:Pos}(m:Gl X Xj)(r:X.mg Xj=none)(k:PA X [a] i)(v:aad [a] X.10=[(false,eval a X.10)]:=by rfl):PI X (.Tuple elts x1 tp) (.Call (.Name Xj p) [a] [] pos) (Px i):=by
 intro w s A H R I h;show Call_ (jU I m r boot_enumerate (S5 (zk (k pos w s A H _ I h) λus c ⟨vs,j,d,y,x⟩=> ?_) v rfl));let(z,e,q):=x;subst e;let(u,rfl,t,rfl):=y.one;show call_enumerate_str λh' g n hsz o=> ?_;show Vy g #[c.1.1.size+1,[c.1.1.size+1,c.1.1.size],_,Y7 z,j,2,d.kept (t':=c.4) o,Bg z t _ _ (adx _),#[#[_,g],n],λb l=> ?_,q];let f:c.1.1.size<=b:=by
  rcases RT.mp l with e|e
  .rw[e];show Uh _
  .let e:b=c.1.1.size:=#[5,e]
   rw[e];show RJ _
 show d.fpOk f (d.hok.fresh f)
end
noncomputable def dE(p:Nat->Nat->Bool)(f:Nat->Nat->V):Nat->List Nat->List V
 |_,[]=>[]
 |i,x::r=>if p i x=true then f i x::dE p f (i+1) r else dE p f (i+1) r
theorem tZ(p:Nat->Nat->Bool)(f:Nat->Nat->V):∀(i:Nat)(xs:qs)(x:Nat),dE p f i (xs++[x])=if p (i+xs.length) x=true then dE p f i xs++[f (i+xs.length) x]else dE p f i xs
 |i,[],x=>by simp[dE]
 |i,y::r,x=>by
  let e:i+(y::r).length=i+1+r.length:=by simp;lia
  rw[VE,dE,tZ p f (i+1) r x,e]
  conv=>rhs;rw[dE]
  by_cases a:p i y=true<;>by_cases b:p (i+1+r.length) x=true<;>simp[a,b]
theorem wA(p:Nat->Nat->Bool)(f:Nat->Nat->V):∀(i:Nat)(xs:qs),(dE p f i xs).length<=xs.length
 |_,[]=>RJ _
 |i,x::r=>by have:=wA p f (i+1) r;rw[dE];split<;>simp<;>lia
theorem Fz{z:Str}{fr:qs}{d:St}(p:Nat->Nat->Bool)(f:Nat->Nat->V)(hn:z.cps.size<=sizeLine)(hs:∀(i:Nat)(c:Nat)(t:Addr)(vs:St)(H':Hp)(R:V->St->Hp->Prop)(S:St->Hp->Prop),z.cps[i]?=some c->vs.length=h->vc H H'->H' t=some (.tup [.int (i:Nat), .str #[#v[c]]])->
   (∀k a,k.length=h->vc H' a->if p i c=true then R (f i c) (k++fr.map λj=>(d[j]?).join) a else S (k++fr.map λj=>(d[j]?).join) a)->
   g (.ref t) (vs++fr.map λj=>(d[j]?).join) H' λl N=>tc l N λb H4=>if b=true then te l H4 λy n=>R y l n else S l H4)(hd:∀D H',H D=none->vc H H'->H' D=some (.lst (dE p f 0 z.cps.toList))->Q (.ref D) H'):Yb (Y7 z) g tc te h fr d H Q:=by
 intro D u;let hz:z.cps.toList.length=z.cps.size:=#[5]
 show#[λi m L H'=>m=z.cps.size-i/\i<=z.cps.size/\∃vs:St,vs.length=h/\L=vs++(fr.map λj=>(d[j]?).join)/\vc H H'/\H' D=some (.lst (dE p f 0 (z.cps.toList.take i))),#[z.cps.size,#[5],Sw _,aaM h none,#[5],2,vc.new u,aa],6];rintro i m L H' ⟨rfl,hi,vs,hv,rfl,o,v⟩;by_cases G:i<z.cps.size
 .show .inr #[G,λM a=>∃vs:St,vs.length=h/\M=vs++(fr.map λj=>(d[j]?).join)/\vc H a/\a D=some (.lst (dE p f 0 (z.cps.toList.take (i+1)))),λM a q=>#[z.cps.size- (i+1),92,G,q],λx H2 y=> ?_];let(t,O,ht,c,B,U):=y;subst O U;let r:vc H' (upd H' t (.tup [.int (i:Nat), .str #[#v[c]]])):=vc.new ht;show hs i c t vs _ (λy l n=>∃s,n D=some (.lst s)/\s.length<sizeLine/\∃vs:St,vs.length=h/\l=vs++(fr.map λj=>(d[j]?).join)/\vc H (upd n D (.lst (s++[y])))/\upd n D (.lst (s++[y])) D=some (.lst (dE p f 0 (z.cps.toList.take (i+1))))) _ B hv (o.trans r) aa λk a K w=> ?_;let e:dE p f 0 (z.cps.toList.take (i+1))=if p i c=true then dE p f 0 (z.cps.toList.take i)++[f i c]else dE p f 0 (z.cps.toList.take i):=by
   let hx:z.cps.toList[i]?=some c:=#[5,B]
   rw[SY,hx];change dE p f 0 (z.cps.toList.take i++[c])=_;rw[tZ,Sk,hz,UK hi,Ux]
  let A:=w D _ (r D _ v);cases J:p i c with
  |true=>
   rw[J,RF rfl]at e;rw[RF rfl];show#[_,A,RD (wA p f _ _) ?_,k,K,2,((o.trans r).trans w).upd u,by rw[aa,e]];rw[Sk];lia
  |false=>
   rw[J,RQ RO]at e;rw[RQ RO];show#[k,K,2,(o.trans r).trans w,by rw[e];show A]
 .let e:i=z.cps.size:=()
  subst e;show .inl #[2,hd D H' u o ?_];rwa[<-hz,SM]at v
section
variable{X:Cx}
theorem sM:∀ {a:qq} {us:pk},zj (a.map str) us->StrsAre us a
 | [],_, .nil=> .nil
 |y::a,_, .cons r b=>by let(t,rfl):=r;show .cons y t (sM b)
def NB(K:Frag):V->List V->Hp->VK->Prop:=λx vs H Q=>∃(c:Str)(a:Addr)(b:qq),x= .str c/\vs=[.ref a]/\vr K H a (b.map str)/\(b.map (·.length)).sum+b.length*c.length<=16777216/\Q (.str (aaK c b)) H
theorem Mi:Y5 X "str.join" (NB X.K):=by intro j s l H x vs v us Q I f e h;let(g,a,i,rfl,rfl,b,hz,q):=h;let(t,rfl):=f;let(u,rfl,d):=e.one;cases d;let(is,c,p1,_):=I.list b;show join_list p1.isList #[5,sM c] hz λt' k=>#[.str (aaK g i),H,I.tok k,#[t',2],q]
theorem IZ{K:Frag}(h:X.K=K):Y5 X "str.join" (NB K):=by subst h;show Mi
def Rc:V->Option Int->Option Int->Hp->VK->Prop:=λx b a H Q=>∃z,x= .str z/\z.length<=sizeLine/\Q (.str (aaH z b a)) H
theorem Hy:ZT X Rc:=by
 intro n s p H x v w y e d r Q I o c pl g h;let(z,rfl,hz,q):=h;let(t,rfl):=o;let a:∀t' k,EP X n p Q (.str (aaH z e d) t') {s with toks:=k}:=λt' k=>#[.str (aaH z e d),H,I.tok k,#[t',2],q];let b:=RB (aet z e d) hz;show#["str",_,F.slot_str_getitem.lookup,Vs _ _ _,6];cases pl with
 |none=>
  cases g with
  |none=>show UE (l:=none) (u:=none) (st:=none) c rfl (VO #[b,a])
  |int j f=>show UE (l:=none) (u:=some (j,f)) (st:=none) c rfl (VO #[b,a])
 |int i m=>
  cases g with
  |none=>show UE (l:=some (i,m)) (u:=none) (st:=none) c rfl (VO #[b,a])
  |int j f=>show UE (l:=some (i,m)) (u:=some (j,f)) (st:=none) c rfl (VO #[b,a])
theorem EB(z:Str)(d b:Option Int):∀c∈(aaH z d b).cps.toList,c∈z.cps.toList:=λc a=>by
 unfold aaH at a;split at a
 .show a
 .let f:c∈(List.filterMap (λi=>z.cps[i]?) (Builtin.Str.strSliceIndices d b 1 z.length)):=#[5,a]
  let(i,_,e):=Vi.mp f;show aci.mpr (Array.mem_of_getElem? e)
theorem JF(x:Str)(c:Nat):(!(Builtin.Str.occurrences x #[#v[c]] 0 x.length 1).isEmpty)=decide (c∈x.cps.toList):=by
 rw[SV,Ub,StrLaws.found_iff];constructor
 .rintro⟨i,h⟩;show RG ((StrLaws.subAt_one x c i).mp h)
 .intro h;let(i,a):=SO h;show#[i,(StrLaws.subAt_one x c i).mpr a]
end
structure ZW(P:rj)(w:t4)(outer:q7)(H:Hp)(s:rz)(ea:Addr)(cls:Value)(H':Hp)(s':rz):Prop where
 os:s'.os=s.os
 bare:abh s'.gens
 ex:∃(B:Heap)(a0:Value),abU B outer ea cls a0 s'.1/\(∀b o,s.1.get? b=some o->H b=none->b∉XY outer->B.get? b=some o)/\
  (∀b o,s.1.get? b=some o->b∉XY outer->∃o',B.get? b=some o')/\Rl P w H' B
 slot:∀b o,s.1.get? b=some o->b∈XY outer->∃sl,s'.1.get? b=some {o with slots:=sl}
 free:∀b o,s.1.get? b=some o->H b=none->H' b=none
 tups:∀b xs,H b=some (.tup xs)->H' b=some (.tup xs)
 frzs:∀b o u,H b=some (.frz o u)->H' b=some (.frz o u)
 tbls:∀b ps,H b=some (.tbl ps)->∃more,H' b=some (.tbl (ps++more))
 new:s.1.get? ea=none
def Yw(P:rj)(w:t4):Y8:=λb H s E e s'=>∃a cls H',e= .ref a/\ZW P w b H s a cls H' s'/\E cls (some a) H'
section
variable{P:rj}{w:t4}{K:Frag}{mg:jn}{base:Heap}{N:qq}{qual:Str}{scope:Scope}{f:Addr}{cd:Value}{A:tj}{outer:q7}{s:rz}{H:Hp}{E:XK}
theorem JQ{σ:St}{g:rz}(I:wh (mv (Yw P w) P w K mg base N qual scope f cd A outer s H E) pins σ H1 g)(hx:ad5 g.1 h' d cls us)(q:E cls (some d) H1):(mv (Yw P w) P w K mg base N qual scope f cd A outer s H E).xe (.ref d) {g with heap:=h'}:=by
 let M:g.1.FunFrames base (aaT qual scope s.1.1.size f cd::outer):=I.stack;let y:∀b o,s.1.get? b=some o->b∉XY outer->b∉XY (aaT qual scope s.1.1.size f cd::outer):=λb o e a l=>by
  rcases RT.mp (I.stkSub b l)with z|z
  .show absurd z (Sb (R0 e))
  .show a z
 change aag (model P w) (A.deeper (aaT qual scope s.1.1.size f cd)) (leaving (aaT qual scope s.1.1.size f cd) (.ref d)) (λ_ m=>Yw P w outer H s E (.ref d) m) (λB m=>Yw P w outer H s E B m) {g with heap:=h'};show wpAny_leaves_madeW (base:=acv g.1 (XY (aaT qual scope s.1.1.size f cd::outer))) (h:=g.1) I.ok.frames rfl (λb o q=>Vh _ q)
  (PySem.W.funFrames_hide M λe L b a=>Vi.mpr #[e,L,a]) hx λai t x1 x2 x3 x4=> ?_
 show#[d,cls,H1,2,#[I.os,I.bare,#[11,x1,λb o e n a=> ?_,λb o e a=> ?_,λb u e=> ?_],λb o e a=> ?_,λb o e n=>I.base.free b o e n (λz=>nomatch z),I.base.tups,I.base.frzs,I.base.tbls,6],q]
 .show UB _ (I.base.keep b o e n a (λz=>nomatch z)) (y b o e a)
 .let(j,i):=I.base.there b o e (λz=>nomatch z);show#[j,UB _ i (y b o e a)]
 .show(I.hok b u e).stay (λc v J r=>UB _ r λl=> ?_) (λ_ q=>q) λ_ _ q=>q;let k:=I.stkFree c l;rcases J with z|z
  .rw[z,e]at k;cases k
  .rw[z]at k;cases k
 .let(_,j,O,U):=I.ok.funs.mem a;let x:s.1.get? b=some j:=O;rw[e]at x;cases x;let(sl,i):=I.base.slot b o e (I.ok.frf b a) a (λz=>nomatch z);let(ab,G):=x4 b _ (hx.keeps b _ i) U;show#[ab,G]
 .cases Q:s.1.get? d with
  |none=>rfl
  |some o=>
   let(j,i):=I.base.there d o Q (λz=>nomatch z);let p:g.1.get? d=some j:=i;rw[hx.new]at p;cases p
end
section
variable{X:Cx}{pins:n7}{σ:St}{H H':Hp}{s s':rz}{ea:Addr}{cls:Value}
theorem wh.caught{B d:Heap}(I:wh X pins σ H s)(F:ZW X.1 X.w X.12 H s ea cls H' s')(h:B.StaysIn d)(l:∀b o,s.1.get? b=some o->H b=none->b∉XY X.12->B.get? b=some o)(p:∀b o,s.1.get? b=some o->b∉XY X.12->∃g,B.get? b=some g)(m:Rl X.1 X.w H' B)(r:s'.1.UpToSlots d):wh X pins σ H' {s' with heap:=d}:=by
 let f:∀b o,s.1.get? b=some o->b∈XY X.12->∃i,d.get? b=some {o with slots:=i}:=λb o e a=>by let(_,g,j,f):=I.stack.mem a;rw[e]at j;cases j;let(i,c):=F.slot b o e a;let(q,k):=r b _ c f;show#[q,k]
 show I.call' (s':={s' with heap:=d}) (ch:=[]) F.os #[λb o e n a _=>h _ _ (l b o e n a),λb o e n a _=>f b o e a,λb o e n _=>F.free b o e n,λb o e _=> ?_,F.tups,F.frzs,F.tbls] (m.kept h) F.bare (λb z=>nomatch z);by_cases a:b∈XY X.12
 .let(i,c):=f b o e a;show#[_,c]
 .let(g,c):=p b o e a;show#[g,h _ _ c]
noncomputable abbrev Cx.inX(X:Cx)(ea:Addr):Cx:={X with A:=X.A.mark (some (.ref ea)),calm:=false,xe:=λ_ _=>False}
theorem wh.inX(I:wh X pins σ H s)(ea:Addr):wh (X.inX ea) pins σ H s:=
 #[#[I.ok.mod,I.ok.kind,I.ok.glob,I.ok.blt,I.ok.above,I.ok.inj,I.ok.has,I.ok.cab,(λz=>nomatch z),I.ok.frames,I.ok.stk,I.ok.exf,I.ok.bs,I.ok.bsz,I.ok.noex,I.ok.exfs,I.ok.funs,I.ok.frf],I.os,I.bare,I.base,I.loc,I.cell,I.free,I.freeC,I.pin,I.hok,I.len]
theorem wh.outX(J:X.Ok)(I:wh (X.inX ea) pins σ H s):wh X pins σ H s:=#[J,I.os,I.bare,I.base,I.loc,I.cell,I.free,I.freeC,I.pin,I.hok,I.len]
end
theorem bG.there{h:Heap}(x:bG P w H h a o):∃u,h.get? a=some u:=by
 cases o with
 |lst xs=>let(_,_,_,_,e):=x;show#[_,e]
 |tup xs=>let(_,_,_,o,e,_):=x;show#[_,e]
 |dK kvs=>let(_,_,_,_,o,_,_,e,_):=x;show#[_,e]
 |dT kvs=>let(_,_,_,_,o,_,_,e,_):=x;show#[_,e]
 |set S n=>let(o,_,_,_,e,_):=x;show#[_,e]
 |ins C b fs=>let(_,_,_,e,_):=x;show#[_,e]
 |own y=>show x
 |xd fs=>let(_,(_,_,_,e,_),_):=x;show#[_,e]
 |rng d c=>let(_,_,_,e):=x;show#[_,e]
 |frz g u=>let(e,_):=x;show#[_,e]
 |tbl ps=>show#[_,(show h.get? a=some _ from x)]
 |met f y=>show#[_,(show h.get? a=some _ from x)]
 |ext i=>let(_,e,_):=x;show e
theorem Rl.none_of{h:Heap}(x:Rl P w H h)(e:h.get? a=none):H a=none:=by
 cases q:H a with
 |none=>rfl
 |some o=>
  let(u,z):=(x a o q).there;rw[e]at z;cases z
def Kr(X:Cx)(E:XK):Prop:=∀(b:n7) (c:St) (H:Hp) (s:rz) (h':Heap) (a:Addr) (cls:Value) (us:pk),wh X b c H s->ad5 s.1 h' a cls us->E cls (some a) H->X.xe (.ref a) {s with heap:=h'}
theorem EK{K:Frag}{f:Addr}{a:Value}{A:tj}{b:q7}{s:rz}{H:Hp}{E:XK}:
  Kr (mv (Yw P w) P w K mg base N qual scope f a A b s H E) E:=λ_ _ _ _ _ _ _ _ I hx q=>JQ I hx q
section
variable{X:Cx}{e:Expr}{es:pD}{t:TA}{x:Str}{C:Addr}{B newId initId:sh}{bm:pk}{np cpos pos:Pos}{E:XK}
def NZ(C:Addr)(E:XK)(t:TA):TS:=λ_ c H=>t c H λvs a=>vs.length<=sizeLine/\∀b,a b=none->E (.ref C) (some b) a
theorem Ig(n:X.calm=true)(O:OwnCls x C bm newId X.mg X.base)(FB:ExcBaseFacts B newId initId bm)(p:Gl X x)(l:Kr X E)(m:PA X (e::es) t)(o:(x==(Xd:Str))=false:=by decide)(d:aad (e::es) X.10=(false,eval e X.10)::aad es X.env:=by rfl)(v:(aar cpos (aad es X.10)).any (·.1)=false:=by rfl):
  PS X (.Raise (some (.Call (.Name x np) (e::es) [] cpos)) none pos) (NZ C E t):=by
 intro g s i H D I h;let(y,N,nm,q,bs,hdct,sn,sub,ab,col,dd,k0,k1,k2,k3,k5,mN,hC,k,u,T):=O.obj;show wpAny_Raise_call_subT (C:=C) (nm:=nm) (q:=q) (N:=N) (bs:=bs) (bm:=y) (hdct:=hdct) (sn:=sn) (sub:=sub) (ab:=ab) (col:=col) (dd:=dd) (k0:=k0) (k1:=k1) (k2:=k2) (k3:=k3) (k5:=k5)
  FB (mN:=mN) (T.hasType FB.hasBase) (I.ok.hd n) (by rw[d];show(false||(aar cpos (aad es X.10)).any (·.1))=false;rw[v];rfl) u (jT I p O.bound #[26] o)
 let c:=m cpos g s i H _ I h;rw[d]at c⊢;show VM (zk c λus w ⟨vs,j,a,r,hl,q⟩=>#[2,by rw[<-r.length];show hl,a.bk _ _ hC,k.keeps a.bk,T.keeps a.bk,λh' b f=> ?_]);show l g i j w h' b _ us a f (q b (a.hok.none_of f.new))
end
section
variable{P:rj}{w:t4}{K:Frag}{mg:jn}{base:Heap}
theorem O3{h₀:Heap}(X:K.In h₀)(G:h₀.Ns aak mg)(e:nsIn K aak x=some (some (.ref C)))(q:excIn K C bmB newId=true):OwnCls x C bmB newId mg h₀:=by
 show#[Wi X G e,6];unfold excIn at q;split at q
 .rename_i dd h g j;split at q
  .rename_i p bm k0 k1 k2 k3 n k5 c f;simp only[RZ,UJ,SG]at q;obtain⟨⟨⟨⟨⟨rfl,rfl⟩,b⟩,m⟩,a⟩,d⟩:=q;let(nm,bs,s,ns,o,i,sn,sub,ab,col,r):=h;dsimp only at c b a d;subst c b;let k:g= #v[k0,k1,k2,k3,some (.builtin n),k5]:=by obtain⟨l⟩:=g;simp only at f;rw[f]
   subst k;show#[bm,ns,nm,o,bs,i,sn,sub,ab,col,dd,k0,k1,k2,k3,k5,_,X _ _ j, .of_isNs (PySem.W.isNs_of_in X a),PySem.W.nsMap_none_of_in X a d,PySem.W.tail_of_in X m]
  .cases q
 .cases q
end
theorem rG{env a:Env}(h:env.frame=a.frame):abo e env=abo e a:=by unfold abo PySem.frameOf;rw[h]
def vj(B:Heap)(l:q7)(a:Addr)(cls b c:Value)(h:Heap):Prop:=B.StaysIn h/\B.get? a=none/\h.FunFrames B l/\h.TracedAtW B a cls b c
section
variable{M:Model}{A:tj}{E:gs}{s:rz}
theorem Cq{env:Env}(y:A.frames=some (env::outer))(i:env.frame=some L)(G:vj B (env::outer) ea cls a0 k s.1)(n:∀h',abU B outer ea cls a0 h'->s.1.UpToSlots h'->Q aaR {s with heap:=h'}):aag M A (leaving env (.ref ea)) Q E s:=by
 let(f1,f2,j,e):=G;by_cases t:k=abk L
 .subst t;unfold leaving;show RC (wpAny_noteFrame_againW i e ?_);show wpAny_landsW (L:=L) #[f1,f2,j,e] λh' x1 x2=> ?_;let(k1,k2,(_,_,k3),J):=x1;show n h' #[k1,k2,k3,J] x2
 .let(N,vs,T,K,ts,r,(x,v),p,l,H,w,f,h,m):=e;subst x;unfold leaving abo;simp only[i];show RC (RC (W0 r p l ?_));rw[RF (show(aaa T !=aav)=true from by simp)];show RC (W0 f h m ?_);rw[RQ (show¬((k==abk L)=true)from λz=>t #[5,z])];show RC (Ug f h (U7.mp m).1 ?_);let d:∀b,b≠T->(s.1.update T (aby (·.setIfInBounds 3 aav))).get? b=s.1.get? b:=λb a=>Tv _ _ (TF a);let u:∀b o,s.1.get? b=some o->(∀vs,o.data≠ .fields vs)->b≠T:=λb o a c q=>by rw[q,f]at a;injection a with a;subst a;show c ts h
  show wpAny_newEntryW y (j.of_keeps λb o a c=>#[o,(d b (u b o a c)).trans a,2]) i ((d ea (TF w)).trans r)
   (λb o g=>(d b λq=>by rw[q,H]at g;cases g).trans (f1 b o g)) f2 p (U7.mp l).1 v
   λh' ⟨x1,⟨_,_,x2⟩,x3,x4⟩=>n h' #[x1,f2,x2,x3] λb o a c=>x4 b o ((d b (u b o a c)).trans a) c
theorem BP(G:vj B l c cls a0 fl s.1)(y:∀h' w,vj B l c cls a0 w h'->s.1.UpToSlots h'->E (.ref c) {s with heap:=h'}):aag M A (ac8 what (.ref c) h:Sem Value) (λ_ _=>False) E s:=by
 let(f1,f2,v,H,vs,T,J,ts,n,z,m,i,r,p,j,e,x):=G;unfold ac8;show RC (W0 n m i ?_);rw[RQ (show¬((aaa T==aav)=true)from by simp)];let t:3<ts.size:=(U7.mp x).1;let step:aag M A (do setFlight (.ref c) h.frame;throw (.ref c):Sem Value) (λ_ _=>False) E s:=by
  unfold setFlight;show RC (RC (W0 n m i ?_));rw[RF (show(aaa T !=aav)=true from by simp)];let g:∀b,b≠T->(s.1.update T (aby (·.setIfInBounds 3 (h.frame.elim aav λf=>abk f)))).get? b=s.1.get? b:=λb a=>Tv _ _ (TF a);let u:∀b o,s.1.get? b=some o->(∀vs,o.data≠ .fields vs)->b≠T:=λb o a d q=>by rw[q,j]at a;injection a with a;subst a;show d ts e
  show Ug j e t (wpAny_throw (y _ (h.frame.elim aav λf=>abk f) #[λb o k=>(g b λq=>by rw[q,r]at k;cases k).trans (f1 b o k),f2,
   v.of_keeps λb o a d=>#[o,(g b (u b o a d)).trans a,2],6] λb o a d=>#[o.slots,(g b (u b o a d)).trans a]))
  show#[H,vs,T,11,(g c (TF p)).trans n,z,m,i,r,p,Tj _ j (Um (Te e _)),Te e _,by simp[t]]
 first
  |show step
  |show RC (RS step)
end
def ZH(X:Cx)(E:XK):Prop:=X.Ok->∀(a:Addr)(cls:Value)(H':Hp)(s':rz)(B:Heap)(c d:Value),s'.os=X.s₀.os->abh s'.gens->vj B X.12 a cls c d s'.1->
 (∀b o,X.s₀.1.get? b=some o->X.H₀ b=none->b∉X.fs->B.get? b=some o)->(∀b o,X.s₀.1.get? b=some o->b∉X.fs->∃e,B.get? b=some e)->Rl X.1 X.w H' B->
 (∀b o,X.s₀.1.get? b=some o->b∈X.fs->∃f,s'.1.get? b=some {o with slots:=f})->(∀b o,X.s₀.1.get? b=some o->X.H₀ b=none->H' b=none)->(∀b xs,X.H₀ b=some (.tup xs)->H' b=some (.tup xs))->
 (∀b o u,X.H₀ b=some (.frz o u)->H' b=some (.frz o u))->(∀b ps,X.H₀ b=some (.tbl ps)->∃more,H' b=some (.tbl (ps++more)))->X.s₀.1.get? a=none->E cls (some a) H'->X.xe (.ref a) s'
theorem LO{K:Frag}{f:Addr}{a:Value}{A:tj}{d:q7}{s:rz}{H:Hp}{E:XK}:
  ZH (mv (Yw P w) P w K mg base N qual scope f a A d s H E) E:=by
 intro J c cls H' s' B j G os bare k keep there t slot free z p y new q;change aag (model P w) (A.deeper (aaT qual scope s.1.1.size f a)) (leaving (aaT qual scope s.1.1.size f a) (.ref c)) (λ_ g=>Yw P w d H s E (.ref c) g) (λl g=>Yw P w d H s E l g) s';show Cq J.frames rfl k λL x1 x2=> ?_;show#[c,cls,H',2,#[os,bare,#[B,j,x1,keep,there,t],λb o e h=> ?_,free,z,p,y,new],q];let(_,v,r,u):=J.funs.mem h;let i:s.1.get? b=some v:=r;rw[e]at i;cases i;let(M,m):=slot b o e h;let(x,n):=x2 b _ m u;show#[x,n]
theorem mW{B d h h':Heap}(e:∀b,B.get? b=none->d.get? b=none):∀ {l:q7},(∀b∈XY l,b≠C)->aas C h h'->h.FunFrames B l->h'.FunFrames d l
 | [],_,_,_=>trivial
 |env::r,f,g,⟨k,⟨L,o,c,n,p,j⟩,q⟩=>by
  let m:∀b∈XY r,b∈XY (env::r):=λb a=>by unfold XY at a⊢;rw[TQ,c];show RI _ a
  let i:L∈XY (env::r):=by unfold XY;rw[TQ,c];show RH
  show#[k,#[L,o,c,e L n,(g.2 L (f L i)).trans p,j],mW e (λb a=>f b (m b a)) g q]
def uN(X d:Cx)(E:XK):Value->Shared->Prop:=λe s'=>∃(pins':n7) (f:St) (b:Hp) (c:rz) (a:Addr) (cls:Value) (H':Hp),e= .ref a/\wh d pins' f b c/\ZW X.1 X.w X.12 b c a cls H' s'/\E cls (some a) H'
end L2
namespace Bh
noncomputable def dP(c:Nat):List Nat->List (List Nat)
 | []=>[[]]
 |d::r=>if d=c then []::dP c r else match dP c r with
  |p::q=>(d::p)::q
  | []=>[[d]]
noncomputable def gc(c:Nat):List (List Nat)->List Nat
 | []=>[]
 | [p]=>p
 |p::q::r=>p++c::gc c (q::r)
theorem zx(h:d≠c)(L p:qs)(q:List (List Nat))(e:dP c L=p::q):dP c (d::L)=(d::p)::q:=by rw[dP,RQ h,e]
theorem nj:∀(p L:qs),c∉p->∀a b,dP c L=a::b->dP c (p++L)=(p++a)::b
 | [],L,_,a,b,e=>e
 |d::p,L,h,a,b,e=>by have f:d≠c:=λz=>h (by rw[z];show RH);show zx f _ _ _ (nj p L (λz=>h (RI _ z)) a b e)
theorem kx:∀(ps:List (List Nat)),ps≠[]->(∀p∈ps,c∉p)->dP c (gc c ps)=ps
 | [],h,_=>absurd rfl h
 | [p],_,h=>by have:=nj p [] (h p RH) [] [] rfl;rwa[Tc]at this
 |p::q::r,_,h=>by
  let a:=kx (q::r) #[5] λx hx=>h x (RI _ hx);let e:dP c (c::gc c (q::r))=[]::(q::r):=by rw[dP,RF rfl,a]
  have:=nj p (c::gc c (q::r)) (h p RH) _ _ e;rwa[Tc]at this
end Bh
namespace L2
open PySem PySem.Spec PySem.Builtin PySem.Builtin.Str PyProof.Rows
section
variable{X:Cx}
theorem so:∀l:List (abc×Tok),zj ((l.map (·.1)).map str) (strValues l)
 | []=> .nil
 |p::r=> .cons #[p.2,2] (so r)
def OB:V->List V->Hp->VK->Prop:=λx vs H Q=>∃z a:abc,x= .str z/\vs=[.str a]/\(a.length==0)=false/\z.length+2<=sizeLine/\∀p,H p=none->Q (.ref p) (upd H p (.lst ((acx z a).map str)))
theorem IY:Y5 X "str.split" OB:=by
 intro g s m H x0 vs v us Q I j i h;let(x,y,rfl,rfl,d,hsz,q):=h;let(t,rfl):=j;let(o,rfl,u,rfl):=i.one;let c:∀(l:List (abc×Tok)) (k:Nat),l.map (·.1)=acx x y->EP X g m Q (.ref s.1.1.size) {s with heap:=s.1.push {cls:= .type Xc,data:= .seq (strValues l).toArray},toks:=k}:=λl k e=>by have r:=so l;rw[e]at r;show#[.ref _,_,I.lnew (t':=k) r ?_,2,q _ I.fresh];rw[My];show RB (split_le x y) hsz
 let f:(partsBetween x (occurrences x y 0 x.length (x.length+1)) y.length).length<=sizeLine:=by have n:=StrLaws.occ_length_le x y 0 x.length (x.length+1);rw[length_partsBetween];lia
 cases a:(decide (x.length<y.length)||decide (strKind x<strKind y))
 .cases b:(occurrences x y 0 x.length (x.length+1)).isEmpty
  .show Ww WE (Vs _ _ _) Wu (V9 _ _) (meets_str_split_sep x y t u a d b () f) ?_;change wants _ _ _ {s with toks:=_,heap:=s.1.push {cls:= .type Xc,data:= .seq (strsFrom s.4 (partsBetween x (occurrences x y 0 x.length (x.length+1)) y.length)).toArray}};rw[strsFrom_eq];show c (numbered s.4 _) _ ((numbered_texts _ _).trans ((RQ (V0 a)).trans (RQ (V0 b))).symm)
  .show Ww WE (Vs _ _ _) Wu (V9 _ _) (meets_str_split_not_found x y t u a d b)
    (c [(x,t)] s.4 ((RQ (V0 a)).trans (RF b)).symm)
 .show Ww WE (Vs _ _ _) Wu (V9 _ _) (meets_str_split_cannot_occur x y t u a)
   (c [(x,t)] s.4 (RF a).symm)
end
theorem AG{K:Frag}{xs:List V}{fr:qs}{p:St}{Q:VK}(G:V->Prop)(f:V->V)(n:vr K H a xs)(A:xs.length<=sizeLine)(B:∀(i:Nat)(x:V)(vs:St)(H':Hp)(R:V->St->Hp->Prop)(S:St->Hp->Prop),xs[i]?=some x->vs.length=nv->vc H H'->
   (G x->∀d c,d.length=nv->vc H' c->R (f x) (d++fr.map λj=>(p[j]?).join) c)->
   g x (vs++fr.map λj=>(p[j]?).join) H' λl r=>tc l r λb H4=>if b=true then te l H4 λy t=>R y l t else S l H4)(v:∀D H',H D=none->vc H H'->H' D=some (.lst (xs.map f))->(∀x∈xs,G x)->Q (.ref D) H'):Yb (YU K a) g tc te nv fr p H Q:=by
 show Cr xs.length A (λi x H' m=>H'=m/\xs[i]?=some x) (λi H' h s=>#[xs,xs[i],s.seq n,by simp[h]]) (λi H' x m _ s y=>by let(e,h):=y;subst e;show#[vc.refl _,2,h xs (s.seq n)]) (λH' s=>#[xs,s.seq n,RJ _]) (λ_ i _ k=>k=(xs.take i).map f/\∀x∈xs.take i,G x) (λ_ _=>#[2,λx h=>nomatch h]) (λ_ i _ k e=>by rw[e.1,My,Sk];lia) (λD i x vs H' m k R S _ h J o _ _ e M _=> ?_) λD H' k u o hz e=>by rw[SM]at e;show v D H' u o (e.1▸hz) e.2
 let(rfl,h):=h;show B i x vs H' R S h J o λw d c L s=>M _ d c L s ?_;rw[SY,h,e.1];show#[by rw[R6];rfl,λz hz=>(R9.mp hz).elim (e.2 z) λq=>by rw[RY.mp q];show w]
end L2
namespace Bh
open PySem
theorem uF(c:Nat):∀ps:List Str,(abG #[#v[c]] ps).cps.toList=gc c (ps.map (·.cps.toList))
 | []=>rfl
 | [p]=>rfl
 |p::q::r=>by show((p++(#[#v[c]]:Str))++abG #[#v[c]] (q::r)).cps.toList=_;rw[UL,UL,uF c (q::r),TK];rfl
theorem En(c:Nat)(z:Str):(acx z #[#v[c]]).map (·.cps.toList)=dP c z.cps.toList:=by
 let e:=Se (λy:Str=>dP c y.cps.toList) (StrLaws.join_split z #[#v[c]]);let a:dP c (abG #[#v[c]] (acx z #[#v[c]])).cps.toList=dP c z.cps.toList:=e;rw[<-a,uF,kx]
 .intro h;have:=aeu z #[#v[c]];rw[UD.mp h]at this;show absurd this ∅
 .intro p b;let(y,d,rfl):=RM.mp b;show StrLaws.split_free z c y d
end Bh
namespace L2
open PySem PySem.Spec PyProof.Rows
structure Ba(K:Frag)(m qual:Str)(st:Stmt)(ps:qq)(f:Addr):Prop where
 ex:∃fd:FuncData,Zf K m qual st f fd/\cR K fd ps []
theorem Ji{K:Frag}{st:Stmt}{ps:qq}{kV e g a d:Value}(l:K.lookup f=some #[oc,od, .func (ac4 m qual (cP st) (bA st) (aC st) .none kV e g an a d),osl])(c:ads K a qual=true)(k:aaG K (.ref f)=true)(b:∀(kV e g:Value)(an:pa)(a d:Value)(us:pk),us.length=ps.length->abE (ac4 m qual (cP st) (bA st) (aC st) .none kV e g an a d) #[us,[]]=pure (ps.zip us)):Ba K m qual st ps f:=
 #[_,uK (st:=st) l c k,(uK (st:=st) l c k).binds b]
structure dn(P:rj)(w:t4)(K:Frag)(mg:jn)(base:Heap)(k:Nat)(f:Addr)(ps:qq)(sp:Sp):Prop where
 ex:∃fd:FuncData,dJ P w K mg base X6 k f fd ps sp/\cR K fd ps []
 kp:aaG K (.ref f)=true
structure cJ(P:rj)(w:t4)(K:Frag)(mg:jn)(base:Heap)(k:Nat)(C:Addr)(m:Str)(ps:qq)(sp:Sp):Prop where
 cl:Cls K C
 ex:∃f,YR K C m f/\dn P w K mg base k f ps sp
structure kf(P:rj)(w:t4)(K:Frag)(mg:jn)(base:Heap)(k:Nat)(x:Str)(C:Addr)(ps:qq)(sp:Sp):Prop where
 ex:∃f,Mk K C f/\dn P w K mg base k f ps sp
 g:mg x=some (.ref C)
structure QR(P:rj)(w:t4)(K:Frag)(mg:jn)(base:Heap)(k:Nat)(C:Addr)(m:Str)(ps:qq)(sp:Sp):Prop where
 ex:∃f,dn P w K mg base k f ps sp/\adM K (.ref C) (.type "type") m=some (.val (.ref f))
 ga:adq K (.ref C) "__getattribute__"=some (some (.builtin "type.__getattribute__"))
 rd:adN K C (.type "type")=true
section
variable{P:rj}{w:t4}{K:Frag}{mg:jn}{base:Heap}
theorem Ba.fn{m a:Str}{st:Stmt}{N ps:qq}{k:Nat}{sp:Sp}{f:Addr}(D:Ba K m a st ps f)(S:eQ N ps (aC st))(e:∀(c:Value)(A:tj)(g:q7)(s:rz)(H:Hp)(vs:List V)(Q:VK)(E:XK),z3 k (A.deeper (aaT a (aC st) s.1.1.size f c))->sp vs H Q E->
   ∃t,X4 (mv X6 P w K mg base N a (aC st) f c A g s H E).nox (bA st) t/\t {nx:=λ_ H'=>Q .non H',rt:=Q} (start N vs) H)(len:∀vs H Q E,sp vs H Q E->vs.length=ps.length:=by intro _ _ _ _ h;cases h;subst_vars;rfl):dn P w K mg base (k+1) f ps sp:=by
 let(d,F,b):=D.ex;show#[#[d,F.ok S (len:=len) e,b],F.kp]
theorem dn.mono(C:dn P w K mg base j f ps sp)(h:j<=k):dn P w K mg base k f ps sp:=by let((a,F,b),c):=C;show#[#[a,F.mono h,b],c]
end
inductive RdM(Dom:Addr->Prop)(m:Str)(spf:Addr->Sp)(t:TA)(σ:St)(Q:VK)(x:V)(H:Hp):Prop
 |mk(a C dx:Addr) (fs:List (Str×V)) (e:x= .ref a) (h:H a=some (.ins C dx fs)) (d:Dom C) (l:fs.lookup m=none) (q:t σ H λvs H2=>spf C (x::vs) H2 Q E0):RdM Dom m spf t σ Q x H
def GF(b:Addr->Prop)(m:Str)(c:Addr->Sp)(d:TE)(t:TA):TE:=λa H Q=>d a H (RdM b m c t a Q)
def P5(C:Addr)(sp:Sp)(d:TE)(t:TA):TE:=λa H Q=>d a H λx b=>x= .ref C/\t a b λvs c=>sp vs c Q E0
section
variable{X:Cx}{j k:Nat}{C:Addr}{x m:Str}{ps:qq}{sp:Sp}{Dom:Addr->Prop}{spf:Addr->Sp}{e o:Expr}{es:pD}{ta:TE}{t:TA}{p pos apos:Pos}
theorem eG{pl:Sem Bool}(M:∀C,Dom C->cJ X.1 X.w X.K X.mg X.base j C m ps (spf C))(hr:z3 k X.A)(O:j<=k)(N:PE X o ta)(J:PA X (e::es) t)(ai:aad (e::es) X.10=(false,eval e X.10)::aad es X.env:=by rfl)(U:(aar pos (aad es X.10)).any (·.1)=false:=by rfl)(ht:eval (.Call (.Attribute o m apos) (e::es) [] pos) X.10=(do
   let i<-eval o X.10
   abO apos.atName
   let(f,first)<-abi [i] (aa5 i m pl)
   abr pos f first (aar pos (aad (e::es) X.10)) (aa2 pos (aaC [] X.10))):=by rfl):
  PE X (.Call (.Attribute o m apos) (e::es) [] pos) (GF Dom m spf ta t):=by
 intro n s v H Q I h;show Ul (pl:=pl) (zk (N n s v H _ I h) λu s1 ab=> ?_) ht;let(x,y,b,rx,a,C,dx,fs,G,B,z,l,q):=ab;subst G;obtain rfl:u=aaa a:=rx;let(c,f,g,(fd,F,L),kp):=M C z;show jV b B c g l ?_;show T4 (first:=[.ref a]) (h₀:=X.base) I.ok.mod.kin g.kp (zk (J pos n s1 v y _ b q) λus s2 ⟨vs,H2,d,r,q2⟩=>#[d.kIn,6]) ai U;show pY (us:= .ref a::us) (vs:= .ref a::vs) (dvs:=[]) F (hr.mono O) L .nil mK d (.cons rfl r) (by rw[Tc];show q2)
theorem dD{pl:Sem Bool}(M:∀C,Dom C->cJ X.1 X.w X.K X.mg X.base j C m ps (spf C))(G:z3 k X.A)(z:j<=k)(y:PE X o ta)(J:eval (.Call (.Attribute o m apos) [] [] pos) X.10=(do
   let g<-eval o X.10
   abO apos.atName
   let(f,first)<-abi [g] (aa5 g m pl)
   abr pos f first (aar pos (aad [] X.10)) (aa2 pos (aaC [] X.10))):=by rfl):
  PE X (.Call (.Attribute o m apos) [] [] pos) (GF Dom m spf ta xE):=by
 intro L s O H Q I h;show Ul (pl:=pl) (zk (y L s O H _ I h) λu s1 B=> ?_) J;let(x,U,b,N,a,C,dx,fs,r,n,i,l,q):=B;subst r;obtain rfl:u=aaa a:=N;let(c,f,d,(fd,F,v),kp):=M C i;show jV b n c d l ?_;show acy (first:=[.ref a]) b.kIn d.kp (pY (us:=[.ref a]) (vs:=[.ref a]) (dvs:=[]) F (G.mono z) v .nil mK b (.cons rfl .nil) q)
theorem fY(M:kf X.1 X.w X.K X.mg X.base j x C ps sp)(n:z3 k X.A)(i:j+1<=k)(h:Gl X x)(a:PA X (e::es) t)(c:(x==(Xd:Str))=false:=by decide)(d:aad (e::es) X.10=(false,eval e X.10)::aad es X.env:=by rfl)(l:(aar pos (aad es X.10)).any (·.1)=false:=by rfl):PE X (.Call (.Name x p) (e::es) [] pos) (C5 C sp [] E0 t):=by
 obtain⟨⟨f,mk,⟨q,F,b⟩,r⟩,g⟩:=M;show LG mk F (n.mono i) h g b .nil mK a c d l
theorem jK{pl:Sem Bool}(M:QR X.1 X.w X.K X.mg X.base j C m ps sp)(N:z3 k X.A)(J:j<=k)(B:PE X o ta)(y:PA X (e::es) t)(O:aad (e::es) X.10=(false,eval e X.10)::aad es X.env:=by rfl)(L:(aar pos (aad es X.10)).any (·.1)=false:=by rfl)(U:eval (.Call (.Attribute o m apos) (e::es) [] pos) X.10=(do
   let c<-eval o X.10
   abO apos.atName
   let(f,first)<-abi [c] (aa5 c m pl)
   abr pos f first (aar pos (aad (e::es) X.10)) (aa2 pos (aaC [] X.10))):=by rfl):
  PE X (.Call (.Attribute o m apos) (e::es) [] pos) (P5 C sp ta t):=by
 intro d s g H Q I h;show Ul (pl:=pl) (zk (B d s g H _ I h) λu s1 ⟨x,i,a,rx,n,q⟩=> ?_) U;subst n;obtain rfl:u=aaa C:=rx;obtain⟨⟨f,⟨⟨fd,F,z⟩,kp⟩,G⟩,v,rd⟩:=M;show PySem.W.method_cls a.kIn v (PySem.W.cls_value a.kIn rd G rfl ?_);let l:=a.tok (s1.4+1);show T4 (first:=[]) (h₀:=X.base) I.ok.mod.kin kp (zk (y pos d _ g i _ l q) λus s2 ⟨vs,H2,b,r,q2⟩=>#[b.kIn,6]) O L;show pY (us:=us) (vs:=vs) (dvs:=[]) F (N.mono J) z .nil mK b r (by rw[Tc];show q2)
variable{K:Frag}{f:Str}{value:Expr}{tv:TE}{pos':Pos}
theorem LI(h:X.K=K)(b:PE X e ta)(a:aay e f X.10 (eval e X.10)=eval e X.10):PE X (.Attribute e f pos) (N4 K ta f):=by subst h;show OX b a
theorem Lv(h:X.K=K)(a:PE X o ta)(c:PE X value tv)(b:aaS value (some (.Attribute o f pos')) pos.line X.10=pure false):PS X (.Assign [.Attribute o f pos'] value pos) (Oy K ta tv f):=by subst h;show OM a c b
def Nz(K:Frag):List V->Hp->VK->Prop:=λxs H Q=>∃(a:Addr)(ns:qR),xs=[.ref a]/\vr K H a (ns.map int)/\ns≠[]/\∀m∈ns,(∀z∈ns,z<=m)->Q (.int m) H
theorem F9(w:X.calm=true):bK X (.builtin "max") (Nz X.K):=by
 intro U s σ H vs us Q I M h;let(a,ns,rfl,r,B,q):=h;let(u,rfl,L):=M.one;cases L;let(is,J,p1,_):=I.list r;let g:=dS J;let(xs,d):=g.allInts.items;let hl:=p1.isList;rw[d]at hl;let c:numsOf (intItems xs).toList=ns:=by rw[<-d];show g.numsOf
 rw[nums_intItems]at c;let hsz:xs.size=ns.length:=by rw[<-c];simp
 let O:0<ns.length:=by
  cases ns with
  |nil=>show absurd rfl B
  |cons _ _=>simp
 let l:∀i,i<ns.length->ns[i]?=some (numAt xs i):=λi b=>by
  unfold numAt;rw[<-c,RU,Tn];have:i<xs.size:=()
  rw[SS this];rfl
 show max_intList (I.ok.hd w) hl () λv h' tk G A=> ?_;let(t,rfl):=intItems_at G;let(N,n):=argBest_gt (numAt xs) (xs.size-1);show#[.int (numAt xs (argBest (λi j=>decide (numAt xs i>numAt xs j)) (xs.size-1))),H,I.kept A,#[7],q _ ?_ λz hz=> ?_]
 .show RG (l _ ())
 .let(i,b):=SO hz;let y:i<ns.length:=(RX.mp b).1;rw[l i y]at b;cases b;show n i ()
theorem uW(h:X.K=K)(a:X.calm=true):bK X (.builtin "max") (Nz K):=by subst h;show F9 a
variable{a b:Expr}{rest:pD}{tb:TE}
end
theorem MF{K:Frag}{xs:List V}{fr:qs}{c:St}{Q:VK}(p:V->Bool)(f:V->V)(n:H a=some (.tup xs))(w:xs.length<=sizeLine)(z:∀(i:Nat)(x:V)(vs:St)(H':Hp)(R:V->St->Hp->Prop)(S:St->Hp->Prop),xs[i]?=some x->vs.length=nv->vc H H'->
   (∀q l,q.length=nv->vc H' l->if p x=true then R (f x) (q++fr.map λj=>(c[j]?).join) l else S (q++fr.map λj=>(c[j]?).join) l)->
   g x (vs++fr.map λj=>(c[j]?).join) H' λd r=>tc d r λb H4=>if b=true then te d H4 λy t=>R y d t else S d H4)(v:∀D H',H D=none->vc H H'->H' D=some (.lst (bD p f xs))->Q (.ref D) H'):Yb (ZV K a) g tc te nv fr c H Q:=by
 show AH xs.length w (λi x H' m=>H'=m/\xs[i]?=some x) (λi H' h s=>#[xs,xs[i],GB.of (s.at n),by simp[h]]) (λi H' x m _ s y=>by let(e,h):=y;subst e;show#[vc.refl _,2,h xs (GB.of (s.at n))]) (λH' s=>#[xs,GB.of (s.at n),RJ _]) (λi=>bD p f (xs.take i)) (λ_ x=>p x) (λ_ x=>f x) rfl (λi=>RB (wB p f _) (by rw[Sk];lia)) (λi x _ _ _ h=>t5 p f xs i x h.2) (λi x vs H' m R S _ h A o _ k=> ?_) λD H' u o hz=>v D H' u o (by rw[hz,SM]);let(rfl,h):=h;show z i x vs H' R S h A o k
theorem aq(f:Str)(v:V)(fs:List (Str×V)):(aE f v fs).lookup f=some v:=by rw[ip,RF rfl]
theorem ae(v:V)(fs:List (Str×V))(h:¬g=f):(aE f v fs).lookup g=fs.lookup g:=by rw[ip,RQ h]
def OA(K:Frag):List V->Hp->VK->Prop:=λxs H Q=>∃p a,xs=[.ref p]/\((vr K H p a/\∀l,H l=none->Q (.ref l) (upd H l (.tup a)))\/(GB K H p a/\Q (.ref p) H))
theorem gV{X:Cx}{K:Frag}(h:X.K=K):bK X (.type Xl) (OA K):=by subst h;show vJ
structure ZS(K:Frag)(C:Addr):Prop where
 ha:abe K (.ref C) "__class__"=some (some (.builtin Xg))
 hn:adq K (.builtin Xg) "__get__"=some (some (.builtin Xy))
 ht:adL K (.builtin Xg)=some true
 hm:ael K C (.type "object")=some true
end L2
namespace L2
theorem zO(b:St->Hp->Prop)(c:∀a H',b a H'->u D a H')(h:(∀a H',b a H'->u D a H')->t {D with nx:=u D} σ H):Eh t u D σ H:=h c
open PySem PySem.Spec PyProof.Rows
section
variable{X:Cx}{tg:Expr}
def QY(b:TA):TE:=λc H Q=>b c H λvs a=>∃j:Int,vs=[.int j]/\∀p,a p=none->Q (.ref p) (upd a p (.rng 0 j))
theorem OU{a:Expr}{d:TA}{p pos:Pos}(g:Gl X Xh)(i:X.mg Xh=none)(f:PA X [a] d)(k:aad [a] X.10=[(false,eval a X.10)]:=by rfl):PE X (.Call (.Name Xh p) [a] [] pos) (QY d):=by
 intro l s x H Q I h;show Call_ (jU I g i adW (S5 (zk (f pos l s x H _ I h) λus v ⟨vs,y,c,n,m⟩=> ?_) k rfl));let(j,e,q):=m;subst e;cases n with
 |cons r u=>
  cases u;let(t,rfl):=r;show call_range_1 ?_;show#[.ref v.1.1.size,_,c.laid (λb o e=>RN _ e) (RJ _) (show bG X.1 X.w _ _ _ (.rng 0 j)from#[111,R8 _ rfl]),2,q _ (c.hok.fresh (RJ _))]
end
open PySem.W
def lM(i j:Int):Prop:=intBits i+intBits j<=2^26
theorem lM.ok(h:lM i j):IntMulOk i j:=by
 unfold IntMulOk;let h':Builtin.Int.intTooBig ((intBits i:Int)+(intBits j:Int))=false:=by unfold Builtin.Int.intTooBig;let a:bitsLine=2^27:=rfl;unfold lM at h;simp only[a,UG];lia
 simp[h']
theorem LQ:Ol X (aaF .Mult) (rI lM λi j=> .int (i*j)):=Za λ_ _ _ _ _ _ _ a q=>mul_int q a.ok
end L2
namespace L2
open PySem PySem.Spec PyProof.Rows
theorem EJ(bs:List Bool):(range bs.length).all (λi=>bs.getD i true)=bs.all id:=by
 rw[SV,SU,SU];constructor
 .intro h b d;let(i,a):=SO d;let c:i<bs.length:=(RX.mp a).1;have:=h i (R1.mpr c);rwa[Sj,a]at this
 .intro h i a;let c:=R1.mp a;rw[Sj,RR c];show h _ (SX c)
theorem EI(bs:List Bool):(range bs.length).any (λi=>bs.getD i true)=bs.any id:=by
 rw[SV,Tu,Tu];constructor
 .rintro⟨i,a,h⟩;let c:=R1.mp a;rw[Sj,RR c]at h;show#[_,SX c,h]
 .rintro⟨b,d,h⟩;let(i,a):=SO d;let c:i<bs.length:=(RX.mp a).1;show#[i,R1.mpr c,6];rw[Sj,a];show h
section
variable{X:Cx}
theorem rf{bs:List Bool}{a:pk}(r:zj (bs.map V.bl) a):TruthOf prog w A (λi v=>a.toArray[i]?=some v) (λi=>bs.getD i true):=by
 intro i v s Q E d e;let c:a[i]?=some v:=#[5,d]
 let h:i<a.length:=(RX.mp c).1;let hl:=r.length;rw[My]at hl;let f:(bs.map V.bl)[i]?=some (V.bl (bs.getD i true)):=by rw[RU,Sj,RR (show i<bs.length by lia)];rfl
 let(u,b,g):=r.get f;rw[c]at b;cases b;cases g;show Th e
def ND(K:Frag):List V->Hp->VK->Prop:=λxs H Q=>∃(a:Addr)(bs:List Bool),xs=[.ref a]/\vr K H a (bs.map V.bl)/\Q (.bl (bs.all id)) H
def NC(K:Frag):List V->Hp->VK->Prop:=λxs H Q=>∃(a:Addr)(bs:List Bool),xs=[.ref a]/\vr K H a (bs.map V.bl)/\Q (.bl (bs.any id)) H
theorem Gd(f:X.calm=true):bK X (.builtin "all") (ND X.K):=by
 intro m s o H vs us Q I l h;let(a,bs,rfl,d,q):=h;let(u,rfl,k):=l.one;cases k;let(b,c,p1,_):=I.list d;let hl:=p1.isList;let j:a<s.1.1.size:=by let(_,e,_):=hl;show R0 e
 let len:=c.length;rw[My]at len;show call_all_walk (UT hl #[s.1.1.size,[s.1.1.size,a],[s.1.1.size],b.toArray.size,11,λi=>bs.getD i true,2,Walks.list (A:=X.A.in1) (I.ok.hd f) _ a (Sb j) b.toArray,#[#[_,R8 _ rfl,22],hl.push _],rf c,λh' n g=> ?_]);show#[.bl (bs.all id),H,I.kept (old_kept g),6,q];rw[Si,<-len,EJ];rfl
theorem Gb(f:X.calm=true):bK X (.builtin "any") (NC X.K):=by
 intro m s o H vs us Q I l h;let(a,bs,rfl,d,q):=h;let(u,rfl,k):=l.one;cases k;let(b,c,p1,_):=I.list d;let hl:=p1.isList;let j:a<s.1.1.size:=by let(_,e,_):=hl;show R0 e
 let len:=c.length;rw[My]at len;show call_any_walk (UT hl #[s.1.1.size,[s.1.1.size,a],[s.1.1.size],b.toArray.size,11,λi=>bs.getD i true,2,Walks.list (A:=X.A.in1) (I.ok.hd f) _ a (Sb j) b.toArray,#[#[_,R8 _ rfl,22],hl.push _],rf c,λh' n g=> ?_]);show#[.bl (bs.any id),H,I.kept (old_kept g),6,q];rw[Si,<-len,EI];rfl
theorem oh{K:Frag}(h:X.K=K)(a:X.calm=true):bK X (.builtin "all") (ND K):=by subst h;show Gd a
theorem CN{K:Frag}(h:X.K=K)(a:X.calm=true):bK X (.builtin "any") (NC K):=by subst h;show Gb a
end
end L2
namespace Bh
theorem rK:∀ {i j:Nat},i<=j->(∀k,i<=k->p k=false)->(range j).filter p=(range i).filter p:=by
 intro i j b h
 induction j with
 |zero=>
      have:i=0:=()
      subst this;rfl
 |succ j a=>
  by_cases e:i=j+1
  .subst e;rfl
  .rw[Td,TB,a ()];simp[h j ()]
theorem gO(h:n<=8):2^n<=256:=R7 (n:=2) () h
noncomputable abbrev sz(n:Nat):Nat:=(yn n).length
theorem kr(n:Nat):sz n=((range 8).filter n.testBit).length:=by show(yn n).length=_;unfold yn;rw[My]
theorem xj:∀(l:qs),(∀x∈l,p x=true->q x=true)->(l.filter p).length<=(l.filter q).length
 | [],_=>RJ _
 |x::l,h=>by
  let c:=xj l λy d=>h y (RI _ d);let hx:=h x RH;cases b:p x<;>cases a:q x
  .simp only[Tg,b,a];show c
  .simp only[Tg,b,a,RF,R3];show Nat.le_succ_of_le c
  .rw[b]at hx;rw[hx rfl]at a;cases a
  .simp only[Tg,b,a,RF,R3];lia
theorem lP{a b:Nat}(h:∀k,k<8->a.testBit k=true->b.testBit k=true):sz a<=sz b:=by rw[kr,kr];show xj _ λk c=>h k (R1.mp c)
theorem Ej(a b:Nat):sz (a&&&b)<=sz a:=lP λk _ h=>by rw[Sr,RZ]at h;show h.1
noncomputable def ag(ms:qR)(s:Nat):Nat:=ms.foldl (λr m=>max r (sz (s&&&m.toNat))) 0
theorem xY:∀(ms:qR)(s r:Nat),r<=ms.foldl (λr (m:Int)=>max r (sz (s&&&m.toNat))) r/\(∀m∈ms,sz (s&&&m.toNat)<=ms.foldl (λr (m:Int)=>max r (sz (s&&&m.toNat))) r)/\
  (ms.foldl (λr (m:Int)=>max r (sz (s&&&m.toNat))) r=r\/∃m∈ms,sz (s&&&m.toNat)=ms.foldl (λr (m:Int)=>max r (sz (s&&&m.toNat))) r)
 | [],s,r=>#[RJ _,λm hm=>(by cases hm), .inl rfl]
 |x::ms,s,r=>by
  let(b,c,a):=xY ms s (max r (sz (s&&&x.toNat)));rw[SD];show#[RB (Nat.le_max_left _ _) b,λm hm=> ?_,6]
  .rcases RT.mp hm with rfl|hm
   .show RB (Nat.le_max_right _ _) b
   .show c m hm
  .rcases a with a|⟨m,hm,e⟩
   .rw[a];rcases Nat.le_total r (sz (s&&&x.toNat))with h|h
    .rw[Nat.max_eq_right h];show .inr #[x,RH,2]
    .rw[Nat.max_eq_left h];show .inl rfl
   .show .inr #[m,RI _ hm,e]
theorem rT{m:Int}(h:m∈ms):sz (s&&&m.toNat)<=ag ms s:=(xY ms s 0).2.1 m h
theorem Ln(h:ms≠[]):∃m∈ms,sz (s&&&m.toNat)=ag ms s:=by
 rcases(xY ms s 0).2.2 with e|e
 .cases ms with
  |nil=>show absurd rfl h
  |cons m r=>
   have:=rT (s:=s) (m:=m) (ms:=m::r) RH;let a:ag (m::r) s=0:=e;show#[m,RH,9]
 .show e
theorem rS(h:ms≠[])(a:∀m∈ms,sz (s&&&m.toNat)<=b):ag ms s<=b:=by let(m,c,e):=Ln (s:=s) h;rw[<-e];show a m c
theorem qM(d:∃m∈ms,sz (s&&&m.toNat)=r)(f:∀m∈ms,sz (s&&&m.toNat)<=r):ag ms s=r:=by let(m,c,e):=d;let a:=rT (s:=s) c;let b:=rS (s:=s) (ms:=ms) (by rintro rfl;cases c) f;lia
theorem wo(ms:qR)(s:Nat):ag ms s<=sz s:=by
 cases ms with
 |nil=>show Sw _
 |cons m r=>show rS #[5] λm _=>Ej _ _
theorem dH{s k j:Nat}(a:s.testBit k=true):(s^^^2^k).testBit j=(s.testBit j&& !decide (k=j)):=by grind
theorem gu:∀n:Nat,n<9->Iu (2^n-1)=(range (2^n)).map λk:Nat=>(k:Int):=#[9]
def ZK(r:Int)(ps:qR):Prop:=∀a∈ps,∀b∈ps,a≠b->(sz (a.toNat&&&b.toNat):Int)<=r-2
theorem DO(r:Int):ZK r []:=λa b=>by cases b
theorem JU{z:Int}(h:ZK r ps)(hz:∀a∈ps,¬((sz (a.toNat&&&z.toNat):Int)>r-2)):ZK r (ps++[z]):=by
 intro a g b i ne;rcases R9.mp g with c|c<;>rcases R9.mp i with d|d
 .show h a c b d ne
 .have:b=z:=#[5,d]
  subst this;have:=hz a c;lia
 .have:a=z:=#[5,c]
  subst this;have:=hz b d;rw[Nat.and_comm];lia
 .let e:a=z:=#[5,c]
  let f:b=z:=#[5,d]
  show absurd (e.trans f.symm) ne
theorem Gr:∀r:Nat,0<r->r<8->sz (2^r-1)=r/\sz (2^r-1-2^(r-1)+2^r)=r/\sz ((2^r-1)&&& (2^r-1-2^(r-1)+2^r))+1=r/\2^r-1≠2^r-1-2^(r-1)+2^r/\2^r-1-2^(r-1)+2^r<2^(r+1):=by
 intro r b a
 match r,b,a with
 |1,_,_=>decide+kernel
 |2,_,_=>decide+kernel
 |3,_,_=>decide+kernel
 |4,_,_=>decide+kernel
 |5,_,_=>decide+kernel
 |6,_,_=>decide+kernel
 |7,_,_=>decide+kernel
 |r+8,_,a=>lia
theorem Bi:∀r:Nat,r<9->sz (2^r-1)=r:=#[9]
theorem KA{n r:Nat}(p:n<=8)(i:r<=n)(h:ps=[]\/(0<r/\r<n/\ZK r ps)):∃s,s<2^n/\sz s=r/\(s:Int)∉ps:=by
 let b:2^r-1<2^n:=by have m:2^r<=2^n:=R7 () i;let o:0<2^r:=Su ();lia
 rcases h with rfl|⟨j,q,g⟩
 .show#[2^r-1,b,Bi r (),#[5]]
 .let(c,d,k,l,e):=Gr r j ();by_cases a:((2^r-1:Nat):Int)∈ps
  .show#[2^r-1-2^(r-1)+2^r,RK e (R7 () ()),d,λf=> ?_];have:=g _ a _ f ();rw[RA,RA]at this;lia
  .show#[2^r-1,b,c,a]
theorem lH:∀(n x y:Nat),x<=n->(x&&&y)+(x^^^ (x&&&y))=x:=by
 intro n
 induction n with
 |zero=>
  intro x y h;have:x=0:=()
  subst this;simp
 |succ n g=>
  intro x y h;by_cases f:x=0
  .subst f;simp
  let i:=g (x/2) (y/2) ();rw[<-Nat.and_div_two,<-Nat.xor_div_two]at i;let c:(x&&&y) % 2=1↔x % 2=1/\y % 2=1:=Nat.and_mod_two_eq_one;let d:(x^^^ (x&&&y)) % 2=1↔¬((x % 2=1)↔((x&&&y) % 2=1)):=Nat.xor_mod_two_eq_one;by_cases hx:x % 2=1<;>by_cases e:y % 2=1
  .let a:=c.mpr #[hx,e];let b:¬(x^^^ (x&&&y)) % 2=1:=λz=>(d.mp z) #[λ_=>a,λ_=>hx];lia
  .let a:¬(x&&&y) % 2=1:=λz=>e (c.mp z).2;let b:=d.mpr λz=>a (z.mp hx);lia
  .let a:¬(x&&&y) % 2=1:=λz=>hx (c.mp z).1;let b:¬(x^^^ (x&&&y)) % 2=1:=λz=>(d.mp z) #[λq=>absurd q hx,λq=>absurd q a];lia
  .let a:¬(x&&&y) % 2=1:=λz=>hx (c.mp z).1;let b:¬(x^^^ (x&&&y)) % 2=1:=λz=>(d.mp z) #[λq=>absurd q hx,λq=>absurd q a];lia
noncomputable def aB(s t:Nat):Nat:=s^^^ (s&&&t)
theorem Mx(s t:Nat):(s||| (s&&&t)) - (s&&& (s&&&t))=aB s t:=by
 let h:=lH s s t (RJ _);let a:s||| (s&&&t)=s:=Sa λj=>by rw[Ta,Sr];cases s.testBit j<;>simp
 let b:s&&& (s&&&t)=s&&&t:=Sa λj=>by rw[Sr,Sr];cases s.testBit j<;>simp
 rw[a,b];unfold aB;lia
theorem gQ(s t j:Nat):(aB s t).testBit j=(s.testBit j&& !t.testBit j):=by grind [aB,Tr,Sr]
theorem eM(s t:Nat):aB s t<=s:=by have:=lH s s t (RJ _);unfold aB;lia
theorem KO:∀s:Nat,s<256->∀k:Nat,k<8->s.testBit k=true->sz (s^^^2^k)+1=sz s:=#[9]
theorem ua(s k j:Nat):(s|||2^k).testBit j=(s.testBit j||decide (k=j)):=by rw[Ta,TV]
theorem zp:∀s:Nat,s<256->∀k:Nat,k<8->sz (s|||2^k)<=sz s+1:=#[9]
theorem Lm(e:s<256)(d:k<8):ag ms s<=ag ms (s|||2^k)/\ag ms (s|||2^k)<=ag ms s+1:=by
 cases ms with
 |nil=>show#[RJ _,Sw _]
 |cons m0 r=>
  let c:m0::r≠[]:=#[5]
  show#[rS c λm b=>RB (lP λj _ a=> ?_) (rT b),rS c λm b=> ?_]
  .rw[Sr,RZ]at a;rw[Sr,ua,a.1,a.2];rfl
  .let f:sz ((s|||2^k)&&&m.toNat)<=sz ((s&&&m.toNat)|||2^k):=lP λj _ a=>by
    rw[Sr,ua,RZ,TN]at a;rw[ua,Sr];rcases a.1 with h|h
    .rw[h,a.2];rfl
    .rw[h];simp
   let g:=zp (s&&&m.toNat) (Kp e) k d;let i:=rT (s:=s) b;lia
noncomputable def iW(ms:qR)(s:Nat):Bool:=decide (ag ms s=sz s)
noncomputable def eB(ms:qR)(s:Nat):Bool:= !iW ms s&&(yn s).all λz=>iW ms (aB s (2^z.toNat))
noncomputable def iu(ms:qR)(s i:Nat):Nat:=(range i).foldl (λf k=>if(!s.testBit k&&decide (ag ms (s|||2^k)=ag ms s))=true then f|||2^k else f) s
theorem yO(ms:qR)(s i:Nat):iu ms s (i+1)=if(!s.testBit i&&decide (ag ms (s|||2^i)=ag ms s))=true then iu ms s i|||2^i else iu ms s i:=by unfold iu;rw[Td,S0];rfl
theorem lF(ms:qR)(s j:Nat):∀i,(iu ms s i).testBit j=(s.testBit j||(decide (j<i)&&(!s.testBit j&&decide (ag ms (s|||2^j)=ag ms s))))
 |0=>by simp[iu]
 |i+1=>by
  rw[yO];let b:=lF ms s j i;by_cases e:i=j
  .subst e;by_cases a:(!s.testBit i&&decide (ag ms (s|||2^i)=ag ms s))=true
   .rw[RF a,ua,b,a];simp
   .rw[RQ a,b,Us.mpr a];simp
  .let c:decide (j<i+1)=decide (j<i):=by
    by_cases h:j<i
    .rw[RE h,RE ()]
    .rw[RL h,RL ()]
   by_cases a:(!s.testBit i&&decide (ag ms (s|||2^i)=ag ms s))=true
   .rw[RF a,ua,b,c,RL e,S9]
   .rw[RQ a,b,c]
noncomputable def X3(n s:Nat):List Int:=yn (aB (2^n-1) s)
theorem ig(s k:Nat):(aB (2^n-1) s).testBit k=(decide (k<n)&& !s.testBit k):=by rw[gQ,SK]
noncomputable def fj(ms:qR)(n s:Nat):Nat:=(X3 n s).foldl (λf z=>if ag ms (s|||2^z.toNat)=ag ms s then f|||2^z.toNat else f) s
theorem iK{a c:Type}(p:a->Bool)(f:c->a->c):∀(l:List a)(b:c),(l.filter p).foldl f b=l.foldl (λb x=>if p x=true then f b x else b) b
 | [],_=>rfl
 |x::l,b=>by
  cases h:p x
  .rw[Tg,h];simp only[Tz,Xa,SD,h];show iK p f l b
  .rw[Tg,h];simp only[V1,SD,h];show iK p f l _
theorem xr(d:n<=8):fj ms n s=iu ms s n:=by
 unfold fj X3 yn;rw[ad6,rK d λk a=>by rw[ig,RL ()];rfl,iK];unfold iu;let key:∀(l:qs)(b:Nat),(∀k∈l,k<n)->l.foldl (λf k=>if(aB (2^n-1) s).testBit k=true then(if ag ms (s|||2^((k:Nat):Int).toNat)=ag ms s then f|||2^((k:Nat):Int).toNat else f)else f) b=l.foldl (λf k=>if(!s.testBit k&&decide (ag ms (s|||2^k)=ag ms s))=true then f|||2^k else f) b:=by
  intro l
  induction l with
  |nil=>intro b _;rfl
  |cons k l e=>
   intro b h;rw[SD,SD,e _ λx hx=>h x (RI _ hx)];congr 1;rw[ig,RE (h k RH),RA];cases s.testBit k<;>by_cases c:ag ms (s|||2^k)=ag ms s<;>simp[c]
 show key _ _ λk a=>R1.mp a
noncomputable def eR(ms:qR)(n s:Nat):Bool:=(X3 n s).all λz=>decide (ag ms (s|||2^z.toNat)=ag ms s+1)
end Bh
namespace L2
open PySem PySem.Spec PyProof.Rows
theorem uU:∀(b:hA) (n:Nat) (a:oD) {x:Str} {c:Addr},(x,c)∈aam n b a->(x,c)∈a\/n<=c
 | [],_,_,_,_,h=> .inl h
 |(name,kind)::r,n,a,x,c,h=>by
  unfold aam at h;split at h
  .rcases uU r (n+1) _ h with h|h
   .rcases RT.mp h with e|h
    .cases e;show .inr (RJ _)
    .show .inl h
   .show .inr ()
  .show uU r n a h
theorem yS:∀(d:hA) (h:Heap) (a:oD) {x:Str} {c:Addr},(x,c)∈aam h.1.size d a->(x,c)∈a\/(aa9 h d).IsCell c none
 | [],_,_,_,_,h=> .inl h
 |(name,kind)::r,h,a,x,c,e=>by
  unfold aam at e;unfold aa9;split at e
  .rename_i b;rw[RF b];let f:(x,c)∈aam (h.push {cls:= .type "cell",data:= .cell none}).1.size r ((name,h.1.size)::a):=by rw[S7];show e
   rcases yS r _ _ f with e|e
   .rcases RT.mp e with e|e
    .cases e;show .inr #[_,WY _ _ _ _ (R8 _ rfl),2]
    .show .inl e
   .show .inr e
  .rename_i b;rw[RQ b];show yS r h a e
theorem CH(b:Nat):∀(j:hA) (n:Nat) (a:oD),(∀p∈a,p.2<n)->b<=n->(∀x y c,(x,c)∈a->(y,c)∈a->b<=c->x=y)->∀x y c,(x,c)∈aam n j a->(y,c)∈aam n j a->b<=c->x=y
 | [],_,_,_,_,h=>h
 |(name,kind)::r,n,a,hl,l,h=>by
  unfold aam;split
  .show CH b r (n+1) _ (λp f=> ?_) () λx y c hx d k=> ?_
   .rcases RT.mp f with e|f
    .subst e;show S3 _
    .show Uc (hl p f)
   .rcases RT.mp hx with g|hx<;>rcases RT.mp d with i|d
    .cases g;cases i;rfl
    .cases g;show absurd (hl _ d) (S2 _)
    .cases i;show absurd (hl _ hx) (S2 _)
    .show h x y c hx d k
  .show CH b r n a hl l h
theorem yR:∀(g:hA) (n:Nat) (b:oD) (x:Str),((∃y∈g,y.1=x/\y.2= .cell)\/∃c,b.lookup x=some c)->∃c,(aam n g b).lookup x=some c
 | [],_,_,_,h=>by
  rcases h with ⟨y,a,_⟩|h
  .cases a
  .show h
 |(name,kind)::r,n,b,x,h=>by
  unfold aam;let lk:(∃c,b.lookup x=some c)->∃c,((name,n)::b).lookup x=some c:=λ⟨c,e⟩=>by
   rw[Tf];cases hx:x==name with
   |true=>show#[7]
   |false=>show#[c,e]
  split
  .show yR r (n+1) _ x ?_;rcases h with ⟨y,a,d,f⟩|h
   .rcases RT.mp a with e|a
    .subst e;show .inr #[n,6];rw[Tf,show(x==name)=true from by simpa using d.symm]
    .show .inl #[y,a,d,f]
   .show .inr (lk h)
  .rename_i i;show yR r n b x ?_;rcases h with ⟨y,a,d,f⟩|h
   .rcases RT.mp a with e|a
    .subst e;show absurd #[5,f] i
    .show .inl #[y,a,d,f]
   .show .inr h
theorem CG(b:Nat):∀(j:hA) (n:Nat) (d:oD) (x:Str),b<=n->((∃y∈j,y.1=x/\y.2= .cell)\/∀c,d.lookup x=some c->b<=c)->∀c,(aam n j d).lookup x=some c->b<=c
 | [],_,_,_,_,h,c,e=>by
  rcases h with ⟨y,a,_⟩|h
  .cases a
  .show h c e
 |(name,kind)::r,n,d,x,i,h,c,e=>by
  unfold aam at e;split at e
  .show CG b r (n+1) _ x () ?_ c e;by_cases hx:x=name
   .show .inr λc e=> ?_;rw[Tf,show(x==name)=true from by simpa using hx]at e;cases e;show i
   .rcases h with ⟨y,a,f,g⟩|h
    .rcases RT.mp a with e|a
     .subst e;show absurd f.symm hx
     .show .inl #[y,a,f,g]
    .show .inr λc e=> ?_;rw[Tf,show(x==name)=false from by simpa using hx]at e;show h c e
  .rename_i k;show CG b r n d x i ?_ c e;rcases h with ⟨y,a,f,g⟩|h
   .rcases RT.mp a with e|a
    .subst e;show absurd #[5,g] k
    .show .inl #[y,a,f,g]
   .show .inr h
theorem oK{a:Scope}(h:(abw a env).2.lookup x=some .cell\/(abw a env).2.lookup x=some .free):∃y∈a.2,y.1=x/\(y.2= .cell\/y.2= .free):=by
 obtain⟨k,g,m⟩:∃k,(k=NameKind.cell\/k=NameKind.free)/\(x,k)∈(abw a env).names:=by
  rcases h with h|h
  .show#[_, .inl rfl,SH h]
  .show#[_, .inr rfl,SH h]
 let(y,d,e):=RM.mp (show(x,k)∈a.2.map _ from m);let(n,k0):=y;dsimp only at e;split at e
 .rename_i c;let b:n=x:=Se Prod.fst e;show#[_,d,b, .inr ?_];simp only[RZ,UJ]at c;show c.1.1
 .let b:n=x:=Se Prod.fst e;let f:k0=k:=Se Prod.snd e;show#[_,d,b,6];change k0=_\/k0=_;rw[f];show g
theorem vk{s:rz}{scope:Scope}{code:Value}{a:Env}{Q:Env->Shared->Prop}(h:Q (newEnv scope s.1.1.size globals (aam (s.1.1.size+1) scope.2 closure) c func code (some a) abM) {s with heap:=aa9 (s.1.push {cls:= .type Xk,data:= .dict #v[]}) scope.2}):
  aag M A (ack scope globals closure [] c func code (some a)) Q E s:=by
 simp only[ack,acM,V1];show RC (wpAny_alloc ?_);show RC (wpAny_layCells _ (λname kind cells=>by cases b:kind==NameKind.cell<;>simp[b]) _ _ _ _ ?_);rw[show({s with heap:=s.1.push {cls:= .type Xk,data:= .dict #v[]}}:rz).1.1.size=s.1.1.size+1 from S7 ..];show RC ?_;rw[List.forIn_nil];show RS (RS h)
theorem qG{env:Env}(h:∀y∈b,y.2= .free->∃c,env.cells.lookup y.1=some c)(e:(x,c)∈jX env b):env.cells.lookup x=some c:=by
 let k:∀(b:hA) (d:oD),(∀y∈b,y.2= .free->∃c,env.cells.lookup y.1=some c)->(∀x c,(x,c)∈d->env.cells.lookup x=some c)->∀x c,(x,c)∈b.foldl (f9 env) d->env.cells.lookup x=some c:=by
  intro b
  induction b with
  |nil=>intro d _ f x c e;show f x c e
  |cons y r m=>
   intro d h f;show m _ (λz hz=>h z (RI _ hz)) λx c e=> ?_;unfold f9 at e;split at e
   .rename_i l;let(a,j):=h y RH #[5,l];rcases RT.mp e with e|e
    .let g:x=y.1:=Se Prod.fst e;let i:c=(env.cells.lookup y.1).getD 0:=Se Prod.snd e;rw[g,i,j];rfl
    .show f x c e
   .show f x c e
 show k b [] h (λ_ _ z=>by cases z) x c e
theorem yQ:∀(c:hA) (n:Nat) (a:oD) (x:Str),(∀y∈c,y.1=x->y.2≠ .cell)->(aam n c a).lookup x=a.lookup x
 | [],_,_,_,_=>rfl
 |(name,kind)::r,n,a,x,h=>by
  unfold aam;split
  .rename_i d;rw[yQ r (n+1) _ x λy b=>h y (RI _ b),Tf];cases hx:x==name with
   |true=>
    let e:x=name:=#[5,hx]
    show absurd #[5,d] (h _ RH e.symm)
   |false=>rfl
  .show yQ r n a x λy b=>h y (RI _ b)
noncomputable def si(X:Cx)(d:qq)(a:Scope)(b:rz)(c:Hp)(e:List Addr)(f:n7):Cx where
 prog:=X.1
 w:=X.w
 K:=X.K
 mg:=X.mg
 base:=X.base
 A:=X.A
 N:=d
 s₀:=b
 H₀:=c
 env:=compEnvC a (aam (b.1.1.size+1) a.2 (jX X.10 a.2)) b.1.1.size X.10
 outer:=X.12
 stack:=X.12
 ex:=e
 fn:=λx=>a.2.lookup x==some .cell
 calm:=X.calm
 pn:=X.pn++f
 xe:=λ_ _=>False
theorem oq{ns:qR}(h:aa0 vs ns):zj (ns.map int) vs:=by
 induction h with
 |nil=>show .nil
 |cons n t _ a=>show .cons #[t,2] a
end L2
namespace Bh
noncomputable def JW(s t y:Nat):Nat:=aB s (2^t)|||2^y
end Bh
namespace L2
open PySem PySem.Spec PySem.W PyProof.Rows PySem.SeqAt
def iY(H H':Hp):Prop:=∀b xs,H b=some (.tup xs)->H' b=some (.tup xs)
theorem iY.of(h:vc H H'):iY H H':=λb xs e=>h b _ e
theorem iY.upd{H:Hp}{q:Addr}{a:List V}{o:HO}(h:H q=some (.lst a)):iY H (upd H q o):=λb xs e=>by rw[ak (lr e h (by intro z;cases z))];show e
theorem iY.new(h:H q=none):iY H (L2.upd H q o):=λb xs e=>by rw[ak (ah e h)];show e
def bJ(H:Hp)(xs:List V)(ts:List (Nat×Nat)):Prop:=xs.length=ts.length/\∀(i:Nat)(t:Nat×Nat),ts[i]?=some t->∃a,xs[i]?=some (.ref a)/\H a=some (.tup [.int t.1, .int t.2])
theorem bJ.ts{ts:List (Nat×Nat)}(h:bJ H xs ts)(e:iY H H'):bJ H' xs ts:=
 #[h.1,λi t d=>by let(a,b,c):=h.2 i t d;show#[a,b,e _ _ c]]
theorem bJ.nil:bJ H [] []:=#[2,λi t h=>by simp at h]
theorem bJ.at{ts:List (Nat×Nat)}(h:bJ H xs ts){i:Nat}(d:xs[i]?=some y):∃a t,ts[i]?=some t/\y= .ref a/\H a=some (.tup [.int t.1, .int t.2]):=by
 let c:i<ts.length:=by rw[<-h.1];show(RX.mp d).1
 let(a,b,e):=h.2 i (ts[i]) (RR c);rw[d]at b;show#[a,ts[i],RR c,Sm b,e]
def Dy(K:Frag):List V->Hp->VK->Prop:=λxs H Q=>∃(p:Addr)(ns:qR),xs=[.ref p]/\vr K H p (ns.map int)/\ns.length+1<4096/\
 ∀l,H l=none->Q (.ref l) (upd H l (.set (λk=>(aaN (λi=>ns.getD i 0) ns.length).any (· ==k)) (aaN (λi=>ns.getD i 0) ns.length).length))
theorem F8{X:Cx}(j:X.calm=true):bK X (.type XA) (Dy X.K):=by
 intro v s x H vs us Q I n h;let(p,ns,rfl,i,t,q):=h;let(u,rfl,m):=gA n;cases m;let(d,f,p1,hz):=I.list i;let k:=dS f;let c:=f.length;rw[My]at c;show call_set_list (ns:=ns) (I.ok.hd j) p1.isList #[5,k] (by rw[Si];change d.length+1<4096;lia) λh' r a l=> ?_;let g:d.toArray.size=ns.length:=by rw[Si,c]
 rw[g]at a;show#[.ref s.1.1.size,_,I.laid (t':=r) (λb o e=>l b o (R0 e) e) (RJ _) (show bG X.1 X.w _ _ _ (.set _ _)from a),2,q _ (I.hok.fresh (RJ _))]
theorem uV{X:Cx}{K:Frag}(h:X.K=K)(a:X.calm=true):bK X (.type XA) (Dy K):=by subst h;show F8 a
def OE:List V->Hp->VK->Prop:=λxs H Q=>∃(p:Addr)(S:Int->Bool)(n:Nat),xs=[.ref p]/\H p=some (.set S n)/\Q (.int n) H
theorem uX:bK X (.builtin "len") OE:=by intro r s v H vs us Q I j h;let(p,S,n,rfl,g,q):=h;let(u,rfl,i):=gA j;cases i;let(o,es,ep,t,f,c,b,l,m,a,d,e):=I.hok p _ g;let k:es.size<4096:=a;show call_len_set f c b d (Int.lt_of_lt_of_le (show(es.size:Int)<4096 by lia) ∅) #[.int n,H,I.tok _,#[_,by rw[e]],q]
def OD:List V->Hp->VK->Prop:=λxs H Q=>∃(p:Addr)(n:Nat),xs=[.ref p]/\H p=some (.rng 0 n)/\n<=1000/\∀l,H l=none->Q (.ref l) (upd H l (.lst (((range n).map λi:Nat=>(i:Int)).map int)))
theorem sr:∀(a:pk)(n k:Nat),a.length=n->(∀(i:Nat)(v:Value),a[i]?=some v->∃t,v= .int (((k+i:Nat)):Int) t)->zj (((aaD k n).map λi:Nat=>(i:Int)).map int) a
 | [],0,_,_,_=> .nil
 |v::r,n+1,k,hl,h=>by
  let(t,e):=h 0 v rfl;subst e;show .cons #[t,2] (sr r n (k+1) (Nat.succ.inj hl) λi u c=>by let(t',b):=h (i+1) u #[5,c];show#[t',by rw[b,show k+(i+1)=k+1+i by lia]])
theorem CM{X:Cx}(f:X.calm=true):bK X (.type Xc) OD:=by
 intro z s A H vs us Q I x h;let(p,n,rfl,k,j,q):=h;let(u,rfl,r):=gA x;cases r;let(t,u,v,e):=I.hok p _ k;let l:IsRange s.1 p 0 (n:Int) 1 t u v:=e;show call_list_range (n:=n) (I.ok.hd f) l (small_one ∅ ∅ () ()) (by rw[rangeSize_nat];lia) () λh' y a b g d hI=> ?_;let m:zj (((range n).map λi:Nat=>(i:Int)).map int) a.toList:=by rw[U3];show sr a.toList n 0 (by rw[Sq];show hI.1) λi w o=> ?_;let(t',c):=hI.2 i w (by rw[<-o,Tn]);show#[t',by rw[c];congr 1;lia]
 show#[.ref s.1.1.size,_,I.laid (t':=y) g (RJ _) (show bG X.1 X.w _ _ _ (.lst _)from#[6,a.toList,b,m,6]),2,q _ (I.hok.fresh (RJ _))]
 .rw[My,My,RW];show RB j ∅
 .rw[Array.toArray_toList];show d
theorem Jw{K:Frag}{xs:List V}{fr:qs}{o:St}{Q:VK}(f:V->V->Hp->Prop)(L:∀x y H H',iY H H'->f x y H->f x y H')(ha:vr K H a xs)(hn:xs.length<=sizeLine)(hs:∀(i:Nat)(x:V)(vs:St)(H':Hp)(R:V->St->Hp->Prop)(S:St->Hp->Prop),xs[i]?=some x->vs.length=l->vc H H'->
   (∀y u d,f x y d->u.length=l->vc H' d->R y (u++fr.map λj=>(o[j]?).join) d)->
   g x (vs++fr.map λj=>(o[j]?).join) H' λp O=>tc p O λb H4=>if b=true then te p H4 λy k=>R y p k else S p H4)(hd:∀D H' (c:List V),H D=none->vc H H'->H' D=some (.lst c)->c.length=xs.length->(∀(j:Nat)(x y:V),xs[j]?=some x->c[j]?=some y->f x y H')->Q (.ref D) H'):Yb (YU K a) g tc te l fr o H Q:=by
 intro D v;show#[λi m M H'=>m=xs.length-i/\i<=xs.length/\∃(vs:St)(c:List V),vs.length=l/\M=vs++(fr.map λj=>(o[j]?).join)/\vc H H'/\H' D=some (.lst c)/\c.length=i/\(∀(j:Nat)(x y:V),xs[j]?=some x->c[j]?=some y->f x y H'),#[xs.length,#[5],Sw _,aaM l none,[],#[5],2,vc.new v,aa,2,#[5]],6];rintro i m M H' ⟨rfl,hi,vs,c,hv,rfl,t,G,hl,hz⟩;let w:vr K H' a xs:=t.seq ha;by_cases r:i<xs.length
 .show .inr #[#[xs,xs[i],w,by simp[r]],λN d=>∃(vs:St)(c:List V),vs.length=l/\N=vs++(fr.map λj=>(o[j]?).join)/\vc H d/\d D=some (.lst c)/\c.length=i+1/\(∀(j:Nat)(x y:V),xs[j]?=some x->c[j]?=some y->f x y d),λN d q=>#[xs.length- (i+1),TU r (S3 _),2,r,q],λx H2 y=> ?_];let(U,e2):=y;subst U;let hx:=e2 xs w;show hs i x vs _ (λy p k=>∃s,k D=some (.lst s)/\s.length<sizeLine/\∃(vs:St)(c:List V),vs.length=l/\p=vs++(fr.map λj=>(o[j]?).join)/\vc H (upd k D (.lst (s++[y])))/\upd k D (.lst (s++[y])) D=some (.lst c)/\c.length=i+1/\(∀(j:Nat)(x z:V),xs[j]?=some x->c[j]?=some z->f x z (upd k D (.lst (s++[y]))))) _ hx hv t (λy u d pz a4 B=> ?_);let J:=B D _ G;show#[_,J,by rw[hl];show RK r hn,u,c++[y],a4,2,(t.trans B).upd v,aa,by rw[R4,hl];rfl,λj x' z A h=> ?_];show L _ _ _ _ (iY.upd J) ?_;by_cases hj:j<c.length
  .rw[SR hj]at h;show L _ _ _ _ (iY.of B) (hz j x' z A h)
  .rw[S8 ()]at h;let ay:j-c.length=0:=by
    cases e:j-c.length with
    |zero=>rfl
    |succ n=>rw[e]at h;simp at h
   rw[ay]at h;cases h;let ej:j=i:=()
   subst ej;rw[hx]at A;cases A;show pz
 .let e:i=xs.length:=TL hi (Ts r);subst e;show .inl #[#[xs,w,RJ _],hd D H' c v t G hl hz]
end L2
namespace Bh
noncomputable def Yl(ms:qR)(x y:Nat):List Int:=ms.map λm=>if m=ms.getD x 0 then ms.getD y 0 else m
theorem nU(ms:qR)(x y:Nat):(Yl ms x y).length=ms.length:=My ..
theorem lU{ms:qR}(hz:z<ms.length):(Yl ms x y).getD z 0=if ms.getD z 0=ms.getD x 0 then ms.getD y 0 else ms.getD z 0:=by grind [Yl,nU,List.getElem_map]
structure YE(p:Nat)(ts:List (Nat×Nat))(S:Nat->Prop)(ms:qR):Prop where
 len:ms.length=p
 eq:∀k t,ts[k]?=some t->S k->ms.getD t.1 0=ms.getD t.2 0
 cl:∀P:Nat->Prop,(∀k t,ts[k]?=some t->S k->(P t.1↔P t.2))->∀x y,x<p->y<p->ms.getD x 0=ms.getD y 0->(P x↔P y)
noncomputable def start(p:Nat):List Int:=(range p).map λi:Nat=>(i:Int)
theorem YE.start(p:Nat)(ts:List (Nat×Nat)):YE p ts (λ_=>False) (start p):=by
 show#[by simp[Bh.start],λ_ _ _ h=>h.elim,λP _ x y hx c e=> ?_];let a:(Bh.start p).getD x 0=(x:Int):=by simp[Bh.start,hx]
 let b:(Bh.start p).getD y 0=(y:Int):=by simp[Bh.start,c]
 rw[a,b]at e;have:x=y:=()
 rw[this]
theorem YE.step(h:YE p ts S ms)(o:∀t∈ts,t.1<p/\t.2<p)(l:ts[k]?=some t):
  YE p ts (λj=>S j\/j=k) (Yl ms t.1 t.2):=by
 let b:=o t (RG l);show#[by rw[nU];show h.len,λj u d g=> ?_,λP n x y hx i e=> ?_]
 .let m:=o u (RG d);rw[lU (by rw[h.len];show m.1),lU (by rw[h.len];show m.2)];rcases g with g|rfl
  .rw[h.eq j u d g]
  .rw[l]at d;cases d;rw[RF rfl];split<;>rfl
 .let c:=h.cl P λj u d g=>n j u d (.inl g);let q:=n k t l (.inr rfl);rw[lU (by rw[h.len];show hx),lU (by rw[h.len];show i)]at e;by_cases f:ms.getD x 0=ms.getD t.1 0
  .by_cases a:ms.getD y 0=ms.getD t.1 0
   .show c x y hx i (f.trans a.symm)
   .rw[RF f,RQ a]at e;show(c x t.1 hx b.1 f).trans (q.trans (c t.2 y b.2 i e))
  .by_cases a:ms.getD y 0=ms.getD t.1 0
   .rw[RQ f,RF a]at e;show(c x t.2 hx b.2 e).trans (q.symm.trans (c t.1 y b.1 i a.symm))
   .rw[RQ f,RQ a]at e;show c x y hx i e
theorem YE.congr(h:YE p ts S ms)(e:∀j t,ts[j]?=some t->(S j↔S' j)):YE p ts S' ms:=
 #[h.len,λk t a b=>h.eq k t a ((e k t a).mpr b),λP c x y hx d=>h.cl P (λk t a b=>c k t a ((e k t a).mp b)) x y hx d]
noncomputable def Ar(p:Nat)(ts:List (Nat×Nat))(l:qR):List Int:=l.foldl (λms k=>Yl ms (ts.getD k.toNat (0,0)).1 (ts.getD k.toNat (0,0)).2) (start p)
theorem Ff(p:Nat)(ts:List (Nat×Nat))(l:qR)(k:Int):Ar p ts (l++[k])=Yl (Ar p ts l) (ts.getD k.toNat (0,0)).1 (ts.getD k.toNat (0,0)).2:=by unfold Ar;rw[S0];rfl
theorem qY(p:Nat)(ts:List (Nat×Nat)):∀l:List Int,(Ar p ts l).length=p:=by
 intro l;unfold Ar;have:∀(l:qR)(ms:qR),ms.length=p->(l.foldl (λms k=>Yl ms (ts.getD k.toNat (0,0)).1 (ts.getD k.toNat (0,0)).2) ms).length=p:=by
  intro l
  induction l with
  |nil=>intro ms h;show h
  |cons k r a=>intro ms h;rw[SD];show a _ (by rw[nU];show h)
 show this l _ (by simp[start])
noncomputable def Jd(p:Nat)(ts:List (Nat×Nat))(s:Nat):List Int:=Ar p ts (yn s)
theorem jY(c:s<2^n){k:Int}(h:k∈yn s):0<=k/\k.toNat<n:=by let(j,d,a,rfl):=aM.mp h;show#[S1 _,6];rw[RA];show T2 λb=> ?_;have:s.testBit j=false:=Sv (RK c (R7 () b));rw[this]at a;cases a
noncomputable def og(val:Nat->Int):Nat->Nat
 |0=>0
 |i+1=>if(range i).any (λj=>val j==val i)=true then og val i else og val i+1
theorem Ke(h:∃j,j<i/\val j=val i):og val (i+1)=og val i:=by let(j,a,e):=h;show(if _ then _ else _)=_;rw[RF];rw[Tu];show#[j,R1.mpr a,by rw[e];simp]
theorem AY(h:¬∃j,j<i/\val j=val i):og val (i+1)=og val i+1:=by show(if _ then _ else _)=_;rw[RQ];rw[Tu];rintro⟨j,a,e⟩;show h #[j,R1.mp a,#[5,e]]
noncomputable def ZC(p:Nat)(ts:List (Nat×Nat))(s:Nat):Nat:=og (λi=>(Jd p ts s).getD i 0) p
end Bh
namespace L2
open PySem PySem.Spec PyProof.Rows
noncomputable def ZU(K:Frag)(a b:Addr):It:=
 #[λi H=>∃xs c x y,vr K H a xs/\vr K H b c/\xs[i]?=some x/\c[i]?=some y,
  λi H x H'=>∃t,x= .ref t/\H t=none/\∃v u,(∀xs,vr K H a xs->xs[i]?=some v)/\(∀c,vr K H b c->c[i]?=some u)/\H'=upd H t (.tup [v,u]),
  λi H=>∃xs c,vr K H a xs/\vr K H b c/\(xs.length<=i\/c.length<=i)]
theorem CY{z TI TO a c b:Addr}(h:b∈[z,TO,a,c]):b∈[z,TI,TO,a,c]:=by grind
theorem fE{z TO a c b:Addr}(d:b∉ [z,TO,a,c]):b≠z/\b≠TO/\b≠a/\b≠c:=by grind
theorem Gu{P:rj}{w:t4}{K:Frag}{bo:pD}{x1:Nat}{tp:Pos}(l1 l2 z TI TO g j:Addr)(D:ZipApart z TI TO g j l1 l2):
  X8 P w K (.Tuple bo x1 tp) (ZU K l1 l2) [z,TI,TO,g,j] z (λi h=>IsZip h z TI TO .none/\IsPair h TI (.ref g) (.ref j)/\(∃a b,IsPair h TO a b)/\h.IsListIter g l1 i/\h.IsListIter j l2 i) where
 mem:=#[5]
 obj:=λi h st b f=>by
  let(hz,l,(A,B,p),m,n):=st;simp only[RT,Uy,WG]at f;rcases f with rfl|rfl|rfl|rfl|rfl
  .show#[_,hz,λv q=>by have t:abv _=abn v:=q;cases t]
  .show#[_,l,λv q=>by have t:aeG _ _=abn v:=q;cases t]
  .show#[_,p,λv q=>by have t:aeG _ _=abn v:=q;cases t]
  .let(o,e,c,d):=m;show#[o,e,λv q=>by rw[d]at q;cases q]
  .let(o,e,c,d):=n;show#[o,e,λv q=>by rw[d]at q;cases q]
 keep:=λi h h' st k=>by let(hz,l,(A,B,p),m,n):=st;show#[k z #[5] _ hz,k TI #[5] _ l,#[A,B,k TO #[5] _ p],m.at λo e=>k g #[5] o e,n.at λo e=>k j #[5] o e]
 item:=by
  intro X Q hw O hc i ai s σ H E I G st U;subst Q hw O;let(xs,ys,x,y,J,L,hx,M):=U;let(hz,l,(A,B,p),m,n):=st;let(cN,rv,p1,cn):=I.list J;let(cO,ar,p2,ct):=I.list L;let(u,hu,ru):=rv.get hx;let(v,hv,cT):=ar.get M;show wpAny_pyNext_zip_item D hz l p m n p1.isList p2.isList (x:=u) (y:=v) #[5,hu] #[5,hv] λcL cz b2 bu bN b8 dj b6=> ?_;show#[7,wpAny_letOwnedTupleGo_zip cz λh₂ cE r=> ?_];replace r:aas z cL h₂:=r;let a0:z<s.1.1.size:=R0 hz;let b0:TI<s.1.1.size:=R0 l;let b1:TO<s.1.1.size:=R0 p;let bt:g<s.1.1.size:=by let(o,e,_):=m;show R0 e
  let bx:j<s.1.1.size:=by let(o,e,_):=n;show R0 e
  let b5:H s.1.1.size=none:=I.fresh;let cf:h₂.get? s.1.1.size=some {cls:= .type Xl,data:= .seq #v[u,v]}:=(r.2 _ (T7 a0)).trans b8;let N:∀c o,c≠z->c≠TO->c≠g->c≠j->s.1.get? c=some o->h₂.get? c=some o:=λc o c1 c2 c3 c4 e=>(r.2 c c1).trans (b6 c o c1 c2 c3 c4 e);let I1:wh X ai σ H {s with heap:=h₂,gens:=s.gens,drawn:=s.drawn,toks:=s.4}:=I.own [z,TO,g,j] (λb f=>G b (CY f)) λb o f e=>N b o (fE f).1 (fE f).2.1 (fE f).2.2.1 (fE f).2.2.2 e;let I2:wh X ai σ (upd H s.1.1.size (.tup [x,y])) {s with heap:=h₂}:=I.pairIn I1 ru cT cf;show#[.ref s.1.1.size,_,I2,2,#[7,b5,x,y,λzs M=>by rw[I.list_inj M J];show hx,λzs hz=>by rw[I.list_inj hz L];show M,2],#[cE,6,#[11,(r.2 TO D.TOz).trans b2],66],λb f=> ?_]
  .show N TI _ D.TIz D.TITO D.TIi1 D.TIi2 l
  .let(o,e,c,d):=bu;show#[o,(r.2 g D.i1z).trans e,c,d]
  .let(o,e,c,d):=bN;show#[o,(r.2 j D.i2z).trans e,c,d]
  .let b3:=(G b f).1;let b4:b≠s.1.1.size:=by
    simp only[RT,Uy,WG]at f;rcases f with rfl|rfl|rfl|rfl|rfl
    .show Sb a0
    .show Sb b0
    .show Sb b1
    .show Sb bt
    .show Sb bx
   rw[ak b4];show b3
 done:=by
  intro X Q hw O hc i ai s σ H E I G st U;subst Q hw O;let(xs,ys,J,L,b7):=U;let(hz,l,(A,B,p),m,n):=st;let(cN,rv,p1,cn):=I.list J;let(cO,ar,p2,ct):=I.list L;let e1:=rv.length;let e2:=ar.length;show wpAny_pyNext_zip_end (I.ok.hd hc) D hz l p m n p1.isList p2.isList (by
   rcases b7 with h|h
   .show .inl (by simp;lia)
   .show .inr (by simp;lia)) λh₂ N=>#[26]
  show I.own [z,TO,g,j] (λb f=>G b (CY f)) λb o f e=>N b o (fE f).1 (fE f).2.1 (fE f).2.2.1 (fE f).2.2.2 e
 self:=λ_ _ _ _ _ st h=>ady st.1 h
section
variable{X:Cx}{elts:pD}{x1:Nat}{tp:Pos}
def QB(K:Frag)(d:TA):TI:=λf H R=>d f H λvs c=>∃a b,vs=[.ref a, .ref b]/\(∃xs,vr K c a xs)/\(∃e,vr K c b e)/\R (ZU K a b) c
theorem OO{a b:Expr}{j:TA}{p pos:Pos}(w:Gl X "zip")(y:X.mg "zip"=none)(t:PA X [a,b] j)(A:aad [a,b] X.10=(false,eval a X.10)::aad [b] X.env:=by rfl)(z:(aar pos (aad [b] X.10)).any (·.1)=false:=by rfl):PI X (.Tuple elts x1 tp) (.Call (.Name "zip" p) [a,b] [] pos) (QB X.K j):=by
 intro L s U H R I h;show Uj (jU I w y boot_zip ?_);show S5 (zk (t pos L s U H _ I h) λus d ⟨vs,k,f,N,M⟩=> ?_) A z;let(a,b,e,(xs,hx),(ys,B),q):=M;subst e;let(u,v,rfl,O,Q):=Nd N;cases O;cases Q;let(ai,r2,p2,ab):=f.list hx;let(aj,r3,p3,af):=f.list B;let G:a<d.1.1.size:=by let(o,e,_):=p2.isList;show R0 e
 let J:b<d.1.1.size:=by let(o,e,_):=p3.isList;show R0 e
 show call_zip_2 p2.isList p3.isList λh' hz n r l m hsz x=> ?_;show ady hz #[d.1.1.size+4,[d.1.1.size+4,d.1.1.size+2,d.1.1.size+3,d.1.1.size,d.1.1.size+1],_,ZU X.K a b,k,2,f.kept (t':=d.4) x,Gu a b _ _ _ _ _ (zipApart_new G J),#[hz,n,#[11,r],l,m],λc g=> ?_,q];let i:d.1.1.size<=c:=by
  simp only[RT,Uy,WG]at g;rcases g with e|e|e|e|e<;>rw[e]
  .show VG _ _
  .show VG _ _
  .show VG _ _
  .show RJ _
  .show VG _ _
 show f.fpOk i (f.hok.fresh i)
theorem Ly{K:Frag}{a b:Expr}{c:TA}{p pos:Pos}(h:X.K=K)(e:Gl X "zip")(f:X.mg "zip"=none)(d:PA X [a,b] c)(i:aad [a,b] X.10=(false,eval a X.10)::aad [b] X.env:=by rfl)(g:(aar pos (aad [b] X.10)).any (·.1)=false:=by rfl):PI X (.Tuple elts x1 tp) (.Call (.Name "zip" p) [a,b] [] pos) (QB K c):=by subst h;show OO e f d i g
end
noncomputable def A0(H:Hp)(D:Addr):Hp:=λb=>if b=D then none else H b
theorem cy(h:b≠D):A0 H D b=H b:=by unfold A0;rw[RQ h]
theorem AL:A0 (upd H D o) D=A0 H D:=by grind [A0,ak]
theorem de:vc (A0 H D) H:=λb o e=>by
 unfold A0 at e;split at e
 .cases e
 .show e
theorem xf(h:vc H H'):vc (A0 H D) (A0 H' D):=λb o e=>by
 unfold A0 at e⊢;split at e
 .cases e
 .rename_i a;rw[RQ a];show h b o e
section
variable{J:It}{g:TG}{tc:TT}{te:TE}{nv:Nat}{fr:qs}{σ:St}{H:Hp}{Q:VK}
theorem DK(n:Nat)(L:n<=sizeLine)(I:Nat->V->Hp->Hp->Prop)(G:∀i H',i<n->vc H H'->J.go i H')(hy:∀i H' x a,i<n->vc H H'->J.yld i H' x a->vc H' a/\I i x H' a)(N:∀H',vc H H'->J.stop n H')(f:Nat->V->Hp->Prop)(A:∀i y H H',vc H H'->f i y H->f i y H')(M:∀(i:Nat)(x:V)(vs:St)(D:Addr)(H' a:Hp)(R:V->St->Hp->Prop)(S:St->Hp->Prop),i<n->I i x H' a->vs.length=nv->vc H H'->vc H' a->(∃l,H' D=some (.lst l))->(∀y m d,f i y (A0 d D)->m.length=nv->vc a d->R y (m++fr.map λj=>(σ[j]?).join) d)->
   g x (vs++fr.map λj=>(σ[j]?).join) a λo u=>tc o u λb H4=>if b=true then te o H4 λy v=>R y o v else S o H4)(B:∀D H' (c:List V),H D=none->vc H H'->H' D=some (.lst c)->c.length=n->(∀j y,c[j]?=some y->f j y (A0 H' D))->Q (.ref D) H'):Yb J g tc te nv fr σ H Q:=
 Cr n L I G hy N (λD i H' c=>c.length=i/\∀j y,c[j]?=some y->f j y (A0 H' D)) (λ_ _=>#[2,λj y h=>by cases h]) (λ_ i _ q e=>acW e.1) (λD i x vs H' a q R S K hx O p t hz e kR _=>M i x vs D H' a R S K hx O p t #[_,hz] λy m d pz U s=>kR y m d U s #[by rw[R4,e.1];rfl,λj z k=>by
  rw[AL];by_cases hl:j<q.length
  .rw[SR hl]at k;show A _ _ _ _ (xf (t.trans s)) (e.2 j z k)
  .let l:=(RX.mp k).1;rw[R4]at l;let r:j=q.length:=by simp at l;lia
   rw[r,List.getElem?_concat_length]at k;cases k;rw[r,e.1];show pz]) λD H' c w p hz e=>B D H' c w p hz e.1 e.2
end
theorem gT{K:Frag}{xs:List V}{fr:qs}{t:St}{Q:VK}(d:V->V->Hp->Prop)(z:∀x y H H',vc H H'->d x y H->d x y H')(q:vr K H a xs)(B:xs.length<=sizeLine)(J:∀(i:Nat)(x:V)(vs:St)(D:Addr)(H':Hp)(R:V->St->Hp->Prop)(S:St->Hp->Prop),xs[i]?=some x->vs.length=nv->vc H H'->(∃l,H' D=some (.lst l))->
   (∀y m c,d x y (A0 c D)->m.length=nv->vc H' c->R y (m++fr.map λj=>(t[j]?).join) c)->
    g x (vs++fr.map λj=>(t[j]?).join) H' λn v=>tc n v λb H4=>if b=true then te n H4 λy w=>R y n w else S n H4)(A:∀D H' (f:List V),H D=none->vc H H'->H' D=some (.lst f)->f.length=xs.length->(∀(j:Nat)(x y:V),xs[j]?=some x->f[j]?=some y->d x y (A0 H' D))->Q (.ref D) H'):Yb (YU K a) g tc te nv fr t H Q:=by
 show DK xs.length B (λi x H' o=>H'=o/\xs[i]?=some x) (λi H' h s=>#[xs,xs[i],s.seq q,by simp[h]]) (λi H' x o _ s y=>by let(e,h):=y;subst e;show#[vc.refl _,2,h xs (s.seq q)]) (λH' s=>#[xs,s.seq q,RJ _]) (λj y G=>∀x,xs[j]?=some x->d x y G) (λi y G u s h x e=>z x y G u s (h x e)) (λi x vs D H' o R S _ h L r _ p k=> ?_) λD H' f p r hz hl h=>A D H' f p r hz hl λj x y hx N=>h j y N x hx;let(rfl,h):=h;show J i x vs D H' R S h L r p λy m c O M s=>k y m c (λU e=>by rw[h]at e;cases e;show O) M s
theorem ME{K:Frag}{xs:List V}{fr:qs}{t:St}{Q:VK}(d:V->V->Hp->Prop)(z:∀x y H H',vc H H'->d x y H->d x y H')(q:H a=some (.tup xs))(B:xs.length<=sizeLine)(J:∀(i:Nat)(x:V)(vs:St)(D:Addr)(H':Hp)(R:V->St->Hp->Prop)(S:St->Hp->Prop),xs[i]?=some x->vs.length=nv->vc H H'->(∃l,H' D=some (.lst l))->
   (∀y m c,d x y (A0 c D)->m.length=nv->vc H' c->R y (m++fr.map λj=>(t[j]?).join) c)->
    g x (vs++fr.map λj=>(t[j]?).join) H' λn v=>tc n v λb H4=>if b=true then te n H4 λy w=>R y n w else S n H4)(A:∀D H' (f:List V),H D=none->vc H H'->H' D=some (.lst f)->f.length=xs.length->(∀(j:Nat)(x y:V),xs[j]?=some x->f[j]?=some y->d x y (A0 H' D))->Q (.ref D) H'):Yb (ZV K a) g tc te nv fr t H Q:=by
 show DK xs.length B (λi x H' o=>H'=o/\xs[i]?=some x) (λi H' h s=>#[xs,xs[i],GB.of (s.at q),by simp[h]]) (λi H' x o _ s y=>by let(e,h):=y;subst e;show#[vc.refl _,2,h xs (GB.of (s.at q))]) (λH' s=>#[xs,GB.of (s.at q),RJ _]) (λj y G=>∀x,xs[j]?=some x->d x y G) (λi y G u s h x e=>z x y G u s (h x e)) (λi x vs D H' o R S _ h L r _ p k=> ?_) λD H' f p r hz hl h=>A D H' f p r hz hl λj x y hx N=>h j y N x hx;let(rfl,h):=h;show J i x vs D H' R S h L r p λy m c O M s=>k y m c (λU e=>by rw[h]at e;cases e;show O) M s
theorem w4{f:Int}{fr:qs}{o:St}{Q:VK}(a:Nat->V->Hp->Prop)(v:∀i y H H',vc H H'->a i y H->a i y H')(A:n<=sizeLine)(B:∀(i:Nat)(vs:St)(D:Addr)(H':Hp)(R:V->St->Hp->Prop)(S:St->Hp->Prop),i<n->vs.length=nv->vc H H'->(∃l,H' D=some (.lst l))->
   (∀y p d,a i y (A0 d D)->p.length=nv->vc H' d->R y (p++fr.map λj=>(o[j]?).join) d)->
   g (.int (f+i)) (vs++fr.map λj=>(o[j]?).join) H' λc q=>tc c q λb H4=>if b=true then te c H4 λy r=>R y c r else S c H4)(w:∀D H' (m:List V),H D=none->vc H H'->H' D=some (.lst m)->m.length=n->(∀(j:Nat)(y:V),m[j]?=some y->a j y (A0 H' D))->Q (.ref D) H'):Yb (Ze f n) g tc te nv fr o H Q:=by
 show DK n A (λi x H' e=>H'=e/\x= .int (f+i)) (λi H' h _=>h) (λi H' x e _ _ y=>by let(s,t):=y;subst s t;show#[vc.refl _,22]) (λ_ _=>RJ _) a v (λi x vs D H' e R S z h G J _ u k=> ?_) w;let(rfl,rfl):=h;show B i vs D H' R S z G J u k
theorem MD{K:Frag}{xs c:List V}{fr:qs}{r:St}{H:Hp}{Q:VK}(f:Nat->V)(p:vr K H a xs)(q:vr K H b c)(ai:xs.length=n)(aj:c.length=n)(M:n<=sizeLine)(N:∀(i:Nat)(x y:V)(vs:St)(H':Hp)(t:Addr)(R:V->St->Hp->Prop)(S:St->Hp->Prop),xs[i]?=some x->c[i]?=some y->vs.length=nv->vc H H'->H' t=none->
   (∀l d,l.length=nv->vc (upd H' t (.tup [x,y])) d->R (f i) (l++fr.map λj=>(r[j]?).join) d)->
   g (.ref t) (vs++fr.map λj=>(r[j]?).join) (upd H' t (.tup [x,y])) λm w=>tc m w λb H4=>if b=true then te m H4 λy z=>R y m z else S m H4)(L:∀D H',H D=none->vc H H'->H' D=some (.lst ((range n).map f))->Q (.ref D) H'):Yb (ZU K a b) g tc te nv fr r H Q:=by
 show AH n M (λi x H' o=>∃t v u,x= .ref t/\H' t=none/\xs[i]?=some v/\c[i]?=some u/\o=upd H' t (.tup [v,u])) (λi H' h s=>#[xs,c,xs[i]'(),c[i]'(),s.seq p,s.seq q,RR _,RR _]) (λi H' x o _ s y=> ?_) (λ_ s=>#[xs,c,s.seq p,s.seq q, .inl ()]) (λi=>(range i).map f) (λ_ _=>true) (λi _=>f i) rfl (λi=>#[5]) (λi _ _ _ _ _=>by rw[Td,R6];rfl) (λi x vs H' o R S _ h O sm _ k=> ?_) L
 .let(t,A,e,v,u,B,G,J):=y;subst A J;show#[vc.new e,t,v,u,2,e,B xs (s.seq p),G c (s.seq q),2]
 .let(t,v,u,rfl,e,hx,hy,rfl):=h;show N i v u vs H' t R S hx hy O sm e λl d U s=>by have:=k l d U s;rwa [RF rfl]at this
def a9(H:Hp)(xs:List V)(M:oS):Prop:=xs.length=M.length/\∀(i:Nat)(r:qR),M[i]?=some r->∃a,xs[i]?=some (.ref a)/\H a=some (.lst (r.map int))
theorem a9.same(h:a9 H xs M)(e:vc H H'):a9 H' xs M:=
 #[h.1,λi r d=>by let(a,b,c):=h.2 i r d;show#[a,b,e.at c]]
theorem a9.at(h:a9 H xs M){i:Nat}(d:xs[i]?=some y):∃a r,M[i]?=some r/\y= .ref a/\H a=some (.lst (r.map int)):=by
 let c:i<M.length:=by rw[<-h.1];show(RX.mp d).1
 let(a,b,e):=h.2 i (M[i]) (RR c);rw[d]at b;show#[a,M[i],RR c,Sm b,e]
theorem a9.of{b:List V}{M:oS}(hl:b.length=M.length)(h:∀(j:Nat)(r:qR)(y:V),M[j]?=some r->b[j]?=some y->∃a,y= .ref a/\H a=some (.lst (r.map int))):a9 H b M:=by
 show#[hl,λi r d=> ?_];let c:i<b.length:=by rw[hl];show(RX.mp d).1
 let(a,e,f):=h i r _ d (RR c);show#[a,by rw[RR c,e],f]
def lI(H:Hp)(xs:List V)(M:oS):Prop:=xs.length=M.length/\∀(i:Nat)(r:qR),M[i]?=some r->∃a,xs[i]?=some (.ref a)/\H a=some (.tup (r.map int))
theorem lI.ts(h:lI H xs M)(e:iY H H'):lI H' xs M:=
 #[h.1,λi r d=>by let(a,b,c):=h.2 i r d;show#[a,b,e _ _ c]]
theorem lI.at(h:lI H xs M){i:Nat}(d:xs[i]?=some y):∃a r,M[i]?=some r/\y= .ref a/\H a=some (.tup (r.map int)):=by
 let c:i<M.length:=by rw[<-h.1];show(RX.mp d).1
 let(a,b,e):=h.2 i (M[i]) (RR c);rw[d]at b;show#[a,M[i],RR c,Sm b,e]
theorem JP{K:Frag}{xs:List V}{g:TG}{l:TS}{D:Yg}(Pv:Nat->St->Hp->Prop)(s:Pv 0 b H)(hl:∀i b H,i<=xs.length->Pv i b H->vr K H a xs)(w:∀(i:Nat) x t b H,xs[i]?=some x->H t=none->Pv i b H->g (.ref t) b (upd H t (.tup [.int (i:Nat),x])) λh d=>l {D with nx:=Pv (i+1),ct:=Pv (i+1),bk:=D.nx} h d)(u:∀b H,Pv xs.length b H->D.nx b H):
  ∃W:Nat->Nat->St->Hp->Prop,(∃m,W 0 m b H)/\∀i m b H,W i m b H->
   ((Zn K a).stop i H/\D.nx b H)\/((Zn K a).go i H/\∃N:St->Hp->Prop,(∀f H',N f H'->∃k,k<m/\W (i+1) k f H')/\∀x H',(Zn K a).yld i H x H'->g x b H' λh d=>l {D with nx:=N,ct:=N,bk:=D.nx} h d):=by
 show#[λi m b H=>m=xs.length-i/\i<=xs.length/\Pv i b H,#[xs.length,#[5],Sw _,s],6];rintro i m b H ⟨rfl,j,p⟩;let q:=hl i b H j p;by_cases c:i<xs.length
 .show .inr #[#[xs,xs[i],q,by simp[c]],Pv (i+1),λf H' A=>#[xs.length- (i+1),TU c (S3 _),2,c,A],λx H' y=> ?_];let(t,n,z,v,o,r):=y;subst n r;show w i v t b H (o xs q) z p
 .let e:i=xs.length:=TL j (Ts c);subst e;show .inl #[#[xs,q,RJ _],u b H p]
theorem DU(xs:List V)(i:Nat):kh xs none (some (i:Int))=xs.take i:=by
 unfold kh;show(xs.drop (HT.sIx _ 0 none)).take (HT.sIx _ _ (some (i:Int)) -HT.sIx _ 0 none)=_;rw[HT.rO,HT.zT,ad7,Nat.sub_zero];by_cases a:i<=xs.length
 .rw[UK a]
 .rw[adz (),SM,TY ()]
theorem e8(xs:List V)(i:Nat):kh xs (some (i:Int)) none=xs.drop i:=by
 unfold kh;show(xs.drop (HT.sIx _ 0 (some (i:Int)))).take (HT.sIx _ _ none-HT.sIx _ 0 (some (i:Int)))=_;rw[HT.rO,HT.zT,TY (by rw[SW];lia)];by_cases a:i<=xs.length
 .rw[UK a]
 .rw[adz (),List.drop_length,List.drop_of_length_le ()]
theorem uI:∀ {a b:qR},a.map int=b.map int->a=b
 | [],[],_=>rfl
 | [],_::_,h=>by simp at h
 |_::_,[],h=>by simp at h
 |x::a,y::b,h=>by
  rw[Sg,Sg]at h;injection h with c d
  rw[V.int.inj c,uI d]
theorem r8{H:Hp}{r s:qR}(h:H a=some (.lst (r.map int)))(g:H a=some (.lst (s.map int))):r=s:=by grind [uI]
theorem a9.cut{xs:List V}{M:oS}(h:a9 H xs M)(i:Nat):a9 H (xs.take i++xs.drop (i+1)) (M.take i++M.drop (i+1)):=by
 let hl:=h.1;show#[by rw[R4,R4,Sk,Sk,SW,SW,hl],λj r b=> ?_];by_cases f:j<(M.take i).length
 .rw[SR f]at b;rw[Sk]at f;rw[Vk ()]at b;let(a,c,d):=h.2 j r b;show#[a,by rw[SR (by rw[Sk,hl];show f),Vk ()];show c,d]
 .rw[S8 ()]at b;let e:(xs.take i).length=(M.take i).length:=by rw[Sk,Sk,hl]
  rw[acN]at b;let(a,c,d):=h.2 _ r b;show#[a,by rw[S8 (),acN,e];show c,d]
theorem Kz{H:Hp}{r s:qR}(h:H a=some (.tup (r.map int)))(g:H a=some (.tup (s.map int))):r=s:=by grind [uI]
end L2
namespace Bh
theorem Ka(i l:Nat):min i l+(l- (i+1))<=l:=()
noncomputable def mn(l st:Nat):Nat:=if l^^^st<l then l^^^st else l
theorem uA{x y i:Nat}(hx:x.testBit i=false)(a:y.testBit i=true)(h:∀j,i<j->x.testBit j=y.testBit j):x<y:=by
 let e:x/2^(i+1)=y/2^(i+1):=Sa λj=>by rw[TJ,TJ];show h _ ()
 rw[VF]at hx a;let d:=UM hx;let f:=RV a;rw[WD,<-abV,<-abV]at e;show T2 λb=> ?_;have:=Nat.div_le_div_right (c:=2^i) b;lia
theorem uB{st:Nat}(h:0<st):st.testBit st.log2=true:=Nat.testBit_log2 ()
theorem xB{st j:Nat}(h:st.log2<j):st.testBit j=false:=
 Sv (RK (Nat.lt_log2_self (n:=st)) (R7 () h))
theorem NK{l st:Nat}(h:0<st):mn l st=if l.testBit st.log2=true then l^^^st else l:=by
 unfold mn;cases a:l.testBit st.log2 with
 |true=>
  rw[RF rfl,RF];show uA (i:=st.log2) ?_ a λj b=> ?_
  .rw[Tr,a,uB h];rfl
  .rw[Tr,xB b,ad8]
 |false=>
  rw[RQ RO,RQ];show WH (TX (uA (i:=st.log2) a ?_ λj b=> ?_))
  .rw[Tr,a,uB h];rfl
  .rw[Tr,xB b,ad8]
theorem QT(u v w:Nat):(u^^^w)^^^ (v^^^w)=u^^^v:=by grind
theorem Pf(h:0<st):mn (u^^^v) st=mn u st^^^mn v st:=by grind [NK,Tr,Sz,Vl,QT]
theorem DI(st:Nat):mn 0 st=0:=by unfold mn;rw[RQ ()]
theorem Mp(h:0<w):mn w w=0:=by rw[NK h,uB h,RF rfl,To]
noncomputable def red(ss:qs)(v:Nat):Nat:=ss.foldl mn v
theorem zZ(ss:qs)(w v:Nat):red (ss++[w]) v=mn (red ss v) w:=by unfold red;rw[S0];rfl
theorem zX(ss:qs):red ss 0=0:=by
 induction ss with
 |nil=>rfl
 |cons s r a=>change red r (mn 0 s)=0;rw[DI];show a
theorem Dx(h:∀s∈ss,0<s)(u v:Nat):red ss (u^^^v)=red ss u^^^red ss v:=by
 induction ss generalizing u v with
 |nil=>rfl
 |cons s r a=>
  change red r (mn (u^^^v) s)=red r (mn u s)^^^red r (mn v s);rw[Pf (h s RH),a λz hz=>h z (RI _ hz)]
inductive bC(vs:qs):Nat->Prop
 |zero:bC vs 0
 |add {x v:Nat}:bC vs x->v∈vs->bC vs (x^^^v)
theorem bC.of_mem(h:v∈vs):bC vs v:=by
 have:=bC.add bC.zero h
 rwa [VP]at this
theorem bC.xor(hx:bC vs x)(b:bC vs y):bC vs (x^^^y):=by
 induction b with
 |zero=>rw[Uk];show hx
 |add _ a c=>rw[<-Sz];show c.add a
theorem bC.sub(h:∀v∈vs,bC ws v)(hx:bC vs x):bC ws x:=by
 induction hx with
 |zero=>show .zero
 |add _ a b=>show b.xor (h _ a)
theorem bC.snoc:bC (vs++[w]) x↔bC vs x\/bC vs (x^^^w):=by
 constructor
 .intro h
  induction h with
  |zero=>show .inl .zero
  | @add x v _ a b=>
   rcases R9.mp a with a|a
   .rcases b with b|b
    .show .inl (b.add a)
    .show .inr ?_;rw[Sz,Vl v w,<-Sz];show b.add a
   .rw[RY.mp a];rcases b with b|b
    .show .inr ?_;rw[Sz,To,Uk];show b
    .show .inl b
 .rintro(h|h)
  .show h.sub λv a=> .of_mem (SF _ a)
  .let c:=(h.sub (ws:=vs++[w]) λv a=> .of_mem (SF _ a)).add (v:=w) (Sf _ (RY.mpr rfl));rwa[Sz,To,Uk]at c
theorem BH(v:Nat):bC ss (red ss v^^^v):=by
 let b:∀(r ss:qs)(u v:Nat),(∀s∈r,s∈ss)->bC ss (u^^^v)->bC ss (red r u^^^v):=by
  intro r
  induction r with
  |nil=>intro ss u v _ h;show h
  |cons s r c=>
   intro ss u v a h;change bC ss (red r (mn u s)^^^v);show c ss _ v (λz hz=>a z (RI _ hz)) ?_;unfold mn;split
   .rw[Sz,Vl s v,<-Sz];show h.add (a s RH)
   .show h
 show b ss ss v v (λ_ h=>h) ?_;rw[To];show .zero
noncomputable def Ys(ss:qs)(v:Nat):List Nat:=if 0<red ss v then ss++[red ss v]else ss
noncomputable def dO(vs:qs):List Nat:=vs.foldl Ys []
theorem ja(vs:qs)(v:Nat):dO (vs++[v])=Ys (dO vs) v:=by unfold dO;rw[S0];rfl
structure Zg(vs ss:qs):Prop where
 pos:∀s∈ss,0<s
 kill:∀s∈ss,red ss s=0
 span:∀x,bC ss x↔bC vs x
theorem zY(b:∀s∈ss,0<s)(a:∀s∈ss,red ss s=0)(h:bC ss x):red ss x=0:=by
 induction h with
 |zero=>show zX ss
 |add _ c d=>rw[Dx b,d,a _ c];rfl
theorem Zg.red{vs ss:qs}(h:Zg vs ss)(v:Nat):red ss v=0↔bC vs v:=by
 rw[<-h.span v];constructor
 .intro e;have:=BH (ss:=ss) v;rwa[e,VP]at this
 .show zY h.pos h.kill
theorem Zg.step(h:Zg vs ss)(v:Nat):Zg (vs++[v]) (Ys ss v):=by
 unfold Ys;by_cases b:0<Bh.red ss v
 .rw[RF b];let idem:Bh.red ss (Bh.red ss v)=Bh.red ss v:=by have e:=zY h.pos h.kill (BH (ss:=ss) v);rw[Dx h.pos]at e;have:=Se (· ^^^Bh.red ss v) e;simpa [Sz]using this
  show#[λs a=> ?_,λs a=> ?_,λx=> ?_]
  .rcases R9.mp a with a|a
   .show h.pos s a
   .rw[RY.mp a];show b
  .rw[zZ];rcases R9.mp a with a|a
   .rw[h.kill s a,DI]
   .rw[RY.mp a,idem,Mp b]
  .let d:=(h.span _).mp (BH (ss:=ss) v);rw[bC.snoc,bC.snoc,h.span,h.span];let key:∀y,bC vs (y^^^Bh.red ss v)↔bC vs (y^^^v):=λy=>by
    constructor
    .intro c;have:=c.xor d;rwa[Sz,<-Sz (Bh.red ss v),To,VP]at this
    .intro c;have:=c.xor d;rwa[Vl (Bh.red ss v) v,Sz,<-Sz v,To,VP]at this
   rw[key]
 .rw[RQ b];let f:bC vs v:=(h.red v).mp ();show#[h.pos,h.kill,λx=> ?_];rw[h.span,bC.snoc];constructor
  .show λhx=> .inl hx
  .rintro(hx|hx)
   .show hx
   .have:=hx.xor f;rwa[Sz,To,Uk]at this
theorem xk(vs:qs):Zg vs (dO vs):=by
 let a:∀(r vs ss:qs),Zg vs ss->Zg (vs++r) (r.foldl Ys ss):=by
  intro r
  induction r with
  |nil=>intro vs ss h;rw[Tc];show h
  |cons v r b=>
   intro vs ss h;have:=b _ _ (h.step v);rwa[TK]at this
 show a vs [] [] #[#[5],#[5],λx=>Iff.rfl]
def X1(vs:qs):Nat:=(dO vs).length
theorem tK(h:bC vs v):X1 (vs++[v])=X1 vs:=by unfold X1;rw[ja,Ys,RQ];have:=((xk vs).red v).mpr h;lia
theorem jG(h:¬bC vs v):X1 (vs++[v])=X1 vs+1:=by
 unfold X1;rw[ja,Ys,RF]
 .rw[R4];rfl
 .show Vm λe=>h (((xk vs).red v).mp e)
noncomputable def gB(vs:qs):List Nat:=vs.foldl (λa v=>if v∈a then a else a++a.map (· ^^^v)) [0]
theorem sO(vs:qs)(v:Nat):gB (vs++[v])=if v∈gB vs then gB vs else gB vs++(gB vs).map (· ^^^v):=by unfold gB;rw[S0];rfl
theorem oJ{b:Type}{P:List b->Prop}(c:P [])(d:∀l a,P l->P (l++[a])):∀l,P l:=by
 have:∀l:List b,P l.reverse:=by
  intro l
  induction l with
  |nil=>show c
  |cons a r e=>rw[List.reverse_cons];show d _ _ e
 intro l;have:=this l.reverse
 rwa [List.reverse_reverse]at this
theorem gx(vs:qs):∀x,x∈gB vs↔bC vs x:=by
 show oJ (P:=λvs=>∀x,x∈gB vs↔bC vs x) ?_ ?_ vs
 .intro x;constructor
  .intro h;rw[RY.mp h];show .zero
  .intro h;cases h with
   |zero=>show RY.mpr rfl
   |add _ a=>cases a
 .intro vs v b x;rw[sO,bC.snoc];by_cases a:v∈gB vs
  .rw[RF a,b x];let c:=(b v).mp a;constructor
   .show λh=> .inl h
   .rintro(h|h)
    .show h
    .have:=h.xor c;rwa[Sz,To,Uk]at this
  .rw[RQ a,R9,b x,RM];constructor
   .rintro(h|⟨y,d,rfl⟩)
    .show .inl h
    .show .inr ?_;rw[Sz,To,Uk];show(b y).mp d
   .rintro(h|h)
    .show .inl h
    .show .inr #[x^^^v,(b _).mpr h,6];rw[Sz,To,Uk]
theorem qW(vs:qs):(gB vs).Nodup/\(gB vs).length=2^X1 vs:=by
 show oJ (P:=λvs=>(gB vs).Nodup/\(gB vs).length=2^X1 vs) #[by simp[gB],2] ?_ vs;rintro vs v ⟨d,f⟩;rw[sO];by_cases c:v∈gB vs
 .rw[RF c,tK ((gx vs v).mp c)];show#[d,f]
 .let g:¬bC vs v:=λh=>c ((gx vs v).mpr h);rw[RQ c,jG g,R4,My,f,WD,Nat.mul_two];show#[Vz.mpr #[d,66],2]
  .rw[ad9,VA];show d.imp λ{a b} j e=>j ?_;have:=Se (· ^^^v) e;simpa [Sz]using this
  .intro a i b k e;let(y,l,rfl):=RM.mp k;subst e;have:=((gx vs _).mp i).xor ((gx vs _).mp l);rw[Vl y v,Sz,To,Uk]at this;show g this
theorem mU:∀ {a b:qs},a.Nodup->(∀x∈a,x∈b)->a.length<=b.length
 | [],_,_,_=>Sw _
 |x::r,b,d,h=>by have hx:=h x RH;rw[TM]at d;let f:=mU (a:=r) (b:=b.erase x) d.2 λy c=>(VQ (λe=>by rw[e]at c;show d.1 c)).mpr (h y (RI _ c));rw[Uz hx]at f;have:0<b.length:=Ui hx;rw[R3];lia
theorem Ih(h:2^a<=2^b):a<=b:=(Nat.pow_le_pow_iff_right ()).mp h
theorem pZ(h:∀v∈vs,bC ws v):X1 vs<=X1 ws:=by have a:=qW vs;let b:=qW ws;have:=mU a.1 λx hx=>(gx ws x).mpr (((gx vs x).mp hx).sub h);rw[a.2,b.2]at this;show Ih this
theorem Li(vs:qs):X1 vs<=vs.length:=by
 show oJ (P:=λvs=>X1 vs<=vs.length) (RJ _) (λvs v a=> ?_) vs;rw[R4];change _<=vs.length+1;by_cases h:bC vs v
 .rw[tK h];lia
 .rw[jG h];lia
noncomputable def par(p:Nat)(ms:qR)(c:Int)(z:Nat):Bool:=(range p).foldl (λb i=>b^^ (z.testBit i&&decide (ms.getD i 0=c))) false
theorem O2(ms:qR)(c:Int):∀(l:qs)(z w:Nat)(a b:Bool),
  l.foldl (λb i=>b^^ ((z^^^w).testBit i&&decide (ms.getD i 0=c))) (a^^b)=(l.foldl (λb i=>b^^ (z.testBit i&&decide (ms.getD i 0=c))) a^^l.foldl (λb i=>b^^ (w.testBit i&&decide (ms.getD i 0=c))) b):=by
 intro l
 induction l with
 |nil=>intros;rfl
 |cons i r d=>
  intro z w a b;rw[SD,SD,SD,<-d,Tr];congr 1;cases a<;>cases b<;>cases z.testBit i<;>cases w.testBit i<;>cases decide (ms.getD i 0=c)<;>rfl
theorem yd(p:Nat)(ms:qR)(c:Int)(z w:Nat):par p ms c (z^^^w)=(par p ms c z^^par p ms c w):=O2 ms c (range p) z w false false
theorem Iv(p:Nat)(ms:qR)(c:Int):par p ms c 0=false:=by
 unfold par
 induction (range p)with
 |nil=>rfl
 |cons i r a=>rw[SD,SN];show a
theorem rX(ms:qR)(c:Int)(hx:x<p):par p ms c (2^x)=decide (ms.getD x 0=c):=by
 unfold par;let a:∀n,(range n).foldl (λb i=>b^^ ((2^x).testBit i&&decide (ms.getD i 0=c))) false=(decide (x<n)&&decide (ms.getD x 0=c)):=by
  intro n
  induction n with
  |zero=>rfl
  |succ n g=>
   rw[Td,S0,g];show((decide (x<n)&&decide (ms.getD x 0=c))^^ ((2^x).testBit n&&decide (ms.getD n 0=c)))=_;rw[TV];by_cases e:x=n
   .subst e;simp
   .let d:decide (x=n)=false:=RL e;let f:decide (x<n+1)=decide (x<n):=by
     by_cases h:x<n
     .rw[RE h,RE ()]
     .rw[RL h,RL ()]
    rw[d,f];simp
 rw[a,RE hx,T1]
noncomputable def fb(t:Nat×Nat):Nat:=2^t.1^^^2^t.2
theorem AK{ts:List (Nat×Nat)}{ms:qR}(h:YE p ts (λ_=>True) ms)(n:∀t∈ts,t.1<p/\t.2<p)(hx:x<p)(m:y<p):bC (ts.map fb) (2^x^^^2^y)↔ms.getD x 0=ms.getD y 0:=by
 constructor
 .intro o;let hz:∀c z,bC (ts.map fb) z->par p ms c z=false:=by
   intro c z hz
   induction hz with
   |zero=>show Iv p ms c
   |add _ q r=>
    let(t,l,rfl):=RM.mp q;let(k,f):=SO l;let e:=h.eq k t f trivial;let g:=n t l;rw[yd,r,fb,yd,rX ms c g.1,rX ms c g.2,e];simp
  let d:=hz (ms.getD x 0) _ o;rw[yd,rX _ _ hx,rX _ _ m,RE rfl]at d;have:decide (ms.getD y 0=ms.getD x 0)=true:=#[5,d]
  show(RV this).symm
 .intro e;have:=h.cl (λz=>bC (ts.map fb) (2^x^^^2^z)) (λk t f _=> ?_) x y hx m e
  .show this.mp ?_;rw[To];show .zero
  .let j:fb t∈ts.map fb:=RM.mpr #[t,RG f,2];let i:∀a b c:Nat,a^^^b^^^ (b^^^c)=a^^^c:=λa b c=>by rw[Sz,<-Sz b b c,To,VP]
   constructor
   .intro d;have:=d.add j;rwa[fb,i]at this
   .intro d;have:=d.add j;rwa[fb,Vl (2^t.1),i]at this
theorem gS:∀ {a b:qR},a.Nodup->(∀x∈a,x∈b)->a.length<=b.length
 | [],_,_,_=>Sw _
 |x::r,b,d,h=>by have hx:=h x RH;rw[TM]at d;let f:=gS (a:=r) (b:=b.erase x) d.2 λy c=>(VQ (λe=>by rw[e]at c;show d.1 c)).mpr (h y (RI _ c));rw[Uz hx]at f;have:0<b.length:=Ui hx;rw[R3];lia
theorem qF(val:Nat->Int):∀p,∃L:List Int,L.Nodup/\(∀v,v∈L↔∃i,i<p/\val i=v)/\L.length=og val p
 |0=>#[[],#[5],λv=>#[5],2]
 |p+1=>by
  let(L,l,g,hl):=qF val p;by_cases h:∃j,j<p/\val j=val p
  .show#[L,l,λv=> ?_,by rw[Ke h];show hl];rw[g v];let(j,n,e):=h;constructor
   .rintro⟨i,d,c⟩;show#[i,9,c]
   .rintro⟨i,d,c⟩;by_cases f:i=p
    .subst f;show#[j,n,e.trans c]
    .show#[i,9,c]
  .show#[L++[val p],6,λv=> ?_,by rw[AY h,R4,hl];rfl]
   .rw[Vz];show#[l,#[5],λa k b m e=> ?_];rw[RY.mp m]at e;rw[e]at k;show h ((g _).mp k)
   .rw[R9,g v,RY];constructor
    .rintro(⟨i,d,e⟩|e)
     .show#[i,9,e]
     .show#[p,9,e.symm]
    .rintro⟨i,d,e⟩;by_cases f:i=p
     .subst f;show .inr e.symm
     .show .inl #[i,9,e]
theorem FZ{ms:qR}(hl:ms.length=p)(hx:x<p)(q:y<p)(o:¬ms.getD x 0=ms.getD y 0):og (λi=>(Yl ms x y).getD i 0) p+1=og (λi=>ms.getD i 0) p:=by
 let(L,g,d,s):=qF (λi=>ms.getD i 0) p;let(h,r,n,t):=qF (λi=>(Yl ms x y).getD i 0) p;let f:ms.getD x 0∈L:=(d _).mpr #[x,hx,2];let key:∀v,v∈h↔v∈L.erase (ms.getD x 0):=by
  intro v;rw[g.mem_erase_iff,n v,d v];constructor
  .rintro⟨i,b,e⟩;let a:(Yl ms x y).getD i 0=v:=e;rw[lU (by rw[hl];show b)]at a;split at a
   .rw[<-a];show#[λj=>o j.symm,y,q,2]
   .rename_i m;rw[<-a];show#[m,i,b,2]
  .rintro⟨c,i,b,e⟩;show#[i,b,6];show(Yl ms x y).getD i 0=v;let a:ms.getD i 0=v:=e;rw[lU (by rw[hl];show b),RQ (by rw[a];show c)];show a
 let k:=gS r λv c=>(key v).mp c;let l:=gS (g.erase _) λv c=>(key v).mpr c;rw[Uz f]at k l;have:0<L.length:=Ui f;lia
theorem I0{ms:qR}(hl:ms.length=p)(e:ms.getD x 0=ms.getD y 0):Yl ms x y=ms:=by
 unfold Yl;rw[<-e]
 conv=>rhs;rw[<-T6 ms]
 show SI λm _=> ?_;show(if m=_ then _ else m)=m;split
 .rename_i h;show h.symm
 .rfl
noncomputable def YA(p:Nat)(ts:List (Nat×Nat)):List Int:=ts.foldl (λms t=>Yl ms t.1 t.2) (start p)
theorem Au(p:Nat)(ts:List (Nat×Nat))(t:Nat×Nat):YA p (ts++[t])=Yl (YA p ts) t.1 t.2:=by unfold YA;rw[S0];rfl
theorem Ph(ts:List (Nat×Nat))(a:∀t∈ts,t.1<p/\t.2<p):YE p ts (λ_=>True) (YA p ts):=by
 revert a
 show oJ (P:=λts=>(∀t∈ts,t.1<p/\t.2<p)->YE p ts (λ_=>True) (YA p ts)) ?_ ?_ ts
 .intro _;show#[by simp[YA,start],λk t b=>by simp at b,λP _=>(YE.start p []).cl P λk t b=>by simp at b]
 .intro ts t l a;let h:=l λu i=>a u (SF _ i);let m:=a t (Sf _ (RY.mpr rfl));rw[Au];let b:(ts++[t])[ts.length]?=some t:=#[5]
  let h':YE p (ts++[t]) (λj=>j<ts.length) (YA p ts):=by show#[h.len,λk u c g=>h.eq k u (by rwa[SR g]at c) trivial,λP e=>h.cl P λk u c _=> ?_];let d:k<ts.length:=(RX.mp c).1;show e k u (by rw[SR d];show c) d
  show(h'.step a b).congr λj u f=> ?_;have:=(RX.mp f).1;rw[R4]at this;have:j<ts.length+1:=this;constructor
  .intro _;trivial
  .intro _;lia
theorem FY(p:Nat):og (λi=>(start p).getD i 0) p=p:=by
 let d:∀n,n<=p->og (λi=>(start p).getD i 0) n=n:=by
  intro n
  induction n with
  |zero=>intro _;rfl
  |succ n f=>
   intro h;rw[AY,f ()];rintro⟨j,g,e⟩;let a:(start p).getD j 0=(start p).getD n 0:=e;let b:(start p).getD j 0=(j:Int):=by
    have:j<p:=()
    simp[start,this]
   let c:(start p).getD n 0=(n:Int):=by
    have:n<p:=()
    simp[start,this]
   rw[b,c]at a;lia
 show d p (RJ _)
theorem IS(ts:List (Nat×Nat))(a:∀t∈ts,t.1<p/\t.2<p):og (λi=>(YA p ts).getD i 0) p+X1 (ts.map fb)=p:=by
 revert a
 show oJ (P:=λts=>(∀t∈ts,t.1<p/\t.2<p)->og (λi=>(YA p ts).getD i 0) p+X1 (ts.map fb)=p) ?_ ?_ ts
 .intro _;show FY p
 .intro ts t j a;let d:∀u∈ts,u.1<p/\u.2<p:=λu g=>a u (SF _ g);let h:=j d;let c:=Ph ts d;let b:=a t (Sf _ (RY.mpr rfl));let f:bC (ts.map fb) (fb t)↔_:=AK c d b.1 b.2;rw[Au,R6];change _+X1 (ts.map fb++[fb t])=p;by_cases e:(YA p ts).getD t.1 0=(YA p ts).getD t.2 0
  .rw[I0 c.len e,tK (f.mpr e)];show h
  .rw[jG λz=>e (f.mp z)];have:=FZ c.len b.1 b.2 e;lia
structure z8(n:Nat)(r:Nat->Nat):Prop where
 n8:n<=8
 zero:r 0=0
 step:∀s k,s<2^n->k<n->r s<=r (s|||2^k)/\r (s|||2^k)<=r s+1
 sub:∀s j k,s<2^n->j<n->k<n->r (s|||2^j)=r s->r (s|||2^k)=r s->r (s|||2^j|||2^k)=r s
def Sub(a b:Nat):Prop:=∀k,a.testBit k=true->b.testBit k=true
theorem Sub.refl(a:Nat):Sub a a:=λ_ h=>h
theorem Sub.trans(h:Sub a b)(g:Sub b c):Sub a c:=λk d=>g k (h k d)
theorem Sub.lt(h:Sub a b)(c:b<2^n):a<2^n:=Vd _ λi d=>by
 cases e:a.testBit i with
 |false=>rfl
 |true=>
  have:=h i e;rw[Sv (RK c (R7 () d))]at this;cases this
theorem aJ(b:s<2^n)(a:k<n):s|||2^k<2^n:=SQ b (T8 () a)
theorem aR(s k j:Nat):(s|||2^k).testBit j=(s.testBit j||decide (k=j)):=by rw[Ta,TV]
theorem c5{s k:Nat}(h:s.testBit k=true):s|||2^k=s:=Sa λj=>by
 rw[aR];by_cases e:k=j
 .subst e;rw[h];rfl
 .rw[RL e,S9]
noncomputable def Kd(s t:Nat):Nat->Nat
 |0=>s
 |i+1=>if t.testBit i=true then Kd s t i|||2^i else Kd s t i
theorem eS(s t i:Nat):Kd s t (i+1)=if t.testBit i=true then Kd s t i|||2^i else Kd s t i:=rfl
theorem km(s t j:Nat):∀i,(Kd s t i).testBit j=(s.testBit j||(decide (j<i)&&t.testBit j))
 |0=>by simp[Kd]
 |i+1=>by
  rw[eS];by_cases a:t.testBit i=true
  .rw[RF a,aR,km s t j i];by_cases e:i=j
   .subst e;simp[a]
   .let b:decide (j<i+1)=decide (j<i):=by
     by_cases h:j<i
     .rw[RE h,RE ()]
     .rw[RL h,RL ()]
    rw[RL e,b,S9]
  .rw[RQ a,km s t j i];by_cases e:i=j
   .subst e;simp[a]
   .let b:decide (j<i+1)=decide (j<i):=by
     by_cases h:j<i
     .rw[RE h,RE ()]
     .rw[RL h,RL ()]
    rw[b]
theorem ko(a:t<2^n):Kd s t n=s|||t:=Sa λj=>by
 rw[km,Ta];by_cases h:j<n
 .rw[RE h,T1]
 .rw[Sv (RK a (R7 () ())),Vt]
theorem i6(a:s<2^n):∀i,i<=n->Kd s t i<2^n
 |0,_=>a
 |i+1,b=>by
  rw[eS];split
  .show aJ (i6 a i ()) ()
  .show i6 a i ()
theorem t7(h:Sub s t):s|||t=t:=Sa λj=>by
 rw[Ta];cases e:s.testBit j with
 |false=>rfl
 |true=>rw[h j e];rfl
namespace z8
variable{n:Nat}{r:Nat->Nat}(M:z8 n r)
include M
theorem mono(h:Sub s t)(a:t<2^n):r s<=r t:=by
 let d:=h.lt a;let c:∀i,i<=n->r s<=r (Kd s t i):=by
  intro i
  induction i with
  |zero=>intro _;show RJ _
  |succ i b=>
   intro e;rw[eS];split
   .show RB (b ()) (M.step _ i (i6 d i ()) ()).1
   .show b ()
 have:=c n (RJ _);rwa[ko a,t7 h]at this
theorem keep(h:Sub s t)(c:t<2^n)(b:k<n)(e:r (s|||2^k)=r s):r (t|||2^k)=r t:=by
 let j:=h.lt c;let g:∀i,i<=n->r (Kd s t i|||2^k)=r (Kd s t i):=by
  intro i
  induction i with
  |zero=>intro _;show e
  |succ i a=>
   intro m;let a:=a ();rw[eS];split
   .let hl:=i6 (t:=t) j i ();generalize Kd s t i=u at*;let o:=M.step u i hl ();let p:=M.step (u|||2^i) k (aJ hl ()) b;let l:=M.step (u|||2^k) i (aJ hl b) ();let f:u|||2^k|||2^i=u|||2^i|||2^k:=by rw[UZ,adJ (2^k),<-UZ]
    rw[f]at l;by_cases d:r (u|||2^i)=r u
    .have:=M.sub u i k hl () b d a;lia
    .lia
   .show a
 have:=g n (RJ _);rwa[ko c,t7 h]at this
theorem closed{s t:Nat}(e:s<2^n)(g:t<2^n)(h:∀k,t.testBit k=true->r (s|||2^k)=r s):r (s|||t)=r s:=by
 let b:∀i,i<=n->r (Kd s t i)=r s:=by
  intro i
  induction i with
  |zero=>intro _;rfl
  |succ i a=>
   intro l;let a:=a ();rw[eS];split
   .rename_i c;let f:Sub s (Kd s t i):=λj d=>by rw[km,d];rfl
    rw[M.keep f (i6 e i ()) () (h i c)];show a
   .show a
 have:=b n (RJ _)
 rwa [ko g]at this
end z8
noncomputable def XW(r:Nat->Nat)(s t:Nat):Nat->Nat
 |0=>s
 |i+1=>if t.testBit i=true/\r (XW r s t i)<r (XW r s t i|||2^i)then XW r s t i|||2^i else XW r s t i
theorem FI(r:Nat->Nat)(s t i:Nat):XW r s t (i+1)=if t.testBit i=true/\r (XW r s t i)<r (XW r s t i|||2^i)then XW r s t i|||2^i else XW r s t i:=rfl
theorem c6:∀s:Nat,s<256->∀k:Nat,k<8->s.testBit k=false->sz (s|||2^k)=sz s+1:=#[9]
theorem NF(h:n<=8):2^n<=256:=R7 (n:=2) () h
namespace z8
variable{n:Nat}{r:Nat->Nat}(M:z8 n r)
include M
theorem bF(a:s<2^n):s<256:=RK a (NF M.n8)
theorem wZ:∀s,s<2^n->r s<=sz s:=by
 intro s d;let b:∀i,i<=n->r (Kd 0 s i)<=sz (Kd 0 s i):=by
  intro i
  induction i with
  |zero=>intro _;change r 0<=_;rw[M.zero];show Sw _
  |succ i a=>
   intro e;let a:=a ();rw[eS];let hl:Kd 0 s i<2^n:=i6 (Su ()) i ();split
   .let c:(Kd 0 s i).testBit i=false:=by rw[km];simp
    rw[c6 _ (M.bF hl) i (by have:=M.n8;lia) c];have:=(M.step _ i hl ()).2;lia
   .show a
 have:=b n (RJ _);rwa[ko d,W2]at this
theorem Cw{s t:Nat}(v:Sub s t)(w:t<2^n)(q:r s=sz s):∀i,i<=n->Sub s (XW r s t i)/\Sub (XW r s t i) t/\r (XW r s t i)=sz (XW r s t i)/\
  ∀k,k<i->t.testBit k=true->r (XW r s t i|||2^k)=r (XW r s t i):=by
 intro i
 induction i with
 |zero=>intro _;show#[Sub.refl _,v,q,λk f=>absurd f (Ve _)]
 |succ i x=>
  intro y;let(h,d,o,l):=x ();rw[FI];let hl:=d.lt w;generalize XW r s t i=g at*;let A:=M.n8;by_cases c:t.testBit i=true/\r g<r (g|||2^i)
  .rw[RF c];let p:g.testBit i=false:=by
    cases e:g.testBit i with
    |false=>rfl
    |true=>rw[c5 e]at c;show absurd c.2 (S2 _)
   let st:=M.step g i hl ();let u:=aJ (k:=i) hl ();let m:Sub g (g|||2^i):=λj a=>by rw[aR,a];rfl
   show#[h.trans m,λj a=> ?_,6,λk f b=> ?_]
   .rw[aR]at a;by_cases e:i=j
    .subst e;show c.1
    .rw[RL e,S9]at a;show d j a
   .rw[c6 g (M.bF hl) i () p];lia
   .by_cases e:k=i
    .subst e;rw[c5];rw[aR];simp
    .show M.keep m u () (l k () b)
  .rw[RQ c];show#[h,d,o,λk f b=> ?_];by_cases e:k=i
   .subst e;let st:=M.step g k hl ();have:¬r g<r (g|||2^k):=λz=>c #[b,z];lia
   .show l k () b
theorem extend(j:Sub s t)(a:t<2^n)(h:r s=sz s):∃g,Sub s g/\Sub g t/\r g=sz g/\r g=r t:=by
 let(d,b,e,f):=M.Cw j a h n (RJ _);show#[XW r s t n,d,b,e,6];let hl:=b.lt a;have:=M.closed hl a λk c=>f k (by
  show T2 λi=> ?_;rw[Sv (RK a (R7 () i))]at c;cases c) c
 rw[t7 b]at this;show this.symm
end z8
theorem pI(a b:Nat):Sub (a&&&b) a:=λk h=>by rw[Sr,RZ]at h;show h.1
theorem vS(a b:Nat):Sub (a&&&b) b:=λk h=>by rw[Sr,RZ]at h;show h.2
theorem KP(h:Sub a b)(g:Sub a c):Sub a (b&&&c):=λk d=>by rw[Sr,h k d,g k d];rfl
theorem sL(b:s<2^n):Sub s (2^n-1):=λk a=>by rw[SK];show RE (T2 λh=> ?_);rw[Sv (RK b (R7 () h))]at a;cases a
theorem dg(n:Nat):2^n-1<2^n:=by have:0<2^n:=Su ();lia
theorem i7:sz 0=0:=∅
namespace z8
variable{n:Nat}{r:Nat->Nat}(M:z8 n r)
include M
theorem DM(h:Sub x b)(c:b<2^n):r b+sz x<=r x+sz b:=by
 let hx:=h.lt c;let d:∀i,i<=n->r (Kd x b i)+sz x<=r x+sz (Kd x b i):=by
  intro i
  induction i with
  |zero=>intro _;show RJ _
  |succ i a=>
   intro f;let a:=a ();rw[eS];let hl:=i6 (t:=b) hx i ();split
   .generalize Kd x b i=u at*;cases e:u.testBit i with
    |true=>rw[c5 e];show a
    |false=>
     rw[c6 u (M.bF hl) i (by have:=M.n8;lia) e];have:=(M.step u i hl ()).2;lia
   .show a
 have:=d n (RJ _);rwa[ko c,t7 h]at this
theorem iV(h:Sub x b)(a:b<2^n)(e:r b=sz b):r x=sz x:=by have c:=M.DM h a;let d:=M.wZ x (h.lt a);lia
theorem uY(f:∀z,z∈ms↔∃b:Nat,b<2^n/\z=(b:Int)/\r b=sz b/\r b=r (2^n-1))(a:s<2^n):ag ms s=r s:=by
 let(g,_,e,w,G):=M.extend (s:=0) (t:=s) (λk h=>by rw[SN]at h;cases h) a (by rw[M.zero,i7]);let(b,v,o,d,p):=M.extend (t:=2^n-1) (sL (e.lt a)) (dg n) w;let c:b<2^n:=o.lt (dg n);let key:∀b:Nat,b<2^n->r b=sz b->sz (s&&&b)<=r s:=λb j q=>by rw[<-M.iV (vS s b) j q];show M.mono (pI s b) a
 show qM #[(b:Int),(f _).mpr #[b,c,2,d,p],6] λm y=> ?_
 .rw[RA];let A:=key b c d;let B:sz g<=sz (s&&&b):=lP λk _ x=>KP e v k x;lia
 .let(i,l,rfl,u,_):=(f m).mp y;rw[RA];show key i l u
theorem MX(f:∀z,z∈ms↔∃b:Nat,b<2^n/\z=(b:Int)/\r b=sz b/\r b=r (2^n-1)):ms≠[]:=by let(b,_,a,d,c):=M.extend (s:=0) (t:=2^n-1) (λk h=>by rw[SN]at h;cases h) (dg n) (by rw[M.zero,i7]);intro e;have:=(f (b:Int)).mpr #[b,a.lt (dg n),2,d,c];rw[e]at this;cases this
end z8
noncomputable def cq(a:qs)(s:Nat):List Nat:=(yn s).map λz:Int=>a.getD z.toNat 0
theorem dR{c:qs}{s v:Nat}:v∈cq c s↔∃k,k<8/\s.testBit k=true/\v=c.getD k 0:=by
 unfold cq;rw[RM];constructor
 .rintro⟨z,hz,rfl⟩;let(k,b,a,rfl):=aM.mp hz;show#[k,b,a,by rw[RA]]
 .rintro⟨k,b,a,rfl⟩;show#[(k:Int),aM.mpr #[k,b,a,2],by rw[RA]]
noncomputable def Yh(a:qs)(s:Nat):Nat:=X1 (cq a s)
theorem BF(c:qs)(f:k<8):Yh c (s|||2^k)=X1 (cq c s++[c.getD k 0]):=by
 show TL (pZ λv a=> ?_) (pZ λv a=> ?_)
 .let(j,d,b,rfl):=dR.mp a;rw[aR]at b;by_cases e:k=j
  .subst e;show .of_mem (Sf _ (RY.mpr rfl))
  .rw[RL e,S9]at b;show .of_mem (SF _ (dR.mpr #[j,d,b,2]))
 .rcases R9.mp a with a|a
  .let(j,d,b,rfl):=dR.mp a;show .of_mem (dR.mpr #[j,d,by rw[aR,b];rfl,2])
  .rw[RY.mp a];show .of_mem (dR.mpr #[k,f,by rw[aR];simp,2])
theorem Ax(a:qs)(e:n<=8):z8 n (Yh a):=by
 show#[e,6,λs k m l=> ?_,λs j k m p l b c=> ?_]
 .show X1 (cq a 0)=0;have:yn 0=[]:=∅
  have:cq a 0=[]:=by unfold cq;rw[this];rfl
  rw[this];rfl
 .rw[BF a ()];change X1 _<=_/\_<=X1 _+1;by_cases h:bC (cq a s) (a.getD k 0)
  .rw[tK h];lia
  .rw[jG h];lia
 .rw[BF a ()]at b c⊢;let q:bC (cq a s) (a.getD j 0):=by show So λh=> ?_;rw[jG h]at b;have:X1 (cq a s)+1=X1 (cq a s):=b;lia
  let o:bC (cq a s) (a.getD k 0):=by show So λh=> ?_;rw[jG h]at c;have:X1 (cq a s)+1=X1 (cq a s):=c;lia
  let sub:∀v∈cq a s,v∈cq a (s|||2^j):=λv d=>by let(i,g,f,rfl):=dR.mp d;show dR.mpr #[i,g,by rw[aR,f];rfl,2]
  rw[tK (o.sub λv d=> .of_mem (sub v d))];change Yh a (s|||2^j)=_;rw[BF a ()];show b
noncomputable def Ym(m:Nat)(gone:qR)(s:Nat):Nat:=min (sz s) m- (if(s:Int)∈gone then 1 else 0)
structure lK(n m:Nat)(gone:qR):Prop where
 size:∀z∈gone,∃s:Nat,s<2^n/\z=(s:Int)/\sz s=m
 far:ZK (m:Int) gone
 mid:gone=[]\/(0<m/\m<n)
theorem lK.not(h:lK n m gone)(a:¬sz s=m):¬(s:Int)∈gone:=λb=>by
 let(t,_,e,c):=h.size _ b;have:s=t:=()
 rw[this]at a;show a c
theorem CQ{s j k:Nat}(c:s.testBit j=false)(e:s.testBit k=false)(d:j≠k):(s|||2^j)&&& (s|||2^k)=s:=Sa λi=>by
 rw[Sr,aR,aR];by_cases a:j=i
 .subst a;rw[c,RL (TF d)];simp
 .by_cases b:k=i
  .subst b;rw[e,RL a];simp
  .rw[RL a,RL b];simp
theorem Jl(r:n<=8)(h:lK n m gone):z8 n (Ym m gone):=by
 let c:∀ {s},s<2^n->s<256:=λa=>RK a (NF r);let one:∀(s:Nat),(if(s:Int)∈gone then 1 else 0)<=1:=λs=>by split<;>lia
 let b:∀ {s:Nat},¬sz s=m->Ym m gone s=min (sz s) m:=λa=>by unfold Ym;rw[RQ (h.not a)];rfl
 let t:∀(s:Nat),Ym m gone s<=min (sz s) m/\min (sz s) m<=Ym m gone s+1:=λs=>by unfold Ym;have:=one s;lia
 show#[r,6,λs k a A=> ?_,λs j k a z A p w=> ?_]
 .unfold Ym;rw[i7];lia
 .cases e:s.testBit k with
  |true=>rw[c5 e];lia
  |false=>
   let hz:=c6 s (c a) k () e;let L:=t s;let l2:=t (s|||2^k);by_cases f:sz s=m
   .let J:=b (s:=s|||2^k) ();lia
   .let H:=b f;by_cases g:sz (s|||2^k)=m
    .lia
    .let J:=b g;lia
 .cases i:s.testBit j with
  |true=>rw[c5 i];show w
  |false=>
   cases d:s.testBit k with
   |true=>
    let B:(s|||2^j).testBit k=true:=by rw[aR,d];rfl
    rw[c5 B];show p
   |false=>
    by_cases l:j=k
    .subst l;rw[c5 (by rw[aR];simp)];show p
    .let N:=c6 s (c a) j () i;let Q:=c6 s (c a) k () d;let q:(s|||2^j).testBit k=false:=by rw[aR,d,RL l];rfl
     let O:=c6 (s|||2^j) (c (aJ a z)) k () q;by_cases f:sz s=m
     .let K:=b (s:=s|||2^j) ();let M:=b (s:=s|||2^j|||2^k) ();lia
     .let H:=b f;by_cases g:sz (s|||2^j)=m
      .exfalso;let x:((s|||2^j:Nat):Int)∈gone:=by
        show So λo=> ?_;have:Ym m gone (s|||2^j)=min (sz (s|||2^j)) m:=by unfold Ym;rw[RQ o];rfl
        lia
       let y:((s|||2^k:Nat):Int)∈gone:=by
        show So λo=> ?_;have:Ym m gone (s|||2^k)=min (sz (s|||2^k)) m:=by unfold Ym;rw[RQ o];rfl
        lia
       let G:((s|||2^j:Nat):Int)≠((s|||2^k:Nat):Int):=λe=>by
        let v:s|||2^j=s|||2^k:=()
        have:(s|||2^j).testBit k=(s|||2^k).testBit k:=by rw[v]
        rw[q,aR]at this;simp at this
       have:=h.far _ x _ y G;rw[RA,RA,CQ i d l]at this;lia
      .let K:=b g;let ok:=b (s:=s|||2^k) ();by_cases u:sz (s|||2^j|||2^k)=m
       .lia
       .have:=b u;lia
theorem o6(p q:Nat->Bool):∀l:List Nat,(l.filter λk=>p k&&q k).length+(l.filter λk=>p k&& !q k).length=(l.filter p).length
 | []=>rfl
 |k::l=>by have c:=o6 p q l;rw[Tg,Tg,Tg];cases a:p k<;>cases b:q k<;>simp[a,b]<;>lia
theorem GL{s a b:Nat}(q:Nat->Bool)(f:∀k,k<8->a.testBit k=(s.testBit k&&q k))(g:∀k,k<8->b.testBit k=(s.testBit k&& !q k)):sz a+sz b=sz s:=by rw[kr,kr,kr,<-o6 s.testBit q (range 8)];let d:(range 8).filter a.testBit=(range 8).filter λk=>s.testBit k&&q k:=Ut λk c=>f k (R1.mp c);let e:(range 8).filter b.testBit=(range 8).filter λk=>s.testBit k&& !q k:=Ut λk c=>g k (R1.mp c);rw[d,e]
theorem FJ(a:b<2^n):2^n-1-b=aB (2^n-1) b:=Sa λi=>by rw[gQ,SK,show 2^n-1-b=2^n- (b+1) by lia,Nat.testBit_two_pow_sub_succ a]
theorem cG{n s:Nat}(k:Nat):(aB (2^n-1) s).testBit k=(decide (k<n)&& !s.testBit k):=by rw[gQ,SK]
theorem aS{n s k:Nat}(a:s<2^n)(h:s.testBit k=true):k<n:=by grind [T2,Sv,RK,R7]
theorem KN(e:n<=8)(d:s<2^n):sz s+sz (aB (2^n-1) s)=n:=by
 let h:=GL (s:=2^n-1) (a:=s) (b:=aB (2^n-1) s) s.testBit (λk _=> ?_) λk _=> ?_
 .rw[h];show Bi n ()
 .rw[SK];cases c:s.testBit k with
  |false=>rw[Vt]
  |true=>rw[RE (aS d c)];rfl
 .rw[cG,SK]
noncomputable def lC(n:Nat)(r:Nat->Nat)(s:Nat):Nat:=sz s+r (aB (2^n-1) s) -r (2^n-1)
namespace z8
variable{n:Nat}{r:Nat->Nat}(M:z8 n r)
include M
theorem MR(a:s<2^n):r (2^n-1)<=sz s+r (aB (2^n-1) s):=by have hl:aB (2^n-1) s<2^n:=RD (eM _ _) (dg n);let h:=M.DM (sL hl) (dg n);let b:=KN M.n8 a;let c:=Bi n (by have:=M.n8;lia);lia
theorem fJ(a:s<2^n):((lC n r s:Nat):Int)=(sz s:Int)+(r (aB (2^n-1) s):Nat) - (r (2^n-1):Nat):=by have:=M.MR a;unfold lC;lia
end z8
end Bh
namespace L2
section
variable{t u:TS}{σ:St}{H:Hp}{n:St->Hp->Prop}{r:VK}{b c:St->Hp->Prop}
theorem ao(h:∀N:St->Hp->Prop,(∀a H',u #[n,r,b,c] a H'->N a H')->t #[N,r,b,c] σ H):Eh t u #[n,r,b,c] σ H:=h _ λ_ _ x=>x
theorem Cf(d:St->Hp->Prop)(e:∀a H',d a H'->u #[n,r,b,c] a H')(h:∀N:St->Hp->Prop,(∀a H',d a H'->N a H')->t #[N,r,b,c] (σ.set i (some v)) H):aH i v σ H (Eh t u #[n,r,b,c]):=h _ e
theorem d3(d:St->Hp->Prop)(e:∀a H',d a H'->u #[n,r,b,c] a H')(h:∀N:St->Hp->Prop,(∀a H',d a H'->N a H')->t #[N,r,b,c] σ H):Eh t u #[n,r,b,c] σ H:=h _ e
end
theorem MC{b:Type}{p:List b->Prop}(h:p [])(us:List b)(e:us.length=0):p us:=by
 cases us with
 |nil=>show h
 |cons a r=>cases e
theorem Ju{b:Type}{p:List b->Prop}(h:∀(a:b)(r:List b),r.length=n->p (a::r))(us:List b)(e:us.length=n+1):p us:=by
 cases us with
 |nil=>cases e
 |cons a r=>show h a r (Nat.succ.inj e)
theorem qw{b:Type}{p:List b->Prop}(h:∀a,p [a])(us:List b)(e:us.length=1):p us:=Ju (p:=p) (λa r=>MC (p:=λr=>p (a::r)) (h a) r) us e
theorem Fy{c:Type}{p:List c->Prop}(h:∀a b,p [a,b])(us:List c)(e:us.length=2):p us:=Ju (p:=p) (λa r=>qw (p:=λr=>p (a::r)) (h a) r) us e
theorem MB{d:Type}{p:List d->Prop}(h:∀a b c,p [a,b,c])(us:List d)(e:us.length=3):p us:=Ju (p:=p) (λa r=>Fy (p:=λr=>p (a::r)) (h a) r) us e
theorem MA{f:Type}{p:List f->Prop}(h:∀a b c d,p [a,b,c,d])(us:List f)(e:us.length=4):p us:=Ju (p:=p) (λa r=>MB (p:=λr=>p (a::r)) (h a) r) us e
theorem Pl{g:Type}{p:List g->Prop}(h:∀a b c d f,p [a,b,c,d,f])(us:List g)(e:us.length=5):p us:=Ju (p:=p) (λa r=>MA (p:=λr=>p (a::r)) (h a) r) us e
end L2
namespace Bh
theorem jd{s h t:Nat}:(bL s h).testBit t=true↔∃j,(yn h)[j]?=some (t:Int)/\s.testBit j=true:=by
 unfold bL;rw[zN λz hz=>(qP z hz).1,wU];constructor
 .rintro⟨j,b,a⟩;show#[j,b,by rwa[Ux]at a]
 .rintro⟨j,b,a⟩;show#[j,b,by rw[Ux];show a]
theorem PM{h j t:Nat}(b:(yn h)[j]?=some (t:Int)):h.testBit t=true:=by
 let(k,_,a,e):=aM.mp (RG b);have:t=k:=()
 rw[this];show a
theorem nh(s h:Nat):Sub (bL s h) h:=λt b=>by let(j,a,_):=jd.mp b;show PM a
noncomputable def uw(r:Nat->Nat)(k w:Nat)(s:Nat):Nat:=r (bL s k|||w) -r w
theorem z8.min_int(M:z8 n r)(c:k<2^n)(d:w<2^n)(s:Nat):((uw r k w s:Nat):Int)=(r (bL s k|||w):Nat) - (r w:Nat):=by
 let a:bL s k|||w<2^n:=SQ ((nh s k).lt c) d;let b:Sub w (bL s k|||w):=λt h=>by rw[Ta,h,WI]
 have:=M.mono b a;unfold uw;lia
theorem rY{s k:Nat}(h:s.testBit k=true):s|||2^k=s:=Sa λj=>by
 rw[aR];by_cases e:k=j
 .subst e;rw[h];rfl
 .rw[RL e,S9]
theorem BW(s k:Nat):s|||2^k|||2^k=s|||2^k:=by rw[UZ,Nat.or_self]
theorem ye(s j k:Nat):s|||2^j|||2^k=s|||2^k|||2^j:=by rw[UZ,adJ (2^j),<-UZ]
theorem iS(b:s<2^n)(a:k<n):s|||2^k<2^n:=SQ b (T8 () a)
theorem sd{n s k:Nat}(a:k<n)(h:s.testBit k=false):aB (2^n-1) (s|||2^k)|||2^k=aB (2^n-1) s:=Sa λj=>by
 rw[aR,cG,cG,aR];by_cases e:k=j
 .subst e;rw[h,RE a,RE rfl];rfl
 .rw[RL e,S9,S9]
theorem Fx(n:Nat):aB (2^n-1) 0=2^n-1:=Sa λj=>by rw[cG,SN,SK];simp
theorem sy{s k:Nat}(b:s<256)(a:k<8)(h:s.testBit k=false):sz (s|||2^k)=sz s+1:=c6 s b k a h
theorem AE:aB (2^n-1) s<2^n:=RD (eM _ _) (by have:0<2^n:=Su ();lia)
theorem sz0:sz 0=0:=∅
theorem z8.dual(M:z8 n r):z8 n (lC n r):=by
 let H:=M.n8;show#[H,6,λs k b a=> ?_,λs j k b c a i A=> ?_]
 .unfold lC;rw[Fx,sz0];lia
 .by_cases l:s.testBit k=true
  .rw[rY l];lia
  .let m:s.testBit k=false:=#[5,l]
   let K:=M.fJ b;let x:=M.fJ (iS b a);let y:=sd a m;let z:=(M.step (aB (2^n-1) (s|||2^k)) k AE a);rw[y]at z;rw[sy (M.bF b) () m]at x;lia
 .by_cases o:s.testBit j=true
  .rw[rY o];show A
  by_cases q:s.testBit k=true
  .rw[ye,rY q];show i
  by_cases f:j=k
  .subst f;rw[BW];show i
  let g:s.testBit j=false:=#[5,o]
  let t:s.testBit k=false:=#[5,q]
  let B:(s|||2^k).testBit j=false:=by rw[aR,g,RL (λe=>f e.symm)];rfl
  let p:(s|||2^j).testBit k=false:=by rw[aR,t,RL f];rfl
  let h:=iS b c;let lk:=iS b a;let G:=iS h a;let d0:=M.fJ b;let v:=M.fJ h;let w:=M.fJ lk;let J:=M.fJ G;let L:=sy (M.bF b) (show j<8 by lia) g;let N:=sy (M.bF b) (show k<8 by lia) t;let O:=sy (M.bF h) (show k<8 by lia) p;let u1:=sd (n:=n) a p;let u2:=sd (n:=n) c B;rw[<-ye s j k]at u2;let u3:=sd (n:=n) c g;let d:aB (2^n-1) (s|||2^j|||2^k)<2^n:=AE;generalize aB (2^n-1) (s|||2^j|||2^k)=u at*;rw[<-u3,<-u1]at d0;rw[<-u1]at v;rw[<-u2]at w;let sub:=M.sub u k j d a c;let Q:=M.step u j d c;let U:=M.step u k d a;let ab:=M.step (u|||2^k) j (iS d a) c;lia
theorem pJ{k i:Nat}(d:i<sz k):∃t,k.testBit t=true/\∀s,bL (s|||2^i) k=bL s k|||2^t:=by
 let f:i<(yn k).length:=d;let hz:(yn k)[i]?=some (yn k)[i]:=RR f;generalize (yn k)[i]=z at hz;let(t,_,c,rfl):=aM.mp (RG hz);show#[t,c,λs=>Sa λj=> ?_];rw[SV,jd,aR,TN,jd];constructor
 .rintro⟨m,b,a⟩;rw[aR,TN]at a;rcases a with a|a
  .show .inl #[m,b,a]
  .let e:=RV a;subst e;rw[hz]at b;have:=Sm b;show .inr (RE ())
 .rintro(⟨m,b,a⟩|h)
  .show#[m,b,by rw[aR,a];rfl]
  .let e:=RV h;subst e;show#[i,hz,by rw[aR,RE rfl,WI]]
theorem zw(k:Nat):bL 0 k=0:=Sa λt=>by
 rw[SN];cases h:(bL 0 k).testBit t with
 |false=>rfl
 |true=>
  let(j,_,a):=jd.mp h;rw[SN]at a;cases a
theorem t9(a b w:Nat):a|||b|||w=a|||w|||b:=by rw[UZ,adJ b w,<-UZ]
theorem z8.minor(M:z8 n r)(a:k<2^n)(b:w<2^n):z8 (sz k) (uw r k w):=by
 let m:∀s,bL s k|||w<2^n:=λs=>SQ ((nh s k).lt a) b;show#[bq k,6,λs i v d=> ?_,λs i j v d q z A=> ?_]
 .unfold uw;rw[zw,W2];lia
 .let(t,f,e):=pJ d;let g:=aS a f;let h:=M.min_int a b s;let c:=M.min_int a b (s|||2^i);rw[e,t9]at c;have:=M.step _ t (m s) g;lia
 .let(t,f,e):=pJ d;let(u,x,l):=pJ q;let g:=aS a f;let un:=aS a x;let y:=M.min_int a b s;let h:=M.min_int a b (s|||2^i);let c:=M.min_int a b (s|||2^j);let o:=M.min_int a b (s|||2^i|||2^j);rw[e,t9]at h;rw[l,t9]at c;let p:bL (s|||2^i|||2^j) k|||w=bL s k|||w|||2^t|||2^u:=by rw[l,e,t9 _ (2^u) w,t9 _ (2^t) w]
  rw[p]at o;have:=M.sub _ t u (m s) g un () ();lia
theorem r6{n s j:Nat}:(s % 2^n).testBit j=(decide (j<n)&&s.testBit j):=by rw[Nat.testBit_mod_two_pow]
theorem nN(a:k<n):(s|||2^k) % 2^n=s % 2^n|||2^k/\(s|||2^k) /2^n=s/2^n:=by
 show#[Sa λj=> ?_,Sa λj=> ?_]
 .rw[r6,aR,aR,r6];by_cases e:k=j
  .subst e;simp[a]
  .simp[e]
 .rw[TJ,TJ,aR,RL (),S9]
theorem jL(b:n<=k):(s|||2^k) % 2^n=s % 2^n/\(s|||2^k) /2^n=s/2^n|||2^(k-n):=by
 show#[Sa λj=> ?_,Sa λj=> ?_]
 .rw[r6,aR,r6];by_cases a:j<n
  .rw[RL (show¬k=j by lia),S9]
  .rw[RL a];rfl
 .rw[TJ,aR,aR,TJ];congr 1;show S4.mpr #[λh=>(),λh=>()]
noncomputable def j3(a:Nat)(b c:Nat->Nat)(s:Nat):Nat:=b (s % 2^a)+c (s/2^a)
theorem z8.side(M1:z8 g r1)(M2:z8 m r2)(u:g+m<=8):z8 (g+m) (j3 g r1 r2):=by
 let p1:0<2^g:=Su ();let t:∀s,s % 2^g<2^g:=λs=>VR _ p1;let r:∀s,s<2^(g+m)->s/2^g<2^m:=λs l=>by rw[ab9 p1,<-V7,WJ m g];show l
 show#[u,6,λs k l v=> ?_,λs j k l w v o p=> ?_]
 .unfold j3;rw[Nat.zero_mod,Nat.zero_div,M1.zero,M2.zero]
 .unfold j3;by_cases h:k<g
  .let(a,b):=nN (s:=s) h;rw[a,b];have:=M1.step _ k (t s) h;lia
  .let(a,b):=jL (n:=g) (s:=s) (k:=k) ();rw[a,b];have:=M2.step _ (k-g) (r s l) ();lia
 .unfold j3 at*;by_cases q:j<g<;>by_cases i:k<g
  .let(a,b):=nN (s:=s) q;let(c,d):=nN (s:=s) i;let(e,f):=nN (s:=s|||2^j) i;rw[a,b]at o;rw[c,d]at p;rw[e,f,a,b];have:=M1.sub _ j k (t s) q i () ();lia
  .let(a,b):=nN (s:=s) q;let(c,d):=jL (n:=g) (s:=s) (k:=k) ();let(e,f):=jL (n:=g) (s:=s|||2^j) (k:=k) ();rw[a,b]at o;rw[c,d]at p;rw[e,f,a,b];lia
  .let(a,b):=jL (n:=g) (s:=s) (k:=j) ();let(c,d):=nN (s:=s) i;let(e,f):=nN (s:=s|||2^j) i;rw[a,b]at o;rw[c,d]at p;rw[e,f,a,b];lia
  .let(a,b):=jL (n:=g) (s:=s) (k:=j) ();let(c,d):=jL (n:=g) (s:=s) (k:=k) ();let(e,f):=jL (n:=g) (s:=s|||2^j) (k:=k) ();rw[a,b]at o;rw[c,d]at p;rw[e,f,a,b];have:=M2.sub _ (j-g) (k-g) (r s l) () () () ();lia
theorem lD{s k:Nat}(h:s.testBit k=true):Sub (s^^^2^k) s:=λj a=>by rw[dH h,RZ]at a;show a.1
theorem ma{s k:Nat}(h:s.testBit k=true):(s^^^2^k)|||2^k=s:=Sa λj=>by
 rw[aR,dH h];by_cases e:k=j
 .subst e;rw[h];simp
 .rw[RL e];simp
theorem fF(s t:Nat):Sub s (s|||t):=λj h=>by rw[Ta,h];rfl
theorem sJ(s t:Nat):Sub t (s|||t):=λj h=>by rw[Ta,h,WI]
theorem Bk(h:Sub s u)(g:Sub t u):Sub (s|||t) u:=λj a=>by rw[Ta,TN]at a;show a.elim (h j) (g j)
theorem Bl(h:Sub s t)(g:Sub t s):s=t:=Sa λj=>by
 cases e:t.testBit j with
 |true=>show g j e
 |false=>
  cases a:s.testBit j with
  |true=>rw[h j a]at e;cases e
  |false=>rfl
theorem Me{s t:Nat}(h:¬Sub s t):∃k,s.testBit k=true/\t.testBit k=false:=by
 show So λb=>h λk a=> ?_;cases e:t.testBit k with
 |true=>rfl
 |false=>show absurd #[k,a,e] b
theorem zu{s t k:Nat}(h:Sub s t)(b:s.testBit k=false)(c:t.testBit k=true):Sub s (t^^^2^k):=λj a=>by
 rw[dH c,h j a];by_cases e:k=j
 .subst e;rw[b]at a;cases a
 .rw[RL e];rfl
def iZ(r:Nat->Nat)(c:Nat):Prop:=r c<sz c/\∀k,c.testBit k=true->r (c^^^2^k)=sz (c^^^2^k)
def iy(n:Nat)(r:Nat->Nat)(f:Nat):Prop:=f<2^n/\∀k,k<n->f.testBit k=false->r (f|||2^k)=r f+1
def mY(n:Nat)(r:Nat->Nat)(b:Nat):Prop:=b<2^n/\r b=sz b/\r b=r (2^n-1)
noncomputable def XR(n:Nat)(r:Nat->Nat)(s:Nat):Nat:=Bx (((range n).filter λk=>decide (r (s|||2^k)=r s)).map λk:Nat=>(k:Int))
namespace z8
variable{n:Nat}{r:Nat->Nat}(M:z8 n r)
include M
theorem fi{s k:Nat}(b:s<2^n)(a:s.testBit k=true):s^^^2^k<2^n:=(lD a).lt b
theorem iO{s k:Nat}(b:s<2^n)(a:s.testBit k=true):sz (s^^^2^k)+1=sz s:=
 KO s (M.bF b) k (RK (aS b a) M.n8) a
theorem exch{b c k:Nat}(a:mY n r b)(g:mY n r c)(h:b.testBit k=true)(m:c.testBit k=false):
  ∃y,c.testBit y=true/\b.testBit y=false/\mY n r ((b^^^2^k)|||2^y):=by
 let d:=M.fi a.1 h;let v:r (b^^^2^k)=sz (b^^^2^k):=M.iV (lD h) a.1 a.2.1;let hz:=M.iO a.1 h;show So λq=> ?_;let all:∀y,c.testBit y=true->r ((b^^^2^k)|||2^y)=r (b^^^2^k):=λy j=>by
  show So λi=>q #[y,j,66]
  .cases e:b.testBit y with
   |false=>rfl
   |true=>
    show absurd ?_ i;rw[c5];rw[dH h,e];by_cases f:k=y
    .subst f;rw[j]at m;cases m
    .rw[RL f];rfl
  .let l:=aS g.1 j;let st:=M.step _ y d l;let p:(b^^^2^k).testBit y=false:=by
    cases e:(b^^^2^k).testBit y with
    |false=>rfl
    |true=>rw[c5 e]at i;show absurd rfl i
   let w:=c6 _ (M.bF d) y (RK l M.n8) p;let o:=a.2.1;let f:=a.2.2;show#[aJ d l,99]
 let t:=M.closed d g.1 all;let u:=M.mono (sJ (b^^^2^k) c) (SQ d g.1);let o:=a.2.1;let f:=a.2.2;let s:=g.2.2;lia
theorem xW{c:Nat}(b:c<2^n)(h:iZ r c)(a:c.testBit k=true):r (c^^^2^k|||2^k)=r (c^^^2^k):=by rw[ma a];let d:=h.2 k a;let e:=M.iO b a;let f:=M.mono (lD a) b;let g:=h.1;lia
theorem Dv:∀(z s:Nat),sz s=z->s<2^n->r s<sz s->∃c,Sub c s/\iZ r c:=by
 intro z
 induction z with
 |zero=>intro s e _ h;lia
 |succ z l=>
  intro s e d h;by_cases b:∀k,s.testBit k=true->r (s^^^2^k)=sz (s^^^2^k)
  .show#[s,Sub.refl _,h,b]
  .let(k,a):=Classical.not_forall.mp b;let(a,j):=Classical.not_imp.mp a;let hl:=M.fi d a;let f:=M.wZ _ hl;let m:=M.iO d a;let(c,i,g):=l _ () hl (Wa f j);show#[c,i.trans (lD a),g]
theorem AN(b:s<2^n):r s=sz s↔∀c,iZ r c->¬Sub c s:=by
 constructor
 .intro h c a f;have:=M.iV f b h;have:=a.1;lia
 .intro h;show So λe=> ?_;let(c,a,d):=M.Dv _ s rfl b (Wa (M.wZ s b) e);show h c d a
theorem Du(h:iZ r c):c≠0:=λe=>by have:=h.1;rw[e,i7]at this;show absurd this (Ve _)
theorem tN(f:iZ r c)(g:d<2^n)(b:iZ r d)(h:Sub c d):c=d:=by
 show Bl h λk a=> ?_;cases e:c.testBit k with
 |true=>rfl
 |false=>
  have:=M.iV (zu h e a) (M.fi g a) (b.2 k a);have:=f.1;lia
theorem third{c d k:Nat}(g:c<2^n)(q:d<2^n)(hC:iZ r c)(p:iZ r d)(x:c≠d)(kc:c.testBit k=true)(kd:d.testBit k=true):
  ∃e,iZ r e/\Sub e ((c|||d)^^^2^k):=by
 let b:c|||d<2^n:=SQ g q;let l:(c|||d).testBit k=true:=fF c d k kc;let(j,m,w):=Me (λh=>x (M.tN hC q p h));let f:(c|||d).testBit j=true:=fF c d j m;let z:=aS g kc;let y:=aS g m;let s:r ((c|||d)^^^2^k|||2^k)=r ((c|||d)^^^2^k):=M.keep (λi a=>by rw[dH kc,RZ]at a;rw[dH l,fF c d i a.1,a.2];rfl) (M.fi b l) z (M.xW g hC kc)
 let t:r ((c|||d)^^^2^j|||2^j)=r ((c|||d)^^^2^j):=M.keep (λi a=>by rw[dH m,RZ]at a;rw[dH f,fF c d i a.1,a.2];rfl) (M.fi b f) y (M.xW g hC m)
 rw[ma l]at s;rw[ma f]at t;let o:=M.fi b f;let A:r ((c|||d)^^^2^j)≠sz ((c|||d)^^^2^j):=λe=>by have:=M.iV (zu (sJ c d) w f) o e;have:=p.1;lia
 let B:=M.wZ _ o;let G:=M.iO b f;let H:=M.iO b l;let(e,u,v):=M.Dv _ ((c|||d)^^^2^k) rfl (M.fi b l) ();show#[e,v,u]
theorem jW(s k:Nat):(XR n r s).testBit k=true↔k<n/\r (s|||2^k)=r s:=by grind [XR,zN,RM.mp,S1,Sn.mp,R1.mp,RM.mpr,Sn.mpr,R1.mpr]
theorem xt(s:Nat):XR n r s<2^n:=Vd _ λi a=>by
 cases e:(XR n r s).testBit i with
 |false=>rfl
 |true=>show absurd ((M.jW s i).mp e).1 (WH a)
theorem AZ(b:s<2^n):Sub s (XR n r s):=λk a=>(M.jW s k).mpr #[aS b a,by rw[c5 a]]
theorem MU(a:s<2^n):r (XR n r s)=r s:=by
 have:=M.closed a (M.xt s) λk b=>((M.jW s k).mp b).2
 rwa [t7 (M.AZ a)]at this
theorem yP(b:s<2^n):iy n r (XR n r s):=by
 show#[M.xt s,λk a d=> ?_];let st:=M.step _ k (M.xt s) a;show So λf=> ?_;let e:r (XR n r s|||2^k)=r (XR n r s):=()
 let c:r (s|||2^k)=r s:=by have m1:=M.mono (s:=s|||2^k) (t:=XR n r s|||2^k) (Bk ((M.AZ b).trans (fF _ _)) (sJ _ _)) (aJ (M.xt s) a);let m2:=(M.step s k b a).1;let m3:=M.MU b;lia
 have:=(M.jW s k).mpr #[a,c];rw[d]at this;cases this
theorem uT(b:iy n r f)(h:Sub s f):Sub (XR n r s) f:=λk d=>by
 let(a,c):=(M.jW s k).mp d;cases e:f.testBit k with
 |true=>rfl
 |false=>
  let g:=M.keep h b.1 a c;let i:=b.2 k a e;lia
theorem FO:iy n r (2^n-1):=#[dg n,λk b a=>by rw[SK,RE b]at a;cases a]
theorem JS(c:iy n r f)(h:iy n r g):iy n r (f&&&g):=by
 let hl:=(pI f g).lt c.1;show#[hl,λk a b=> ?_];let st:=M.step _ k hl a;show So λl=> ?_;let d:r ((f&&&g)|||2^k)=r (f&&&g):=()
 rw[Sr]at b;cases e:f.testBit k with
 |false=>
  let i:=M.keep (pI f g) c.1 a d;let j:=c.2 k a e;lia
 |true=>
  rw[e,T1]at b;let i:=M.keep (vS f g) h.1 a d;let j:=h.2 k a b;lia
theorem FN{f x t:Nat}(b:iy n r f)(hx:x<n)(i:f.testBit x=false)(e:(XR n r (f|||2^x)).testBit t=true)(h:f.testBit t=false):
  XR n r (f|||2^t)=XR n r (f|||2^x):=by
 let(g,o):=(M.jW _ t).mp e;let d:=aJ b.1 hx;let c:=aJ b.1 g;let l:=b.2 x hx i;let m:=b.2 t g h;let j:r (f|||2^t|||2^x)=r (f|||2^t):=by rw[ye];lia
 show Bl (M.uT (M.yP d) (Bk ((fF _ _).trans (M.AZ d)) λk a=> ?_)) (M.uT (M.yP c) (Bk ((fF _ _).trans (M.AZ c)) λk a=> ?_))
 .rw[TV]at a;have:=RV a;subst this;show e
 .rw[TV]at a;have:=RV a;subst this;show(M.jW _ _).mpr #[hx,j]
theorem MP{s:Nat}(b:s<2^n):r s=sz s↔∀k,s.testBit k=true->(XR n r (s^^^2^k)).testBit k=false:=by
 constructor
 .intro h k a;cases e:(XR n r (s^^^2^k)).testBit k with
  |false=>rfl
  |true=>
   let f:=((M.jW _ k).mp e).2;rw[ma a]at f;let p:=M.iV (lD a) b h;let q:=M.iO b a;lia
 .intro h;show(M.AN b).mpr λc l i=> ?_;let m:=i.lt b;obtain⟨k,a⟩:∃k,c.testBit k=true:=So λo=>M.Du l (Sa λj=>by
   rw[SN];cases e:c.testBit j with
   |false=>rfl
   |true=>show absurd #[j,e] o)
  let d:=i k a;let f:=M.keep (s:=c^^^2^k) (t:=s^^^2^k) (λj g=>by rw[dH a,RZ]at g;rw[dH d,i j g.1,g.2];rfl) (M.fi b d) (aS m a) (M.xW m l a)
  have:=h k d;rw[(M.jW _ k).mpr #[aS b d,f]]at this;cases this
end z8
noncomputable def nY(n:Nat)(fs:qs)(s:Nat):Nat:=fs.foldl (λl f=>if s&&&f=s then l&&&f else l) (2^n-1)
theorem dZ:s&&&f=s↔Sub s f:=by
 constructor
 .intro h k a;rw[<-h,Sr,RZ]at a;show a.2
 .intro h;show Sa λk=> ?_;rw[Sr];cases e:s.testBit k with
  |false=>rfl
  |true=>rw[h k e];rfl
theorem nX(s k:Nat):∀(fs:qs)(l:Nat),(fs.foldl (λl f=>if s&&&f=s then l&&&f else l) l).testBit k=true↔l.testBit k=true/\∀f∈fs,s&&&f=s->f.testBit k=true
 | [],l=>by simp
 |f::fs,l=>by
  rw[SD,nX s k fs];by_cases h:s&&&f=s
  .rw[RF h,Sr,RZ];constructor
   .rintro⟨⟨d,b⟩,e⟩;show#[d,λg a c=> ?_];rcases RT.mp a with rfl|a
    .show b
    .show e g a c
   .rintro⟨d,b⟩;show#[#[d,b f (RH ..) h],λg a c=>b g (RI _ a) c]
  .rw[RQ h];constructor
   .rintro⟨d,b⟩;show#[d,λg a c=> ?_];rcases RT.mp a with rfl|a
    .show absurd c h
    .show b g a c
   .rintro⟨d,b⟩;show#[d,λg a c=>b g (RI _ a) c]
theorem z8.leastF_cl(M:z8 n r)(b:∀f,f∈fs↔iy n r f)(c:s<2^n):nY n fs s=XR n r s:=by
 show Bl (λk a=> ?_) λk a=> ?_
 .let h:=(nX s k fs _).mp a;show h.2 _ ((b _).mpr (M.yP c)) (dZ.mpr (M.AZ c))
 .show(nX s k fs _).mpr #[6,λf d e=>M.uT ((b f).mp d) (dZ.mp e) k a];rw[SK];show RE (aS (M.xt s) a)
theorem lB{u t:Nat}(h:u.testBit t=true):aB u (2^t)=u^^^2^t:=by
 unfold aB;show Se (λx=>u^^^x) (Sa λj=> ?_);rw[Sr,TV];by_cases e:t=j
 .subst e;rw[h,RE rfl];rfl
 .rw[RL e,Vt]
end Bh
namespace L2
open PySem PySem.Spec PyProof.Rows
section
variable{κ:Type}[DecidableEq κ]
noncomputable def dA(kvs:List (κ×V))(k:κ):Option V:=(kvs.find? λa=>decide (a.1=k)).map (·.2)
noncomputable def d6(kvs:List (κ×V))(k:κ)(v:V):List (κ×V):=
 if(kvs.any λa=>decide (a.1=k))=true then kvs.map (λa=>if a.1=k then(a.1,v)else a)else kvs++[(k,v)]
theorem cU{k:κ}(e:p.1=k):dA (p::r) k=some p.2:=by simp[dA,Uo,e]
theorem cV{k:κ}(e:¬p.1=k):dA (p::r) k=dA r k:=by simp[dA,Uo,e]
theorem ou(k:κ):∀kvs:List (κ×V),(kvs.any λa=>decide (a.1=k))=(dA kvs k).isSome
 | []=>rfl
 |p::r=>by
  rw[U5];by_cases e:p.1=k
  .simp only[cU e,RE e,Bool.true_or,acM]
  .rw[cV e,RL e,Bool.false_or];show ou k r
theorem zb(k j:κ)(y:V):∀kvs:List (κ×V),dA (kvs.map λa=>if a.1=k then(a.1,y)else a) j=(dA kvs j).map λx=>if j=k then y else x
 | []=>rfl
 |p::r=>by
  let b:=zb k j y r;rw[Sg];by_cases h:p.1=k
  .rw[RF h];by_cases e:p.1=j
   .rw[cU (p:=(p.1,y)) e,cU e,VS,RF (e.symm.trans h)]
   .rw[cV (p:=(p.1,y)) e,cV e,b]
  .rw[RQ h];by_cases e:p.1=j
   .rw[cU (p:=p) e,cU e,VS,RQ (λz=>h (e.trans z))]
   .rw[cV (p:=p) e,cV e,b]
theorem vP(k j:κ)(y:V):∀kvs:List (κ×V),dA kvs k=none->dA (kvs++[(k,y)]) j=if j=k then some y else dA kvs j
 | [],_=>by
  by_cases e:k=j
  .rw[RF e.symm];show cU (p:=(k,y)) e
  .rw[RQ (λz=>e z.symm)];show cV (p:=(k,y)) e
 |p::r,a=>by
  rw[VE];let b:¬p.1=k:=λz=>by rw[cU z]at a;cases a
  rw[cV b]at a;let c:=vP k j y r a;by_cases e:p.1=j
  .rw[cU e,cU e,RQ (λz=>b (e.trans z))]
  .rw[cV e,cV e,c]
theorem ot(kvs:List (κ×V))(k j:κ)(y:V):dA (d6 kvs k y) j=if j=k then some y else dA kvs j:=by
 unfold d6;by_cases a:(kvs.any λb=>decide (b.1=k))=true
 .rw[RF a,zb];rw[ou]at a;by_cases e:j=k
  .let(x,hx):=Vj.mp a;rw[RF e,e,hx,VS,RF rfl]
  .rw[RQ e];cases dA kvs j with
   |none=>rfl
   |some x=>rw[VS,RQ e]
 .rw[RQ a];show vP k j y kvs ?_;rw[ou]at a;cases q:dA kvs k with
  |none=>rfl
  |some x=>rw[q]at a;show(a rfl).elim
theorem d4(kvs:List (κ×V))(k:κ)(v:V):(d6 kvs k v).length<=kvs.length+1:=by
 unfold d6;split
 .rw[My];lia
 .rw[R4,R3,T9];lia
theorem ki.isSome_eq{o:Option V}{u:Option Value}(r:ki o u):o.isSome=u.isSome:=by
 cases o with
 |none=>cases u with
  |none=>rfl
  |some _=>show(show False from r).elim
 |some _=>cases u with
  |none=>show(show False from r).elim
  |some _=>rfl
theorem ki.getD{o:Option V}{u:Option Value}(r:ki o u)(a:aZ d d'):aZ (o.getD d) (u.getD d'):=by
 cases o with
 |none=>cases u with
  |none=>show a
  |some _=>show(show False from r).elim
 |some _=>cases u with
  |none=>show(show False from r).elim
  |some _=>show r
theorem KV.val(r:KV kvs vs)(k:κ):ki (dA kvs k) (abx vs k):=by
 unfold KV at r
 induction r with
 |nil=>show Ti
 | @cons p q ps c h t g=>
  let(d,f):=h;by_cases e:p.1=k
  .let a:q.1=k:=d.symm.trans e;let b:abx (q::c) k=some q.2:=by simp[abx,Uo,a]
   rw[cU e,b];show f
  .let a:¬q.1=k:=λz=>e (d.trans z);let b:abx (q::c) k=abx c k:=by simp[abx,Uo,a]
   rw[cV e,b];show g
theorem KV.any{kvs:List (κ×V)}{vs:List (κ×Value)}(r:KV kvs vs)(k:κ):(kvs.any λa=>decide (a.1=k))=vs.any λa=>decide (a.1=k):=by
 unfold KV at r
 induction r with
 |nil=>rfl
 |cons h t b=>rw[U5,U5,b,h.1]
theorem KV.repl{kvs:List (κ×V)}{vs:List (κ×Value)}(r:KV kvs vs)(k:κ)(f:aZ y u):
  KV (kvs.map λa=>if a.1=k then(a.1,y)else a) (vs.map λa=>if a.1=k then(a.1,u)else a):=by
 unfold KV at r⊢
 induction r with
 |nil=>show .nil
 | @cons p q ps g h t d=>
  rw[Sg,Sg];show .cons ?_ d;let(b,c):=h;by_cases e:p.1=k
  .rw[RF e,RF (b.symm.trans e)];show#[b,f]
  .rw[RQ e,RQ (λz=>e (b.trans z))];show#[b,c]
theorem KV.put(r:KV kvs vs)(k:κ)(a:aZ y u):KV (d6 kvs k y) (stored vs k u):=by
 unfold d6 stored;rw[r.any k];by_cases e:(vs.any λb=>decide (b.1=k))=true
 .rw[RF e,RF e];show r.repl k a
 .rw[RQ e,RQ e];show Paired.snoc r #[2,a]
theorem KV.length{kvs:List (κ×V)}{vs:List (κ×Value)}(r:KV kvs vs):kvs.length=vs.length:=Paired.length r
end
theorem uE(r:aZ (kV k) u):(br P w).is k u=true:=by
 cases k with
 |inl i=>let(t,e):=(show∃t,u=aaZ i t from r);subst e;show Av P w i t
 |inr x=>let(t,e):=(show∃t,u=acu x t from r);subst e;show fG P w x t
theorem xc:∀ {a:List Dn} {us:pk},zj (a.map kV) us->ItemsAre (br P w) a us
 | [],_,r=>by rw[WC]at r;cases r;show .nil
 |k::a,_,r=>by
  rw[Sg]at r;cases r with
  |cons h t=>show .cons (uE h) (xc t)
abbrev KT(H:Hp):List (List Dn×V)->List (List Dn×Addr×Value)->Prop:=abK λp q=>p.1=q.1/\H q.2.1=some (.tup (p.1.map kV))/\aZ p.2 q.2.2
theorem KT.val(r:KT H kvs xs)(k:List Dn):ki (dA kvs k) ((adK xs k).map (·.2)):=by
 induction r with
 |nil=>show Ti
 | @cons p q ps c h t g=>
  let(d,_,f):=h;by_cases e:p.1=k
  .let a:q.1=k:=d.symm.trans e;let b:adK (q::c) k=some q.2:=by simp[adK,Uo,a]
   rw[cU e,b];show f
  .let a:¬q.1=k:=λz=>e (d.trans z);let b:adK (q::c) k=adK c k:=by simp[adK,Uo,a]
   rw[cV e,b];show g
theorem KT.repl{kvs:List (List Dn×V)}{xs:List (List Dn×Addr×Value)}(r:KT H kvs xs)(k:List Dn)(g:aZ y u):
  KT H (kvs.map λb=>if b.1=k then(b.1,y)else b) (xs.map (putAt k u)):=by
 induction r with
 |nil=>show .nil
 | @cons p q ps i h t f=>
  rw[Sg,Sg];show .cons ?_ f;let(a,c,d):=h;unfold putAt;by_cases e:p.1=k
  .rw[RF e,RF (a.symm.trans e)];show#[a,c,g]
  .rw[RQ e,RQ (λz=>e (a.trans z))];show#[a,c,d]
theorem KT.put(r:KT H kvs xs)(k:List Dn)(c:H b=some (.tup (k.map kV)))(a:aZ y u):
  KT H (d6 kvs k y) (storedH xs k b u):=by
 let e:(kvs.any λd=>decide (d.1=k))=(adK xs k).isSome:=by rw[ou,(r.val k).isSome_eq,VB]
 unfold d6 storedH;rw[e];by_cases q:(adK xs k).isSome=true
 .rw[RF q,RF q];show r.repl k a
 .rw[RQ q,RQ q];show Paired.snoc r #[2,c,a]
theorem KT.keeps(r:KT H kvs xs)(c:∀b a,H b=some (.tup a)->H' b=some (.tup a)):KT H' kvs xs:=
 abK.mapP r λ_ _ z=>#[z.1,c _ _ z.2.1,z.2.2]
section
variable{P:rj}{w:t4}{H:Hp}{h:Heap}{a:Addr}
theorem Nx(ok:Rl P w H h)(e:Rd H a u):bG P w H h a u:=e.ok ok
theorem uQ{kvs:List (Dn×V)}(ok:Rl P w H h)(e:Rd H a (.dK kvs)):kvs.length<=sizeLine/\(a==aaE)=false/\∃vs,KV kvs vs/\h.DictOf (br P w) a vs:=
 show bG P w H h a (.dK kvs)from Nx ok e
theorem DQ{kvs:List (Dn×V)}(ok:Rl P w H h)(e:H a=some (.dK kvs)):kvs.length<=sizeLine/\(a==aaE)=false/\∃vs,KV kvs vs/\h.DictOf (br P w) a vs:=uQ ok (.inl e)
theorem qy{b:List Dn}(ok:Rl P w H h)(e:H a=some (.tup (b.map kV))):(abC (br P w)).is h b a:=by let(_,g,r,o,c,d,n,f):=(show bG P w H h a (.tup (b.map kV))from ok a _ e);show#[o,g.toArray,n,c,d,f,#[5,xc r]]
theorem uP{kvs:List (List Dn×V)}(ok:Rl P w H h)(e:Rd H a (.dT kvs)):kvs.length<=sizeLine/\(a==aaE)=false/\
  ∃xs,KT H kvs xs/\h.DictOfH (abC (br P w)) a xs:=by
 let(z,y,xs,r,o,es,ep,c,d,f,g,i):=(show bG P w H h a (.dT kvs)from Nx ok e);show#[z,y,xs,r,o,es,ep,c,d,f,g,λx hx=> ?_,i];let all:∀ {l:List (List Dn×V)} {m:List (List Dn×Addr×Value)},KT H l m->∀x∈m,(abC (br P w)).is h x.1 x.2.1:=by
  intro l m q
  induction q with
  |nil=>intro x hx;show nomatch hx
  | @cons p q ps k b t j=>
   intro x hx;rcases RT.mp hx with e|hx
   .subst e;show qy ok (by rw[<-b.1];show b.2.1)
   .show j x hx
 show all r x hx
theorem QF{kvs:List (List Dn×V)}(ok:Rl P w H h)(e:H a=some (.dT kvs)):kvs.length<=sizeLine/\(a==aaE)=false/\
  ∃xs,KT H kvs xs/\h.DictOfH (abC (br P w)) a xs:=uP ok (.inl e)
end
def j2(H:Hp)(a:Addr)(y:V)(r:Option V):Prop:=
 (∃kvs k,Rd H a (.dK kvs)/\y=kV k/\r=dA kvs k)\/∃kvs k b,Rd H a (.dT kvs)/\y= .ref b/\H b=some (.tup (k.map kV))/\r=dA kvs k
def Gj(H:Hp)(a:Addr)(y v:V)(H':Hp):Prop:=
 (∃kvs k,H a=some (.dK kvs)/\y=kV k/\kvs.length<sizeLine/\H'=upd H a (.dK (d6 kvs k v)))\/
 ∃kvs k b,H a=some (.dT kvs)/\y= .ref b/\H b=some (.tup (k.map kV))/\kvs.length<sizeLine/\H'=upd H a (.dT (d6 kvs k v))
theorem j2.k{k:Dn}(e:H a=some (.dK kvs)):j2 H a (kV k) (dA kvs k):= .inl #[kvs,k, .inl e,22]
theorem Gj.k{kvs:List (Dn×V)}{k:Dn}(e:H a=some (.dK kvs))(hl:kvs.length<sizeLine):Gj H a (kV k) v (upd H a (.dK (d6 kvs k v))):= .inl #[kvs,k,e,2,hl,2]
section
variable{X:Cx}{pins:n7}{σ:St}{H:Hp}{s:rz}{a:Addr}{y v:V}{u r:Value}{o:Option V}{A:tj}{E:gs}
theorem wh.big(I:wh X pins σ H s):aaE<s.1.1.size:=by have h:aak<s.1.1.size:=(I.mod.glob.keeps I.bk).lt;show Tp ∅ h
theorem FV(B:A.units+1<cLine)(I:wh X pins σ H s)(g:j2 H a y (some v))(m:aZ y u)(h:∀c s',wh X pins σ H s'->aZ v c->Q c s'):
  aag (model X.1 X.w) A (ac5 (.ref a) u) Q E s:=by
 rcases g with ⟨kvs,k,e,d,l⟩|⟨kvs,k,b,e,d,n,l⟩
 .subst d;let(z,q,vs,i,dd):=uQ I.hok e;let(c,f,j):=ki.some_of (v:=v) (o:=abx vs k) (by rw[l];show i.val k);show adA (uE m) dd.mapOf f (h c _ (I.tok _) j)
 .subst d;cases (show u=aaa b from m);let(z,q,xs,i,dd):=uP I.hok e;let(c,f,j):=ki.some_of (v:=v) (o:=(adK xs k).map (·.2)) (by rw[l];show i.val k);let(p,t,x):=UQ.mp f;show wpAny_getItem_heap (UN B) (qy I.hok n) dd t ?_;rw[x];show h c _ (I.tok _) j
theorem Rm(m:A.units+1<cLine)(I:wh X pins σ H s)(g:j2 H a y o)(i:aZ y u)(h:∀s',wh X pins σ H s'->Q (.bool o.isSome) s'):
  aag (model X.1 X.w) A (aal .In u (.ref a)) Q E s:=by
 rcases g with ⟨kvs,k,e,c,l⟩|⟨kvs,k,b,e,c,j,l⟩
 .subst c;let(z,d,vs,f,dd):=uQ I.hok e;show wpAny_in_of (uE i) d dd.mapOf ?_;rw[<-(f.val k).isSome_eq,<-l];show h _ (I.tok _)
 .subst c;cases (show u=aaa b from i);let(z,d,xs,f,dd):=uP I.hok e;show wpAny_in_heap (UN m) (qy I.hok j) d dd ?_;let q:=(f.val k).isSome_eq;rw[VB]at q;rw[<-q,<-l];show h _ (I.tok _)
theorem MS(m:A.units+1<cLine)(I:wh X pins σ H s)(g:j2 H a y o)(i:aZ y u)(h:∀s',wh X pins σ H s'->Q (.bool (!o.isSome)) s'):
  aag (model X.1 X.w) A (aal .NotIn u (.ref a)) Q E s:=by
 rcases g with ⟨kvs,k,e,c,l⟩|⟨kvs,k,b,e,c,j,l⟩
 .subst c;let(z,d,vs,f,dd):=uQ I.hok e;show wpAny_notIn_of (uE i) d dd.mapOf ?_;rw[<-(f.val k).isSome_eq,<-l];show h _ (I.tok _)
 .subst c;cases (show u=aaa b from i);let(z,d,xs,f,dd):=uP I.hok e;show wpAny_notIn_heap (UN m) (qy I.hok j) d dd ?_;let q:=(f.val k).isSome_eq;rw[VB]at q;rw[<-q,<-l];show h _ (I.tok _)
theorem yM{h':Heap}(I:wh X pins σ H s)(g:ZJ (H a))(f:aas a s.1 h')(d:∃q,h'.get? a=some q)(new:bG X.1 X.w (upd H a ob) h' a ob):
  wh X pins σ (upd H a ob) {s with heap:=h',toks:=t'}:=
 I.write (x:=a) (e:=a) g (.inl rfl) (λb q c z=>(f.2 b c).trans z) d new
theorem J4{h':Heap}{kvs:List (Dn×V)}(z:kvs.length<=sizeLine)(b:(a==aaE)=false)(c:KV kvs vs)(dd:h'.DictOf (br P w) a vs):
  bG P w H' h' a (.dK kvs):=#[z,b,vs,c,dd]
theorem FU(O:A.units+1<cLine)(I:wh X pins σ H s)(g:Gj H a y v H')(G:aZ y u)(B:aZ v r)(h:∀s',wh X pins σ H' s'->Q aaR s'):
  aag (model X.1 X.w) A (setItem (.ref a) u r) Q E s:=by
 rcases g with ⟨kvs,k,e,m,l,j⟩|⟨kvs,k,b,e,m,t,l,j⟩
 .subst m j;let(z,n,vs,d,dd):=DQ I.hok e;let hz:vs.length<=sizeLine:=by rw[<-d.length];show z
  let hl:(d6 kvs k v).length<=sizeLine:=by have:=d4 kvs k v;lia
  show wpAny_setItem_pairs (hsz:=hz) (uE G) dd λh' f p=>h _ ?_;let N:∃q,h'.get? a=some q:=let⟨q,_,_,i,_⟩:=f;#[q,i];show yM I (by rw[e];show Ti) p N (J4 hl n (d.put k B) f)
 .subst m j;cases (show u=aaa b from G);let(z,n,xs,d,dd):=QF I.hok e;let hz:xs.length<=sizeLine:=by rw[<-Paired.length d];show z
  let hl:(d6 kvs k v).length<=sizeLine:=by have:=d4 kvs k v;lia
  show wpAny_setItem_heap (hsz:=hz) (UN O) (qy I.hok t) dd λh' f p=>h _ ?_;let(q,es,ep,i,J,K,L,_,M):=f;show yM I (by rw[e];show Ti) p #[q,i] #[hl,n,_,(d.put k t B).keeps λc U x=> ?_,q,es,ep,i,J,K,L,M];rw[ak (lr x e (λz=>nomatch z))];show x
end
def PU(i:Expr):Prop:=∀b a,acj i false b a=operate [b,a] (ac5 b a)
theorem C6{T id:sh}{Q:gs}(hl:ad0 (.type T) "__getitem__"=pure (some (.builtin id)))(f:PU slice)(h:aag (model prog w) A (eval value env) (λo d=>aag (model prog w) A (eval slice env) (λi a=>a.TypeIs o T/\aag (model prog w) A (ac5 o i) Q E a) E d) E s):
  aag (model prog w) A (eval (.Subscript value slice pos) env) Q E s:=by
 show ad1 (TZ h (λo d g=>TZ g (λi a h₂=> ?_) λ_ _ x=>x) λ_ _ x=>x);let(c,h₂):=h₂;unfold acD;show RC ?_;rw[getitemInPython_of_ne c.not_modules];show RC (wpAny_specialOf c hl ?_);let b:aag (model prog w) A (acj slice false o i) (λr e=>aag (model prog w) A (letTemporaryGo value o r>>=λ_=>pure r) Q E e) E a:=by rw[f o i];show wpAny_operating (TZ h₂ (λr e j=>RC (wpAny_letTemporaryGo (RS j))) λ_ _ x=>x)
 first
  |show RS (RC b)
  |show RC (RS (RC b))
  |show RC b
theorem AR{c:St}{s:rz}(I:wh X pins c H s)(g:j2 H a y o):s.TypeIs (.ref a) Xk:=by
 rcases g with ⟨kvs,k,e,_,_⟩|⟨kvs,k,b,e,_,_,_⟩
 .let(_,_,vs,_,dd):=uQ I.hok e;show dd.typeIs
 .let(_,_,xs,_,dd):=uP I.hok e;show dd.typeIs
def P4(e ty:TE):TE:=λc H Q=>e c H λx d=>ty c d λy b=>∃a v,x= .ref a/\j2 b a y (some v)/\Q v b
def Q2(ty e:TE):TE:=λc H Q=>ty c H λy d=>e c d λx b=>∃a o,x= .ref a/\j2 b a y o/\Q (.bl o.isSome) b
def KL(ty e:TE):TE:=λc H Q=>ty c H λy d=>e c d λx b=>∃a o,x= .ref a/\j2 b a y o/\Q (.bl (!o.isSome)) b
def Qh(f ty tv:TE):TS:=λD b H=>tv b H λv c=>f b c λx d=>ty b d λy e=>∃a H4,x= .ref a/\Gj e a y v H4/\D.nx b H4
section
variable{X:Cx}{o i e value:Expr}{pos pos' tpos:Pos}{td ty tv:TE}
theorem yc(r:X.A.units+1<cLine)(n:PE X o td)(m:PE X i ty)(q:PU i):PE X (.Subscript o i pos) (P4 td ty):=by intro c s d H Q I h;show C6 Wx.lookup q (zk (n c s d H _ I h) λu J ⟨x,f,k,B,t⟩=>zk (m c J d f _ k t) λK L p=> ?_);let(y,j,b,G,a,v,l,g,w):=p;subst l;obtain rfl:u=aaa a:=B;show#[AR b g,FV r b g G λN M I3 z=>#[v,j,I3,z,w]]
theorem O1(q:X.A.units+1<cLine)(m:PE X i ty)(n:PE X o td):PC X .In i o (Q2 ty td):=by intro b s c H Q I h;show zk (m b s c H _ I h) λG B ⟨y,d,j,z,t⟩=>zk (n b B c d _ j t) λu J p=> ?_;let(x,f,k,w,a,r,l,g,v):=p;subst l;obtain rfl:u=aaa a:=w;show Rm q k g z λK I3=>#[.bl r.isSome,f,I3,2,v]
theorem qd(q:X.A.units+1<cLine)(m:PE X i ty)(n:PE X o td):PC X .NotIn i o (KL ty td):=by intro b s c H Q I h;show zk (m b s c H _ I h) λG B ⟨y,d,j,z,t⟩=>zk (n b B c d _ j t) λu J p=> ?_;let(x,f,k,w,a,r,l,g,v):=p;subst l;obtain rfl:u=aaa a:=w;show MS q k g z λK I3=>#[.bl (!r.isSome),f,I3,2,v]
theorem ya(w:X.A.units+1<cLine)(p:PE X o td)(n:PE X i ty)(z:PE X value tv)(t:aaS value (some (.Subscript o i pos')) pos.line X.10=pure false):
  PS X (.Assign [.Subscript o i pos'] value pos) (Qh td ty tv):=by
 intro c s b H D I h;show wpAny_Assign_Subscript (zk (z c s b H _ I h) λr N ⟨v,d,j,K,B⟩=>zk (p c N b d _ j B) λu O ⟨x,f,k,L,G⟩=>zk (n c O b f _ k G) λU s3 q=> ?_) t;let(y,Q,I3,M,a,H4,m,g,J):=q;subst m;obtain rfl:u=aaa a:=L;show FU w I3 g M K λs4 l=>#[b,H4,l,J]
end
theorem AQ(h:Heap)(a:aaE<h.1.size):bG P w H (h.push {cls:= .type Xk,data:= .dict #v[]}) h.1.size (.dK []):=
 #[Sw _,UC.mpr (TF (Sb a)),[], .nil,Heap.DictOf.new h]
def N6:TE:=λ_ H Q=>∀p,H p=none->Q (.ref p) (upd H p (.dK []))
section
variable{X:Cx}{pos:Pos}
theorem tW:PE X (.Dict [] [] pos) N6:=λb s c H Q I h=>
 wpAny_Dict_empty #[.ref s.1.1.size,_,I.laid (a:=s.1.1.size) (o:= .dK []) (t':=s.4) (λ_ _ q=>RN _ q) (RJ _) (AQ s.1 I.big),2,h _ (I.hok.fresh (RJ _))]
end
structure M2(X:Cx)(o:Expr)(m:Str)(apos:Pos)(e f:Expr)(cpos:Pos):Prop where
 base:aay o m X.10 (eval o X.10)=eval o X.10
 few:((aar cpos (aad [e,f] X.10)).all (λx=> !x.1)&&(aa2 cpos (aaC [] X.10)).all (λx=>x.1.isSome)
  &&decide (([e,f]:pD).length+([]:List ac7).length+(if([]:List ac7).isEmpty then 0 else 1)<30))=true
 line:(apos.endLine==cpos.line)=true
 trees:aar cpos (aad [e,f] X.10)=[(false,eval e X.10),(false,eval f X.10)]
def IsD(H:Hp)(a:Addr):Prop:=(∃kvs,Rd H a (.dK kvs))\/∃kvs,Rd H a (.dT kvs)
theorem JD{i:St}{s:rz}(I:wh X pins i H s)(d:IsD H a):
  s.TypeIs (.ref a) Xk/\(∀b,aaa a= .ref b->∃c,s.1.get? b=some c/\c.dict=none)/\(a==aaE)=false:=by
 rcases d with ⟨kvs,e⟩|⟨kvs,e⟩
 .let(_,h,vs,_,dd):=uQ I.hok e;show#[dd.typeIs,λb q=> ?_,h];cases q;let(c,_,_,f,g,_):=dd;show#[c,f,g.2.1]
 .let(_,h,xs,_,dd):=uP I.hok e;show#[dd.typeIs,λb q=> ?_,h];cases q;let(c,_,_,f,g,_):=dd;show#[c,f,g.2.1]
section
variable{X:Cx}{pins:n7}{σ:St}{H:Hp}{s:rz}{a:Addr}{y d:V}{u r:Value}{o:Option V}{A:tj}{E:gs}
theorem PJ(q:A.units+1<cLine)(I:wh X pins σ H s)(g:j2 H a y o)(m:aZ y u)(j:aZ d r)(h:∀n s',wh X pins σ H s'->aZ (o.getD d) n->Q n s'):
  aag (model X.1 X.w) A (call (.builtin "dict.get") [.ref a,u,r]) Q E s:=by
 rcases g with ⟨kvs,k,e,c,l⟩|⟨kvs,k,b,e,c,p,l⟩
 .subst c;let(z,f,vs,i,dd):=uQ I.hok e;show ac9 VH dd.typeIs abW (WS _ _ _) (meets_dict_get_default (br X.1 X.w) a (uE m) f r) #[_,dd.mapOf,h _ _ (I.tok _) ?_];rw[l];show(i.val k).getD j
 .subst c;cases (show u=aaa b from m);let(z,f,xs,i,dd):=uP I.hok e;show ac9 VH dd.typeIs abW (WS _ _ _) (meetsH_dict_get_default (abC (br X.1 X.w)) a b f r) #[UN q,k,xs,qy I.hok p,dd,h _ _ (I.tok _) ?_];rw[l];show(i.val k).getD j
end
def N7(f ty tx:TE):TE:=λb H Q=>f b H λx c=>∃a,x= .ref a/\IsD c a/\ty b c λy e=>tx b e λz d=>∃o,j2 d a y o/\Q (o.getD z) d
section
variable{X:Cx}{o e f:Expr}{apos cpos:Pos}{td ty tx:TE}
theorem oP(w:X.A.units+1<cLine)(v:PE X o td)(r:PE X e ty)(t:PE X f tx)(m:M2 X o "get" apos e f cpos):PE X (.Call (.Attribute o "get" apos) [e,f] [] cpos) (N7 td ty tx):=by
 intro b s c H Q I h;show wpAny_Call_method m.base m.few m.line WT VH PySem.F.type_dict_get (zk (v b s c H _ I h) λu O ⟨x,j,i,L,a,q,d,B⟩=> ?_);subst q;obtain rfl:u=aaa a:=L;let(t1,t2,_):=JD i d;show#[t1,t2,6];rw[m.trees];show UP rfl (VM (V8 (zk (r b O c j _ i B) λiv U ⟨y,k,n,M,G⟩=>
  V8 (zk (t b U c k _ n G) λfv s3 ⟨z,l,I3,N,ov,g,J⟩=>ac1 ?_))))
 show PJ w I3 g M N λw' s4 p K=>#[_,l,p,K,J]
end
end L2
namespace PySem
open Sem (wp)
theorem yH:ad0 (.type Xc) "keys"=pure none:=by rw[WZ,VI];kernel_rfl
theorem gU:aea table XB=some aa1.«dict.update.loop»:=entryFor_of_tree (by kernel_rfl)
theorem cw:plainId XB=true:=#[9]
theorem uD{A:tj}{s:rz}{o:Obj}(hx:s.1.get? a=some o)(i:o.cls= .type Xc)(l:o.data= .seq xs k)(j:o.dict=none)(r:A.handled=none)(h:∀h' p,(∀b n,s.1.get? b=some n->h'.get? b=some n)->Q none {s with heap:=h',toks:=p}):aag (model prog w) A (getAttr? (.ref a) "keys") Q E s:=by
 let(c,x,v,u):=o;simp only at i l j;subst i l j;let(t,g,d,p,os):=s;let f:∀q,(#[t,g,d,q,os]:rz).TypeIs (.ref a) Xc:=λ_=>#[_,hx,2];let f1:=sub_AttributeError;let y:=Vn.lookup;let z:=Vn.bind (.ref a);let B:=am_list_getattr_none;unfold getAttr? getAttrBy? getAttrBy
 repeat (any_goals (first|assumption|show f _|((with_reducible change aag _ _ (call (Value.builtin "list.__getattribute__") _ _) _ _ _);show Ww Vn (f _) am_entry_list_getattribute (F.args_list_getattribute_2 _ _) (meets_getattribute_miss_list a xs k u "keys" _ yH #[9] (by size_fits)) ⟨hx,r,λh' q e m=> ?_⟩)|wp_step))
 let(t',H,G):=m.there;change aag _ _ (acO _ _ _ _ _ _ _) _ _ _;unfold acO
 repeat (any_goals (first|assumption|wp_step))
 show h _ _ m.keeps
end PySem
namespace L2
open PySem PySem.Spec PyProof.Rows
noncomputable def nJ(m:List (Dn×V))(ps:List (Dn×V)):List (Dn×V):=ps.foldl (λm p=>d6 m p.1 p.2) m
theorem NW(e:H a=some u):upd H a u=H:=by grind [aa,ak]
section
variable{X:Cx}{pins:n7}{σ:St}
theorem zc{A:tj}(N:A.in1.handled=none){c:List V}:
  ∀(ps:List (Dn×V)) (i:Nat) (z:Int) (s:rz) (H:Hp) (kvs:List (Dn×V)),wh X pins σ H s->H d=some (.dK kvs)->kvs.length+ps.length<=sizeLine->vN X pins H it->s.1.IsListIter it l i->H l=some (.lst c)->i+ps.length=c.length->
   (∀j p,ps[j]?=some p->∃t,c[i+j]?=some (.ref t)/\H t=some (.tup [kV p.1,p.2]))->(∀s',wh X pins σ (upd H d (.dK (nJ kvs ps))) s'->R (.ok (.ret .none)) s')->
   aaV (model X.1 X.w) A (.builtin XB #[[.ref d, .ref it,abk z, .none],[]]) R s
 | [],i,z,s,H,kvs,I,a,hsz,B,G,hl,O,J,v=>by let(bN,L,p1,hz):=I.list (.inl (show Rd H l (.lst c)from .inl hl));let(f0,f1,f2,g,h,k):=B;let b8:=L.length;show Tx gU ?_;rw[TH cw _];change aag _ A.in1 (abd (.ref it)>>=_) _ _ s;show RC (ab7 N G p1.isList (by simp at O⊢;lia) λh' eb=> ?_);let f:wh X pins σ H {s with heap:=h'}:=I.turned (t':=s.4) (λb o y e=>eb b o y e) f0 f1 g h k;change aag _ _ (Builtin.Dict.addKeywords d []>>=_) _ _ _;show RC (RS (RS (v _ ?_)));rw[show nJ kvs []=kvs from rfl,NW a];show f
 |p::ps,i,z,s,H,kvs,I,a,hsz,B,G,hl,O,J,v=>by
  let(bN,L,p1,hz):=I.list (.inl (show Rd H l (.lst c)from .inl hl));let(f0,f1,f2,g,h,k):=id B;let(t,hy,ht):=J 0 p rfl;let(u,hu,ru):=L.get hy;show Tx gU ?_;rw[TH cw _];change aag _ A.in1 (abd (.ref it)>>=_) _ _ s;show RC (abP G p1.isList (x:=u) #[5,hu] λab bk sb=> ?_);let m:wh X pins σ H {s with heap:=ab}:=I.turned (t':=s.4) (λb o y e=>(sb.2 b y).trans e) f0 f1 g h k;cases ru;let(cm,rt,pt,_):=m.tuple (GB.of ht);let(u1,u2,rfl,r1,r2):=zj.two rt;let(o,Q,hc,n,a4):=pt;let hT:({s with heap:=ab}:rz).TypeIs (.ref t) Xl:=#[o,Q,hc];change aag _ _ (abi [aaa t] _>>=_) _ _ _;show RC (Ur (RC (wpAny_tryCatch ?_)));unfold Builtin.Dict.pairItems;show RC (WK hT ?_);rw[RF ∅];show RC (acm Q a4 (RS ?_));change aag _ _ (abi [u1,u2] (dictSet d u1 u2)) _ _ _;let(zz,a5,vs,ai,dd):=DQ m.hok a;let bx:vs.length<=sizeLine:=by rw[<-ai.length];show zz
  let cj:(d6 kvs p.1 p.2).length<=kvs.length+1:=d4 kvs p.1 p.2;let cf:(p::ps).length=ps.length+1:=rfl;show Ur (wpAny_dictSet_pairs (hsz:=bx) (uE r1) dd λh' M U=> ?_);let he:∃q,h'.get? d=some q:=let⟨q,_,_,K,_⟩:=M;#[q,K];let I2:=yM (t':=s.4+1) m (by rw[a];show Ti) U he (J4 () a5 (ai.put p.1 r2) M);let nd:it≠d:=λe=>by rw[e,a]at f0;cases f0
  let nl:l≠d:=λe=>by rw[e,a]at hl;cases hl
  show RS #[U8 cw _,zc N ps (i+1) (z+1) _ _ (d6 kvs p.1 p.2) I2 aa () #[by rw[ak nd];show f0,f1,f2,g,h,k] ?_ (by rw[ak nl];show hl) () (λj q K=> ?_) λs' f=>v s' ?_]
  .let(o',e',c',d'):=bk;show#[o',(U.2 it nd).trans e',c',d']
  .let(t',h1,r):=J (j+1) q K;show#[t',by rw[show i+1+j=i+(j+1) by lia];show h1,6];rw[ak (λe=>by rw[e,a]at r;cases r)];show r
  .rwa[bU]at f
def Lq:List V->Hp->VK->Prop:=λxs H Q=>∃(l:Addr)(a:List V) (ps:List (Dn×V)),xs=[.ref l]/\H l=some (.lst a)/\ps.length=a.length/\ps.length<=1000/\
 (∀(j:Nat)(p:Dn×V),ps[j]?=some p->∃t:Addr,a[j]?=some (.ref t)/\H t=some (.tup [kV p.1,p.2]))/\∀d,H d=none->Q (.ref d) (upd H d (.dK (nJ [] ps)))
theorem A4(O:X.calm=true):bK X (.type Xk) Lq:=by
 intro pins s σ H xs us Q I G h;let(l,g,ps,rfl,hl,az,ay,hp,q):=h;let(u,rfl,ru):=gA G;cases ru;let r:=I.ok.hd O;show callType_codes (Q₁:=λB J=>B= .ref s.1.1.size/\J={s with heap:=s.1.push {cls:= .type Xk,data:= .dict #v[]}}) F.kt_called_dict (F.kt_typeCall_dict_1 _) F.entry_dict_init (kt_code_dict_new _ #[22]) ?_;rintro B J ⟨rfl,rfl⟩;let i:wh X pins σ (upd H s.1.1.size (.dK [])) {s with heap:=s.1.push {cls:= .type Xk,data:= .dict #v[]}}:=I.laid (a:=s.1.1.size) (o:= .dK []) (t':=s.4) (λ_ _ q=>RN _ q) (RJ _) (AQ s.1 I.big);let d:H s.1.1.size=none:=I.fresh;let nl:l≠s.1.1.size:=ah hl d;let f:upd H s.1.1.size (.dK []) l=some (.lst g):=by rw[ak nl];show hl
 let v:(s.1.push {cls:= .type Xk,data:= .dict #v[]}).DictOf (br X.1 X.w) s.1.1.size []:=Heap.DictOf.new s.1;let(a3,G,p1,hz):=i.list (.inl (show Rd _ l (.lst g)from .inl f));let(o,n,x,m,U,ab):=id p1;let N:({s with heap:=s.1.push {cls:= .type Xk,data:= .dict #v[]}}:rz).TypeIs (.ref l) Xc:=#[o,x,m];show#[v.typeIs,F.args_dict_init_2 _ _,6];unfold aa1.«dict.__init__»;show RC ?_;unfold Builtin.Dict.selfAndRest;show RC (wpAny_notOrdered_dict v.typeIs ?_);change aag _ _ (pure (s.1.1.size,[aaa l])) _ _ _;show RS ?_;change aag _ _ (Builtin.Dict.updateFrom "dict.__init__" s.1.1.size (.ref l) [] .none) _ _ _;unfold Builtin.Dict.updateFrom;show RC (WK N ?_);rw[RF ∅];show RC (uD x m ab U r λh' K kp=> ?_);let c:=i.own (h₂:=h') (t':=K) [] (λ_ z=>nomatch z) λb y _ e=>kp b y e;rw[RF (show(none:Option Value).isNone=true from rfl)];show RC (acP ?_);let(a4,a5,p2,a0):=c.list (.inl (show Rd _ l (.lst g)from .inl f));show RC (UT p2.isList ?_);let I3:=c.own (h₂:=h'.push {cls:= .type "list_iterator",data:= .fields #v[.ref l, .int 0 0]}) (t':=K) [] (λ_ z=>nomatch z) λb y _ e=>RN _ e;show RS #[U8 cw _,zc (A:=X.A.in1) r ps 0 0 _ _ [] I3 aa (RB (by change 0+ps.length<=1000;lia) ∅) (c.fpOk (RJ _) c.fresh) #[_,R8 _ rfl,22] f () (λj p ai=> ?_) λs' L=>#[2, .ref s.1.1.size,_,L,26]]
 .let(t,M,k):=hp j p ai;show#[t,by rw[Ux];show M,6];rw[ak (ah k d)];show k
 .rw[bU];show q _ d
end
open PySem.W
theorem j5:plainId XH=true:=#[9]
section
variable{prog:rj}{w:t4}{A:tj}{E:gs}{s:rz}{T:sh}{r d:Addr}{n:Nat}{P:Nat->Value->Prop}{OK:Heap->Prop}
theorem yN(f:KdlSrc prog w T r d n P OK)(m:A.handled=none)(j:OK s.1)(q:n<=sizeLine)(h:∀h' g a c,(∀b o,s.1.get? b=some o->h'.get? b=some o)->h'.get? s.1.1.size=some {cls:= .type Xc,dict:=none,data:= .seq a c,slots:= #v[]}->ItemsOf P a n->R (.ok (.ret (.ref s.1.1.size))) {s with heap:=h',toks:=g}):
  aaV (model prog w) A (.builtin "proto.collect" #[[.ref r],[]]) R s:=by
 let i:=f.there _ j;show Tx acn ?_;change aag _ _ (do again (.builtin XH #[[<-newList [], .ref r],[]])) _ _ s;show RC (Wj (RS #[Wb _ #[9],Tx adB ?_]));rw[TH j5 _];change aag _ _ (aaz (.ref s.1.1.size) (.ref r) (.ref s.1.1.size)) _ _ {s with heap:=s.1.push (abz Xc #v[] 0)};show kdl_extend (s:={s with heap:=s.1.push (abz Xc #v[] 0)}) f m (f.keep s.1 (s.1.push (abz Xc #v[] 0)) j λb _ o e=>RN _ e) s.1.1.size (T7 i.1) (T7 i.2) (.ref s.1.1.size) 0 (R8 _ rfl)
  (λh' g a c p k l=>h h' g a c (λb o e=>p b o (Sb (R0 e)) (RN _ e)) k l) q
theorem AW(i:KdlSrc prog w T r d n P OK)(l:A.handled=none)(q:OK s.1)(p:n<=sizeLine)(h:∀h' a (vs:pk),(∀b o,s.1.get? b=some o->h'.get? b=some o)->s.1.1.size<h'.1.size->vs.length=n->(∀j v,vs[j]?=some v->P j v)->Q vs {s with heap:=h',toks:=a}):
  aag (model prog w) A (collect (.ref r)) Q E s:=by
 unfold collect;show RC (aco (yN i l q p λh' a k c m f g=> ?_));change aag (model prog w) A (do
   let o<-load s.1.1.size
   match o.data with
   | .seq xs _=>pure xs.toList
   |_=>unsupported "internal:collect") Q E {s with heap:=h',toks:=a}
 show RC (adV f ?_);show RS (h h' a k.toList m (R0 f) (by rw[Sq];show g.1) λj v e=>g.2 j v (by rw[<-Tn];show e))
theorem Bp(p:KdlSrc prog w T r d n P OK)(z:A.handled=none)(H:OK s.1)(hI:∀vs:List Value,vs.length=n->(∀j v,vs[j]?=some v->P j v)->aa0 vs ns)(x:n<64)(h:∀(a:Addr) h' g (out:pj) (c:qR) e,(∀b o,s.1.get? b=some o->h'.get? b=some o)->s.1.1.size<=a->h'.get? a=some (abz Xc out e)->aa0 out.toList c->c.Perm ns->c.Pairwise (· <= ·)->Q (.ref a) {s with heap:=h',toks:=g}):
  aag (model prog w) A (call (.builtin XF) [.ref r]) Q E s:=by
 show abu kind_sorted plain_sorted entry_sorted (args_sorted1 _) ?_;unfold aa1.«sorted»;show RC (m:=checkCount XF 1 1 _) (RS ?_);show RC (AW p z H (RB (TX x) ∅) λk g vs G hsz hl J=> ?_);let B:=hI vs hl J;show RC (Wj ?_);let f:(k.push (abz Xc vs.toArray 0)).get? k.1.size=some (abz Xc vs.toArray 0):=R8 _ rfl;show RC (Ur (T3 slot_list_sort #[_,f,2] entry_list_sort (list_sort_tree f B () λout c q t u=>#[76]) (args_list_sort _)));let(e,y):=sortedHeap_at (out:=out) f;show RS #[7,h _ _ g out c e (λb o i=> ?_) (TX hsz) y q t u];let l:=R0 i;rw[sortedHeap_old (Sb (Tp l hsz)) (by rw[size_push'];show Uc (Tp l hsz))];show RN _ (G b o i)
end
noncomputable def qH(v d:Addr):HO:= .ext λh=>h.IsValuesView v d
def N5(c:TE):TE:=λd H Q=>c d H λx b=>∃(a:Addr) (kvs:List (Dn×V)),x= .ref a/\b a=some (.dK kvs)/\∀v,b v=none->Q (.ref v) (upd b v (qH v a))
def OC:List V->Hp->VK->Prop:=λxs H Q=>∃(v a:Addr) (kvs:List (Dn×V)) (ns:qR),xs=[.ref v]/\H v=some (qH v a)/\H a=some (.dK kvs)/\kvs.map (·.2)=ns.map int/\ns.length<64/\
 ∀l (ms:qR),H l=none->ms.Perm ns->ms.Pairwise (· <= ·)->Q (.ref l) (upd H l (.lst (ms.map int)))
theorem MH:∀ {kvs:List (Dn×V)} {vs:List (Dn×Value)},KV kvs vs->zj (kvs.map (·.2)) (vs.map (·.2)):=by
 intro kvs vs r
 induction r with
 |nil=>show .nil
 |cons h _ a=>show .cons h.2 a
section
variable{X:Cx}{o:Expr}{apos cpos:Pos}{td:TE}
theorem CI(n:X.calm=true):bK X (.builtin XF) OC:=by
 intro L s M H xs us Q I B h;let(v,a,kvs,ns,rfl,r,k,f,j,q):=h;let(u,rfl,A):=gA B;cases A;let(t,_,_):=I.hok v _ r;let(z,J,vs,g,dd):=DQ I.hok k;let(ep,m):=dd.dictAt;let K:vs.length=ns.length:=by have d:=g.length;let b:=Se aa7 f;rw[My,My]at b;lia
 show Bp (ns:=ns) (kdl_values (knd:=br X.1 X.w) (kvs:=vs) (ep:=ep)) (I.ok.hd n) #[t,m] (λws hl y=> ?_) () λl h' G out ms e c hsz p d b i=> ?_
 .rw[kdl_vals_eq ws hl y];let c:=MH g;rw[f]at c;show dS c
 .let x:=oq d;show#[.ref l,_,I.laid (t':=G) c hsz (show bG X.1 X.w _ _ _ (.lst (ms.map int))from#[6,out.toList,e,x,6]),2,q _ ms (I.hok.fresh hsz) b i]
  .rw[My,b.length_eq];show RB (TX j) ∅
  .rw[p]
theorem Iq(d:PE X o td)(g:aay o "values" X.10 (eval o X.10)=eval o X.env:=by rfl)(j:(apos.endLine==cpos.line)=true:=by rfl):PE X (.Call (.Attribute o "values" apos) [] [] cpos) (N5 td):=by
 intro n s y H Q I h;show abF g j (zk (d n s y H _ I h) λu c k=> ?_);let(x,z,b,t,a,kvs,f,e,p):=k;subst f;obtain rfl:u=aaa a:=t;let(t1,v,m):=JD b (.inl #[kvs, .inl e]);let(_,_,vs,_,dd):=DQ b.hok e;show#[Xk,"dict.values",WT,WL,PySem.F.type_dict_values,t1,v,UP rfl (acz ?_)];show ac9 WL dd.typeIs PySem.F.entry_dict_values (PySem.F.args_dict_values_1 _) (meets_dict_values (br X.1 X.w) a m) #[#[vs,dd],6];show#[.ref c.1.1.size,_,b.laid (a:=c.1.1.size) (o:=qH c.1.1.size a) (t':=c.4) (λ_ _ q=>RN _ q) (RJ _)
  #[#[_,R8 _ rfl,22],#[_,R8 _ rfl],λA B l i=>let⟨o,d,r⟩:=l;#[o,i o d,r]],2,p _ (b.hok.fresh (RJ _))]
end
open PySem.SeqAt
theorem DX{z:Int}(h:z.natAbs<2^k):intBits z<=k:=by
 unfold intBits;by_cases a:z=0
 .subst a;show Sw _
 .let e:(z==0)=false:=#[5,a]
  rw[e];change z.natAbs.log2+1<=k;have:z.natAbs.log2<k:=(W3 ()).mpr h;lia
theorem lM.of{i j:Int}(a:i.natAbs<2^k)(b:j.natAbs<2^m)(h:k+m<=2^26):lM i j:=by unfold lM;have:=DX a;have:=DX b;lia
theorem D0{i j:Int}(a:i.natAbs<2^k)(b:j.natAbs<2^m):(i*j).natAbs<2^(k+m):=by rw[aeb,V7];show Nat.mul_lt_mul'' a b
end L2
namespace Bh
abbrev Yi:=Nat->Int
structure ke(m:Int):Prop where
 nn:0<=m
 lt:m<128
 one:¬m∣1
 mul:∀x y:Int,m∣x*y->m∣x\/m∣y
theorem BM:ke 0:=#[444,λx y h=>by
 let h:=WM.mp h;rcases Int.mul_eq_zero.mp h with h|h
 .show .inl (WM.mpr h)
 .show .inr (WM.mpr h)]
theorem EL{p:Nat}(c:2<=p)(hl:p<128)(b:∀d,d<p+1->d∣p->d=1\/d=p):ke (p:Int):=#[99,λh=>by
 have:=aen ∅ h;lia,λx y h=>by
 let a:p∣x.natAbs*y.natAbs:=by rw[<-aeb];show Wc.mp h
 by_cases e:p∣x.natAbs
 .show .inl (Wc.mpr e)
 .show .inr (Wc.mpr ?_);let g:Nat.gcd p x.natAbs=1:=by
   rcases b _ (Nat.lt_succ_of_le (Nat.le_of_dvd () (adC p x.natAbs))) (adC p x.natAbs)with g|g
   .show g
   .show absurd (g▸Nat.gcd_dvd_right p x.natAbs) e
  show Nat.Coprime.dvd_of_dvd_mul_left g a]
noncomputable def DA:List Nat:=[2,3,5,7,11,13,17,19,23,29,31,37,41,43,47,53,59,61,67,71,73,79,83,89,97]
theorem eY:∀p∈DA,ke (p:Int):=by
 let h:∀p∈DA,2<=p/\p<128/\∀d,d<p+1->d∣p->d=1\/d=p:=#[9]
 show λp a=>EL (h p a).1 (h p a).2.1 (h p a).2.2
theorem BK{a:Type}(l:List a)(d:a):(range l.length).map (λi=>l.getD i d)=l:=by
 show UU λi=> ?_;rw[RU];by_cases h:i<l.length
 .rw[SJ h,RR h];simp[h]
 .rw[S6 (by simp;lia),S6 ()];rfl
end Bh
namespace L2
open PySem PySem.Spec PySem.W PyProof.Rows PySem.SeqAt
def ZX(_ j:Int):Prop:=j≠0/\j.natAbs.log2<9000
theorem ID:Ol X (aaF .FloorDiv) (rI ZX λi j=> .int (i.fdiv j)):=Za λ_ _ _ _ _ _ _ a q=>floordiv_int a.1 q (.inl (PyProof.noPylong_of_log2 a.2))
end L2
namespace L2
open PySem PySem.Spec PyProof.Rows
def YO(xs:Array Nat):Prop:=∀i k,i<k->k<xs.size->xs.getD i 0<xs.getD k 0
theorem xA{xs:Array Nat}(h:i<xs.size):xs.getD i d=xs[i]:=by simp[acQ,h]
theorem Kq(xs:Array Nat)(i d:Nat):(xs[i]?).getD d=xs.getD i d:=#[5]
theorem ve{xs:Array Nat}(g:YO xs):∀(fuel a b:Nat),b<=a+fuel->a<=b->b<=xs.size->(∀i,i<a->xs.getD i 0<j)->(∀i,b<=i->i<xs.size->j<=xs.getD i 0)->
  ∃p,SetTable.below.go xs j fuel a b=p/\a<=p/\p<=b/\(∀i,i<p->xs.getD i 0<j)/\(∀i,p<=i->i<xs.size->j<=xs.getD i 0)
 |0,a,b,s,hl,o,c,d=>#[a,2,RJ _,hl,c,λi k=>d i ()]
 |fuel+1,a,b,s,hl,o,c,d=>by
  unfold SetTable.below.go;by_cases h:a<b
  .rw[RF h];let l:(a+b) /2<xs.size:=()
   let em:xs.getD ((a+b) /2) j=xs.getD ((a+b) /2) 0:=by rw[xA l,xA l]
   dsimp only;rw[em];by_cases f:xs.getD ((a+b) /2) 0<j
   .rw[RF f];let(p,e,q,r,m,n):=ve g fuel ((a+b) /2+1) b () () o (λi k=>by
     by_cases e:i=(a+b) /2
     .rw[e];show f
     .show Tp (g i ((a+b) /2) () l) f) d
    show#[p,e,9,r,m,n]
   .rw[RQ f];let(p,e,q,r,m,n):=ve g fuel a ((a+b) /2) () () () c (λi k t=>by
     by_cases e:i=(a+b) /2
     .rw[e];lia
     .have:=g ((a+b) /2) i () t;lia)
    show#[p,e,q,9,m,n]
  .rw[RQ h];show#[a,2,RJ _,hl,c,λi k=>d i ()]
theorem om{xs:Array Nat}(a:YO xs)(j:Nat):aah xs j<=xs.size/\(∀i,i<aah xs j->xs.getD i 0<j)/\(∀i,aah xs j<=i->i<xs.size->j<=xs.getD i 0):=by let(p,e,k,b,c,d):=ve (j:=j) a xs.size 0 xs.size () () (RJ _) (λi h=>absurd h (Ve _)) (λi f g=>());have:aah xs j=p:=e;rw[this];show#[b,c,d]
theorem Kj{xs:Array Nat}(a:YO xs)(d:i<xs.size):aah xs (xs.getD i 0+1)=i+1:=by
 let(g,b,c):=om a (xs.getD i 0+1);let e:¬aah xs (xs.getD i 0+1)<=i:=λh=>by have:=c i h d;lia
 let f:¬i+1<aah xs (xs.getD i 0+1):=λh=>by have:=b (i+1) h;have:=a i (i+1) () ();lia
 lia
theorem CP(b:YO xs):aah xs 0=0:=by
 let(c,a,d):=om b 0;cases e:aah xs 0 with
 |zero=>rfl
 |succ k=>have:=a k ();lia
theorem AJ{xs:Array Nat}(d:p<=xs.size):(aaW xs p j).getD i 0=if i<p then xs.getD i 0 else if i=p then j else xs.getD (i-1) 0:=by
 unfold aaW;rw[<-Kq,Array.getElem?_append,Array.size_push,Wd,show min p xs.size-0=p by lia];by_cases a:i<p
 .rw[RF (),RF a,acA,Wd,RQ (),abX,RF (),Ux,Kq]
 .rw[RQ a];by_cases b:i=p
  .rw[RF (),RF b,acA,Wd,RF ()];rfl
  .rw[RQ (),RQ b,abX];by_cases c:i- (p+1)<min xs.size xs.size-p
   .rw[RF c,show p+(i- (p+1))=i-1 by lia,Kq]
   .rw[RQ c];have:¬i-1<xs.size:=()
    simp[acQ,this]
theorem JE{xs:Array Nat}(a:p<=xs.size):(aaW xs p j).size=xs.size+1:=by grind [aaW]
theorem ML(f:YO xs)(r:xs[aah xs j]?≠some j):YO (aaW xs (aah xs j) j):=by
 let(g,h,l):=om f j;let m:∀i,aah xs j<=i->i<xs.size->j<xs.getD i 0:=λi a b=>by
  let e:=l i a b;let ne:xs.getD i 0≠j:=λz=>by
   by_cases n:aah xs j=i
   .apply r;rw[n,SS b,<-xA (d:=0) b,z]
   .have:=l (aah xs j) (RJ _) ();have:=f (aah xs j) i () b;lia
  lia
 generalize aah xs j=p at*;intro i k o q;rw[JE g]at q;rw[AJ g,AJ g];by_cases a:k<p
 .rw[RF (),RF a];show f i k o ()
 .rw[RQ a];by_cases b:k=p
  .rw[RF b,RF ()];show h i ()
  .rw[RQ b];by_cases c:i<p
   .rw[RF c];show Tp (h i c) (m (k-1) () ())
   .rw[RQ c];by_cases d:i=p
    .rw[RF d];show m (k-1) () ()
    .rw[RQ d];show f (i-1) (k-1) () ()
def mx(L:Bool)(t:dz):Prop:=t.led=L/\(t.plain=true->t.dummies= #v[]/\YO t.place)
theorem Bs{t:dz}(h:t.dummies= #v[])(j:Nat):t.slot j≠ .dummy:=by grind [aeo,abY]
theorem Br{t:dz}(h:t.slot j= .empty):t.place[aah t.place j]?≠some j:=λz=>by unfold aeo at h;dsimp only at h;rw[RF (by rw[z];simp)]at h;cases h
theorem z4{t:dz}(b:t.dummies= #v[]):∀(fuel:Nat)(p:aec),p.dummy=none->SetTable.probe.go t hashAt h fuel p=some (.empty j d)->t.slot j= .empty/\d=none
 |0,p,_,e=>by unfold SetTable.probe.go at e;cases e
 |fuel+1,p,c,e=>by
  unfold SetTable.probe.go at e;let g:∀q:aec,q.dummy=none->(t.advance q).dummy=none:=λq f=>by
   unfold SetTable.advance;split
   .show f
   .show f
  cases a:t.slot p.j with
  |empty=>
   rw[a]at e;let k:=Sm e;injection k with l m
   rw[<-l,<-m];show#[a,c]
  |dummy=>show absurd a (Bs b _)
  |live i=>
   rw[a]at e;dsimp only at e;split at e
   .cases e
   .show z4 b fuel _ (g p c) e
theorem Cz{t:dz}(f:t.dummies= #v[])(e:t.freeSlot h=some (j,wd)):t.slot j= .empty:=by
 unfold SetTable.freeSlot at e;split at e
 .rename_i i d g;let(b,c):=z4 f _ _ rfl g;rw[c]at e;have:=Sm e;injection this with a _
  rw[<-a];show b
 .cases e
theorem HX{t:dz}(h:mx L t)(d:t.plain=true->t.slot j= .empty):mx L (t.put j).1:=by
 show#[h.1,λe=> ?_];let a:t.plain=true:=e;let(b,c):=h.2 a;show#[6,ML c (Br (d a))];show(if abY t.dummies j=true then _ else t.dummies)= #v[];rw[b];have:abY #v[] j=false:=by unfold abY;simp
 rw[this];rfl
theorem jc{t:dz}(h:mx L t):mx L (t.standIn n):=#[h.1,λa=>by cases a]
theorem Jx(g:mx L t):mx L (layNew t es h x).2.1:=by
 unfold layNew;split
 .rename_i slot wd e;dsimp only;let g2:mx L (t.put slot).1:=HX g λa=>Cz (g.2 a).1 e;unfold SetTable.orStandIn;split
  .show g2
  .show jc g2
 .show jc g
theorem D6(p:Nat->Option Nat)(m:Nat):YO ((((range m).filterMap λj=>(p j).map λk=>(j,k)).map (·.1)).toArray):=by
 let f:(((range m).filterMap λj=>(p j).map λk=>(j,k)).map (·.1)).Pairwise (· < ·):=by
  let sub:List.Sublist (((range m).filterMap λj=>(p j).map λk=>(j,k)).map (·.1)) (range m):=by
   induction range m with
   |nil=>show List.Sublist.slnil
   |cons a l c=>
    rw[TQ];cases p a with
    |none=>show c.cons a
    |some k=>show c.cons_cons a
  show List.Pairwise.sublist sub List.pairwise_lt_range
 intro i k e b;rw[Si]at b;let d:=List.pairwise_iff_getElem.mp f i k () b e;rw[xA (by rw[Si];lia),xA (by rw[Si];show b)];simpa using d
theorem BG(g:mx L t):mx L (acp t es wanted).2.1:=by
 unfold acp;split
 .rename_i t' order e;dsimp only;split
  .unfold SetTable.relaid SetTable.laid at e;cases hl:SetTable.layClean (SetTable.sizeAbove wanted-1) (es.map (·.1))with
   |none=>rw[hl]at e;cases e
   |some owner=>
    rw[hl]at e;let a:=Sm e;injection a with b c
    rw[<-b];show#[g.1,λ_=>#[2,D6 (λj=>owner.getD j none) _]]
  .show jc g
 .show jc g
section
variable{prog:rj}{w:t4}{A:tj}{E:gs}{s:rz}
def my(prog:rj)(w:t4)(L:Bool)(h:Heap)(a:Addr)(S:Int->Bool)(n:Nat):Prop:=
 ∃o es ep t,h.get? a=some o/\o.ExactSet/\o.data= .set es ep t/\ElemsOf (aaU prog w) es.toList/\(∀k,S k=true↔∃e∈es.toList,(aaU prog w).is k e.2=true)/\es.size<scanBound/\t.fits es.size=true/\es.size=n/\mx L t
theorem my.at{h h':Heap}(x:my prog w L h a S n)(k:∀o,h.get? a=some o->h'.get? a=some o):my prog w L h' a S n:=by let(o,es,ep,t,e,r):=x;show#[o,es,ep,t,k o e,r]
theorem my.congr(x:my prog w L h a S n)(e:∀k,S k=b k)(c:n=n'):my prog w L h a b n':=by have:S=b:=funext e;subst this;subst c;show x
theorem Qr{L:Bool}{h:Heap}{o:Obj}{t:dz}(d:h.get? a=some o)(c:o.data= .set es ep t)(b:n5)(t':dz):(h.update a (aed b t')).get? a=some {o with data:= .set b (ep+1) t'}:=by
 let q:=Tj (aed b t') d (by rw[putSet_of b t' c];rfl)
 rwa [putSet_of b t' c]at q
theorem Nf{g:Bool->Sem Unit}(N:∀(b:Bool)(J:rz)(u:hP),u aaR J->aag (model prog w) A (g b) u E J){o:Obj}{t:dz}(H:s.1.get? a=some o)(B:o.ExactSet)(y:o.data= .set es ep t){c:n5}{d:dz}(z:ElemsOf (aaU prog w) c.toList)(G:∀j,S' j=true↔∃e∈c.toList,(aaU prog w).is j e.2=true)(i:c.size<scanBound)(M:d.fits c.size=true)(x:mx L d){R:Option Bool->Shared->Prop}(h:∀h',aas a s.1 h'->my prog w L h' a S' c.size->R (some true) {s with heap:=h'}):
  aag (model prog w) A (do
    storeSet a c d
    if(!wd&&d.tooFull)=true then do
      g (acp d c (aaO c.size)).2.2
      storeSet a (acp d c (aaO c.size)).1 (acp d c (aaO c.size)).2.1
      pure (some true)
     else pure (some true)) R E s:=by
 show RC (ada H y ?_ (adb i));let k:=Qr (L:=L) H y c d;let v:=Tw s.1 a (aed c d);split
 .let f:=relayAll_perm d c (aaO c.size);let n:=relayAll_fits d c (aaO c.size);let p:=BG (es:=c) (wanted:=aaO c.size) x;generalize acp d c (aaO c.size)=Z at f n p⊢;let(l,K,O):=Z;dsimp only at f n p⊢;let r:l.size=c.size:=by rw[<-Sq,f.length_eq,Sq]
  show RC (N _ _ _ ?_);show RC (ada k rfl ?_ (adb (by rw[r];show i)));show RS (h _ (v.trans (Tw _ a _)) #[_,l,_,K,Qr (L:=L) k rfl l K,B,2,z.perm f,λj=> ?_,by rw[r];show i,n,r,p]);rw[G j];show#[λ⟨e,m,q⟩=>#[e,f.mem_iff.mpr m,q],λ⟨e,m,q⟩=>#[e,f.mem_iff.mp m,q]]
 .show RS (h _ v #[_,c,_,d,k,B,2,z,G,i,M,2,x])
theorem Rn(hS:my prog w L s.1 a S n)(a7:n+1<scanBound)(h:∀h',aas a s.1 h'->my prog w L h' a (λd=>S d||decide (d=k)) (if S k then n else n+1)->Q (!S k) {s with heap:=h'}):
  aag (model prog w) A (setAddHashed a (.int k i) ((aaU prog w).hash k)) Q E s:=by
 let u:(aaU prog w).is k (.int k i)=true:=intKind_is _ _ _ _;let K:(aaZ k i).scannable=true:=rfl;let(o,es,ep,t,y,N,p,r,v,hb,O,hn,hT):=hS;unfold setAddHashed setAddHashedIn;show Ur (RC (ade y p O ?_));dsimp only;rw[byScan_of K hb r];simp only[↓reduceIte];unfold setAddByScan;show RC (RC (acP ?_));show RC (wpAny_setScan_of u y p O r ?_);cases hr:List.findIdx? (λe=>(aaU prog w).is k e.2) es.toList with
 |some j=>
  dsimp only;let(hj,a5,_):=List.findIdx?_eq_some_iff_getElem.mp hr;let m:S k=true:=(v k).mpr #[_,SX hj,a5];show RS (RS ?_);let q:=h s.1 (aeM a s.1) #[o,es,ep,t,y,N,p,r,λd=> ?_,hb,O,by rw[m];show hn,hT]
  .rwa[m]at q
  .rw[TN,Ub,<-v d];show#[λz=>z.elim id λe=>e▸m, .inl]
 |none=>
  dsimp only;let m:S k=false:=by
   cases hk:S k with
   |false=>rfl
   |true=>
    let(e,he,hp):=(v k).mp hk;let z:=List.findIdx?_eq_none_iff.mp hr e he;rw[hp]at z;cases z
  let c:=layNew_perm t es ((aaU prog w).hash k) (.int k i);let B:=layNew_fits t es ((aaU prog w).hash k) (.int k i);let G:=Jx (es:=es) (h:=(aaU prog w).hash k) (x:= .int k i) hT;generalize layNew t es ((aaU prog w).hash k) (.int k i)=Z at c B G⊢;let(M,t1,wd,gv):=Z;dsimp only at c B G⊢;rw[adf]at c;let z1:M.size=n+1:=by rw[<-Sq,c.length_eq,R4,Sq,hn];rfl
  let ai:M.size<scanBound:=by rw[z1];show a7
  let U:∀h',aas a s.1 h'->my prog w L h' a (λd=>S d||decide (d=k)) M.size->Q true {s with heap:=h'}:=λh' H g=>by have q:=h h' H;rw[m]at q;rw[z1]at g;show q g
  let quiet:∀(b:Bool) {J:rz} {l:hP},l aaR J->aag (model prog w) A (match b with|true=>rule "set.scan.the-table-gave-way"|false=>pure aaR) l E J:=λb J l f=>by cases b<;>first|show RS f|show acP f
  show RC (quiet _ ?_);split
  .show RC ?_;rw[hashByValue_scannable 8 K];show RS ?_;show Nf (L:=L) (λb J l f=>quiet b f) y N p ((r.push u K).perm c) (mem_push_iff u v c) ai ?_ ?_ λh' H g=>RS (U h' H g)
   .split
    .show B
    .show SetTable.fits_plain_off B
   .split
    .show G
    .show#[G.1,λz=>by cases z]
  .show RC (RS ?_);simp only[↓reduceIte];show Nf (L:=L) (λb J l f=>quiet b f) y N p ((r.push u K).perm c) (mem_push_iff u v c) ai B G λh' H g=>RS (U h' H g)
end
section
variable{prog:rj}{w:t4}{A:tj}{R:Result->Shared->Prop}{I:Addr}{fp wr:List Addr}{G:Array GenState->Array GenState->Prop}{n:Nat}{P:Nat->Value->Prop}{St:Nat->Shared->Prop}
theorem Qy(W:WalksS prog w A.in1 I fp wr G n P St)(D:Addr)(j:D∉fp)(val:Nat->Int)(B:∀i v,P i v->∃t,v= .int (val i) t)(a:n+1<scanBound):
  ∀(k i:Nat)(s:rz),n-i=k->i<=n->St i s->my prog w L s.1 D (λc=>(aaN val i).any (· ==c)) (aaN val i).length->
   (∀s',Moved (D::wr) G s s'->my prog w L s'.1 D (λc=>(aaN val n).any (· ==c)) (aaN val n).length->R (.ok (.ret .none)) s')->
   aaV (model prog w) A (.builtin "set.update.loop" #[[.ref D, .ref I],[]]) R s:=by
 let l:D∉wr:=λh=>j (W.sub _ h);let q:∀b∈wr,b∈D::wr:=λb a=>RI _ a;intro k
 induction k with
 |zero=>
  intro i s x u st g f;obtain rfl:i=n:=()
  show Tx F.entry_set_update_loop ?_;rw[TH Vv _];change aag _ A.in1 (abd (.ref I)>>=_) _ _ s;show RC (W.done s _ _ st λs' d=> ?_);change aag _ A.in1 (ret aav) _ _ s';show RS (f s' (d.mono q) (g.at λo e=>d.1 D o l e))
 |succ k H=>
  intro i s x u st g f;let m:i<n:=()
  show Tx F.entry_set_update_loop ?_;rw[TH Vv _];change aag _ A.in1 (abd (.ref I)>>=_) _ _ s;show RC (W.item i s _ _ m st λv s' r K d=> ?_);let(t,rfl):=B i v r;let g':=g.at (h':=s'.1) λo e=>d.1 D o l e;change aag _ A.in1 (abi [aaZ (val i) t] (setAdd D (.int (val i) t))>>=_) _ _ s';show RC (Ur ?_);unfold setAdd;show Ur (RC ((aaU prog w).pyHash (k:=val i) (intKind_is _ _ _ _) ?_));show Rn (s:={s' with toks:=s'.4+1}) g' (by have:=firstMet_length_le val i;lia) λh' p g2=> ?_;let g3:my prog w L h' D (λc=>(aaN val (i+1)).any (· ==c)) (aaN val (i+1)).length:=g2.congr (λc=>by rw[acE,step_any]) (by rw[acE,step_length]);show RS #[U8 Vv _,H (i+1) _ () m (W.frame _ s' _ _ K (Uh _) λb a o e=> ?_) g3 λJ y g4=> ?_]
  .rw[p.2 b (λz:b=D=>j (by rw[<-z];show a))];show e
  .show f J (Moved.trans W.gtrans ((d.mono q).then_heap (Uh _) λb o a e=> ?_) y) g4;rw[p.2 b (λz:b=D=>a (by rw[z];show RH))];show e
end
noncomputable def rH(w:t4):Bool:= !w.params.followText Xi
noncomputable def sS(w:t4):Obj:={cls:= .type XA,dict:=none,data:= .set #v[] 0 (.fresh 0 0 (rH w))}
section
variable{prog:rj}{w:t4}{A:tj}{E:gs}{s:rz}
theorem FX(a:Value)(h:Q₁ (.ref s.1.1.size) {s with heap:=s.1.push (sS w)}):
  aaV (model prog w) A (.call (.builtin "set.__new__") #[[.type XA,a],[]]) (wants Q₁ E) s:=by
 show codeAny_of_tree ?_;change aag _ A.in1 (do checkBuiltinCall "set.__new__" #[[.type XA,a],[]];again (.builtin "set.__new__" #[[.type XA,a],[]])) _ _ s;show RC (wpAny_of_eq (PySem.F.newCall_set_1 a) (RS #[U8 aca _,Tx PySem.F.entry_set_new ?_]));rw[TH aca _];unfold aa1.«set.__new__» Builtin.Frozenset.newClass;let c:=sub_set_self;let(b,g,d,e,os):=s;dsimp only
 wp_walk
 show UA (RS ?_);dsimp only;simp only[newObj];show RC (wpAny_alloc (RS ?_));show RS h
set_option maxHeartbeats 8000000 in
theorem yU{items:pj}{ns:qR}(hh:A.handled=none)(hl:s.1.IsList l items)(hi:aa0 items.toList ns)(hb:items.size+1<scanBound)(h:∀(h':Heap)(g:Nat),my prog w (rH w) h' s.1.1.size (λm=>(aaN (λi=>ns.getD i 0) items.size).any (· ==m)) (aaN (λi=>ns.getD i 0) items.size).length->
   (∀b o,b<s.1.1.size->s.1.get? b=some o->h'.get? b=some o)->Q (.ref s.1.1.size) {s with heap:=h',toks:=g}):
  aag (model prog w) A (call (.type XA) [.ref l]) Q E s:=by
 let(c,tl,b8):=TC.mro;let b7:=TC.made;let cn:=TC.sub;show acJ (codeAny_of_tree ?_);change aag _ _ (callAny (.type XA) _) _ _ _;show RS #[Wb _ #[9],Tx PySem.F.entry_type_call ?_];rw[Around.under_plain (weight_type_call_type XA [.ref l] []) rfl];let h1:=TC.notType;let h2:=TC.canCreate;let b5:=PySem.F.typeCall_set_1 (.ref l)
 repeat (any_goals (first|assumption|wp_step))
 show UX (FX (.ref l) (E:=E) (Q₁:=λG H=>G= .ref s.1.1.size/\H={s with heap:=s.1.push (sS w)}) #[22]) λr H a=> ?_;cases r with
 |error e=>show a
 |ok O=>
  cases O with
  |ret G=>
   let(rfl,rfl):=a;clear h1 h2 b8 b5;let n:(s.1.push (sS w)).get? s.1.1.size=some (sS w):=R8 _ rfl;let hT:Shared.TypeIs {s with heap:=s.1.push (sS w)} (.ref s.1.1.size) XA:=#[_,n,2];let b6:=TC.init.lookup;let b4:=TC.init.bind (.ref s.1.1.size)
   repeat (any_goals (first|assumption|wp_step))
   show UX (codeAny_call_builtin (R:=wants (λr J=>r= .none/\∃h' g,J={s with heap:=h',toks:=g}/\
     my prog w (rH w) h' s.1.1.size (λm=>(aaN (λi=>ns.getD i 0) items.size).any (· ==m)) (aaN (λi=>ns.getD i 0) items.size).length/\
     (∀b o,b<s.1.1.size->s.1.get? b=some o->h'.get? b=some o)) E) TC.init.plain PySem.F.entry_set_init (check_set_init_1 hT ?_)) λb0 J d=> ?_
   .let(ol,z,q,B,u):=hl;let(ct,bt,cz,bN):=ol;simp only at q u;subst q;subst u;let a7:(s.1.push (sS w)).get? l=some {cls:= .type Xc,dict:=bt,data:= .seq items B,slots:=bN}:=RN _ z;let cm:=PySem.F.sub_list_set;let cj:=PySem.F.sub_list_frozenset;let cf:(aae Xc==aae Xk)=false:=∅
    let x:(s.1.push (sS w)).IsList l items:=#[_,a7,2,B,2];unfold aa1.«set.__init__» noKeywords Builtin.Frozenset.updateFrom;generalize ab:ado=PI;clear b7 b6 b4 hT
    repeat (first|with_reducible refine RS ?_|with_reducible refine RC ?_|((with_reducible apply wpAny_ite_false);focus (rfl;done))|((with_reducible apply wpAny_ite_true);focus (rfl;done))|wp_delta|wp_step)
    subst ab;show UT x ?_;show RC (aco ?_);let y:l<s.1.1.size:=R0 z;let az:A.in1.in1.in1.handled=none:=by simp[hh]
    let a5:l≠(s.1.push (sS w)).1.size:=by rw[S7];show Sb (Uc y)
    let af:s.1.1.size∉ [(s.1.push (sS w)).1.size,l]:=by rw[S7];simp only[RT,RY,Uy,WG,not_or];show#[Sb (S3 _),T7 y]
    let bo:∀(i:Nat)(v:Value),items[i]?=some v->∃t,v= .int ((λi=>ns.getD i 0) i) t:=λi v hv=>IntsAre.int_at hi i v (by rw[Tn];show hv);show Qy (L:=rH w) ((Walks.list az _ l a5 items).toS) s.1.1.size af (λi=>ns.getD i 0) bo hb (items.size-0) 0 _ () (Sw _) #[#[_,R8 _ rfl,22],(x.push _)] ?hS0 ?hR
    case hS0=>
     show#[sS w, #v[],0, .fresh 0 0 (rH w),RN _ n,#[222],2,(λe he=>by simp at he),(λk=> ?_),4222,λ_=>#[2,λi k _ hk=>by simp[SetTable.fresh]at hk]];simp[firstMet_zero]
    case hR=>
     intro s' f j;let(h',g',d',b1,bx):=s';let M:g'=s.gens:=f.gens;let K:d'=s.drawn:=f.drawn;let N:bx=s.os:=f.os;subst M;subst K;subst N;change aag _ _ _ _ _ _;show RS ?_;change aag _ _ (ret aav) _ _ _;show RS #[2,h',b1,2,j,λb o p e=> ?_];let ar:b≠(s.1.push (sS w)).1.size:=by rw[S7];show Sb (Uc p)
     show f.1 b o (by simp only[RT,RY,Uy,WG,not_or];show#[Sb p,ar]) (RN _ (RN _ e))
   .cases b0 with
    |error e=>show d
    |ok U=>
     cases U with
     |ret r=>
      let(rfl,h',g,rfl,j,a4):=d
      repeat (any_goals (first|assumption|wp_step))
      show h _ _ j a4
     |next=>show d.elim
     |brk=>show d.elim
     |cont=>show d.elim
  |next=>show a.elim
  |brk=>show a.elim
  |cont=>show a.elim
end
theorem aF:Slot Xf XC Xo:=
 .of (owner:= Xf) (n:= XC) (by rw[WZ,VI];kernel_rfl) #[9] #[9] #[9]
  (by first|show .inl #[9]|show .inr #[9]) (by rw[acq];kernel_rfl)
theorem ib:Slot Xf "__iter__" Xp:=
 .of (owner:= Xf) (n:= "__iter__") (by rw[WZ,VI];kernel_rfl) #[9] #[9] #[9]
  (by first|show .inl #[9]|show .inr #[9]) (by rw[acq];kernel_rfl)
theorem cA:aea table Xo=some aa1.«set_iterator.__next__»:=entryFor_of_fast (by kernel_rfl)
theorem nZ:aea table Xp=some aa1.«dict_keyiterator.__iter__»:=entryFor_alias (id':= "dict_keyiterator.__iter__") (by kernel_rfl) rfl #[9] (by kernel_rfl)
theorem uO:aea table "set.__iter__"=some aa1.«frozenset.__iter__»:=entryFor_alias (id':= "frozenset.__iter__") (by kernel_rfl) rfl #[9] (by kernel_rfl)
theorem cQ(a:Value):argsOk Xo #[[a],[]]:=by unfold argsOk;kernel_rfl
theorem pF(a:Value):argsOk Xp #[[a],[]]:=by unfold argsOk;kernel_rfl
def Yq(h:Heap)(I:Addr)(first:Value)(i:Nat)(a:Addr)(n ep:Nat):Prop:=∃o,h.get? I=some o/\o.cls= .type Xf/\o.data= .fields #v[first, .int i 0, .ref a, .int n 0, .int ep 0]
theorem Yq.ty{s:rz}(x:Yq s.1 I first i a n ep):s.TypeIs (.ref I) Xf:=by let(o,e,c,_):=x;show#[o,e,c]
theorem Yq.at{h h':Heap}(x:Yq h I first i a n ep)(k:∀o,h.get? I=some o->h'.get? I=some o):Yq h' I first i a n ep:=by let(o,e,r):=x;show#[o,k o e,r]
section
variable{prog:rj}{w:t4}{A:tj}{E:gs}{s:rz}
theorem je(b:Yq s.1 I first i a n ep)(h:Q (.ref I) s):aag (model prog w) A (ado (.ref I)) Q E s:=by show adg b.ty ib (T3 ib b.ty nZ ?_ (pF _));change aag _ _ (ret (.ref I)) _ _ s;show RS #[7,Xf,_,b.ty,aF.lookup,h]
structure Ye(h:Heap)(a:Addr)(es:n5)(ep:Nat)(t:dz):Prop where
 at_:∃o:Obj,h.get? a=some o/\o.ExactSet/\o.data= .set es ep t
 fits:t.fits es.size=true
theorem Ye.keep{h h':Heap}(x:Ye h a es ep t)(k:∀o,h.get? a=some o->h'.get? a=some o):Ye h' a es ep t:=by let((o,e,r),f):=x;show#[#[o,k o e,r],f]
theorem cC{Q:(Array (Int×Value)×Nat×dz)->Shared->Prop}(x:Ye s.1 a es ep t)(h:Q (es,ep,t) s):aag (model prog w) A (setState a) Q E s:=by let((o,e,_,d),f):=x;show ade e d f h
theorem wL{es:n5}{slot slot' i:Nat}(c:Yq s.1 I (.int slot 0) i a es.size ep)(m:Ye s.1 a es ep t)(j:∀(h:tj)(E':gs) (e:Option (Value×Nat)->Shared->Prop),e (some (x,slot')) s->aag (model prog w) h (adh a slot i ep) e E' s)(k:∀h',Yq h' I (.int slot' 0) (i+1) a es.size ep->aas I s.1 h'->Q (some x) {s with heap:=h'}):aag (model prog w) A (abd (.ref I)) Q E s:=by
 let(o,d,l,b):=id c;unfold abd;show RC (Wl (UH (name:=aaf XC) c.ty aF (T3 aF c.ty cA ?_ (cQ _))));unfold aa1.«set_iterator.__next__» adi;simp only[U4,U9,Tz,↓reduceIte,bind_assoc,T9,UW];show RC (RS ?_);show RC (V2 d b ?_);dsimp only;unfold abZ;show RC (RC (cC m (RS ?_)));dsimp only;rw[RQ #[5]];simp only[RA];show RC (j _ _ _ ?_);dsimp only;show RC (Ug d b #[5] ?_);let g:(s.1.update I (aby (·.setIfInBounds 0 (abk (slot':Int))))).get? I=some _:=Tj _ d (Um (Te b _));let d1:=Te b (λf=>f.setIfInBounds 0 (abk (slot':Int)));show RC (Ug g d1 #[5] ?_);show RS #[7,RS (k _ #[_,Tj _ g (Um (Te d1 _)),66] ((Tw ..).trans (Tw ..)))]
 .show(Wv ..).trans ((Wv ..).trans l)
 .rw[Te d1];simp[abk]
theorem sN{I:Addr}(g:A.handled=none)(c:Heap)(f:∀h',(∀b o,c.get? b=some o->h'.get? b=some o)->Q none {s with heap:=h'}):
  aag (model prog w) A.in1 (do raiseNew (<-newExc (.type XJ) [])) (λ(d:Fin) s'=>∃v,d= .done (.ret v)/\aag (model prog w) A (pure (some v)) Q E s') (λe s'=>aag (model prog w) A (do if<-isInstance e (.type XJ)then pure none else throw e) Q E s') {s with heap:=c}:=by
 show RC ?_;simp only[newExc,newTuple];show RC (Uu ?_ (by size_fits));show RC (m:=firstArgMember _ _) (wpAny_of_eq (a:=aav) (by first|rfl|(simp only[firstArgMember];rfl)) ?_);show Uu ?_ (by size_fits);simp only[raiseNew];show RC (wpAny_handled ?_);rw[show A.in1.handled=none from g];show RC (RS (wpAny_throw ?_));show RC (adD (T:= XJ) (b:=true) #[_,R8 _ rfl,2] isSubtype_stop ?_);show RS (f _ λb o e=>RN _ (RN _ e))
theorem Ap{es:n5}{slot i:Nat}(n:A.handled=none)(c:Yq s.1 I (.int slot 0) i a es.size ep)(p:Ye s.1 a es ep t)(j:∀(h:tj)(E':gs) (d:Option (Value×Nat)->Shared->Prop),d none s->aag (model prog w) h (adh a slot i ep) d E' s)(l:∀h',aeI I s.1 h'->Q none {s with heap:=h'}):aag (model prog w) A (abd (.ref I)) Q E s:=by
 let(o,g,q,f):=id c;unfold abd;show RC (Wl (UH (name:=aaf XC) c.ty aF (T3 aF c.ty cA ?_ (cQ _))));unfold aa1.«set_iterator.__next__» adi;simp only[U4,U9,Tz,↓reduceIte,bind_assoc,T9,UW];show RC (RS ?_);show RC (V2 g f ?_);dsimp only;unfold abZ;show RC (RC (cC p (RS ?_)));dsimp only;rw[RQ #[5]];simp only[RA];show RC (j _ _ _ ?_);dsimp only;show RC (Ug g f #[5] ?_);show sN (I:=I) n _ λh' k=>l h' λb o m e=>k b o (acB (Tw ..) b o m e)
theorem CC{es:n5}{i j:Nat}(c:Yq s.1 I (.ref T) i a es.size ep)(e:Ye s.1 a es ep t)(g:IsTup s.1 T pl)(m:pl[i]?=some (.int j 0))(k:es[j]?=some (hx,x))(f:∀h',Yq h' I (.ref T) (i+1) a es.size ep->aas I s.1 h'->Q (some x) {s with heap:=h'}):aag (model prog w) A (abd (.ref I)) Q E s:=by
 let(o,d,h,b):=id c;unfold abd;show RC (Wl (UH (name:=aaf XC) c.ty aF (T3 aF c.ty cA ?_ (cQ _))));unfold aa1.«set_iterator.__next__» adi;simp only[U4,U9,Tz,↓reduceIte,bind_assoc,T9,UW];show RC (RS ?_);show RC (V2 d b ?_);dsimp only;unfold abZ;show RC (RC (cC e (RS ?_)));dsimp only;rw[RQ #[5]];let(q,l,n,dT):=g;let(p,dT):=dT;show RC (acm l dT ?_);simp only[RA,m];unfold setNextDrawn;show RC (RC (cC e ?_));dsimp only;rw[RQ #[5]];rw[k];show RS ?_;show RC (Ug d b #[5] ?_);show RS #[7,RS (f _ #[_,Tj _ d (Um (Te b _)),66] (Tw ..))]
 .show(Wv ..).trans h
 .rw[Te b];simp[abk]
theorem FR{es:n5}(n:A.handled=none)(d:Yq s.1 I (.ref T) i a es.size ep)(r:Ye s.1 a es ep t)(l:IsTup s.1 T pl)(q:pl[i]?=none)(j:∀h',aeI I s.1 h'->Q none {s with heap:=h'}):aag (model prog w) A (abd (.ref I)) Q E s:=by
 let(o,g,x,c):=id d;unfold abd;show RC (Wl (UH (name:=aaf XC) d.ty aF (T3 aF d.ty cA ?_ (cQ _))));unfold aa1.«set_iterator.__next__» adi;simp only[U4,U9,Tz,↓reduceIte,bind_assoc,T9,UW];show RC (RS ?_);show RC (V2 g c ?_);dsimp only;unfold abZ;show RC (RC (cC r (RS ?_)));dsimp only;rw[RQ #[5]];let(y,p,u,dT):=l;let(v,dT):=dT;show RC (acm p dT ?_);simp only[RA,q];show RC (Ug g c #[5] ?_);let h:(s.1.update I (aby (·.setIfInBounds 0 (abk 0)))).get? I=some _:=Tj _ g (Um (Te c _));let d1:=Te c (λf=>f.setIfInBounds 0 (abk 0));show RC (Ug h d1 #[5] ?_);show sN (I:=I) n _ λh' k=>j h' λb o m e=>k b o (acB ((Tw ..).trans (Tw ..)) b o m e)
end
theorem qA{b:Type}:∀(l:List b)(i:Nat)(h:i<l.length),(l[i]::l.eraseIdx i).Perm l
 |a::l,0,_=>V3 _
 |a::l,i+1,h=>((List.Perm.swap a (l[i]'#[5,h]) (l.eraseIdx i)).trans ((qA l i #[5,h]).cons a))
theorem DB(next:Nat->Nat):∀(fuel k:Nat)(left:List b)(out:Array b),left.length=fuel->(pickOrder.go next fuel k left out).toList.Perm (out.toList++left)
 |0,k,left,out,h=>by have:left=[]:=Sx.mp h;subst this;rw[Tc];show V3 _
 |fuel+1,k,left,out,h=>by unfold pickOrder.go;let hl:next k % left.length<left.length:=VR _ ();rw[RR hl];dsimp only;let a:=DB next fuel (k+1) (left.eraseIdx (next k % left.length)) (out.push left[next k % left.length]) (by rw[Wm hl];lia);show a.trans ?_;rw[adf,TK];show List.Perm.append_left _ ?_;show qA left _ hl
theorem qb(next:Nat->Nat)(xs:Array a):(abf next xs).toList.Perm xs.toList:=by grind [abf,DB]
section
variable{prog:rj}{w:t4}{A:tj}{E:gs}{s:rz}
theorem wK(d:w.params.followText Xi=true)(c:Ye s.1 a es ep t)(h:Q (((abf (w.params.setOrder a ep) es)[i]?).map λe=>(e.2,slot)) s):aag (model prog w) A (adh a slot i ep) Q E s:=by
 unfold adh;show RC (cC c ?_);dsimp only;unfold acR;show RC (RC (UA (RS ?_)));show Up (λ_=> ?_) λb=>absurd d b;rw[RQ #[5]];unfold setWalk acR;show RC (RC (cC c ?_));dsimp only;show RC (RC (UA (RS ?_)));show Up (λ_=> ?_) λb=>absurd d b;show RC (UA (RS (RS ?_)));show h
theorem Ao{es:n5}{t:dz}(e:w.params.followText Xi=false)(d:Ye s.1 a es ep t)(c:(!t.plain&&decide (es.size>1))=false)(hl:t.led=true)(h:Q (match es[aah t.place slot]?,t.place[aah t.place slot]? with
   |some (_,x),some j=>some (x,j+1)
   |_,_=>none) s):aag (model prog w) A (adh a slot i ep) Q E s:=by
 unfold adh;show RC (cC d ?_);dsimp only;unfold acR;show RC (RC (UA (RS ?_)));show Up (λb=>absurd b (by show¬w.params.followText Xi=true;rw[e];show RO)) λ_=> ?_;change aag _ _ (if(!t.plain&&decide (es.size>1))=true then _ else _) _ _ _;rw[RQ (by rw[c];show RO)];show RC ?_;change aag _ _ (if(!t.led&& !es.isEmpty)=true then unsupported "set:maker-not-led" else pure aaR) _ _ _;rw[RQ (by rw[hl];simp)];show RS (RS h)
theorem F4(a:n≠0)(h:∀i d',i<n->Q i {s with drawn:=d'}):aag (model prog w) A (choose src n) Q E s:=λc p b=>by unfold choose;rw[Sem.wp_choose];show#[a,h _ _ (VR _ (Vm a))]
theorem DP:∀(n:Nat)(xs:List e)(s:rz)(Q:List e->Shared->Prop),xs.length=n->(∀b d',b.Perm xs->Q b {s with drawn:=d'})->aag (model prog w) A (drawOrder n xs) Q E s
 |0,xs,s,Q,hl,h=>by have:xs=[]:=Sx.mp hl;subst this;show RS (h [] s.drawn (V3 _))
 |n+1,[],s,Q,hl,h=>by simp at hl
 |n+1,x::xs,s,Q,hl,h=>by unfold drawOrder;show RC (F4 #[5] λi d' a=> ?_);rw[RR a];dsimp only;show RC (DP n ((x::xs).eraseIdx i) _ _ (by rw[Wm a];lia) λb c d=> ?_);show RS (h _ c ((d.cons _).trans (qA (x::xs) i a)))
theorem Bc{I a:Addr}{es:n5}{ep:Nat}{t:dz}(ne:a≠I)(ht:w.params.followText Xi=true){A:tj}(m:A.handled=none):
  Walks prog w A I [I,a] [I] es.size (λi v=>((abf (w.params.setOrder a ep) es).toList.map (·.2))[i]?=some v) (λi h=>Yq h I (.int 0 0) i a es.size ep/\Ye h a es ep t) where
 sub:=λb c=>by simp at c;simp[c]
 frame:=λ_ _ _ st g=>#[st.1.at λo e=>g I #[5] o e,st.2.keep λo e=>g a #[5] o e]
 item:=λi s Q E n st d=>by
  let hz:(abf (w.params.setOrder a ep) es).toList.length=es.size:=by rw[(qb _ es).length_eq,Sq]
  obtain⟨e,f⟩:∃e,(abf (w.params.setOrder a ep) es)[i]?=some e:=#[_,SS (by rw[<-Sq,hz];show n)];show wL (slot':=0) (x:=e.2) st.1 st.2 (λk E' l h=>wK ht st.2 (by rw[f];show h)) λh' p j=> ?_;show d e.2 h' s.4 (by rw[RU,Tn,f];rfl) #[p,st.2.keep λo e=>j.extBut a o ne e] λb o c e=>j.extBut b o (λz=>c (by simp[z])) e
 done:=λs Q E st d=>by
  let hz:(abf (w.params.setOrder a ep) es).toList.length=es.size:=by rw[(qb _ es).length_eq,Sq]
  let f:(abf (w.params.setOrder a ep) es)[es.size]?=none:=ab0 (by rw[<-Sq,hz];show RJ _);show Ap m st.1 st.2 (λk E' l h=>wK ht st.2 (by rw[f];show h)) λh' hx=>d h' s.4 λb o c e=>hx b o (λz=>c (by simp[z])) e
 self:=λ_ _ _ _ st d=>je st.1 d
noncomputable def Bt(t:dz):Nat->Nat
 |0=>0
 |i+1=>t.place.getD i 0+1
theorem vd{t:dz}(a:YO t.place):∀i,i<=t.place.size->aah t.place (Bt t i)=i
 |0,_=>CP a
 |i+1,h=>Kj a ()
theorem D5{I a:Addr}{es:n5}{ep:Nat}{t:dz}(ne:a≠I)(ht:w.params.followText Xi=false)(j:(!t.plain&&decide (es.size>1))=false)(hl:t.led=true)(l:YO t.place)(hz:t.place.size=es.size){A:tj}(q:A.handled=none):
  Walks prog w A I [I,a] [I] es.size (λi v=>(es.toList.map (·.2))[i]?=some v) (λi h=>Yq h I (.int (Bt t i) 0) i a es.size ep/\Ye h a es ep t) where
 sub:=λb c=>by simp at c;simp[c]
 frame:=λ_ _ _ st g=>#[st.1.at λo e=>g I #[5] o e,st.2.keep λo e=>g a #[5] o e]
 item:=λi s Q E r st d=>by
  let c:=vd l i ();let f:es[i]?=some es[i]:=SS r;let p:t.place[i]?=some (t.place.getD i 0):=by rw[xA (),SS ()]
  show wL (slot':=Bt t (i+1)) (x:=es[i].2) st.1 st.2 (λm E' n h=>Ao ht st.2 j hl (by rw[c,f,p];show h)) λh' u k=> ?_;show d es[i].2 h' s.4 (by rw[RU,Tn,f];rfl) #[u,st.2.keep λo e=>k.extBut a o ne e] λb o c e=>k.extBut b o (λz=>c (by simp[z])) e
 done:=λs Q E st d=>by have c:=vd l es.size ();let f:es[es.size]?=none:=ab0 (RJ _);show Ap q st.1 st.2 (λm E' n h=>Ao ht st.2 j hl (by rw[c,f];show h)) λh' hx=>d h' s.4 λb o c e=>hx b o (λz=>c (by simp[z])) e
 self:=λ_ _ _ _ st d=>je st.1 d
theorem za{I a T:Addr}{es:n5}{ep:Nat}{t:dz}{c:qs}(ne:a≠I)(nT:T≠I)(hz:c.length=es.size)(u:∀j∈c,j<es.size){A:tj}(p:A.handled=none):
  Walks prog w A I [I,a,T] [I] es.size (λi v=>(c.map λj=>(es.getD j (0, .none)).2)[i]?=some v) (λi h=>Yq h I (.ref T) i a es.size ep/\Ye h a es ep t/\IsTup h T (c.map λj:Nat=>aaZ j 0).toArray) where
 sub:=λb d=>by simp at d;simp[d]
 frame:=λ_ _ _ st k=>#[st.1.at λo e=>k I #[5] o e,st.2.1.keep λo e=>k a #[5] o e,by let(o,e,r):=st.2.2;show#[o,k T #[5] o e,r]]
 item:=λi s Q E y st f=>by
  let g:i<c.length:=()
  let m:=u _ (SX g);let n:es[c[i]]?=some es[c[i]]:=SS m;show CC (j:=c[i]) (x:=es[c[i]].2) (hx:=es[c[i]].1) st.1 st.2.1 st.2.2 (by simp[g]) n λh' q l=> ?_;show f es[c[i]].2 h' s.4 ?_ #[q,st.2.1.keep λo e=>l.extBut a o ne e,6] λb o d e=>l.extBut b o (λz=>d (by simp[z])) e
  .rw[RU,RR g];simp[acQ,m]
  .let(o,e,r):=st.2.2;show#[o,l.extBut T o nT e,r]
 done:=λs Q E st f=>FR p st.1 st.2.1 st.2.2 (by simp[hz]) λh' hx=>f h' s.4 λb o d e=>hx b o (λz=>d (by simp[z])) e
 self:=λ_ _ _ _ st f=>je st.1 f
theorem JC{es:n5}(c:Ye s.1 a es ep t)(z:mx (rH w) t)(l:es.size<scanBound)(q:∀(I:Addr)(h':Heap)(d':Drawn)(vs:pk)(y:List Addr)(St:Nat->Heap->Prop),(∀b o,s.1.get? b=some o->h'.get? b=some o)->s.1.1.size<=I->(∀b∈y,b=a\/s.1.1.size<=b)->
   (∀f:Around,f.handled=none->Walks prog w f I y [I] es.size (λi v=>vs[i]?=some v) St)->St 0 h'->vs.Perm (es.toList.map (·.2))->Q (.ref I) {s with heap:=h',drawn:=d'}):aag (model prog w) A (ado (.ref a)) Q E s:=by
 let((o,B,M,hd),N):=id c;let J:s.TypeIs (.ref a) XA:=#[o,B,M.1];let n:a<s.1.1.size:=R0 B;show adg J acb (T3 acb J uO ?_ (PySem.F.args_set_iter_1 _));unfold aa1.«frozenset.__iter__» Builtin.Frozenset.slot0 adi;simp only[U4,U9,Tz,↓reduceIte,bind_assoc,T9,UW];unfold Builtin.Frozenset.addrOf Builtin.Frozenset.sizeOf abZ setDrawn setEpoch acR;show RC (RS ?_);show RC (RS ?_);show RC (RC (RC (cC c (RS (RS ?_)))));show RC (RC (cC c ?_));dsimp only;show RC (RC (UA (RS (RS ?_))));change aag _ _ (if(!w.params.followText Xi&&(!t.plain&&decide (es.size>1)))=true then _ else _) _ _ _;let hz:t.place.size=es.size:=by have:=N;simp only[SetTable.fits,RZ,UJ]at this;show this.1
 let nT:∀ {h:Heap} {I:Addr},s.1.1.size<=I->a≠I:=λ{h I} hI e=>by rw[<-e]at hI;show absurd n (Wy.mpr hI)
 show Up (λp=> ?_) λp=> ?_
 .let L:es.size<=sizeLine:=RB (TX l) ∅;show RC (DP es.size (range es.size) s _ #[5] λx d' d=> ?_);let K:x.length=es.size:=by rw[d.length_eq,RW]
  let jb:∀j∈x,j<es.size:=λj O=>R1.mp (d.mem_iff.mp O);show RC ?_;simp only[newTuple];show Uu ?_ ?_
  rotate_left
  .show sizeOk (.seq _ _);unfold sizeOk;simp only[Si,My,K];show L
  show RC (RC (cC (s:={s with heap:=s.1.push _,drawn:=d'}) (c.keep λo e=>RN _ e) (RS ?_)));show RC ?_;simp only[newFields];show Uu (RS #[7,Xf,_,#[_,R8 _ rfl,2],aF.lookup,6]);show q _ _ d' (x.map λj=>(es.getD j (0, .none)).2) [_,a,s.1.1.size] _ (λb o e=>RN _ (RN _ e)) ?_ ?_ (λf h'=>za (t:=t) (ep:=ep) ?_ ?_ K jb h') #[#[_,R8 _ rfl,22],c.keep λo e=>RN _ (RN _ e),_,RN _ (R8 _ rfl),2,0,6] ?_
  .show s.1.1.size<=(s.1.push _).1.size;rw[S7];show Uh _
  .intro b m;rcases RT.mp m with e|m
   .show .inr ?_;rw[e];change s.1.1.size<=(s.1.push _).1.size;rw[S7];show Uh _
   .rcases RT.mp m with e|m
    .show .inl e
    .rw[RY.mp m];show .inr (RJ _)
  .intro e;let g:a=(s.1.push _).1.size:=e;rw[S7]at g;rw[g]at n;show absurd n (Wy.mpr (Uh _))
  .intro e;let g:s.1.1.size=(s.1.push _).1.size:=e;rw[S7]at g;show absurd g (Sb (S3 _))
  .rfl
  .show(d.map _).trans (List.Perm.of_eq ?_);show UU λi=> ?_;rw[RU,RU];by_cases r:i<es.size
   .rw[SJ r,Tn,SS r];simp[acQ,r]
   .rw[S6 (show(range es.size).length<=i by rw[RW];lia),S6 (by rw[Sq];lia)];rfl
 .show RC (RS ?_);show RC (RC (cC c (RS ?_)));show RC ?_;simp only[newFields];show Uu (RS #[7,Xf,_,#[_,R8 _ rfl,2],aF.lookup,6]);let fpOk:∀b∈[s.1.1.size,a],b=a\/s.1.1.size<=b:=λb l=>by
   rcases RT.mp l with e|l
   .show .inr (by rw[e];show RJ _)
   .show .inl (RY.mp l)
  let ne:a≠s.1.1.size:=Sb n;by_cases H:w.params.followText Xi=true
  .show q s.1.1.size _ s.drawn _ [s.1.1.size,a] _ (λb o e=>RN _ e) (RJ _) fpOk (λf h'=>Bc (t:=t) (ep:=ep) ne H h') #[#[_,R8 _ rfl,22],c.keep λo e=>RN _ e] ((qb _ es).map _)
  .let u:w.params.followText Xi=false:=by cases h:w.params.followText Xi with
    |false=>rfl
    |true=>show absurd h H
   let d:(!t.plain&&decide (es.size>1))=false:=by
    rw[u]at p;cases h:(!t.plain&&decide (es.size>1))with
    |false=>rfl
    |true=>rw[h]at p;show absurd rfl p
   let hl:t.led=true:=by rw[z.1];unfold rH;rw[u];rfl
   let U:YO t.place:=by
    cases G:t.plain with
    |true=>show(z.2 G).2
    |false=>
     rw[G]at d;intro i k h1 h2;have:¬es.size>1:=λh=>by simp[h]at d
     lia
   show q s.1.1.size _ s.drawn _ [s.1.1.size,a] _ (λb o e=>RN _ e) (RJ _) fpOk (λf h'=>D5 (t:=t) (ep:=ep) ne u d hl U hz h') #[#[_,R8 _ rfl,22],c.keep λo e=>RN _ e] (V3 _)
end
open PySem.W
theorem JM{s:rz}(a:s.TypeIs (.ref r) XA)(h:Q false s):aag (model prog w) A (abm (.ref r)) Q E s:=by
 unfold abm;show RC (wpAny_specialOf a PySem.F.slot_set_len.lookup ?_);generalize d:("set.__len__":sh)=e
 wp_delta
 rw[show splitId e=some (XA,"__len__")from by subst d;decide+kernel];subst d;show RC (adD (T:= XA) (b:=true) a (by rw[acq];kernel_rfl) ?_);show Up (λc=>absurd c ∅) (λ_=> ?_);show Up (λ_=> ?_) (λc=>absurd #[9] c);show RC (WK a ?_);show RS h
section
variable{prog:rj}{w:t4}{A:tj}{E:gs}{s:rz}
theorem CA{es:n5}(M:A.handled=none)(Q:Ye s.1 a es ep t)(hT:mx (rH w) t)(J:es.size<scanBound)(B:D≠a)(m:Value)(x:Nat)(y:s.1.get? D=some {cls:= .type Xc,data:= .seq #v[] x})(hR:∀h' n d' c d (vs:pk),(∀b o,b≠D->s.1.get? b=some o->h'.get? b=some o)->h'.get? D=some {cls:= .type Xc,dict:=none,data:= .seq c d,slots:= #v[]}->c.toList=vs->vs.Perm (es.toList.map (·.2))->R (.ok (.ret m)) {s with heap:=h',drawn:=d',toks:=n}):
  aag (model prog w) A.in1 (aaz (.ref D) (.ref a) m)
   (λab s'=>match ab with| .done f=>R (.ok f) s'| .again d=>d.quiet=true/\aaV (model prog w) A d R s') (λe s'=>R (.error e) s') s:=by
 let((o,N,L,hd),hf):=id Q;let a5:s.TypeIs (.ref a) XA:=#[o,N,L.1];let r:D<s.1.1.size:=R0 y;unfold aaz;show RC (WK (T:= XA) a5 ?_);let h1:abA (.ref D) (.ref a)=false:=by simp[abA,B]
 simp only[h1,show(aae XA==aae Xc)=false by decide,show(aae XA==aae Xl)=false by decide,S9,Tz,Xa];show RC (JC Q hT J λI h' d' vs fp St k hI a0 W st O=> ?_);let G:D∉fp:=λl=>by
  rcases a0 D l with e|e
  .show B e
  .show absurd r (Wy.mpr e)
 let bo:D≠I:=λe=>by rw[e]at r;show absurd r (Wy.mpr hI)
 let hn:es.size<=sizeLine:=RB (TX J) ∅;let key:∀(g:Heap)(p n:Nat),St 0 g->(∀b o,b≠D->s.1.get? b=some o->g.get? b=some o)->
   g.get? D=some {cls:= .type Xc,data:= .seq #v[] p}->aaV (model prog w) A (.builtin "list.extend.loop" #[[.ref D, .ref I,m],[]]) R {s with heap:=g,drawn:=d',toks:=n}:=λg p n bk k2 j=>by
  show codeAny_extend_loopS (W A.in1 M).toS hn D G m es.size 0 _ #v[] p rfl (Sw _) bk j (ItemsOf.nil _) λs' c d l ax u=> ?_;rw[Moved.eq_with l];show hR s'.1 s'.4 d' c d vs (λb o h e=>l.1 b o (λv=> ?_) (k2 b o h e)) ax ?_ O
  .rcases RT.mp v with U|v
   .show h U
   .have:=R0 e;rw[RY.mp v]at this;show absurd this (Wy.mpr hI)
  .let vl:vs.length=es.size:=by rw[O.length_eq,My,Sq]
   show UU λi=> ?_;by_cases hi:i<es.size
   .let H:i<c.size:=by rw[u.1];show hi
    rw[u.2 i c[i] (SS H),Tn,SS H]
   .rw[S6 (by rw[Sq,u.1];lia),S6 ()]
 let q:=k D _ y;let a7:Shared.TypeIs {s with heap:=h',drawn:=d'} (.ref a) XA:=#[o,k a o N,L.1];show RC (Ur (JM a7 ?_));show Up (λ_=> ?_) (λ_=>RS #[U8 Wz _,key _ x _ st (λb o _ e=>k b o e) q]);show RC (acP (RC ?_));change aag _ _ (updateSeq D (·.push .none)>>=λ_=>updateSeq D (·.pop)) _ _ _;show RC (wpAny_updateSeq q rfl ?_);let j:=Tj (acL (·.push aav)) q rfl;show wpAny_updateSeq (hz:=by seq_fits) j rfl ?_;let aj:=Tj (acL (·.pop)) j rfl;show RS #[U8 Wz _,key _ _ _ ?_ (λb o h e=> ?_) aj]
 .show(W A.in1 M).frame 0 _ _ st λb az o e=> ?_;let K:b≠D:=λz=>G (z▸az);show(Tv _ _ (TF K)).trans ((Tv _ _ (TF K)).trans e)
 .show(Tv _ _ (TF h)).trans ((Tv _ _ (TF h)).trans (k b o e))
theorem vI{es:n5}(n:A.handled=none)(g:Ye s.1 a es ep t)(k:mx (rH w) t)(m:es.size<scanBound)(h:∀h' f d' d c,(∀b o,s.1.get? b=some o->h'.get? b=some o)->h'.get? s.1.1.size=some {cls:= .type Xc,dict:=none,data:= .seq d c,slots:= #v[]}->d.toList.Perm (es.toList.map (·.2))->R (.ok (.ret (.ref s.1.1.size))) {s with heap:=h',drawn:=d',toks:=f}):
  aaV (model prog w) A (.builtin "proto.collect" #[[.ref a],[]]) R s:=by
 let((o,q,v,u),x):=id g;let i:a<s.1.1.size:=R0 q;show Tx acn ?_;change aag _ _ (do again (.builtin XH #[[<-newList [], .ref a],[]])) _ _ s;show RC (Wj (RS #[Wb _ #[9],Tx adB ?_]));rw[TH j5 _];change aag _ _ (aaz (.ref s.1.1.size) (.ref a) (.ref s.1.1.size)) _ _ {s with heap:=s.1.push (abz Xc #v[] 0)};show CA (s:={s with heap:=s.1.push (abz Xc #v[] 0)}) n (g.keep λo e=>RN _ e) k m (T7 i) (.ref s.1.1.size) 0 (R8 _ rfl) λh' f d' d c vs p j l r=>
  h h' f d' d c (λb o e=>p b o (Sb (R0 e)) (RN _ e)) j (by rw[l];show r)
theorem AX{es:n5}(j:A.handled=none)(m:Ye s.1 a es ep t)(g:mx (rH w) t)(i:es.size<scanBound)(h:∀h' d d' (vs:pk),(∀b o,s.1.get? b=some o->h'.get? b=some o)->s.1.1.size<h'.1.size->vs.Perm (es.toList.map (·.2))->Q vs {s with heap:=h',drawn:=d',toks:=d}):
  aag (model prog w) A (collect (.ref a)) Q E s:=by
 unfold collect;show RC (aco (vI j m g i λh' d d' f c k e l=> ?_));change aag (model prog w) A (do
   let o<-load s.1.1.size
   match o.data with
   | .seq xs _=>pure xs.toList
   |_=>unsupported "internal:collect") Q E {s with heap:=h',drawn:=d',toks:=d}
 show RC (adV e ?_);show RS (h h' d d' f.toList k (R0 e) l)
theorem Bq{es:n5}(v:A.handled=none)(B:Ye s.1 a es ep t)(r:mx (rH w) t)(q:es.size<64)(hI:∀vs:List Value,vs.Perm (es.toList.map (·.2))->∃ms:List Int,aa0 vs ms/\ms.Perm ns)(h:∀(l:Addr) h' d d' (out:pj) (ms:qR) e,(∀b o,s.1.get? b=some o->h'.get? b=some o)->s.1.1.size<=l->h'.get? l=some (abz Xc out e)->aa0 out.toList ms->ms.Perm ns->ms.Pairwise (· <= ·)->Q (.ref l) {s with heap:=h',drawn:=d',toks:=d}):
  aag (model prog w) A (call (.builtin XF) [.ref a]) Q E s:=by
 show abu kind_sorted plain_sorted entry_sorted (args_sorted1 _) ?_;unfold aa1.«sorted»;show RC (m:=checkCount XF 1 1 _) (RS ?_);show RC (AX v B r (Tp q ∅) λg d d' vs y hsz j=> ?_);let(H,x,z):=hI vs j;let J:vs.length=es.size:=by rw[j.length_eq,My,Sq]
 show RC (Wj ?_);let c:(g.push (abz Xc vs.toArray 0)).get? g.1.size=some (abz Xc vs.toArray 0):=R8 _ rfl;show RC (Ur (T3 slot_list_sort #[_,c,2] entry_list_sort (list_sort_tree c x () λout G k n p=>#[76]) (args_list_sort _)));let(e,u):=sortedHeap_at (out:=out) c;show RS #[7,h _ _ d d' out G e (λb o f=> ?_) (TX hsz) u k (n.trans z) p];let i:=R0 f;rw[sortedHeap_old (Sb (Tp i hsz)) (by rw[size_push'];show Uc (Tp i hsz))];show RN _ (y b o f)
end
noncomputable def D3(P:rj)(w:t4)(a:Addr)(ns:qR):HO:= .ext λh=>my P w (rH w) h a (λk=>ns.any (· ==k)) ns.length
def Ny(P:rj)(w:t4)(K:Frag):List V->Hp->VK->Prop:=λxs H Q=>∃(p:Addr)(ns:qR),xs=[.ref p]/\vr K H p (ns.map int)/\ns.length+1<4096/\
 ∀l,H l=none->Q (.ref l) (upd H l (D3 P w l (aaN (λi=>ns.getD i 0) ns.length)))
theorem wh.drawn{a:St}(I:wh X pins a H s)(d':Drawn):wh X pins a H {s with drawn:=d'}:=#[I.ok,I.os,I.bare,I.base,I.loc,I.cell,I.free,I.freeC,I.pin,I.hok,I.len]
theorem F7{X:Cx}(j:X.calm=true):bK X (.type XA) (Ny X.1 X.w X.K):=by
 intro A s B H vs us Q I t h;let(p,ns,rfl,i,z,q):=h;let(u,rfl,r):=gA t;cases r;let(d,f,p1,hz):=I.list i;let k:=dS f;let c:=f.length;rw[My]at c;show yU (ns:=ns) (I.ok.hd j) p1.isList #[5,k] (by rw[Si];change d.length+1<4096;lia) λh' v a l=> ?_;let g:d.toArray.size=ns.length:=by rw[Si,c]
 rw[g]at a;show#[.ref s.1.1.size,_,I.laid (t':=v) (λb o e=>l b o (R0 e) e) (RJ _) (show bG X.1 X.w _ _ _ (D3 X.1 X.w s.1.1.size _)from#[a,6,λx y n m=>n.at m]),2,q _ (I.hok.fresh (RJ _))];let(o,_,_,_,e,_):=a;show#[o,e]
theorem lV(val:Nat->Int):∀i,(aaN val i).Nodup
 |0=>by rw[firstMet_zero];show List.nodup_nil
 |i+1=>by
  rw[acE];unfold step_dedup;let a:=lV val i;split
  .show a
  .rename_i b;show Vz.mpr #[a,#[5],λx hx y c e=> ?_];rw[RY.mp c]at e;show b (Tu.mpr #[x,hx,by rw[e];simp])
theorem tR{f:Type}[DecidableEq f]:∀(a l2:List f),a.Nodup->(∀x∈a,x∈l2)->l2.length=a.length->l2.Perm a
 | [],l2,_,_,h=>by rw[Sx.mp h]
 |x::a,l2,g,b,hl=>by
  let hx:=b x RH;let p:=List.perm_cons_erase hx;let d:=TM.mp g;show p.trans ((tR a (l2.erase x) d.2 (λy c=> ?_) ?_).cons x)
  .show(VQ (λe=>d.1 (by rw[<-e];show c))).mpr (b y (RI _ c))
  .rw[Uz hx,hl];rfl
theorem mV{P:rj}{w:t4}:∀(vs:pk),(∀v∈vs,∃k t,v=aaZ k t)->∃ms:List Int,aa0 vs ms/\ms.length=vs.length/\∀k,k∈ms↔∃t,aaZ k t∈vs
 | [],_=>#[[], .nil,2,λk=>#[5]]
 |v::vs,h=>by
  let(ms,c,d,f):=mV (P:=P) (w:=w) vs λu a=>h u (RI _ a);let(k,t,rfl):=h v RH;show#[k::ms, .cons k t c,by simp[d],λj=> ?_];rw[RT,f];constructor
  .rintro(rfl|⟨u,a⟩)
   .show#[t,RH]
   .show#[u,RI _ a]
  .rintro⟨u,a⟩;rcases RT.mp a with e|a
   .injection e with b _
    show .inl b
   .show .inr #[u,a]
theorem Bw{es:n5}{ns:qR}(i:ElemsOf (aaU P w) es.toList)(l:∀k,ns.any (· ==k)=true↔∃e∈es.toList,(aaU P w).is k e.2=true)(m:es.size=ns.length)(o:ns.Nodup)(vs:pk)(c:vs.Perm (es.toList.map (·.2))):∃ms:List Int,aa0 vs ms/\ms.Perm ns:=by
 let(ms,f,g,h):=mV (P:=P) (w:=w) vs λv n=>by let(e,a,rfl):=RM.mp (c.mem_iff.mp n);let((k,b,_),_):=i e a;let(t,d):=Ws (k:=k) (v:=e.2) b;show#[k,t,d]
 show#[ms,f,tR ns ms o (λk b=> ?_) ?_]
 .let(e,a,j):=(l k).mp (Tu.mpr #[k,b,#[5]]);let(t,d):=Ws (k:=k) (v:=e.2) j;show(h k).mpr #[t,c.mem_iff.mpr (RM.mpr #[e,a,d])]
 .rw[g,c.length_eq,My,Sq,m]
def HW(P:rj)(w:t4):List V->Hp->VK->Prop:=λxs H Q=>∃(a:Addr)(ns:qR),xs=[.ref a]/\H a=some (D3 P w a ns)/\ns.Nodup/\ns.length<64/\
 ∀l (ms:qR),H l=none->ms.Perm ns->ms.Pairwise (· <= ·)->Q (.ref l) (upd H l (.lst (ms.map int)))
theorem CJ{X:Cx}(k:X.calm=true):bK X (.builtin XF) (HW X.1 X.w):=by
 intro N s O H xs us Q I K h;let(a,ns,rfl,j,G,c,q):=h;let(u,rfl,J):=gA K;cases J;let((o,es,ep,t,z,r,m,p,y,M,v,d,i),_,_):=I.hok a _ j;show Bq (ns:=ns) (I.ok.hd k) (#[#[o,z,r,m],v]:Ye s.1 a es ep t) i (by rw[d];show c) (λvs A=>Bw p y d G vs A) λl h' L d' out ms e x hsz n f b g=> ?_;let B:=oq f;show#[.ref l,_,(I.drawn d').laid (t':=L) x hsz (show bG X.1 X.w _ _ _ (.lst (ms.map int))from#[6,out.toList,e,B,6]),2,q _ ms (I.hok.fresh hsz) b g]
 .rw[My,b.length_eq];show RB (TX c) ∅
 .rw[n]
theorem CK{X:Cx}{K:Frag}(a:X.1=P)(c:X.w=w)(h:X.K=K)(b:X.calm=true):bK X (.type XA) (Ny P w K):=by subst a c h;show F7 b
theorem A2{X:Cx}(a:X.1=P)(c:X.w=w)(b:X.calm=true):bK X (.builtin XF) (HW P w):=by subst a c;show CJ b
end L2
namespace Bh
noncomputable def xp(s:Nat):List Nat:=(range 8).filter s.testBit
theorem Fj{s k:Nat}:k∈xp s↔k<8/\s.testBit k=true:=by unfold xp;rw[Sn,R1]
end Bh
namespace L2
open PySem PySem.Spec PyProof.Rows
theorem Dm{N P:qq}{h:Scope}(a:h.kind= .function:=by rfl)(b:h.isCoroutine=false:=by rfl)(c:h.isGenerator=false:=by rfl)(d:N.Nodup:=by decide+kernel)(e:N.take P.length=P:=by rfl)(f:∀x∈P,h.2.lookup x=some .local\/h.2.lookup x=some .cell:=by decide+kernel)(g:∀y∈h.2,y.2≠ .free:=by decide+kernel):eQ N P h:=#[a,b,c,d,e,f,g]
section
variable{X:Cx}{x:Str}{ps:qq}{j k:Nat}{sp:Sp}{e a b tg:Expr}{es:pD}{t:TA}{p pos:Pos}{ta tb te:TE}
theorem Zh(C:YV X.1 X.w X.K X.mg X.base j x ps sp)(l:z3 k X.A)(c:PA X (e::es) t)(h:j<=k:=by first|decide|lia)(g:Gl X x:=by rfl)(d:(x==(Xd:Str))=false:=by decide)(f:aad (e::es) X.10=(false,eval e X.10)::aad es X.env:=by rfl)(i:(aar pos (aad es X.10)).any (·.1)=false:=by rfl):PE X (.Call (.Name x p) (e::es) [] pos) (GI sp [] E0 t):=OY C l h g c d f i
theorem Zz(i:Nat){pos':Pos}(c:X.N.Nodup)(d:PE X e te)(g:X.N[i]?=some x:=by rfl)(hx:Zm X.10.1 x:=by first|show U6 rfl|show ad4 rfl)(h:aaS e (some (.Name x pos')) pos.line X.10=pure false:=by rfl)(f:X.fn x=true\/X.10.1.2.lookup x=some .local:=by first|show .inl rfl|show .inr rfl|assumption):PS X (.Assign [.Name x pos'] e pos) (GJ te (aH i)):=OI c g hx d h f
theorem Yr(i:Nat)(c:X.N.Nodup)(f:X.N[i]?=some x:=by rfl)(hx:Zm X.10.1 x:=by first|show U6 rfl|show ad4 rfl)(d:X.fn x=true\/X.10.1.2.lookup x=some .local:=by first|show .inl rfl|show .inr rfl|assumption):PG X (.Name x pos) (aH i):=yb c f hx d
theorem NV(K:Frag)(c:PE X a ta)(d:PE X b tb)(h:X.K=K:=by rfl)(f:yZ b:=by intro _ _;rfl):PE X (.Subscript a b pos) (Y9 (OG K) ta tb):=tU (JA h) c d f
theorem QW(K:Frag)(c:PE X a ta)(d:PE X b tb)(h:X.K=K:=by rfl)(f:yZ b:=by intro _ _;rfl):PE X (.Subscript a b pos) (Y9 (OF K) ta tb):=tU (MI h) c d f
theorem ZZ(K:Frag)(g:X.mg "len"=none)(d:PE X e te)(h:X.K=K:=by rfl)(f:Gl X "len":=by rfl)(c:aad [e] X.10=(false,eval e X.10)::aad [] X.env:=by rfl)(i:(aar pos (aad [] X.10)).any (·.1)=false:=by rfl):PE X (.Call (.Name "len" p) [e] [] pos) (Z3 (NA K) (sx te xE)):=
 bj (vL h) f g Vu (fh d qe c) ∅ ∅ c i
theorem ZY(g:X.mg Xh=none)(c:PE X a ta)(f:Gl X Xh:=by rfl)(h:aad [a] X.10=[(false,eval a X.10)]:=by rfl)(d:aad [a] X.10=(false,eval a X.10)::aad [] X.env:=by rfl):PI X tg (.Call (.Name Xh p) [a] [] pos) (NM (sx ta xE)):=EO f g (fh c qe d) h
theorem wil(K:Frag)(hl:PE X e te)(h:X.K=K:=by rfl):PI X tg e (JG K te):=Ik h hl
theorem wit(K:Frag)(hl:PE X e te)(h:X.K=K:=by rfl):PI X tg e (Pw K te):=LA h hl
theorem Z0{c:List Stmt}{d:TI}{g:TG}{tb:TS}(l:PI X tg e d)(i:PG X tg g)(f:X4 X c tb)(m:PassesOwn (model X.1 X.w) X.A X.10 X.xe:=by show PassesOwn.never)(h:X.calm=true:=by rfl)(n:∀x,aaJ e X.10 x=pure x:=by intro _;rfl):PS X (.For tg e c [] pos) (P1 d g tb):=OL m h l i f n
theorem wpt{c:CmpOp}{r:R2}(h:Ol X (aal c) r)(d:PE X a ta)(f:PE X b tb)(g:aaB c b=false:=by show YM _):PT X (.Compare a [c] [b] pos) (GD (Y9 r ta tb)):=rV h d f g
theorem wpe{c:CmpOp}{r:R2}(h:Ol X (aal c) r)(d:PE X a ta)(f:PE X b tb)(g:aaB c b=false:=by show YM _):PE X (.Compare a [c] [b] pos) (Y9 r ta tb):=lQ h d f g
theorem Yx(K:Frag){f:Str}(d:PE X e ta)(h:X.K=K:=by rfl)(c:aay e f X.10 (eval e X.10)=eval e X.env:=by rfl):PE X (.Attribute e f pos) (N4 K ta f):=LI h d c
theorem YW(K:Frag){f:Str}{pos':Pos}(c:PE X a ta)(g:PE X b tb)(h:X.K=K:=by rfl)(d:aaS b (some (.Attribute a f pos')) pos.line X.10=pure false:=by rfl):PS X (.Assign [.Attribute a f pos'] b pos) (Oy K ta tb f):=Lv h c g d
end
open Builtin Builtin.ObjectAttr
noncomputable abbrev QJ:List Value:=[.type "ValueError", .type "Exception", .type "BaseException", .type "object"]
end L2
namespace L2
open PySem PySem.Spec PyProof.Rows
structure oo(P:rj)(w:t4)(K:Frag)(d:Addr)(kvs:oD):Prop where
 dict:∀h:Heap,K.In h->h.DictOf (br P w) d (kvs.map λkv=>((aax kv.1:Dn),aaa kv.2))
 ne:(d==aaE)=false
def MQ(a:aab):List (Str×Addr)->List DictEntry->Prop
 | [],[]=>True
 |(x,f)::r,e::es=>(∃t,e=#[PyData.keyHash a x, .str x t, .ref f])/\MQ a r es
 |_,_=>False
theorem xi{w:t4}:∀ {kvs:oD} {es:List DictEntry},MQ w.params kvs es->(∀e∈es,∃k,(br P w).is k e.key=true/\e.hash=(br P w).hash k)/\Pairs (br P w) es (kvs.map λa=>((aax a.1:Dn),aaa a.2))
 | [],[],_=>#[λe he=>absurd he #[5], .nil]
 | [],_::_,h=>h.elim
 |_::_,[],h=>h.elim
 |(x,f)::r,e::es,h=>by
  let((t,rfl),b):=h;let(c,d):=xi b;show#[λe he=> ?_, .cons (fG P w x t) rfl d];rcases RT.mp he with rfl|he
  .show#[.inr x,fG P w x t,2]
  .show c e he
theorem FK{w:t4}{K:Frag}{d n:Nat}{kvs:oD}(e:K.lookup d=some #[.type Xk,none, .dict #[es] n, #v[]])(f:MQ w.params kvs es)(a:(kvs.map (·.1)).Nodup)(ne:(d==aaE)=false):oo P w K d kvs:=by
 show#[λh X=> ?_,ne];let(b,c):=xi (P:=P) f;show#[_,#[es],n,X _ _ e,62,λx hx=>b x #[5,hx],c,6]
 .show#[222]
 .unfold ad9 at a⊢;rw[RP,VA];rw[VA]at a;show a.imp λh e=>h (Sum.inr.inj e)
section
variable{X:Cx}
theorem mZ(z:Str):∀kvs:List (Str×Addr),abx (kvs.map λa=>((aax a.1:Dn),aaa a.2)) (.inr z)=(kvs.lookup z).map aaa
 | []=>rfl
 |(x,f)::r=>by
  unfold abx;rw[Sg,Uo,Tf];by_cases e:z=x
  .subst e;simp
  .let b:(z==x)=false:=#[5,e]
   let c:decide ((aax x:Dn)= .inr z)=false:=RL λq=>e (Sum.inr.inj q).symm;rw[b];simp only[c];show mZ z r
def Qn(P:rj)(w:t4)(K:Frag):R2:=λx y H Q=>∃(z:Str)(d:Addr) (kvs:oD),x= .str z/\y= .ref d/\oo P w K d kvs/\Q (.bl (kvs.lookup z).isSome) H
theorem O7:Ol X (aal .In) (Qn X.1 X.w X.K):=by intro c s e H x y v u Q I a b h;let(z,d,kvs,rfl,rfl,D,q):=h;let(t,rfl):=a;cases (show u=aaa d from b);show wpAny_in_of (fG X.1 X.w z t) D.ne (D.dict _ I.kIn).mapOf ?_;rw[mZ,VB];show#[.bl (kvs.lookup z).isSome,H,I.tok _,2,q]
theorem DC{K:Frag}(h:X.K=K)(a:X.1=P)(b:X.w=w):Ol X (aal .In) (Qn P w K):=by subst h a b;show O7
def N8(kvs:oD)(Z:Str->Prop)(sp:Str->Sp)(E:XK)(ty:TE)(t:TA):TE:=λa H Q=>ty a H λy b=>∃z,y= .str z/\Z z/\(kvs.lookup z).isSome=true/\t a b λvs c=>sp z vs c Q E
theorem oQ{CX:Y8}{x:Str}{d:Addr}{kvs:oD}{Z:Str->Prop}{sp:Str->Sp}{E:XK}{i e:Expr}{es:pD}{ty:TE}{t:TA}{k:Nat}{ps:qq}{p p2 pos:Pos}(D:oo X.1 X.w X.K d kvs)(L:Gl X x)(O:X.mg x=some (.ref d))(M:PE X i ty)(hs:PU i)(o:∀z f,Z z->kvs.lookup z=some f->∃a,dJ X.1 X.w X.K X.mg X.base CX k f a ps (sp z)/\cR X.K a ps []/\aaG X.K (.ref f)=true)(hr:z3 k X.A)(hx:gY CX X E)(v:PA X (e::es) t)(G:(x==(Xd:Str))=false:=by decide)(J:aad (e::es) X.10=(false,eval e X.10)::aad es X.env:=by rfl)(U:(aar pos (aad es X.10)).any (·.1)=false:=by rfl):
  PE X (.Call (.Subscript (.Name x p) i p2) (e::es) [] pos) (N8 kvs Z sp E ty t):=by
 intro j s l H Q I h;change aag _ _ (do abr pos (<-eval (.Subscript (.Name x p) i p2) X.10) [] (aar pos (aad (e::es) X.10)) (aa2 pos (aaC [] X.10))) _ _ _;show RC (C6 Wx.lookup hs (jT I L O ?_ G));show zk (M j s l H _ I h) λiv s1 ab=> ?_;let(y,m,b,ry,z,n,u,hl,q):=ab;subst n;let(tk,rfl):=ry;let(f,g):=Vj.mp hl;let(a,F,B,N):=o z f u g;let dd:=D.dict _ b.kIn;show#[dd.typeIs,adA (fG X.1 X.w z tk) dd.mapOf (by rw[mZ,g];rfl) ?_];show T4 (h₀:=X.base) I.ok.mod.kin N (zk (v pos j _ l m _ (b.tok _) q) λus s2 ⟨vs,H2,c,r,q2⟩=>#[c.kIn,6]) J U;show pY F hr B .nil hx c r (by rw[Tc];show q2)
def tFp(tv:TE):TE:=λb H Q=>tv b H λx a=>∃z:Str,x= .str z/\z.length<=2^23/\∀y,Q (.str y) a
theorem OW{a:Str}{v:Expr}{tv:TE}{j:Nat}{p1 p2 pos:Pos}(i:PE X v tv)(hz:(abD++a).length<=1000:=by decide):PE X (.JoinedStr [.Constant (.str a) j p1, .FormattedValue v (-1) none p2] pos) (tFp tv):=by
 intro k s m H Q I h;let n:(1000:Nat)+2^23<=sizeLine:=∅
 let g:abD.length=0:=rfl;rw[Wn,g,Ux]at hz;show JoinedStr_many (joinParts_cons (acH ?_));let e:(abD++a).length<=sizeLine:=by rw[Wn];lia
 show#[e,joinParts_cons (wpAny_FormattedValue_plain (zk (i k {s with toks:=s.4+1} m H _ (I.tok _) h) λu o ⟨x,c,d,l,z,f,hl,q⟩=> ?_))];subst f;let(t,rfl):=l;let b:(abD++a++z).length<=sizeLine:=by rw[Wn,Wn];lia
 show formatField_str (λt' p=> ?_) ();show#[b,joinParts_nil #[.str (abD++a++z),c,d.tok _,#[7],q _] b]
noncomputable def X2(x y:Str):Bool:=decide (0+y.length<=x.length)&&Builtin.Str.subAt x y 0
def Lo:V->List V->Hp->VK->Prop:=λx vs H Q=>∃z y:Str,x= .str z/\vs=[.str y]/\Q (.bl (X2 z y)) H
theorem wQ:Y5 X "str.startswith" Lo:=by intro c s e H x vs v us Q I b a h;let(z,y,rfl,rfl,q):=h;let(t,rfl):=b;let(d,rfl,u,rfl):=a.one;show call_gives F.slot_str_startswith (Vs s z t) F.entry_str_startswith (F.args_str_startswith_2 _ _) (gives_str_startswith z y t u) #[.bl (X2 z y),H,I,2,q]
def Qm:List V->Hp->VK->Prop:=λxs H Q=>∃(z:Str)(n:Int),xs=[.str z]/\aee z=some n/\z.length<=640/\Q (.int n) H
theorem Ga:bK X (.type "int") Qm:=by intro b s c H xs us Q I r h;let(z,n,rfl,a,hl,q):=h;let(u,rfl,t,rfl):=gA r;show PySem.W.KIN.call_text a hl #[.int n,H,I.tok _,#[7],q]
end
noncomputable def Nc(n q:Nat):It:=#[λi _=>i<q,λi H x H'=>H'=H/\x= .int ((0:Int)+(i:Nat)*(n:Int)),λi _=>q<=i]
theorem zh{P:rj}{w:t4}{K:Frag}{M:Expr}(it:Addr)(n q:Nat):X8 P w K M (Nc n q) [it] it (λi h=>ach h it ((0:Int)+(i:Nat)*(n:Int)) ((q:Int) - (i:Nat)) n) where
 mem:=#[5]
 obj:=λi h st b a=>by
  let e:b=it:=#[5,a]
  subst e;show#[_,st,λv z=>by have N:abv _=abn v:=z;cases N]
 keep:=λi h h' st k=>k it #[5] _ st
 item:=by intro X l r j m i u s A H E I c st p;subst l r j;let(f0,f1,f2,d,f,g):=c it #[5];let W:=Walks.range (prog:=X.1) (w:=X.w) (I.ok.hd m) it 0 n q;show W.item i s _ _ p st λv h' y J x L=> ?_;let(t,rfl):=J;let B:wh X u A H {s with heap:=h',toks:=y}:=I.turned (λb o a e=>L b o #[5,a] e) f0 f1 d f g;show#[7,AM (s:={s with heap:=h',toks:=y}) (n:= "range_iterator") x rfl rfl ∅ #[.int ((0:Int)+(i:Nat)*(n:Int)),H,B,#[t,2],#[22],x,λb a=>(c b a).1]]
 done:=by intro X l r j m i u s A H E I c st p;subst l r j;let(f0,f1,f2,d,f,g):=c it #[5];show abQ (I.ok.hd m) st (by have:q<=i:=p;lia) λh' G=>#[2,I.turned (t':=s.4) (λb o a e=>G b o a e) f0 f1 d f g]
 self:=λ_ _ _ _ _ st h=>abR st h
theorem Nv(a:0<n):aaL 0 ((n*q:Nat):Int) n=q:=by
 unfold aaL;rw[RF ()];by_cases h:q=0
 .subst h;rw[RQ #[5]];rfl
 .let d:0<n*q:=Nat.mul_pos a ();rw[RF ()];let e:((n*q:Nat):Int) -0-1=((n*q-1:Nat):Int):=()
  rw[e];let b:((n*q-1:Nat):Int) /(n:Int)=(((n*q-1) /n:Nat):Int):=#[5]
  rw[b];let c:(n*q-1) /n=q-1:=by obtain⟨p,rfl⟩:∃p,q=p+1:=#[q-1,9];rw[W4,W5,show n*p+n-1=n-1+n*p by lia,Nat.add_mul_div_left _ _ a,adE ()];lia
  rw[c];lia
section
variable{X:Cx}{tg:Expr}
def QC(b:TA):TI:=λc H R=>b c H λvs a=>∃n q:Nat,vs=[.int 0, .int ((n*q:Nat):Int), .int (n:Int)]/\(0<n/\n<1000/\n*q<100000)/\R (Nc n q) a
theorem EN{a b c:Expr}{u:TA}{p pos:Pos}(B:Gl X Xh)(G:X.mg Xh=none)(z:PA X [a,b,c] u)(J:aad [a,b,c] X.10=[(false,eval a X.10),(false,eval b X.10),(false,eval c X.10)]:=by rfl)(k:aad [b,c] X.10=[(false,eval b X.10),(false,eval c X.10)]:=by rfl):
  PI X tg (.Call (.Name Xh p) [a,b,c] [] pos) (QC u):=by
 intro l s v H R I h;show Call_ (jU I B G adW (S5 (zk (z pos l s v H _ I h) λus g ⟨vs,j,w,N,d⟩=> ?_) (by rw[J,k]) (by rw[k];rfl)));let(n,q,e,(d,Q,U),K):=d;subst e;cases N with
 |cons r f=>
  cases f with
  |cons L f=>
   cases f with
   |cons M f=>
    cases f;let(t,rfl):=r;let(t',rfl):=L;let(m,rfl):=M;show PySem.call_range_3 () ?_ (U6 (PyProof.noPylong_small ()));show acI (IsRange.new ..) ?_ ?_
    .unfold aeK;rw[Nv d];let O:q<=n*q:=Nat.le_mul_of_pos_left q d;simp only[adS,RZ,TN,Ub,UJ,show((n:Int))>0 by lia,V1];lia
    let i:wh X l v j {g with heap:=g.1.push {cls:= .type Xh,data:= .fields #v[.int 0 t, .int ((n*q:Nat):Int) t', .int (n:Int) m]},toks:=g.4}:=w.kept λb o e=>RN _ e;show#[_,[_],_,Nc n q,j,2,i.kept (t':=g.4) λb o e=>RN _ e,zh _ n q,6,λb A=> ?_,K]
    .let x:(0:Int)+((0:Nat):Int)*(n:Int)=0:=#[5]
     let y:((q:Nat):Int) - ((0:Nat):Int)=aaL 0 ((n*q:Nat):Int) n:=by rw[Nv d];lia
     change ach _ _ ((0:Int)+((0:Nat):Int)*(n:Int)) (((q:Nat):Int) - ((0:Nat):Int)) n;rw[x,y];show R8 _ rfl
    .let e:b=(g.1.push {cls:= .type Xh,data:= .fields #v[.int 0 t, .int ((n*q:Nat):Int) t', .int (n:Int) m]}).1.size:=#[5,A]
     subst e;show i.fpOk (RJ _) (i.hok.fresh (RJ _))
theorem Pn{n m:Nat}{fr:qs}{o:St}(a:Nat->V->Hp->Prop)(v:∀x y H H',vc H H'->a x y H->a x y H')(A:m<=sizeLine)(B:∀(i:Nat)(vs:St)(D:Addr)(H':Hp)(R:V->St->Hp->Prop)(S:St->Hp->Prop),i<m->vs.length=nv->vc H H'->(∃l,H' D=some (.lst l))->
   (∀y p d,a i y (A0 d D)->p.length=nv->vc H' d->R y (p++fr.map λj=>(o[j]?).join) d)->
    g (.int ((0:Int)+(i:Nat)*(n:Int))) (vs++fr.map λj=>(o[j]?).join) H' λc q=>tc c q λb H4=>if b=true then te c H4 λy r=>R y c r else S c H4)(w:∀D H' (f:List V),H D=none->vc H H'->H' D=some (.lst f)->f.length=m->(∀(j:Nat)(y:V),f[j]?=some y->a j y (A0 H' D))->Q (.ref D) H'):Yb (Nc n m) g tc te nv fr o H Q:=by
 show DK m A (λi x H' e=>H'=e/\x= .int ((0:Int)+(i:Nat)*(n:Int))) (λi H' h _=>h) (λi H' x e _ _ y=>by let(s,t):=y;subst s t;show#[vc.refl _,22]) (λ_ _=>RJ _) a v (λi x vs D H' e R S z h G J _ u k=> ?_) w;let(rfl,rfl):=h;show B i vs D H' R S z G J u k
end
noncomputable def mO(p:Nat->Bool)(f:Nat->V)(L:qs):List V:=(L.filter p).map f
theorem BU(p:Nat->Bool)(f:Nat->V)(L:qs)(i c:Nat)(h:L[i]?=some c):mO p f (L.take (i+1))=if p c=true then mO p f (L.take i)++[f c]else mO p f (L.take i):=by grind [mO,SY,TB,R6]
theorem EZ(p:Nat->Bool)(f:Nat->V)(L:qs):(mO p f L).length<=L.length:=by unfold mO;rw[My];show SA _ _
theorem MG{z:Str}{fr:qs}{d:St}(p:Nat->Bool)(f:Nat->V)(w:z.length<=sizeLine)(A:∀(i c:Nat)(vs:St)(H':Hp)(R:V->St->Hp->Prop)(S:St->Hp->Prop),z.cps.toList[i]?=some c->vs.length=nv->vc H H'->
   (∀o l,o.length=nv->vc H' l->if p c=true then R (f c) (o++fr.map λj=>(d[j]?).join) l else S (o++fr.map λj=>(d[j]?).join) l)->
   g (.str #[#v[c]]) (vs++fr.map λj=>(d[j]?).join) H' λe q=>tc e q λb H4=>if b=true then te e H4 λy r=>R y e r else S e H4)(v:∀D H',H D=none->vc H H'->H' D=some (.lst (mO p f z.cps.toList))->Q (.ref D) H'):Yb (Its z) g tc te nv fr d H Q:=by
 let hsz:z.cps.toList.length=z.cps.size:=Sq;show AH z.cps.size w (λi x H' m=>H'=m/\∃c,x= .str #[#v[c]]/\z.cps.toList[i]?=some c) (λi H' h _=>h) (λi H' x m _ _ y=>by let(s,c,a,t):=y;subst s t;show#[vc.refl _,2,c,2,#[5,a]]) (λ_ _=>rfl) (λi=>mO p f (z.cps.toList.take i)) (λi _=>p (z.cps.toList.getD i 0)) (λi _=>f (z.cps.toList.getD i 0)) rfl (λi=>RB (EZ p f _) (by rw[Sk];lia)) (λi x _ _ _ h=> ?_) (λi x vs H' m R S _ h B n _ k=> ?_) λD H' u n hz=>v D H' u n (by rw[hz,<-hsz,SM])
 .let(_,c,_,a):=h;rw[Sj,a];show BU p f _ i c a
 .let(rfl,c,rfl,a):=h;rw[Sj,a]at k;show A i c vs H' R S a B n k
inductive hJ:List Expr->List V->Prop
 |nil:hJ [] []
 |int {i:Int} {j:Nat} {p:Pos} {es:pD} {zs:List V} (h:hJ es zs):hJ (.Constant (.int i) j p::es) (.int i::zs)
 |str {i:Str} {j:Nat} {p:Pos} {es:pD} {zs:List V} (h:hJ es zs):hJ (.Constant (.str i) j p::es) (.str i::zs)
noncomputable def iq:List Expr->Option (List V)
 | []=>some []
 | .Constant (.int i) _ _::es=>(iq es).map (int i:: ·)
 | .Constant (.str i) _ _::es=>(iq es).map (str i:: ·)
 |_=>none
theorem uR:∀ {es:pD} {b:List V},iq es=some b->hJ es b
 | [],b,h=>by have e:b=[]:=(Sm h).symm;subst e;show .nil
 |e::es,b,h=>by
  unfold iq at h;split at h
  .rename_i c;cases c
  .rename_i c;cases c;cases a:iq es with
   |none=>rw[a]at h;cases h
   |some d=>
    rw[a]at h;let e:_::d=b:=Sm h;subst e;show .int (uR a)
  .rename_i c;cases c;cases a:iq es with
   |none=>rw[a]at h;cases h
   |some d=>
    rw[a]at h;let e:_::d=b:=Sm h;subst e;show .str (uR a)
  .cases h
def Z2(a:List V):TA:=λ_ H Q=>Q a H
theorem LN(h:hJ es zs):PA X es (Z2 zs):=by
 induction h with
 |nil=>show qe
 |int h a=>show fh dy a
 |str h a=>show fh BO a
theorem LH(a:List V)(h:iq es=some a):PE X (.List es p) (N3 (Z2 a)):=Ip (LN (uR h))
noncomputable def Jq:Expr->Option (List V)
 | .List es _=>iq es
 |_=>none
theorem jJ(a:List V)(h:Jq e=some a):PE X e (N3 (Z2 a)):=by
 unfold Jq at h;split at h
 .show LH a h
 .cases h
structure xC(P:rj)(w:t4)(K:Frag)(mg:jn)(base:Heap)(k:Nat)(f:Addr)(ps:qq)(sp:Sp):Prop where
 ex:∃fd:FuncData,dJ P w K mg base (Yw P w) k f fd ps sp/\cR K fd ps []
 kp:aaG K (.ref f)=true
structure xD(P:rj)(w:t4)(K:Frag)(mg:jn)(base:Heap)(k:Nat)(C:Addr)(m:Str)(ps:qq)(sp:Sp):Prop where
 cl:Cls K C
 ex:∃f,YR K C m f/\xC P w K mg base k f ps sp
section
variable{P:rj}{w:t4}{K:Frag}{mg:jn}{base:Heap}
theorem Ba.fnX{m d:Str}{st:Stmt}{N ps:qq}{k:Nat}{sp:Sp}{f:Addr}(D:Ba K m d st ps f)(S:eQ N ps (aC st))(e:∀(a:Value)(A:tj)(c:q7)(s:rz)(H:Hp)(vs:List V)(Q:VK)(E:XK),z3 k (A.deeper (aaT d (aC st) s.1.1.size f a))->sp vs H Q E->
   ∃t,X4 (mv (Yw P w) P w K mg base N d (aC st) f a A c s H E) (bA st) t/\t {nx:=λ_ H'=>Q .non H',rt:=Q} (start N vs) H)(len:∀vs H Q E,sp vs H Q E->vs.length=ps.length:=by intro _ _ _ _ h;cases h;subst_vars;rfl):xC P w K mg base (k+1) f ps sp:=by
 let(o,F,b):=D.ex;let(p,q,kV,n,u,an,a,l,r,rfl,lk,g):=F.ex;show#[#[_,NO lk g S len λA c s H vs Q E i j=>e a A c s H vs Q E i j,b],F.kp]
end
section
variable{X:Cx}{e o:Expr}{es:pD}{t:TA}{ta:TE}{y c m:Str}{i jj k:Nat}{ps:qq}{sp:Sp}{py cpos apos apos2 cp hpos pos:Pos}{C:Addr}{Cc:Value}{E:XK}
theorem z6{pl:Sem Bool}(M:xD X.1 X.w X.K X.mg X.base jj C m ps sp)(n:z3 k X.A)(h:jj<=k)(hx:gY (Yw X.1 X.w) X E)(g:PE X o ta)(d:PA X (e::es) t)(p:aad (e::es) X.10=(false,eval e X.10)::aad es X.env:=by rfl)(l:(aar pos (aad es X.10)).any (·.1)=false:=by rfl)(q:eval (.Call (.Attribute o m apos) (e::es) [] pos) X.10=(do
   let a<-eval o X.10
   abO apos.atName
   let(f,first)<-abi [a] (aa5 a m pl)
   abr pos f first (aar pos (aad (e::es) X.10)) (aa2 pos (aaC [] X.10))):=by rfl):
  PE X (.Call (.Attribute o m apos) (e::es) [] pos) (GG C m sp [] E ta t):=by
 let(cl,f,j,(r,F,b),s):=M;show LF (pl:=pl) g cl j F (n.mono h) b .nil hx d p l q
end
section
variable{X:Cx}{x:Str}{p pos:Pos}{C:Addr}{ps:qq}{sp:Sp}{j k:Nat}
theorem LD(M:kf X.1 X.w X.K X.mg X.base j x C ps sp)(e:z3 k X.A)(d:j+1<=k)(c:Gl X x)(a:(x==(Xd:Str))=false:=by decide):PE X (.Call (.Name x p) [] [] pos) (C5 C sp [] E0 xE):=by obtain⟨⟨f,mk,⟨h,F,b⟩,i⟩,g⟩:=M;show Io mk F (e.mono d) c g b .nil mK a
end
noncomputable abbrev bI(X:Cx)(N':qq)(sc:Scope)(s₃:rz)(H₃:Hp)(fp:List Addr)(pins:n7)(E:XK):Cx:=(si X N' sc s₃ H₃ fp pins).wish (uN X (si X N' sc s₃ H₃ fp pins) E)
theorem BQ{X:Cx}:gY (Yw X.1 X.w) (bI X N' sc s₃ H₃ fp pins E) E:=by intro pins' b H s e s' I h;let(a,cls,H',rfl,F,q):=h;show#[pins',b,H,s,a,cls,H',2,I.unwish,F,q]
def Nb(X:Cx)(b:XK):Prop:=(∀c a H,¬b c a H)\/(X.12=X.10::X.11/\X.10.8=some X.10.2/\X.ex=[]/\ZH X b)
theorem NH:Nb X E0:= .inl λ_ _ _ h=>h
section
variable{X:Cx}{elt target iter:Expr}{ifs:pD}{sc:Scope}{pos:Pos}{wi:TI}{g:TG}{tc:TT}{te:TE}{vars frn:qq}{fr:qs}
theorem rb(hE:Nb X EX)(hc:X.calm=true)(k8:∀y∈sc.2,y.2= .free->X.10.kindOf y.1=some .cell\/X.10.kindOf y.1=some .free)(lL:sc.2.all (λy=> !(y.2== .cell)|| !(frn.contains y.1))=true)(lp:sc.kind= .function)(c8:rN X sc fr frn)(hg:∀bt b5 t ab,PG (bI X (vars++frn) sc bt b5 t ab EX) target g)(ht:∀bt b5 t ab,Zc (bI X (vars++frn) sc bt b5 t ab EX) ifs tc)(he:∀bt b5 t ab,PE (bI X (vars++frn) sc bt b5 t ab EX) elt te){G:rz}{σ:St}{R:Value->Addr->Result->Shared->Prop}{t:List Addr}{tn:Nat->Heap->Prop}{J:It}(I2:wh X ab σ H2 G)(T:X8 X.1 X.w X.K target J t it tn)(ha:tn 0 G.1)(f2:∀b∈t,vN X ab H2 b)(h:Yb J g tc te vars.length fr σ H2 Q)(hR:∀D C s',Ku X ab σ Q D C s'->R (.ref D) C (.ok .next) s')(kl:∀D C ea s',(∃m,s'.1.Ns C m)->(∀h',aas C s'.1 h'->∀b7:Env,aag (model X.1 X.w) X.A (ac8 "comprehension.variables-let-go" (.ref ea) b7:Sem Value) (λ_ _=>False) X.xe {s' with heap:=h'})->R (.ref D) C (.error (.ref ea)) s'):
  aag (model X.1 X.w) X.A (newList []) (λeN bt=>aag (model X.1 X.w) X.A (ack sc X.10.3 (jX X.10 sc.2) [] X.10.qual none .none (some X.10)) (λb7 ov=>
   aaV (model X.1 X.w) X.A (.compStart (.ListComp elt [#[target,iter,ifs,0]] sc pos) 0 (.ref it) eN {b7 with scope:=abw sc X.10}) (R eN b7.locals) ov) E bt) E G:=by
 let c4:∀y∈sc.2,y.2= .free->∃c,X.10.4.lookup y.1=some c:=λy L hk=>I2.ok.has y.1 (k8 y L hk);let(W,(m0,w0),turn):=h G.1.1.size I2.fresh;show Uu (vk ?_);dsimp only;let I3:wh X ab σ (upd H2 G.1.1.size (.lst [])) {G with heap:=G.1.push {cls:= .type Xc,data:= .seq ([]:pk).toArray}}:=I2.lnew (t':=G.4) .nil (Sw _);generalize ek:({G with heap:=G.1.push {cls:= .type Xc,data:= .seq ([]:pk).toArray}}:rz)=a at I3;let dc:a.1=G.1.push {cls:= .type Xc,data:= .seq ([]:pk).toArray}:=by rw[<-ek]
 let hsz:a.1.1.size=G.1.1.size+1:=by rw[dc,S7]
 let mA:∀b o,G.1.get? b=some o->a.1.get? b=some o:=λb o e=>by rw[dc];show RN _ e
 generalize hD:G.1.1.size=D at*;generalize j0:upd H2 D (.lst [])=H3 at*;let hC:(G.1.push {cls:= .type Xc,dict:=none,data:= .seq ([]:pk).toArray}).1.size=a.1.1.size:=by rw[dc]
 rw[hC];let jj:aa9 ((G.1.push {cls:= .type Xc,dict:=none,data:= .seq ([]:pk).toArray}).push {cls:= .type Xk,data:= .dict #v[]}) sc.2=aa9 (a.1.push {cls:= .type Xk,data:= .dict #v[]}) sc.names:=by rw[dc]
 rw[jj];let lN:(aa9 (a.1.push {cls:= .type Xk,data:= .dict #v[]}) sc.2).Ns a.1.1.size (λ_=>none):=(Heap.Ns.new a.1 (.type Xk)).keeps (WY _ _);let b2:∀b o,a.1.get? b=some o->(aa9 (a.1.push {cls:= .type Xk,data:= .dict #v[]}) sc.2).get? b=some o:=λb o e=>WY _ _ _ _ (RN _ e);let kQ:∀ {x c},(x,c)∈aam (a.1.1.size+1) sc.2 (jX X.10 sc.2)->(x,c)∈jX X.10 sc.2\/(aa9 (a.1.push {cls:= .type Xk,data:= .dict #v[]}) sc.2).IsCell c none:=λ{x c} e=>by show yS sc.2 (a.1.push {cls:= .type Xk,data:= .dict #v[]}) _ (x:=x) ?_;rw[S7];show e
 generalize aa9 (a.1.push {cls:= .type Xk,data:= .dict #v[]}) sc.2=df at*;let c2:∀b∈t,b<G.1.1.size:=λb f=>by let(o,e,_):=T.obj _ _ ha b f;show R0 e
 let i1:∀b∈t,b≠D:=λb f=>by rw[<-hD];show Sb (c2 b f)
 let fa:∀b∈t,b≠a.1.1.size:=λb f=>by rw[hsz];show Sb (Uc (hD▸c2 b f))
 let i2:∀b∈t,H3 b=none:=λb f=>by rw[<-j0,ak (i1 b f)];show(f2 b f).1
 let fm:∀b∈t,b∉XY X.stack:=λb f z=>by
  let(_,f1,e5,_):=f2 b f;rcases RT.mp (I3.stkSub b z)with e|e
  .show f1 e
  .show e5 e
 let hh:tn 0 df:=T.keep _ _ _ ha λb f o e=>b2 b o (mA b o e);let hW:∀x c,(jX X.10 sc.2).lookup x=some c->X.10.4.lookup x=some c:=λx c e=>PL c4 e;let dw:∀x c,(x,c)∈jX X.10 sc.2->∃y,X.10.4.lookup y=some c:=λx c e=>#[x,qG c4 e];let cS:∀x c,(aam (a.1.1.size+1) sc.2 (jX X.10 sc.2)).lookup x=some c->(∃y,X.10.4.lookup y=some c)\/(a.1.1.size+1<=c/\df.IsCell c none):=λx c e=>by
  let m:=SH e;rcases uU _ _ _ m with h|h
  .show .inl (dw _ _ h)
  .rcases kQ m with h'|h'
   .show .inl (dw _ _ h')
   .show .inr #[h,h']
 let hT:∀y c,X.10.4.lookup y=some c->c<a.1.1.size:=λy c e=>by let(v,q):=I3.cell y c e;show q.lt
 let hS:∀x y c,(aam (a.1.1.size+1) sc.2 (jX X.10 sc.2)).lookup x=some c->(aam (a.1.1.size+1) sc.2 (jX X.10 sc.2)).lookup y=some c->x=y:=λx y c O M=>by
  let fU:∀p∈jX X.10 sc.2,p.2<a.1.1.size+1:=λp hp=>by let(y,L):=dw p.1 p.2 hp;show Uc (hT y _ L)
  by_cases hc:a.1.1.size+1<=c
  .show CH (a.1.1.size+1) sc.2 _ _ fU (RJ _) (λx y c hx _ hc=>absurd (RK (fU _ hx) hc) (S2 _)) x y c (SH O) (SH M) hc
  .let mu:(x,c)∈jX X.10 sc.names:=by
    rcases uU _ _ _ (SH O)with h|h
    .show h
    .show absurd h hc
   let mw:(y,c)∈jX X.10 sc.names:=by
    rcases uU _ _ _ (SH M)with h|h
    .show h
    .show absurd h hc
   show I3.ok.inj x y c (qG c4 mu) (qG c4 mw)
 generalize H:si X (vars++frn) sc a H3 t ab=s;let ny:s.Ok:=by
  rw[<-H];show#[I3.ok.mod,lp,I3.ok.glob,I3.ok.blt,RJ _,hS,λx hx=> ?_,(λx c z e=> ?_),I3.ok.hd,I3.ok.frames, .inl rfl,
   λb f=>#[fa b f,λx c e z=> ?_],I3.bs,RB I3.ok.bsz I3.sz,λb o e f=> ?_,λb f=>fm b f,I3.stack,I3.stkFree]
  .obtain⟨y,L,h1,h2|h2⟩:=oK hx
   .show yR _ _ _ x (.inl #[y,L,h1,h2])
   .show yR _ _ _ x (.inr (Kf #[y,L,h1,h2]))
  .let hz:sc.2.lookup x=some .cell:=by simpa using (show(sc.2.lookup x==some NameKind.cell)=true from z)
   show Uv (CG (a.1.1.size+1) sc.2 _ _ x (RJ _) (.inl #[_,SH hz,22]) c e)
  .rcases cS x c e with ⟨y,L⟩|⟨h,_⟩
   .show(f2 b f).2.2.2.2.1 y c L z
   .subst z;let q:=c2 c f;rw[hsz,<-hD]at h;show S2 _ (RK q (Uv (Uv h)))
  rcases(f2 b f).2.2.2.1 with z|z
  .show I3.ok.noex b o e z
  .show absurd (RK (R0 e) (RB I3.ok.bsz z)) (S2 _)
 let I4:wh s [] (Yk vars.length fr σ) H3 {G with heap:=df}:=by
  let mc:a.os=G.os:=by rw[<-ek]
  let ll:a.gens=G.gens:=by rw[<-ek]
  show#[ny,by rw[<-H];show mc.symm,by rw[<-ll];show I3.bare,by rw[<-H];show Un.kept b2,#[λ_=>none,by rw[<-H];show lN,λi x v O M e3=> ?_],λx c e=> ?_,6,λx c e=> ?_,λp hp=> ?_,by rw[<-H];show I3.hok.kept b2,6]
  .rw[<-H]at O e3⊢;let dx:(vars++frn)[i]?=some x:=O;unfold Yk at M;by_cases hi:i<vars.length
   .rw[SR #[5,hi],WR]at M;rw[RF hi]at M;cases M
   .rw[S8 #[5,Ts hi],UY,RU]at M;rw[S8 (Ts hi)]at dx;cases ej:fr[i-vars.length]? with
    |none=>rw[ej]at M;cases M
    |some j=>
     rw[ej]at M;let cT:(σ[j]?).join=some v:=Sm M;let hZ:σ[j]?=some (some v):=by
      cases q:σ[j]? with
      |none=>rw[q]at cT;cases cT
      |some o=>rw[q]at cT;show Se some cT
     let(y,h1,h2,h3,h4):=c8.get ej;rw[h1]at dx;cases dx;let(m,hn,hl):=I3.loc;let(u,r,l):=hl j x v h2 hZ (by rcases h3 with z|z;show .inr (.inl z);show .inr (.inr z));show#[u,r, .inr #[h4,6]];let fT:∀y∈sc.2,y.1=x->y.2≠ .cell:=λy L mq mm=>by have:=SU.mp lL y L;rw[mm,mq]at this;let hm:frn.contains x=true:=List.contains_iff_mem.mpr (RG h1);rw[hm]at this;cases this
     let la:∃y∈sc.2,y.1=x/\y.2= .free:=by
      obtain⟨y,L,z1,z2|z2⟩:=oK h4
      .show absurd z2 (fT y L z1)
      .show#[y,L,z1,z2]
     let(c,fy):=Kf (env:=X.10) la;let ku:(aam (a.1.1.size+1) sc.2 (jX X.10 sc.2)).lookup x=some c:=(yQ sc.2 _ _ x fT).trans fy;let kv:=hW x c fy;rcases l with ⟨k,_⟩|⟨_,c',fx,kE⟩
     .rcases h3 with z|z
      .rw[z]at k;cases k
      .rw[z]at k;cases k
     .rw[kv]at fx;cases fx;show#[c,ku,kE.keeps b2]
  .rw[<-H]at e;rcases cS x c e with ⟨y,L⟩|⟨_,h⟩
   .let(v,z):=I3.cell y c L;show#[v,z.keeps b2]
   .show#[_,h]
  .rw[<-H];show I3.fresh
  .rw[<-H]at e;rcases cS x c e with ⟨y,L⟩|⟨h,_⟩
   .show I3.freeC y c L
   .show I3.hok.fresh (Uv h)
  .rw[<-H]at hp⊢;rw[Tc]at hp;let(q1,q2,q3,q4,q5):=I3.pin p hp;show#[b2 _ _ q1,q2,Sb (R0 q1),λz=> ?_,q5];rcases RT.mp (I3.stkSub p.1 z)with e|e
   .show q3 e
   .show q4 e
  .rw[<-H];show(Yk vars.length fr σ).length=(vars++frn).length;unfold Yk;rw[R4,UY,My,R4,c8.len]
 let ey:∀ {H':Hp},(∀b∈t,H' b=none)->∀b∈t,vN s [] H' b:=λhn b f=>by
  rw[<-H];let(_,f1,e5,f3,f4,f5):=f2 b f;show#[hn b f,fa b f,fm b f, .inl f,λx c e=> ?_,λp hp=> ?_]
  .rcases cS x c e with ⟨y,L⟩|⟨h,_⟩
   .show f4 y c L
   .show λz=>by subst z;let q:=c2 c f;rw[hsz,<-hD]at h;show S2 _ (RK q (Uv (Uv h)))
  show f5 p (by simpa [si]using hp)
 let back:∀ {hH:St} {H7:Hp} {s7:rz},wh s [] hH H7 s7->wh X ab σ H7 s7:=λ{hH H7 s7} I7=>by
  let ho:s7.os=a.os:=by have:=I7.os;rwa[<-H]at this
  let hu:Un (XY X.12) t H3 H7 a.1 s7.heap:=by have:=I7.base;rwa[<-H]at this
  let hk:Rl X.1 X.w H7 s7.heap:=by have:=I7.hok;rwa[<-H]at this
  show I3.call' ho hu hk I7.bare λb f=> ?_;let(_,f1,_,f3,f4,f5):=f2 b f;show#[f3,f1,f4,f5]
 let ly:s.prog=X.1/\s.w=X.w/\s.K=X.K/\s.A=X.A/\s.calm=true/\s.env=compEnvC sc (aam (a.1.1.size+1) sc.2 (jX X.10 sc.2)) a.1.1.size X.10/\s.xe=(λ_ _=>False)/\s.env.locals=a.1.1.size:=by rw[<-H];show#[2222,hc,222]
 let(eP,ew,eK,eA,ec,eE,ex,eL):=ly;let lj:PG (s.wish (uN X s EX)) target g:=by rw[<-H];show hg a H3 t ab
 let mg:Zc (s.wish (uN X s EX)) ifs tc:=by rw[<-H];show ht a H3 t ab
 let k2:PE (s.wish (uN X s EX)) elt te:=by rw[<-H];show he a H3 t ab
 let eb:∀b o,X.s₀.1.get? b=some o->b≠a.1.1.size:=λb o e=>Sb (RK (R0 e) I3.sz);let fw:a.1.1.size∉XY X.stack:=λhm=>by
  rcases RT.mp (I3.stkSub _ hm)with z|z
  .show absurd z (T7 I3.lt)
  .show I3.nofs (RJ _) z
 let ee:∀ev s',uN X s EX ev s'->notedBy (model X.1 X.w) X.A s.env (λx cn=>R (.ref D) a.1.1.size (.error x) cn) ev s':=by
  rintro ev s' ⟨pins',ph,H1,s1,ea,cls,H',rfl,I1,Fl,q⟩;rcases hE with hE|⟨cj,fA,k4,hOut⟩
  .show absurd q (hE _ _ _)
  let(B,a0,fl,hk,mh,mb):=Fl.ex;let U:wh X ab σ H1 s1:=back (I1.pins_of (pins':=[]) λp hp=>nomatch hp);let iv:abU B (X.10::X.11) ea cls a0 s'.heap:=cj▸fl;let c8:X.A.frames=some (X.10::X.11):=by rw[I2.ok.frames,cj]
  let k5:s.env.frame=X.10.frame:=by rw[eE];rfl
  change aag _ _ (abo (.ref ea) s.env) _ _ s';rw[rG k5];show wpAny_looks_onW c8 fA iv λh4 fB oi=> ?_;let(m,hn,_):=I1.loc;rw[eL]at hn;let(oC,h8,h7,fM,rC):=hn;let fu:H1 a.1.1.size=none:=by have:=I1.free;rwa[eL]at this
  let ft:B.get? a.1.1.size=some oC:=hk _ oC fM fu fw;show kl _ _ ea _ #[m,oC,h8,h7,fB.1 _ _ ft,rC] λh' sb b7=> ?_;let(g1,g2,g3,oe,vs,Tt,oT,ts,k3,kR,kS,jb,fD,kp,kn,k0,jl):=fB;let gd:∀b,B.get? b=none->b≠a.1.1.size:=λb e z=>by rw[z,ft]at e;cases e
  let ef:∀b,B.get? b=none->(acv B [a.1.1.size]).get? b=none:=λb e=>by
   cases q:(acv B [a.1.1.size]).get? b with
   |none=>rfl
   |some o=>rw[Vh _ q]at e;cases e
  let eg:∀b o,B.get? b=some o->b≠a.1.1.size->(acv B [a.1.1.size]).get? b=some o:=λb o e z=>UB _ e #[5,z];let js:vj (acv B [a.1.1.size]) (X.10::X.11) ea cls a0 (abk X.10.2) h':=by
   show#[λb o e=> ?_,ef _ g2,mW (C:=a.1.1.size) ef (λb f=>λz=>fw (by rw[cj,<-z];show f)) sb g3,oe,vs,Tt,oT,ts,(sb.2 _ (gd _ g2)).trans k3,kR,kS,jb,ef _ fD,kp,(sb.2 _ (gd _ fD)).trans kn,k0,jl];let f:b≠a.1.1.size:=λz=>by rw[z,acf _ #[5]]at e;cases e
   show(sb.2 b f).trans (g1 b o (Vh _ e))
  show BP js λpb i0 ju oj=> ?_;let gk:∀b o,X.s₀.1.get? b=some o->b∉X.fs->b∉XY X.stack:=λb o e f hm=>by
   rcases RT.mp (U.stkSub b hm)with z|z
   .show absurd z (Sb (RK (R0 e) U.ok.above))
   .show f z
  let bo:∀b:Addr,b∉X.ex:=λb=>by rw[k4];show λz=>nomatch z
  show hOut I2.ok ea cls H' _ (acv B [a.1.1.size]) a0 i0 (Fl.os.trans U.os) Fl.bare (by rw[cj];show ju) (λb o e n f=> ?_) (λb o e f=> ?_) (λb u e=> ?_) (λb o e f=> ?_) (λb o e n=> ?_)
   (λb xs e=>Fl.tups b xs (U.base.tups b xs e)) (λb o xs e=>Fl.frzs b o xs (U.base.frzs b o xs e)) (λb ps e=> ?_) ?_ q
  .show eg b o (hk b o (U.base.keep b o e n f (bo b)) (U.base.free b o e n (bo b)) (gk b o e f)) (eb b o e)
  .let(o',O):=U.base.there b o e (bo b);let(o2,M):=mh b o' O (gk b o e f);show#[o2,eg b o2 M (eb b o e)]
  .show(mb b u e).stay (λc v hc r=>eg c v r λz=> ?_) (λ_ q=>q) λ_ _ q=>q;let hn:H' a.1.1.size=none:=Fl.free _ oC fM fu;rcases hc with y|y
   .rw[y]at z;rw[<-z,e]at hn;cases hn
   .rw[z,hn]at y;cases y
  .let(_,o',fI,nf):=U.ok.funs.mem f;rw[e]at fI;cases fI;let(sl,O):=U.base.slot b o e (U.ok.frf b f) f (bo b);let ks:b∈XY X.stack:=by rw[cj];unfold XY;rw[TQ,fA];show RI _ f
   let(pe,M):=Fl.slot b _ O ks;let(pf,e3):=oi b _ M nf;let(od,e4):=oj b _ ((sb.2 b (eb b o e)).trans e3) nf;show#[od,e4]
  .let(o',O):=U.base.there b o e (bo b);show Fl.free b o' O (U.base.free b o e n (bo b))
  .let(m1,O):=U.base.tbls b ps e;let(m2,M):=Fl.tbls b _ O;show#[m1++m2,by rw[M,acG]]
  .cases hq:X.s₀.1.get? ea with
   |none=>rfl
   |some o=>
    let(o',O):=U.base.there ea o hq (bo ea);rw[Fl.new]at O;cases O
 let loop:∀s4:Shared,s4={G with heap:=df}->
   aaV (model X.1 X.w) X.A (.compLoop (.ListComp elt [#[target,iter,ifs,0]] sc pos) 0 (.ref it) (.ref D) s.env) (R (.ref D) a.1.1.size) s4:=by
  rintro s4 rfl;show codeAny_loop rfl (λn s'=>∃i cz H',wh s [] cz H' s'/\tn i s'.1/\(∀b∈t,H' b=none)/\W i n cz H') (λn s5 hI=> ?_) m0 #[0,_,H3,I4,hh,i2,w0];let(i,dk,H5,I5,hj,fe,w5):=hI;change aag _ X.A ((compTurn (.ListComp elt [#[target,iter,ifs,0]] sc pos) 0 (.ref it) (.ref D) s.env).onRaise (λx=>do abo x s.env;theTreesLotGoes x)) _ _ s5;show wpAny_noted ?_;rw[compTurn_list];show RC (wpAny_standAt (RC ?_));rcases turn i n dk H5 w5 with ⟨stop,q⟩|⟨go,N,hN,step⟩
  .let z:=T.done s eP ew eK ec i [] s5 dk H5 (notedBy (model X.1 X.w) X.A s.env (λx cn=>R (.ref D) a.1.1.size (.error x) cn)) I5 (ey fe) hj stop;rw[eA]at z;show zk z λr s6 ⟨hr,I6⟩=> ?_;subst hr;show RS (hR _ _ _ #[H5,back I6,q,66,T7 I3.lt,I3.sz,λx c e z=> ?_,λp hp z=> ?_])
   .let(m,hn,_):=I6.loc;rw[eL]at hn;show#[m,hn]
   .have:=I6.free;rwa[eL]at this
   .let(v,q):=I3.cell x c e;show absurd q.lt (by rw[z];show S2 _)
   .show absurd (R0 (I3.pin p hp).1) (by rw[z];show S2 _)
  .let z:=T.item s eP ew eK ec i [] s5 dk H5 (notedBy (model X.1 X.w) X.A s.env (λx cn=>R (.ref D) a.1.1.size (.error x) cn)) I5 (ey fe) hj go;rw[eA]at z;show zk z λr s6 ⟨u,hr,h6⟩=> ?_;subst hr;show RC (zk h6 λ_ s7 ⟨x,H7,I7,r7,y7,et,i4⟩=> ?_);let hO:=I7.pinned (ey i4) (T.obj _ _ et);let zg:=lj _ s7 dk H7 x u _ (hO.wish _) r7 (step x H7 y7);simp only[eP,ew,eA]at zg;show RC (TZ zg (λ_ s8 ⟨dm,H8,I8,q8⟩=> ?_) ee);let I8:=I8.unwish;let zt:=mg _ s8 dm H8 _ (I8.wish _) q8;simp only[eP,ew,eA]at zt;show RC (TZ zt (λok s9 ⟨H9,I9,q9⟩=> ?_) ee);let I9:=I9.unwish;let again:∀ {cE:St} {Ha:Hp} {sa:rz},wh s ([]++tP t s7.1) cE Ha sa->N cE Ha->∃m,m<n/\∃i cz H',wh s [] cz H' sa/\tn i sa.1/\(∀b∈t,H' b=none)/\W i m cz H':=λ{cE Ha sa} Ia na=>by let(m',hm,wa):=hN cE Ha na;show#[m',hm,i+1,cE,Ha,Ia.unpinned,T.keep _ _ _ et λb f o e=>(Ia.pin (b,o) (Sf _ (Sf _ (jS f e)))).1,λb f=> ?_,wa];let(o,e,d):=T.obj _ _ et b f;show(Ia.pin (b,o) (Sf _ (Sf _ (jS f e)))).2.1
   cases ok with
   |false=>
    rw[RQ RO]at q9;show RS #[2,again I9 q9]
   |true=>
    rw[RF rfl]at q9;let ze:=k2 _ s9 dm H9 _ (I9.wish _) q9;simp only[eP,ew,eA]at ze;show RC (RC (TZ ze (λy sa ⟨yv,Ha,Ia,ra,xs,ml,lx,na⟩=>RC ?_) ee));let Ia:=Ia.unwish;let zm:=wR (X:=s) _ sa dm Ha (.ref D) [yv] (.ref D) [y] (λ_ Hb=>N dm Hb) Ia rfl (.cons ra .nil) #[D,xs,yv,22,ml,lx,na];rw[eP,ew,eA,ex]at zm;show TZ zm (λ_ sb ⟨vb,Hb,Ib,_,nb⟩=>RS (RS #[2,again Ib nb])) λ_ _ z=>z.elim
 let e:({(newEnv sc a.1.1.size X.10.3 (aam (a.1.1.size+1) sc.2 (jX X.10 sc.2)) X.10.qual none .none (some X.10) abM)with scope:=abw sc X.10}:Env)=s.env:=by rw[eE];rfl
 let e9:=codeAny_compStart_list (elt:=elt) (target:=target) (iter:=iter) (ifs:=ifs) (rest:=[]) (scope:=sc) (pos:=pos) (loop _ rfl) (T.self _ 0 _ _ _ hh (loop _ rfl));rwa[<-e]at e9
theorem OV{j:XK}(hE:Nb X j)(hc:X.calm=true)(ax:sc.2.all (λy=> !(y.2== .free)||(X.10.kindOf y.1==some .cell||X.10.kindOf y.1==some .free))=true)(bk:sc.2.all (λy=> !(y.2== .cell)|| !(frn.contains y.1))=true)(r:sc.kind= .function)(a7:sc.2.all (λy=> !(y.2== .local)||(sc.2.lookup y.1==some .local))=true)(ay:rN X sc fr frn)(hi:PI X target iter wi)(hg:∀i f d a,PG (bI X (vars++frn) sc i f d a j) target g)(ht:∀i f d a,Zc (bI X (vars++frn) sc i f d a j) ifs tc)(he:∀i f d a,PE (bI X (vars++frn) sc i f d a j) elt te)(hs:∀x,aaJ iter X.10 x=pure x:=by intro _;rfl):PE X (.ListComp elt [#[target,iter,ifs,0]] sc pos) (ZM wi g tc te vars.length fr):=by
 intro a s t H Q I h;let p:=NP ax;let a5:=NL a7;rw[eval_ListComp];let ar:∀y∈sc.2,y.2= .free->∃c,X.10.4.lookup y.1=some c:=λy hy hk=>I.ok.has y.1 (p y hy hk);show abB (use:=none) rfl hs (mX ar) r a5 (zk (hi a s t H _ I h) λv s1 K=>zk K λb2 s2 L=> ?_);let(it,d,tn,J,H2,e,z,T,bN,f2,q):=L;subst e;show rb (R:=λB C=>compPost (model X.1 X.w) X.A X.xe none (EP X a t Q) B C) hE hc p bk r ay hg ht he z T bN f2 q (λD C s' k=> ?_) λD C ea s' ⟨m,l⟩ hh=>#[m,l,λh' n G _=>hh h' n G];let(H',u,q',(m,l),O,M,ab,N,U):=k;show#[m,l,λh' n=>#[.ref D,H',62,q']];show u.turned (t':=s'.4) (λb o k e=>(n.2 b k).trans e) O M (.inr ab) N U
theorem wq{n:XK}{i:Nat}{x:Str}{j M:Pos}(hN:X.N.Nodup)(b0:X.N[i]?=some x)(hx:X.10.kindOf x=some .local)(hE:Nb X n)(hc:X.calm=true)(bo:sc.2.all (λy=> !(y.2== .free)||(X.10.kindOf y.1==some .cell||X.10.kindOf y.1==some .free))=true)(b4:sc.2.all (λy=> !(y.2== .cell)|| !(frn.contains y.1))=true)(L:sc.kind= .function)(b3:sc.2.all (λy=> !(y.2== .local)||(sc.2.lookup y.1==some .local))=true)(bt:rN X sc fr frn)(hi:PI X target iter wi)(hg:∀l k f d,PG (bI X (vars++frn) sc l k f d n) target g)(ht:∀l k f d,Zc (bI X (vars++frn) sc l k f d n) ifs tc)(he:∀l k f d,PE (bI X (vars++frn) sc l k f d n) elt te)(b8:aaS (.ListComp elt [#[target,iter,ifs,0]] sc pos) (some (.Name x j)) M.line X.10=pure true:=by rfl)(hs:∀x,aaJ iter X.10 x=pure x:=by intro _;rfl):PS X (.Assign [.Name x j] (.ListComp elt [#[target,iter,ifs,0]] sc pos) M) (GJ (ZM wi g tc te vars.length fr) (aH i)):=by
 intro d s σ H p I h;let K:=NP bo;let b2:=NL b3;rw[exec_Assign_Name_used _ _ _ _ b8];let bk:∀y∈sc.2,y.2= .free->∃c,X.10.4.lookup y.1=some c:=λy hy hk=>I.ok.has y.1 (K y hy hk);show RC (wpAny_standAt (RC ?_));change aag _ X.A (do let _<-comprehension (.ListComp elt [#[target,iter,ifs,0]] sc pos) sc X.10 _ (newList []) false (eval iter X.10) (some (adn (.Name x j) X.10))) _ _ s;show RC (zk (Q:=λ_ s'=>SP X d p .next s') (abB (use:=some (adn (.Name x j) X.10)) (Q:=λ_ s'=>SP X d p .next s') rfl hs (mX bk) L b2 (zk (hi d s σ H _ I h) λv s1 h1=>zk h1 λcO s2 h2=> ?_)) λ_ s' hq=>RS (RS hq));let(it,f,tn,J,H2,e,U,T,cz,f2,q):=h2;subst e;show rb (R:=λab C=>compPost (model X.1 X.w) X.A X.xe (some (adn (.Name x j) X.10)) (λ_ s'=>SP X d p .next s') ab C) hE hc K b4 L bt hg ht he U T cz f2 q (λD C s' r=> ?_) λD C ea s' ⟨m,t⟩ hh=>#[m,t,λh' u af _=>hh h' u af];let(H',O,q',(m,t),ar,B,ay,G,ax):=r;change aag _ X.A (adn (.Name x j) X.10 (.ref D)) _ _ s';show acU (vT O hN b0 (.inl hx) (v:= .ref D) rfl (λs3 I3 b7=> ?_) (.inr hx));let(a,sb,ha):=b7;let a4:C≠a:=by
  rcases ha with e|e
  .rw[e];show B
  .show λz=>G x a e z.symm
 show#[m,t.sameBut sb a4,λh' u=>#[_,H',6,q']];show I3.turned (t':=s3.4) (λb o r e=>(u.2 b r).trans e) ar B (.inr ay) G ax
end
section
variable{X:Cx}{elt target iter:Expr}{ifs:pD}{sc:Scope}{pos:Pos}{wi:TI}{g:TG}{tc:TT}{te:TE}
theorem Zp(i:Nat){x:Str}{N a:qq}{e:rz}{b:Hp}{c:List Addr}{d:n7}(f:(N++a).Nodup:=by decide+kernel)(j:(N++a)[i]?=some x:=by rfl)(hx:Zm (bI X (N++a) sc e b c d E0).env.scope x:=by first|show U6 rfl|show ad4 rfl)(h:(bI X (N++a) sc e b c d E0).fn x=true\/(bI X (N++a) sc e b c d E0).env.scope.2.lookup x=some .local:=by first|show .inl rfl|show .inr rfl|assumption):PG (bI X (N++a) sc e b c d E0) (.Name x pos) (aH i):=yb f j hx h
theorem QV(vars frn:qq)(fr:qs)(k:PI X target iter wi)(j:∀ {d a b c},PG (bI X (vars++frn) sc d a b c E0) target g)(p:∀ {d a b c},Zc (bI X (vars++frn) sc d a b c E0) ifs tc)(f:∀ {d a b c},PE (bI X (vars++frn) sc d a b c E0) elt te)(e:X.calm=true:=by rfl)(h:sc.2.all (λy=> !(y.2== .free)||(X.10.kindOf y.1==some .cell||X.10.kindOf y.1==some .free))=true:=by rfl)(n:sc.2.all (λy=> !(y.2== .cell)|| !(frn.contains y.1))=true:=by rfl)(l:sc.kind= .function:=by rfl)(m:sc.2.all (λy=> !(y.2== .local)||(sc.2.lookup y.1==some .local))=true:=by rfl)(i:rN X sc fr frn:=by repeat (first|show Ti|refine⟨⟨⋯,U6 ⋯,U6 ⋯⟩,?_⟩))(o:∀x,aaJ iter X.10 x=pure x:=by intro _;rfl):PE X (.ListComp elt [#[target,iter,ifs,0]] sc pos) (ZM wi g tc te vars.length fr):=OV NH e h n l m i k (λ_ _ _ _=>j) (λ_ _ _ _=>p) (λ_ _ _ _=>f) o
theorem QU(i:Nat){x:Str}{e f:Pos}(h:X.N.Nodup)(vars frn:qq)(fr:qs)(o:PI X target iter wi)(n:∀ {d a b c},PG (bI X (vars++frn) sc d a b c E0) target g)(v:∀ {d a b c},Zc (bI X (vars++frn) sc d a b c E0) ifs tc)(k:∀ {d a b c},PE (bI X (vars++frn) sc d a b c E0) elt te)(p:X.N[i]?=some x:=by rfl)(hx:X.10.kindOf x=some .local:=by rfl)(j:X.calm=true:=by rfl)(l:sc.2.all (λy=> !(y.2== .free)||(X.10.kindOf y.1==some .cell||X.10.kindOf y.1==some .free))=true:=by rfl)(s:sc.2.all (λy=> !(y.2== .cell)|| !(frn.contains y.1))=true:=by rfl)(q:sc.kind= .function:=by rfl)(r:sc.2.all (λy=> !(y.2== .local)||(sc.2.lookup y.1==some .local))=true:=by rfl)(m:rN X sc fr frn:=by repeat (first|show Ti|refine⟨⟨⋯,U6 ⋯,U6 ⋯⟩,?_⟩))(u:aaS (.ListComp elt [#[target,iter,ifs,0]] sc pos) (some (.Name x e)) f.line X.10=pure true:=by rfl)(t:∀x,aaJ iter X.10 x=pure x:=by intro _;rfl):PS X (.Assign [.Name x e] (.ListComp elt [#[target,iter,ifs,0]] sc pos) f) (GJ (ZM wi g tc te vars.length fr) (aH i)):=wq h p hx NH j l s q r m o (λ_ _ _ _=>n) (λ_ _ _ _=>v) (λ_ _ _ _=>k) u t
end
section
variable{X:Cx}{e d c:Expr}{te td tc:TE}{pos:Pos}
theorem Zr(b:PE X e te)(a:aad [e] X.10=(false,eval e X.10)::aad [] X.env:=by rfl):PA X [e] (sx te xE):=fh b qe a
theorem pa2(f:PE X e te)(g:PE X d td)(a:aad [e,d] X.10=(false,eval e X.10)::aad [d] X.env:=by rfl)(b:aad [d] X.10=(false,eval d X.10)::aad [] X.env:=by rfl):PA X [e,d] (sx te (sx td xE)):=fh f (Zr g b) a
theorem Z4(a:PE X e te):X4 X [.Return (some e) pos] (PX te):=rW (OJ a)
end
end L2
namespace Bh
open PySem PySem.NumText
noncomputable def Py:List Nat:=[48,49,50,51,52,53,54,55,56,57]
theorem DJ:c∈Py↔48<=c/\c<=57:=by unfold Py;simp only[RT,Uy,WG];omega
noncomputable def pA(L:qs):Bool:= !L.isEmpty&&L.all (λc=>decide (c∈Py))&&(decide (L=[48])|| !decide (L.head?=some 48))
noncomputable def J1(k:Nat):List Nat:=(aaP 10 k).map abg
theorem dU(h:k<10):J1 k=[48+k]:=by unfold J1;rw[Nat.toDigits_of_lt_base h,Sg,WC,Nat.toNat_digitChar_of_lt_ten h]
theorem qD(h:10<=k):J1 k=J1 (k/10)++[48+k % 10]:=by have a:k % 10<10:=VR k ∅;let t:aaP 10 (k/10)++aaP 10 (k % 10)=aaP 10 (10*(k/10)+k % 10):=Nat.toDigits_append_toDigits ∅ () a;rw[Nat.div_add_mod]at t;rw[show J1 k=(aaP 10 k).map abg from rfl,<-t,R6];show Se (J1 (k/10)++ ·) (dU a)
theorem AS(k:Nat):aaI (J1 k)=k:=PySem.W.KIN.val_back k
theorem o9{L:qs}:pA L=true↔L≠[]/\AllDigits L/\(L=[48]\/L.head?≠some 48):=by
 unfold pA;rw[RZ,RZ,TN,SU,Ub,SG,SG,UG];constructor
 .rintro⟨⟨b,d⟩,f⟩;show#[λe=>by rw[e]at b;show absurd b ∅,λc g=>DJ.mp (RV (d c g)),f]
 .rintro⟨b,d,f⟩;show#[#[6,λc g=>RE (DJ.mpr (d c g))],f];cases L with
  |nil=>show absurd rfl b
  |cons a l=>rfl
theorem qZ(k:Nat):AllDigits (J1 k):=by
 induction k using adO with
 |_ k b=>
  by_cases h:k<10
  .rw[dU h];intro c a;have:c=48+k:=#[5,a]
   lia
  .rw[qD ()];intro c a;rcases R9.mp a with a|a
   .show b (k/10) () c a
   .have:c=48+k % 10:=#[5,a]
    lia
theorem xo(k:Nat):(J1 k).head?≠none/\(0<k->(J1 k).head?≠some 48):=by
 induction k using adO with
 |_ k d=>
  by_cases h:k<10
  .rw[dU h];show#[#[5],λf=> ?_];intro e;have:48+k=48:=#[5,e]
   lia
  .let(b,c):=d (k/10) ();let e:(J1 k).head?=(J1 (k/10)).head?:=by
    rw[qD ()];cases q:J1 (k/10)with
    |nil=>rw[q]at b;show absurd rfl b
    |cons a l=>rfl
   rw[e];show#[b,λ_=>c ()]
theorem AU(k:Nat):pA (J1 k)=true:=by
 show o9.mpr #[λe=> ?_,qZ k,6]
 .have:=(xo k).1;rw[e]at this;show this rfl
 .by_cases h:k=0
  .subst h;show .inl (dU ∅)
  .show .inr ((xo k).2 ())
theorem rL(l:qs)(c:Nat):aaI (l++[c])=aaI l*10+(c-48):=by unfold aaI;rw[S0];rfl
theorem DR:∀(n:Nat)(L:qs),L.length=n->L≠[]->AllDigits L->L.head?≠some 48->J1 (aaI L)=L/\0<aaI L
 |0,L,g,b,_,_=>absurd (Sx.mp g) b
 |n+1,L,g,b,h,i=>by
  obtain⟨M,c,rfl⟩:∃M c,L=M++[c]:=#[L.dropLast,L.getLast b,(List.dropLast_concat_getLast b).symm];let p:=h c (Sf _ (RY.mpr rfl));rw[rL];by_cases f:M=[]
  .subst f;let c0:c≠48:=λe=>i (by rw[e];rfl);change J1 (0*10+(c-48))=[c]/\_;rw[dU ()];show#[by rw[show 48+(0*10+(c-48))=c by lia],by change 0<0*10+(c-48);lia]
  .let k:M.head?≠some 48:=λe=>i (by
    cases M with
    |nil=>show absurd rfl f
    |cons a l=>show e)
   let(j,o):=DR n M (by rw[R4,ab8]at g;lia) f (λd m=>h d (SF _ m)) k;show#[69];rw[qD (),show(aaI M*10+(c-48)) /10=aaI M by lia,j,show 48+(aaI M*10+(c-48)) % 10=c by lia]
theorem Kg(h:pA L=true):J1 (aaI L)=L:=by
 let(b,c,a):=o9.mp h;rcases a with rfl|a
 .show dU ∅
 .show(DR _ L rfl b c a).1
theorem DV(h:pA L=true):aaI L=0↔L=[48]:=by
 constructor
 .intro e;rw[<-Kg h,e];show dU ∅
 .rintro rfl;rfl
noncomputable def Mb(L:qs):Bool:=if L.head?=some 45 then pA L.tail&& !decide (L.tail=[48])else pA L
noncomputable def FF(L:qs):Int:=if L.head?=some 45 then-(aaI L.tail:Nat)else(aaI L:Nat)
theorem F5{L:qs}(h:pA L=true):L.head?≠some 45:=by
 let(b,c,_):=o9.mp h;cases L with
 |nil=>show absurd rfl b
 |cons a l=>
  intro e;have:a=45:=#[5,e]
  have:=c a RH;lia
theorem Lx:(10:Nat)^60<2^200:=#[9]
abbrev cp(z:Str):List Nat:=z.cps.toList
noncomputable def nq:List Nat:=(range 26).map (97+ ·)
noncomputable def qX(L:qs):Bool:= !L.isEmpty&&L.all (λc=>decide (c∈nq))&&decide (L.length<=8)
noncomputable def Lc(n:Nat)(L:qs):Bool:=decide (mF (Yz L)=L)&&decide (Yz L<2^n)
noncomputable def Yo:List Nat:=[0,2,3,5,7,11,13,17,19,23,29,31,37,41,43,47,53,59,61,67,71,73,79,83,89,97]
end Bh
namespace L2
open PySem PySem.Spec PyProof.Rows
theorem yD(z:Int):((toString z:sh):Str).cps.toList=if z<0 then 45::(aaP 10 z.natAbs).map abg else(aaP 10 z.natAbs).map abg:=by
 rw[signs_ofString,Int.toString_eq_repr];cases z with
 |ofNat m=>
  rw[RQ (by have:=S1 m;simp)];show(Nat.repr m).toList.map abg=_;rw[adP];rfl
 |negSucc m=>
  rw[RF (Int.negSucc_lt_zero m)];show("-"++Nat.repr (m+1)).toList.map abg=_;rw[String.toList_append,R6,adP];rfl
theorem Ma{z:Int}(a:0<k)(h:z.natAbs<10^k):((toString z:sh):Str).length<=k+1:=by
 let e:((toString z:sh):Str).cps.toList.length=((toString z:sh):Str).length:=Sq;let c:=(Nat.length_toDigits_le_iff (b:=10) (n:=z.natAbs) ∅ a).mpr h;rw[<-e,yD];split
 .rw[R3,My];lia
 .rw[My];lia
theorem E8(z:Int):∀c∈((toString z:sh):Str).cps.toList,c<128:=by
 let key:∀c∈(aaP 10 z.natAbs).map abg,c<128:=λc a=>by let(ch,b,rfl):=RM.mp a;have:=digit_range (Nat.isDigit_of_mem_toDigits ∅ ∅ b);lia
 intro c a;rw[yD]at a;split at a
 .rcases RT.mp a with rfl|a
  .decide
  .show key c a
 .show key c a
open PySem.W
theorem Jv{K:Frag}{xs:List V}{fr:qs}{p:St}{Q:VK}(f:Nat->V->Hp->Prop)(af:∀i y H H',vc H H'->f i y H->f i y H')(ha:vr K H a xs)(hn:xs.length<=sizeLine)(hs:∀(i:Nat)(x:V)(vs:St)(D:Addr)(H':Hp)(R:V->St->Hp->Prop)(S:St->Hp->Prop),xs[i]?=some x->vs.length=o->vc H H'->(∃l,H' D=some (.lst l))->
   (∀y v d,f i y (A0 d D)->v.length=o->vc H' d->R y (v++fr.map λj=>(p[j]?).join) d)->
    g x (vs++fr.map λj=>(p[j]?).join) H' λr M=>tc r M λb H4=>if b=true then te r H4 λy k=>R y r k else S r H4)(hd:∀D H' (c:List V),H D=none->vc H H'->H' D=some (.lst c)->c.length=xs.length->(∀(j:Nat)(y:V),c[j]?=some y->f j y (A0 H' D))->Q (.ref D) H'):Yb (YU K a) g tc te o fr p H Q:=by
 intro D w;show#[λi m J H'=>m=xs.length-i/\i<=xs.length/\∃(vs:St)(c:List V),vs.length=o/\J=vs++(fr.map λj=>(p[j]?).join)/\vc H H'/\H' D=some (.lst c)/\c.length=i/\(∀(j:Nat)(y:V),c[j]?=some y->f j y (A0 H' D)),#[xs.length,#[5],Sw _,aaM o none,[],#[5],2,vc.new w,aa,2,#[5]],6];rintro i m J H' ⟨rfl,hi,vs,c,hv,rfl,u,A,hl,hz⟩;let B:vr K H' a xs:=u.seq ha;by_cases s:i<xs.length
 .show .inr #[#[xs,xs[i],B,by simp[s]],λL d=>∃(vs:St)(c:List V),vs.length=o/\L=vs++(fr.map λj=>(p[j]?).join)/\vc H d/\d D=some (.lst c)/\c.length=i+1/\(∀(j:Nat)(y:V),c[j]?=some y->f j y (A0 d D)),λL d q=>#[xs.length- (i+1),TU s (S3 _),2,s,q],λx H2 y=> ?_];let(N,O):=y;subst N;let hx:=O xs B;show hs i x vs D _ (λy r k=>∃t,k D=some (.lst t)/\t.length<sizeLine/\∃(vs:St)(c:List V),vs.length=o/\r=vs++(fr.map λj=>(p[j]?).join)/\vc H (upd k D (.lst (t++[y])))/\upd k D (.lst (t++[y])) D=some (.lst c)/\c.length=i+1/\(∀(j:Nat)(z:V),c[j]?=some z->f j z (A0 (upd k D (.lst (t++[y]))) D))) _ hx hv u #[_,A] (λy v d pz a4 G=> ?_);let ab:=G D _ A;show#[_,ab,by rw[hl];show RK s hn,v,c++[y],a4,2,(u.trans G).upd w,aa,by rw[R4,hl];rfl,λj z h=> ?_];rw[AL];by_cases hj:j<c.length
  .rw[SR hj]at h;show af _ _ _ _ (xf G) (hz j z h)
  .rw[S8 ()]at h;let ay:j-c.length=0:=by
    cases e:j-c.length with
    |zero=>rfl
    |succ n=>rw[e]at h;simp at h
   rw[ay]at h;cases h;let U:j=i:=()
   subst U;show pz
 .let e:i=xs.length:=TL hi (Ts s);subst e;show .inl #[#[xs,B,RJ _],hd D H' c w u A hl hz]
end L2
namespace L2
open PySem PySem.Spec PyProof.Rows
section
variable{X:Cx}
theorem Ie(b:X4 X.nox body t):PS X (.Try body (h₀::hs) [] [] pos) t:=by
 intro c s d H D I h;show adF (TZ (b c s d H D (I.wish _) h) (λa e q=> ?_) λ_ _ z=>z.elim);replace q:=q.unwish;cases a with
 |next=>show UI q
 |ret v=>show q
 |brk=>show q
 |cont=>show q
end
theorem LM:gY (Yw P w) X (λ_ _ _=>False):=λ_ _ _ _ _ _ _ h=>by let(_,_,_,_,_,h):=h;show h.elim
section
variable{X:Cx}{e o:Expr}{es:pD}{t:TA}{ta:TE}{c m:Str}{jj k:Nat}{ps:qq}{sp:Sp}{cpos apos apos2 cp hpos pos:Pos}{C:Addr}{Cc:Value}{E:XK}
def Ng(C:Addr)(m:Str)(sp:Sp)(ta:TE)(t:TA)(D:Yg)(E:XK)(b:St)(H:Hp):Prop:=ta b H λx d=>∃a h fs,x= .ref a/\d a=some (.ins C h fs)/\fs.lookup m=none/\t b d λvs f=>sp (.ref a::vs) f (λ_ g=>D.nx b g) E
theorem JV(M:xD X.1 X.w X.K X.mg X.base jj C m ps sp)(hr:z3 k X.A)(a0:jj<=k)(ho:∀E,PE (X.wish E) o ta)(ha:∀E,PA (X.wish E) (e::es) t)(a7:aaS (.Call (.Attribute o m apos2) (e::es) [] cpos) none apos.line X.10=pure false)(he:aad (e::es) X.10=(false,eval e X.10)::aad es X.10)(a4:(aar cpos (aad es X.10)).any (·.1)=false)(bk:eval (.Call (.Attribute o m apos2) (e::es) [] cpos) X.10=(do
   let U<-eval o X.10
   abO apos2.atName
   let(f,first)<-abi [U] (aa5 U m pl)
   abr cpos f first (aar cpos (aad (e::es) X.10)) (aa2 cpos (aaC [] X.10)))){d:St}(I:wh X g d H s)(h:Ng C m sp ta t D E d H)(hE:∀p n i cls H' s',wh X g d p n->ZW X.1 X.w X.12 p n i cls H' s'->E cls (some i) H'->E' (.ref i) s'):
  aag (model X.1 X.w) X.A (execs [.Expr (.Call (.Attribute o m apos2) (e::es) [] cpos) apos] X.10) (SP X g D) E' s:=by
 let(cl,f,O,(fd,F,b),kp):=M;show WB (zk (Q:=SP X g D) (wpAny_Expr_any (Ul (pl:=pl) (zk (ho E' g s d H _ (I.wish E') h) λu n ⟨x,p,J,rx,a,dx,fs,ex,i,l,q⟩=> ?_) bk) I.quiet a7) λG n q=> ?_)
 .subst ex;obtain rfl:u=aaa a:=rx;show jV J.unwish i cl O l ?_;show T4 (first:=[.ref a]) (h₀:=X.base) I.ok.mod.kin O.kp (zk (ha E' cpos g n d p _ J q) λus z ⟨vs,B,L,r,q2⟩=>#[L.unwish.kIn,6]) he a4;let y:wh X g d B z:=L.unwish;let r2:zj (.ref a::vs) (.ref a::us):= .cons rfl r;let hl:((aaa a::us)++[]).length=ps.length:=by rw[Tc,<-r2.length];show F.len _ _ _ _ q2
  let N:=b z (.ref a::us) y.kIn hl;rw[Tc]at N;show acJ (UX (F.run X.A X.12 z B #[.ref a::us,[]] (.ref a::us) (.ref a::vs) _ E (hr.mono a0) y.env0 N r2 q2) λrr s' j=> ?_);cases rr with
  |error ev=>
   let(aj,cls,H',rfl,Fl,q'):=j;show hE B z aj cls H' s' y Fl q'
  |ok G=>
   cases G with
   |ret u=>
    let(v,H',I3,rv,q3):=y.after j;show#[d,H',I3,q3]
   |next=>show False.elim j
   |brk=>show False.elim j
   |cont=>show False.elim j
 .cases G with
  |next=>show UI q
  |ret v=>show q
  |brk=>show q
  |cont=>show q
def PV(C:Addr)(m:Str)(Cc:Value)(sp:Sp)(ta:TE)(t:TA)(d:TS):TS:=λD a H=>Ng C m sp ta t D (λcls _ b=>cls=Cc/\d D a b) a H
theorem Lu{pl:Sem Bool}{l:Stmt}{x:List Stmt}{th:TS}(M:xD X.1 X.w X.K X.mg X.base jj C m ps sp)(hr:z3 k X.A)(bu:jj<=k)(bo:Gl X c)(bx:X.mg c=some Cc)(b7:aef X.K Cc Cc=some true)(N:X.12=X.10::X.11)(bk:X.10.8=some X.10.2)(ho:∀E,PE (X.wish E) o ta)(ha:∀E,PA (X.wish E) (e::es) t)(hs:∀b,X4 (X.inX b) (l::x) th)(a4:(c==(Xd:Str))=false:=by decide)(b5:aaS (.Call (.Attribute o m apos2) (e::es) [] cpos) none apos.line X.10=pure false:=by rfl)(he:aad (e::es) X.10=(false,eval e X.10)::aad es X.env:=by rfl)(b2:(aar cpos (aad es X.10)).any (·.1)=false:=by rfl)(b6:eval (.Call (.Attribute o m apos2) (e::es) [] cpos) X.10=(do
   let Q<-eval o X.10
   abO apos2.atName
   let(f,first)<-abi [Q] (aa5 Q m pl)
   abr cpos f first (aar cpos (aad (e::es) X.10)) (aa2 cpos (aaC [] X.10))):=by rfl):
  PS X (.Try [.Expr (.Call (.Attribute o m apos2) (e::es) [] cpos) apos] [.ExceptHandler (some (.Name c cp)) none (l::x) hpos] [] [] pos) (PV C m Cc sp ta t th):=by
 intro U s σ H D I h;show adF (TZ (JV (pl:=pl) M hr bu ho ha b5 he b2 b6 I h (E':=λn cm=>aag (model X.1 X.w) X.A (abo n X.10) (λ_ cn=>aag (model X.1 X.w) X.A (setFlight n none) (λ_ ct=>
  aag (model X.1 X.w) X.A (handleBy n X.10 [.ExceptHandler (some (.Name c cp)) none (l::x) hpos]) (SP X U D) X.xe ct) X.xe cn) X.xe cm) ?_) (λp s1 q=> ?_) λ_ _ z=>z)
 .intro H1 s1 b cls H' s' y j q;let(rfl,q):=q;let(B,a0,p,J,O,L):=j.ex;let ax:abU B (X.10::X.11) b cls a0 s'.heap:=N▸p;let a7:X.A.frames=some (X.10::X.11):=by rw[I.ok.frames,N]
  show wpAny_looks_onW a7 bk ax λh4 bt ab=> ?_;show wpAny_landsW bt λh5 r af=> ?_;let G:=(y.caught j r.1 J O L (ab.trans af)).inX b;show wpAny_handleBy_cons (codeAny_handlers_test (jT (X:=X.inX b) G bo bx ?_ a4)) (by intro q;cases q);let(ob,b0,b1):=r.there;let LT:PySem.W.Looks (model X.1 X.w) h5 (typeOf (.ref b)) cls:=b1▸ (PySem.W.Looks.ld b0).andThen .now;show(PySem.W.exm_one (K:=X.K) (M:=model X.1 X.w) G.kIn LT b7).here ?_;show codeAny_handlers_suite ?_;show lands_againW r λh6 ay cj=> ?_;let I6:=y.caught j ay.1 J O L ((ab.trans af).trans cj);show TZ (hs b U _ _ _ _ (I6.inX b) q) (λf s9 a=> ?_) λ_ _ z=>z.elim;cases f with
  |next=>
   let(i,d,g,a):=a;show#[i,d,g.outX I.ok,a]
  |brk=>
   let(i,d,g,a):=a;show#[i,d,g.outX I.ok,a]
  |cont=>
   let(i,d,g,a):=a;show#[i,d,g.outX I.ok,a]
  |ret u=>
   let(v,i,d,g,rv,a):=a;show#[v,i,d,g.outX I.ok,rv,a]
 .cases p with
  |next=>show UI q
  |ret v=>show q
  |brk=>show q
  |cont=>show q
end
end L2
namespace Bh
noncomputable def Y0(p:Yi)(c:Nat)(x:Yi):Yi:=λj=>x j*p c-p j*x c
inductive Rk(m:Int):List Yi->List Nat->Nat->Prop
 |nil (R:List Yi):Rk m R [] 0
 |zero {R:List Yi} {c:Nat} {cs:qs} {r:Nat} (h:∀x∈R,m∣x c) (k:Rk m R cs r):Rk m R (c::cs) r
 |pivot {R A B:List Yi} {p:Yi} {c:Nat} {cs:qs} {r:Nat} (e:R=A++p::B) (n:¬m∣p c) (k:Rk m ((A++B).map (Y0 p c)) cs r):Rk m R (c::cs) (r+1)
theorem J3{m a b x y:Int}(c:m∣a-x)(d:m∣b-y):m∣a*b-x*y:=by
 have:a*b-x*y=(a-x)*b+x*(b-y):=by rw[Int.sub_mul,Int.mul_sub];lia
 rw[this];show Int.dvd_add (Int.dvd_mul_of_dvd_left c) (Int.dvd_mul_of_dvd_right d)
theorem Dt{b:qs}(h:Rk m R' b r):∀L:List (Yi×Yi),R'=L.map (·.2)->(∀e∈L,∀j∈b,m∣e.2 j-e.1 (f j))->Rk m (L.map (·.1)) (b.map f) r:=by
 induction h with
 |nil=>show λ_ _ _=> .nil _
 | @zero R c b r h k s=>
  rintro L rfl a;show .zero (λx hx=> ?_) (s L rfl λe g j q=>a e g j (RI _ q));let(e,g,rfl):=RM.mp hx;let o:=h e.2 (RM.mpr #[e,g,2]);let G:=Int.dvd_sub o (a e g c RH)
  rwa [show e.2 c- (e.2 c-e.1 (f c))=e.1 (f c) by lia]at G
 | @pivot R A B p c b r e n k s=>
  intro L z a;let(i,H,rfl,rfl,y):=ab1.mp (z.symm.trans e);let(ep,l,rfl,rfl,rfl):=acr.mp y;let c0:c∈c::b:=RH;let v:ep∈i++ep::l:=Sf _ RH;let w:=a ep v c c0;show .pivot (A:=i.map (·.1)) (B:=l.map (·.1)) (p:=ep.1) (by rw[R6,Sg]) (λd=>n ?_) ?_
  .have:=Int.dvd_add w d
   rwa [show ep.2 c-ep.1 (f c)+ep.1 (f c)=ep.2 c by lia]at this
  .have:=s ((i++l).map λe=>(Y0 ep.1 (f c) e.1,Y0 ep.2 c e.2)) (by rw[<-R6,RP,RP];rfl) λJ o j q=>by
    let(e,g,rfl):=RM.mp o;let t:e∈i++ep::l:=by
     rcases R9.mp g with h|h
     .show SF _ h
     .show Sf _ (RI _ h)
    let u:=RI c q;have:=Int.dvd_sub (J3 (a e t j u) w) (J3 (a ep v j u) (a e t c c0));change m∣(e.2 j*ep.2 c-ep.2 j*e.2 c) - (e.1 (f j)*ep.1 (f c) -ep.1 (f j)*e.1 (f c))
    rwa [show e.2 j*ep.2 c-e.1 (f j)*ep.1 (f c) - (ep.2 j*e.2 c-ep.1 (f j)*e.1 (f c))=(e.2 j*ep.2 c-ep.2 j*e.2 c) - (e.1 (f j)*ep.1 (f c) -ep.1 (f j)*e.1 (f c)) by lia]at this
   rw[RP]at this;rw[<-R6,RP];show this
theorem rP(h:Rk m R a r):(∀j∈a,∀x∈R,m∣x j)->r=0:=by
 induction h with
 |nil=>show λ_=>rfl
 |zero _ _ c=>show λd=>c λj b=>d j (RI _ b)
 |pivot e n=>show λd=>absurd (d _ RH _ (e▸Sf _ RH)) n
theorem LS{A B:List Yi}(e:[x]=A++p::B):A++B=[]:=by have:=Se aa7 e;simp only[R4,R3,T9]at this;show Sx.mp (by rw[R4];lia)
theorem EF(h:Rk m R b r):R=[x]->(∃j∈b,¬m∣x j)->r=1:=by
 induction h with
 |nil=>rintro _ ⟨_,a,_⟩;cases a
 |zero d _ c=>
  rintro rfl ⟨j,a,n⟩;show c rfl #[j,6,n];rcases RT.mp a with rfl|a
  .show absurd (d x RH) n
  .show a
 |pivot e n k=>
  rintro rfl _;rw[LS e]at k;rw[rP k λ_ _ _ hx=>nomatch hx]
theorem NX:∀ {F:qR},F.Nodup->∀x∈F,(∀y∈F,y=x)->F.length=1
 | [_],_,_,_,_=>rfl
 |u::v::F,c,x,_,h=>by have a:=h u RH;let b:=h v (RI _ RH);show absurd (a.trans b.symm) ((TM.mp c).1|>λk e=>k (e▸RH))
theorem zf:∀ {F:qR} {x y:Int},x∈F->y∈F->x≠y->2<=F.length
 | [u],x,y,hx,a,h=>absurd ((RY.mp hx).trans (RY.mp a).symm) h
 |_::_::F,_,_,_,_,_=>by simp only[R3];lia
theorem Gq(one:¬m∣1){κ:Nat->Int}{F:qR}(nd:F.Nodup)(h:Rk m R o r):R=[a,b]->(∀j∈o,(a j=0/\b j=0)\/a j=1)->(∀z,z∈F↔∃j∈o,a j=1/\κ j=z)->
  (∀i∈o,∀j∈o,a i=1->a j=1->(κ j=κ i↔m∣b j-b i))->r=min 2 F.length:=by
 induction h with
 |nil=>
  intro _ _ u _;let e:F=[]:=VT.mpr λz hz=>by let(j,f,_):=(u z).mp hz;cases f
  rw[e];rfl
 | @zero R c o r d k N=>
  rintro rfl ok u w;let nl:¬a c=1:=λe=>one (e▸d a RH);show N rfl (λj f=>ok j (RI _ f)) (λz=>(u z).trans #[λ⟨j,f,l,e⟩=> ?_,λ⟨j,f,q⟩=>#[j,RI _ f,q]]) λi U j f=>w i (RI _ U) j (RI _ f);rcases RT.mp f with rfl|f
  .show absurd l nl
  .show#[j,f,l,e]
 | @pivot R A B p c o r e n k N=>
  rintro rfl ok u w;let c0:c∈c::o:=RH;let G:∀ {j},j∈o->j∈c::o:=RI c;obtain⟨x,hx,s,g⟩:∃x,A++B=[x]/\a c=1/\∀j,(a j=0/\b j=0->Y0 p c x j=0)/\(a j=1->(m∣Y0 p c x j↔m∣b j-b c)):=by
   match A,e with
   | [],e=>
    injection e with K v
    subst K v;let s:a c=1:=(ok c c0).resolve_left λz=>n (by rw[z.1];show Vo m);show#[b,2,s,λj=>#[λz=> ?_,λl=> ?_]]
    .show b j*a c-a j*b c=0;rw[z.1,z.2];simp
    .show m∣b j*a c-a j*b c↔_;rw[s,l,V6,Vb]
   | [y],e=>
    injection e with K v
    injection v with v Q
    subst K v Q;let s:a c=1:=(ok c c0).resolve_left λz=>n (by rw[z.2];show Vo m);show#[a,2,s,λj=>#[λz=> ?_,λl=> ?_]]
    .show a j*b c-b j*a c=0;rw[z.1,z.2];simp
    .show m∣a j*b c-b j*a c↔_;rw[s,l,V6,Vb,show b c-b j= -(b j-b c) by lia,Int.dvd_neg]
   |_::_::t,e=>show absurd (Se aa7 e) (by simp only[R3,R4,T9];lia)
  rw[hx]at k;let O:κ c∈F:=(u _).mpr #[c,c0,s,2];by_cases J:∃d∈o,a d=1/\κ d≠κ c
  .let(d,L,H,ne):=J;let h2:=zf ((u _).mpr #[d,G L,H,2]) O ne;rw[EF k rfl #[d,L,λq=>ne ((w c c0 d (G L) s H).mpr (((g d).2 H).mp q))]];lia
  .rw[NX nd _ O λy M=>by
    let(j,f,l,rfl):=(u y).mp M;rcases RT.mp f with rfl|f
    .rfl
    .show So λq=>J #[j,f,l,q],rP k λj f y M=>by
    rw[RY.mp M];rcases ok j (G f)with z|l
    .rw[(g j).1 z];show Vo m
    .show((g j).2 l).mpr ((w c c0 j (G f) s l).mp (So λq=>J #[j,f,l,q]))]
   rfl
theorem Mw(U:n<=8){lv:Nat->Prop}{κ:Nat->Int}(d:∀s,s<2^n->(r s=0↔∀k,s.testBit k=true->¬lv k))(l:∀s,s<2^n->(r s=2↔∃j k,s.testBit j=true/\s.testBit k=true/\lv j/\lv k/\κ j≠κ k))(le:∀s,s<2^n->r s<=2):z8 n r:=by
 let A:∀s k,s<2^n->k<n->r s<=r (s|||2^k):=λs k a b=>by
  let t:=aJ a b;let M:=le s a;let l2:=le _ t;let mono:∀ {i},s.testBit i=true->(s|||2^k).testBit i=true:=λh=>by rw[aR,h];rfl
  by_cases o:r s=2
  .let(i,j,g,f,q):=(l s a).mp o;have:=(l _ t).mpr #[i,j,mono g,mono f,q];lia
  .by_cases c:r s=0
   .lia
   .have:¬r (s|||2^k)=0:=λz=>c ((d s a).mpr λi g=>(d _ t).mp z i (mono g));lia
 let v:∀ {s k i:Nat},(s|||2^k).testBit i=true->s.testBit i=true\/k=i:=λ{s k i} h=>by rwa[aR,TN,Ss]at h
 show#[U,(d 0 (Su ())).mpr (λk h=>by rw[SN]at h;cases h),λs k a b=>#[A s k a b,6],λs j k a f b B o=> ?_]
 .let l2:=le _ (aJ a b);by_cases c:r s=0
  .let dead:=(d s a).mp c;have:¬r (s|||2^k)=2:=λz=>by
    let(i,j,g,f,N,O,ne):=(l _ (aJ a b)).mp z;rcases v g with g|rfl
    .show dead i g N
    .rcases v f with f|rfl
     .show dead j f O
     .show ne rfl
   lia
  .lia
 .let p:=aJ a f;let u:=aJ p b;let H:=aJ a b;let u1:=A s j a f;let u2:=A _ k p b;let M:=le s a;let l2:=le _ u;let two:∀ {x},(s|||2^j|||2^k).testBit x=true->(s|||2^j).testBit x=true\/(s|||2^k).testBit x=true:=λh=>(v h).imp id λe=>by rw[aR,RE e,WI]
  by_cases c:r s=0
  .rw[c];show(d _ u).mpr λx hx=> ?_;rcases two hx with h|h
   .show(d _ p).mp (B.trans c) x h
   .show(d _ H).mp (o.trans c) x h
  .by_cases G:r s=2
   .lia
   .obtain⟨y,J,K⟩:∃y,s.testBit y=true/\lv y:=So λq=>c ((d s a).mpr λx hx m=>q #[x,hx,m]);let same:∀ {x},(s|||2^j|||2^k).testBit x=true->lv x->κ x=κ y:=λ{x} hx m=>So λne=>by
     rcases two hx with h|h
     .show G (B▸ (l _ p).mpr #[x,y,h,by rw[aR,J];rfl,m,K,ne])
     .show G (o▸ (l _ H).mpr #[x,y,h,by rw[aR,J];rfl,m,K,ne])
    have:¬r (s|||2^j|||2^k)=2:=λz=>by let(x,w,hx,L,m,Q,ne):=(l _ u).mp z;show ne ((same hx m).trans (same L Q).symm)
    lia
noncomputable def o7(v:Nat->Nat)(c i:Nat)(j:Nat):Nat:=if(v j).testBit i=true then v j^^^v c else v j
theorem uS(j k:Nat):(o7 v c i j).testBit k=((v j).testBit k^^ ((v j).testBit i&&(v c).testBit k)):=by unfold o7;grind
theorem El(m:¬(2:Int)∣p c)(a:(2:Int)∣p j↔g=false)(d:(2:Int)∣r j↔k=false)(f:(2:Int)∣r c↔i=false):(2:Int)∣Y0 p c r j↔(k^^ (g&&i))=false:=by
 unfold Y0;let e:(r j*p c-p j*r c) % 2=((r j % 2)*(p c % 2) % 2- (p j % 2)*(r c % 2) % 2) % 2:=by rw[aev,aew,aew (p j)]
 let l:∀z:Int,(2:Int)∣z↔z % 2=0:=λz=>#[WU,WV];rw[l]at a d f m⊢;rw[e,show p c % 2=1 by lia];let key:∀(z:Int)(b:Bool),(z % 2=0↔b=false)->z % 2=if b=true then 1 else 0:=λz b h=>by
  cases b with
  |true=>
       have:¬z % 2=0:=λe=>by cases h.mp e
       rw[RF rfl];lia
  |false=>rw[RQ RO];show h.mpr rfl
 rw[key _ _ a,key _ _ d,key _ _ f];cases g<;>cases k<;>cases i<;>decide
theorem Oz{a:qs}(h:Rk 2 R a r):∀(L:List (Yi×Nat)) (v:Nat->Nat),R=L.map (·.1)->(∀e∈L,∀j∈a,((2:Int)∣e.1 j↔(v j).testBit e.2=false))->(∀j∈a,∀i,(v j).testBit i=true->∃e∈L,e.2=i)->r=X1 (a.map v):=by
 induction h with
 |nil=>show λ_ _ _ _ _=>rfl
 | @zero R c a r d k q=>
  rintro L v rfl g m;let M:v c=0:=Sa λi=>by
   rw[SN];cases l:(v c).testBit i with
   |false=>rfl
   |true=>
    let(e,f,rfl):=m c RH i l;rw[(g e f c RH).mp (d e.1 (RM.mpr #[e,f,2]))]at l;show l.symm
  rw[q L v rfl (λe f j b=>g e f j (RI _ b)) λj b=>m j (RI _ b),Sg,M];show TL (pZ λx hx=> .of_mem (RI _ hx)) (pZ λx hx=>by
   rcases RT.mp hx with rfl|hx
   .show .zero
   .show .of_mem hx)
 | @pivot R N B0 p c a r e n k q=>
   intro L v J g m;let(A,O,rfl,rfl,H):=ab1.mp (J.symm.trans e);let(ep,B,rfl,rfl,rfl):=acr.mp H;let c0:c∈c::a:=RH;let y:ep∈A++ep::B:=Sf _ RH;let t:(v c).testBit ep.2=true:=by
    cases h:(v c).testBit ep.2 with
    |false=>show absurd ((g ep y c c0).mpr h) n
    |true=>rfl
   let sub:∀e∈A++B,e∈A++ep::B:=λe f=>by
    rcases R9.mp f with h|h
    .show SF _ h
    .show Sf _ (RI _ h)
   let z:∀j,(o7 v c ep.2 j).testBit ep.2=false:=λj=>by rw[uS,t];cases (v j).testBit ep.2<;>rfl
   rw[q ((A++B).map λe=>(Y0 ep.1 c e.1,e.2)) (o7 v c ep.2) (by rw[<-R6,RP,RP];rfl) (λe f j b=>by
    let(s,u,rfl):=RM.mp f;let w:=RI c b;rw[uS];show El n (g ep y j w) (g s (sub s u) j w) (g s (sub s u) c c0)) λj b i o=>by
     have:∃e∈A++ep::B,e.2=i:=by
      rw[uS]at o;cases h:(v j).testBit i with
      |true=>show m j (RI _ b) i h
      |false=>
       rw[h,Bool.false_xor,RZ]at o;show m c c0 i o.2
     let(e,f,rfl):=this;rcases R9.mp f with h|h
     .show#[_,RM.mpr #[e,SF _ h,2],2]
     .rcases RT.mp h with rfl|h
      .rw[z j]at o;cases o
      .show#[_,RM.mpr #[e,Sf _ h,2],2]]
   let out:¬bC (a.map (o7 v c ep.2)) (v c):=λh=>by
    let key:∀x,bC (a.map (o7 v c ep.2)) x->x.testBit ep.2=false:=λx hx=>by
     induction hx with
     |zero=>show SN _
     |add _ K q=>
      let(j,_,rfl):=RM.mp K;rw[Tr,q,z j];rfl
    rw[key _ h]at t;cases t
   rw[<-jG out];let old:∀j∈a,v j∈(c::a).map v:=λj b=>RM.mpr #[j,RI _ b,2];let G:v c∈(c::a).map v:=RM.mpr #[c,c0,2];show TL (pZ λx hx=> ?_) (pZ λx hx=> ?_)
   .rcases R9.mp hx with h|h
    .let(j,b,rfl):=RM.mp h;unfold o7;split
     .show bC.xor (.of_mem (old j b)) (.of_mem G)
     .show .of_mem (old j b)
    .rw[RY.mp h];show .of_mem G
   .let last:bC (a.map (o7 v c ep.2)++[v c]) (v c):= .of_mem (Sf _ (RY.mpr rfl));rcases RT.mp (show x∈v c::a.map v from hx)with rfl|h
    .show last
    .let(j,b,rfl):=RM.mp h;let new:bC (a.map (o7 v c ep.2)++[v c]) (o7 v c ep.2 j):= .of_mem (SF _ (RM.mpr #[j,b,2]));cases l:(v j).testBit ep.2 with
     |true=>
      let e:v j=o7 v c ep.2 j^^^v c:=by unfold o7;rw[RF l,Sz,To,Uk]
      rw[e];show bC.xor new last
     |false=>
      let e:v j=o7 v c ep.2 j:=by unfold o7;rw[RQ (by rw[l];show RO)]
      rw[e];show new
noncomputable def fX(a:qs)(j:Nat):List Int:=(range a.length).map λk=>((if(a.getD k 0).testBit j=true then 1 else 0)+2*((j:Int) - (k:Int)))
theorem Lh{a:qs}(p:∀l j,g l j=l.getD j 0)(q:s<2^a.length)(n:∀v∈a,v<2^h)(k:Rk 2 (((range h).map (fX a)).map g) (xp s) r):r=Yh a s:=by
 let below:∀j∈xp s,j<a.length:=λj b=>by show T2 λc=> ?_;have:=(Fj.mp b).2;rw[Sv (RK q (R7 () c))]at this;cases this
 let m:Yh a s=X1 ((xp s).map λk=>a.getD k 0):=by unfold Yh cq xp yn;rw[RP];congr 1
 rw[m];show Oz k ((range h).map λi=>(g (fX a i),i)) _ (by rw[RP,RP];rfl) (λe o j b=> ?_) λj b i d=> ?_
 .let(i,_,rfl):=RM.mp o;show(2:Int)∣g (fX a i) j↔(a.getD j 0).testBit i=false;rw[p];unfold fX;rw[Sj,RU,SJ (below j b)];show(2:Int)∣((if(a.getD j 0).testBit i=true then 1 else 0)+2*((i:Int) - (j:Int)))↔_;cases (a.getD j 0).testBit i with
  |true=>rw[RF rfl];show#[λh=>(),λh=>by cases h]
  |false=>rw[RQ RO];show#[λ_=>rfl,λ_=>()]
 .show#[_,RM.mpr #[i,R1.mpr (T2 λc=> ?_),2],2];let f:=below j b;have:a.getD j 0<2^h:=by rw[Sj,RR f];show n _ (SX f)
  rw[Sv (RK this (R7 () c))]at d;cases d
end Bh
namespace BhK
noncomputable def vu(i:Nat):PySem.Stmt:=abH.main.body.getD i (.Pass #[0,0,0,0])
abbrev xS:=vu 1
abbrev sY:=vu 2
abbrev Bz:=vu 3
abbrev tm:=vu 4
abbrev sU:=vu 5
abbrev xR:=vu 6
abbrev wg:=vu 7
abbrev tf:=vu 8
abbrev tJ:=vu 9
abbrev BE:=vu 10
abbrev tE:=vu 12
abbrev kO:=vu 13
abbrev gE:=vu 14
abbrev gH:=vu 15
abbrev jx:=vu 16
abbrev gC:=vu 17
abbrev cH:=vu 18
abbrev gF:=vu 19
abbrev dq:=vu 20
abbrev jw:=vu 21
abbrev d9:=vu 22
abbrev gG:=vu 23
abbrev jf:=vu 36
abbrev xQ:=vu 37
abbrev xT:=vu 38
abbrev xV:=vu 39
abbrev pQ:=vu 40
abbrev xO:=vu 41
abbrev pT:=vu 42
abbrev xU:=vu 43
abbrev tI:=vu 44
abbrev tq:=vu 45
abbrev eU:=vu 46
abbrev nz:=vu 47
abbrev nt:=vu 48
abbrev pR:=vu 49
abbrev nu:=vu 50
abbrev zS:=vu 52
abbrev wc:=vu 63
abbrev we:=vu 64
abbrev tG:=vu 65
abbrev wb:=vu 66
abbrev xP:=vu 68
abbrev iA:=vu 69
abbrev pW:=vu 70
abbrev iD:=vu 71
abbrev pL:=vu 72
abbrev kP:=vu 75
abbrev HI:=vu 76
abbrev oG:=vu 77
abbrev zQ:=vu 78
abbrev qL:=vu 79
abbrev mI:=vu 80
abbrev qK:=vu 81
abbrev tw:=vu 82
abbrev oF:=vu 83
abbrev tD:=vu 84
abbrev xM:=vu 88
abbrev BA:=vu 89
abbrev kF:=vu 90
abbrev BB:=vu 98
abbrev pO:=vu 99
abbrev pM:=vu 100
abbrev kL:=vu 101
abbrev gD:=vu 102
abbrev kD:=vu 103
abbrev jm:=vu 104
abbrev sX:=vu 105
abbrev pK:=vu 106
abbrev kK:=vu 107
abbrev kJ:=vu 108
abbrev nr:=vu 109
abbrev jo:=vu 110
abbrev jq:=vu 111
abbrev d7:=vu 112
abbrev cX:=vu 113
abbrev dC:=vu 114
abbrev kI:=vu 115
abbrev oB:=vu 116
abbrev iB:=vu 119
abbrev iC:=vu 120
abbrev pP:=vu 121
abbrev By:=vu 123
abbrev Dr:=vu 126
abbrev Dq:=vu 127
abbrev HH:=vu 128
abbrev sZ:=vu 129
abbrev oE:=vu 130
abbrev Dp:=vu 131
abbrev zR:=vu 132
abbrev tH:=vu 136
abbrev HJ:=vu 138
abbrev pU:=vu 139
abbrev kN:=vu 140
abbrev fO:=vu 141
abbrev fL:=vu 142
abbrev fN:=vu 143
abbrev nC:=vu 144
abbrev jr:=vu 145
abbrev jt:=vu 146
abbrev nB:=vu 147
abbrev jv:=vu 148
abbrev kM:=vu 149
abbrev kG:=vu 150
abbrev kA:=vu 151
abbrev jk:=vu 152
abbrev jg:=vu 153
abbrev ji:=vu 154
abbrev jh:=vu 155
abbrev kC:=vu 156
abbrev iz:=vu 157
abbrev kB:=vu 158
abbrev sV:=vu 159
abbrev oA:=vu 160
abbrev sW:=vu 161
abbrev mH:=vu 162
abbrev j4:=vu 163
abbrev mG:=vu 164
abbrev oz:=vu 165
abbrev BC:=vu 168
abbrev nD:=vu 169
abbrev pX:=vu 173
abbrev iF:=vu 174
abbrev jB:=vu 175
abbrev jz:=vu 176
abbrev kZ:=vu 177
abbrev kX:=vu 178
abbrev gK:=vu 179
abbrev gJ:=vu 180
abbrev kT:=vu 181
abbrev jy:=vu 182
abbrev gI:=vu 183
abbrev fP:=vu 184
abbrev nF:=vu 185
abbrev jA:=vu 186
abbrev jC:=vu 187
abbrev kW:=vu 188
abbrev iE:=vu 189
abbrev fQ:=vu 190
abbrev gL:=vu 191
abbrev iG:=vu 192
abbrev kU:=vu 193
abbrev kY:=vu 194
abbrev tF:=vu 195
noncomputable abbrev gM:=L2.a6 (vu 27) 0
noncomputable abbrev eX:=L2.a6 (vu 32) 0
noncomputable abbrev oI:=L2.a6 (vu 32) 1
noncomputable abbrev dQ:=L2.a6 (vu 32) 2
noncomputable abbrev fV:=L2.a6 (vu 33) 0
noncomputable abbrev k7:=L2.a6 (vu 33) 1
noncomputable abbrev eu:=L2.a6 (vu 34) 0
noncomputable abbrev iI:=L2.a6 (vu 34) 1
noncomputable abbrev eV:=L2.a6 (vu 54) 0
noncomputable abbrev jD:=L2.a6 (vu 54) 1
noncomputable abbrev eW:=L2.a6 (vu 55) 0
noncomputable abbrev jF:=L2.a6 (vu 55) 1
noncomputable abbrev fR:=L2.a6 (vu 56) 0
noncomputable abbrev k6:=L2.a6 (vu 56) 1
noncomputable abbrev iR:=L2.a6 (vu 74) 0
noncomputable abbrev oH:=L2.a6 (vu 74) 1
noncomputable abbrev fS:=L2.a6 (vu 97) 0
noncomputable abbrev gN:=L2.a6 (vu 124) 0
noncomputable abbrev jE:=L2.a6 (vu 124) 1
noncomputable abbrev nG:=L2.a6 (vu 124) 2
noncomputable abbrev eh:=L2.a6 (vu 134) 0
noncomputable abbrev iH:=L2.a6 (vu 134) 1
noncomputable abbrev fW:=L2.a6 (vu 171) 0
noncomputable abbrev du:=L2.a6 (vu 171) 1
noncomputable abbrev nH:=L2.a6 (vu 171) 2
open PySem L2 Bh
structure Tb(K:Frag)(mg:jn):Prop where
 len_:mg "len"=none
 range_:mg Xh=none
 isinstance_:mg XI=none
 int_:mg "int"=none
 bool_:mg "bool"=none
 list_:mg Xc=none
 max_:mg "max"=none
 min_:mg "min"=none
 tuple_:mg Xl=none
 sorted_:mg XF=none
 any_:mg "any"=none
 all_:mg "all"=none
 dict_:mg Xk=none
 enumerate_:mg Xj=none
 str_:mg "str"=none
 set_:mg XA=none
 ValueError_:mg "ValueError"=none
 zip_:mg "zip"=none
 sum_:mg "sum"=none
 reversed_:mg "reversed"=none
 kII:abb K (.type "int") (.type "int")=some true
 kIB:abb K (.type "int") (.type "bool")=some false
 kLL:abb K (.type Xc) (.type Xc)=some true
 kSS:abb K (.type "str") (.type "str")=some true
 kTT:abb K (.type Xl) (.type Xl)=some true
theorem aA{vs:St}(h:vs.length=1):∃v,vs=[v]:=List.length_eq_one_iff.mp h
theorem lZ(ns:qR):(ns.map int).all o4=true:=by
 induction ns with
 |nil=>rfl
 |cons n r a=>rw[Sg,Xb,a];rfl
theorem oY(z:Int)(ns:qR):YG (.int z) (ns.map int)=decide (z∈ns):=by
 unfold YG
 induction ns with
 |nil=>rfl
 |cons n r b=>
  rw[Sg,U5,b];by_cases h:n=z
  .subst h;simp[YZ]
  .let a:¬z=n:=λe=>h e.symm;simp[YZ,h,a]
theorem aD{ns:qR}{i:Nat}(h:(ns.map int)[i]?=some y):∃z,y= .int z/\ns[i]?=some z:=by grind
theorem gz{x y:Int}(hx:0<=x)(a:0<=y):aaj x y=((x.toNat&&&y.toNat:Nat):Int):=by grind [aaj]
theorem va{x y:Int}(hx:0<=x)(a:0<=y):aao x y=((x.toNat|||y.toNat:Nat):Int):=by grind [bitNot,aao,aaj]
theorem JL{s:Int}(h:0<=s):decide (int (s/2^k % 2)=int 1)=s.toNat.testBit k:=by grind
theorem Ec{s:Int}(c:0<=s)(f:s<256):bc (λi=>s.toNat.testBit i) (λi=> .int (0+(i:Nat))) ((intBits s:Nat):Int).toNat=(yn s.toNat).map int:=by
 let(n,rfl):=Sl c;let e:intBits (n:Int)=if n=0 then 0 else n.log2+1:=by
  unfold intBits;by_cases a:n=0
  .subst a;rfl
  .let d:((n:Int)==0)=false:=#[5,a]
   rw[d,RQ a];simp
 let b:=Ki n ();unfold bc yn;rw[e,RA,RP];change aeg (λi:Nat=>int (0+(i:Int))) (aeJ (λi=>n.testBit i) (range (if n=0 then 0 else n.log2+1)))=_;rw[show(λi=>n.testBit i)=n.testBit from rfl,b];show SI λk _=> ?_;change int (0+(k:Int))=int (k:Int);rw[Sy]
inductive K5(vs:List V)(H:Hp)(Q:VK)(E:XK):Prop
 |mk(s t:Int) (_:vs=[.int s, .int t]) (_:0<=s) (_:0<=t) (_:Q (.bl (s.toNat.testBit t.toNat)) H)
inductive GW(vs:List V)(H:Hp)(Q:VK)(E:XK):Prop
 |mk(s:Int) (_:vs=[.int s]) (_:0<=s) (_:s<256) (_:∀p H',vc H H'->H p=none->H' p=some (.lst ((yn s.toNat).map int))->Q (.ref p) H')
inductive Od(vs:List V)(H:Hp)(Q:VK)(E:XK):Prop
 |mk(s:Int) (_:vs=[.int s]) (_:0<=s) (_:s<256) (_:∀H',vc H H'->Q (.int ((yn s.toNat).length:Nat)) H')
inductive KY(K:Frag)(vs:List V)(H:Hp)(Q:VK)(E:XK):Prop
 |mk(a:Addr) (ns:qR) (_:vs=[.ref a]) (_:vr K H a (ns.map int)) (_:(∀z∈ns,0<=z/\z<8)) (_:Q (.int (Bx ns:Nat)) H)
inductive GR(vs:List V)(H:Hp)(Q:VK)(E:XK):Prop
 |mk(s t:Int) (_:vs=[.int s, .int t]) (_:0<=s) (_:0<=t) (_:Q (.bl (decide (s.toNat&&&t.toNat=s.toNat))) H)
inductive Df(K:Frag)(vs:List V)(H:Hp)(Q:VK)(E:XK):Prop
 |mk(a:Addr) (ns:qR) (_:vs=[.ref a]) (_:vr K H a (ns.map int)) (_:ns.length<=63) (_:∀H',Q (.bl true) H')
noncomputable def aN:V->Int
 | .int z=>z
 |_=>0
theorem aV(p:Int->Bool)(f:Int->Int)(a:qR):bD (λx=>p (aN x)) (λx=> .int (f (aN x))) (a.map int)=((a.filter p).map f).map int:=by unfold bD;rw[VU,RP,RP];rfl
theorem Kb(ns:qR)(a c:Option Int):∃b:List Int,kh (ns.map int) a c=b.map int/\b.length<=ns.length:=by
 show#[(ns.drop (HT.sIx ns.length 0 a)).take (HT.sIx ns.length ns.length c-HT.sIx ns.length 0 a),66]
 .unfold kh;rw[My,<-Wq,<-Wr]
 .rw[Sk,SW];show RB (adu _ _) (ad2 _ _)
theorem Dk{n j:Nat}:decide (int (aaj ((n:Int) /2^(0+(j:Int)).toNat) 1)=int 1)=n.testBit j:=by
 let b:(0+(j:Int)).toNat=j:=()
 let c:((n:Int) /2^j)=((n/2^j:Nat):Int):=#[5]
 rw[b,c,gz (S1 _) ∅,RA];let d:((1:Int).toNat)=1:=rfl;rw[d,We,kq];by_cases a:n/2^j % 2=1
 .rw[a];rfl
 .have:¬int ((n/2^j % 2:Nat):Int)=int 1:=λz=>a (by have:=V.int.inj z;lia);rw[RL this,RL a]
theorem BS(p:Nat->Bool)(N:Nat):bc p (λi=>int (0+(i:Nat))) N=(((range N).filter p).map λs:Nat=>(s:Int)).map int:=by unfold bc;simp
theorem bQ(n:Nat):(1*2^((n:Nat):Int).toNat:Int)=((2^n:Nat):Int):=by rw[RA,Vb];simp
theorem Ce{l:qR}{j:Nat}(h:l[j]?=some z):F1 (l.map int) (j:Int)=some (.int z):=bB (by rw[RU,h];rfl)
theorem dI{l:qR}(h:j<l.length):F1 (l.map int) (j:Int)=some (.int (l.getD j 0)):=Ce (by simp[h])
noncomputable abbrev dY:Str:=#[#v[97,98,99,100,101,102,103,104]]
noncomputable abbrev C0:Str:=#[#v[45]]
def tx(l:qs):Str:=#[l.toArray]
def ix(m:Nat)(z:Str):Prop:=z.length<=m/\∀c∈z.cps.toList,c<128
theorem ix.mono(h:ix m z)(a:m<=k):ix k z:=#[RB h.1 a,h.2]
theorem ix.cut(h:ix m z)(b a:Option Int):ix m (aaH z b a):=#[RB (aet z b a) h.1,λc d=>h.2 c (EB z b a c d)]
theorem ix.one(h:c<128):ix 1 #[#v[c]]:=#[RJ 1,λd a=>by
 let e:d=c:=#[5,a]
 rw[e];show h]
theorem wY{k:Nat}(h:k<8):F1 dY.cps.toList (k:Int)=some (97+k):=by
 show bB ?_
 match k,h with
 |0,_=>rfl
 |1,_=>rfl
 |2,_=>rfl
 |3,_=>rfl
 |4,_=>rfl
 |5,_=>rfl
 |6,_=>rfl
 |7,_=>rfl
noncomputable def Qz:V->V
 | .int z=> .str #[#v[97+z.toNat]]
 |x=>x
noncomputable def Yc(n:Nat):List Str:=(Jz n).map λk=>#[#v[97+k]]
theorem EV(n:Nat):bD (λ_=>true) Qz ((yn n).map int)=(Yc n).map str:=by unfold bD Yc;rw[Sd.mpr (λ_ _=>rfl),DY,RP,RP,RP];show SI λk _=> ?_;change str #[#v[97+(k:Int).toNat]]=str #[#v[97+k]];rw[RA]
theorem w9:∀n:Nat,n<256->n≠0->aaK #[#v[]] (Yc n)=tx (mF n):=#[9]
theorem AD:∀n:Nat,n<256->((Yc n).map (·.length)).sum+(Yc n).length*(#[#v[]]:Str).length<=16777216:=#[9]
theorem GO{z:Str}:str z=str (tx l)↔z.cps.toList=l:=by
 constructor
 .intro e;let a:z=tx l:=V.str.inj e;rw[a];simp[tx]
 .intro e;rw[<-e];simp[tx]
theorem qQ(p:Nat->Bool):∀(m i:Nat),dE (λ_ c=>p c) (λj _=>int (j:Nat)) i ((aaD i m).map (97+ ·))=((aaD i m).filter λk=>p (97+k)).map λk=>int (k:Nat)
 |0,i=>rfl
 |m+1,i=>by rw[WN,Sg,dE,qQ p m (i+1),Tg];cases p (97+i)<;>rfl
theorem ET(L:qs):dE (λ_ c=>decide (c∈L)) (λi _=> .int (i:Nat)) 0 dY.cps.toList=(yn (Yz L)).map int:=by
 let e:=qQ (λc=>decide (c∈L)) 8 0;let a:dY.cps.toList=(aaD 0 8).map (97+ ·):=rfl;rw[a,e,DY,RP];unfold Jz;rw[U3];show Se _ (Ut λk b=> ?_);let d:k<8:=by have:=List.mem_range'_1.mp b;lia
 unfold Yz;rw[IL _ d]
inductive KW(vs:List V)(H:Hp)(Q:VK)(E:XK):Prop
 |mk(s:Int) (_:vs=[.int s]) (_:0<=s) (_:s<256) (_:∀H',vc H H'->Q (.str (tx (mF s.toNat))) H')
noncomputable abbrev dN:Str:=#[#v[97,98,99,100,101,102,103,104,105,106,107,108,109,110,111,112,113,114,115,116,117,118,119,120,121,122]]
noncomputable abbrev lO:Str:=#[#v[48,49,50,51,52,53,54,55,56,57]]
abbrev kj:Int:=8
abbrev mB:Int:=9
def Wk(z:Str):Prop:=ix 61 z
theorem Wk.line{z:Str}(h:Wk z):z.length<=sizeLine:=RB h.1 ∅
inductive Oh(vs:List V)(H:Hp)(Q:VK)(E:XK):Prop
 |mk(b:Bool) (x:V) (_:vs=[.bl b,x]) (_:b=true) (_:Q .non H)
inductive Hk(vs:List V)(H:Hp)(Q:VK)(E:XK):Prop
 |mk(x z:Str) (_:vs=[.str x, .str z]) (_:z.length<=100) (_:∀H',vc H H'->Q (.bl (!(cp z).isEmpty&&(cp z).all λc=>decide (c∈cp x))) H')
inductive Bm(p:List Nat->Bool)(f:Str->V)(vs:List V)(H:Hp)(Q:VK)(E:XK):Prop
 |mk(z:Str) (_:vs=[.str z]) (_:Wk z) (_:p (cp z)=true) (_:∀H',vc H H'->Q (f z) H')
inductive N9(vs:List V)(H:Hp)(Q:VK)(E:XK):Prop
 |mk(m:Int) (z:Str) (_:vs=[.int m, .str z]) (_:Wk z) (_:pA (cp z)=true) (_:((aap (cp z):Nat):Int)<=m) (_:∀H',vc H H'->Q (.int (aap (cp z):Nat)) H')
theorem NQ{a b:V}:(!decide (a=b))=true↔¬a=b:=#[5]
theorem C7:str z=str ""↔cp z=[]:=by
 constructor
 .intro e;rw[V.str.inj e];rfl
 .intro e;have:z= "":=by
   cases z with
   |mk a=>
    have:a= #v[]:=by
     cases a with
     |mk l=>show Se Array.mk e
    rw[this];rfl
  rw[this]
theorem vf(z:Str)(c:Nat):X2 z #[#v[c]]=decide ((cp z).head?=some c):=by
 unfold X2;cases z with
 |mk a=>
  cases a with
  |mk l=>
   cases l with
   |nil=>rfl
   |cons d r=>
    unfold Builtin.Str.subAt;simp[Str.length];rw[SV];simp;change d=c↔some d=some c;simp
theorem f7(z:Str):(cp z).length=z.length:=Sq
theorem IX(L:qs):qX L=((!L.isEmpty&&L.all λc=>decide (c∈cp dN))&&decide (L.length<=8)):=rfl
theorem MW(L:qs):pA L=((!L.isEmpty&&L.all λc=>decide (c∈cp lO))&&(decide (L=[48])|| !decide (L.head?=some 48))):=rfl
theorem GN:decide (str z=str "0")=decide (cp z=[48]):=by rw[S4];show GO (l:=[48])
theorem Kl(z:Str):X2 z "0"=decide ((cp z).head?=some 48):=vf z 48
theorem Kk(z:Str):X2 z "-"=decide ((cp z).head?=some 45):=vf z 45
theorem J8(h:cp z≠[]):cp (aaH z (some 1) none)=(cp z).tail:=by
 let hl:1<=z.length:=by rw[<-f7];show List.length_pos_iff.mpr h
 rw[aeh (b:=(z.length:Nat)) ∅ () rfl];show(List.take _ (List.drop 1 (cp z)))=_;rw[TY,List.drop_one];rw[SW,f7];lia
theorem PK(h:Wk z)(b a:Option Int):Wk (aaH z b a):=ix.cut h b a
inductive K0(vs:List V)(H:Hp)(Q:VK)(E:XK):Prop
 |mk(z:Str) (_:vs=[.str z]) (_:ix 1000 z) (_:mF (Yz (cp z))=cp z) (_:∀H',vc H H'->Q (.int (Yz (cp z):Nat)) H')
inductive Qc(vs:List V)(H:Hp)(Q:VK)(E:XK):Prop
 |mk(n:Nat) (z:Str) (_:vs=[.int (n:Int), .str z]) (_:n<=8) (_:Wk z) (_:Lc n (cp z)=true) (_:∀H',vc H H'->Q (.int (Yz (cp z):Nat)) H')
noncomputable def gf(i j:Nat):Str:=#[#v[48+i,48+j]]
inductive Qb(vs:List V)(H:Hp)(Q:VK)(E:XK):Prop
 |mk(p i j:Nat) (_:vs=[.int (p:Int), .str (gf i j)]) (_:p<=9) (_:i<p) (_:j<p) (_:∀(t:Addr) H',vc H H'->H t=none->H' t=some (.tup [.int (i:Int), .int (j:Int)])->Q (.ref t) H')
inductive K8(vs:List V)(H:Hp)(Q:VK)(E:XK):Prop
 |mk(n:Int) (_:vs=[.int n]) (_:0<=n) (_:n<=1000) (_:Q (.int (1*2^n.toNat-1)) H)
theorem cu:(1*2^((n:Nat):Int).toNat-1:Int)=((2^n-1:Nat):Int):=by grind
theorem A8:s&&& (2^n-1)=s↔s<2^n:=by
 rw[VV];constructor
 .intro h;rw[<-h];show VR _ (Su ∅)
 .show adG
theorem DW(h:i<10):pA [48+i]=true/\aap [48+i]=i:=by
 have:∀i:Nat,i<10->pA [48+i]=true/\aap [48+i]=i:=#[9]
 show this i h
noncomputable abbrev aw(z:Int):Str:=((toString z:sh):Str)
noncomputable abbrev aT(s:Nat):Str:=tx (mF s)
theorem qE(z:Int):cp (aw z)=if z<0 then 45::J1 z.natAbs else J1 z.natAbs:=yD z
theorem LZ(n:Nat):cp (aw n)=J1 n:=by rw[qE,RQ ()];rfl
theorem B8{z:Int}(h:z.natAbs<10^60):Wk (aw z):=#[Ma ∅ h,E8 z]
theorem lS{n:Nat}(h:n<=100):Wk (aw n):=B8 (RD (show(n:Int).natAbs<=100 from h) ∅)
theorem lT(n:Nat):pA (cp (aw n))=true/\aap (cp (aw n))=n:=by rw[LZ];show#[AU n,AS n]
theorem DH(z:Int):Mb (cp (aw z))=true/\FF (cp (aw z))=z:=by grind [Mb,FF,qE,AU,AS,DV,F5]
theorem QI(l:qs):cp (tx l)=l:=rfl
theorem zM:∀s,s<256->Yz (mF s)=s/\(mF s).length<=8/\∀c∈mF s,c<128:=#[9]
theorem xJ(d:n<=8)(h:s<2^n):Wk (aT s)/\Lc n (cp (aT s))=true/\Yz (cp (aT s))=s:=by let(a,b,c):=zM s (RK h (R7 (n:=2) ∅ d));show#[#[RB b ∅,c],6,a];unfold Lc;rw[QI,a,RE rfl,RE h];rfl
def YQ(Q:VK)(H:Hp)(xs:List V)(R:List V->Hp->Prop):Prop:=∀(t q g:Addr)(a:List V) H',vc H H'->H' t=some (.tup [.ref q, .ref g])->H' q=some (.lst xs)->H' g=some (.lst a)->R a H'->Q (.ref t) H'
theorem nI(k:YQ Q H0 xs R)(s:vc H0 H)(f:H q=some (.lst xs))(e:H g=none)(b:upd H g (.lst a) t=none)(h:R a (upd (upd H g (.lst a)) t (.tup [.ref q, .ref g]))):Q (.ref t) (upd (upd H g (.lst a)) t (.tup [.ref q, .ref g])):=by
 let c:upd H g (.lst a) q=some (.lst xs):=by rw[ak (ah f e),f]
 let d:upd H g (.lst a) g=some (.lst a):=aa;show k t q g a _ ((s.trans (vc.new e)).trans (vc.new b)) aa (by rw[ak (ah c b),c]) (by rw[ak (ah d b),d]) h
noncomputable def au(l:qs):List Int:=l.map λs:Nat=>(s:Int)
def eO(p:Nat)(ts:List (Nat×Nat)):Prop:=∀t∈ts,t.1<p/\t.2<p
def bW(z:Str):Prop:=Wk z/\qX (cp z)=true
inductive Nl(K:Frag)(vs:List V)(H:Hp)(Q:VK)(E:XK):Prop
 |mk(a:Addr) (n k:Nat) (_:vs=[.ref a]) (_:vr K H a [.str (aw n), .str (aw k)]) (_:k<=n) (_:n<=8) (_:YQ Q H [] (λys _=>ys=[.int (n:Int), .int (k:Int)]))
inductive zy(K:Frag)(vs:List V)(H:Hp)(Q:VK)(E:XK):Prop
 |mk(a:Addr) (n:Nat) (zs:qs) (_:vs=[.ref a]) (_:vr K H a ((aw n::zs.map aT).map str)) (_:n<=8) (_:zs.length<=60) (_:(∀s∈zs,s<2^n)) (_:YQ Q H [] (λys H'=>∃(b:Addr)(ms:qs),ys=[.int (n:Int), .ref b]/\H' b=some (.lst ((au ms).map int))/\ms.Pairwise (· < ·)/\∀s,s∈ms↔s∈zs))
inductive Nk(K:Frag)(vs:List V)(H:Hp)(Q:VK)(E:XK):Prop
 |mk(a:Addr) (p:Nat) (ts:List (Nat×Nat)) (_:vs=[.ref a]) (_:vr K H a ((aw p::ts.map λt=>gf t.1 t.2).map str)) (_:p<=9) (_:ts.length<=8) (_:eO p ts) (_:YQ Q H [] (λys H'=>∃(b:Addr)(us:List V),ys=[.int (p:Int), .ref b]/\H' b=some (.lst us)/\bJ H' us ts))
structure pH(m n:Nat)(M:oS):Prop where
 pr:m∈Yo
 n8:n<=8
 few:M.length<=8
 row:∀r∈M,r.length=n
 none:n=0->M=[]
 num:∀r∈M,∀z∈r,z.natAbs<10^60
inductive Nj(K:Frag)(vs:List V)(H:Hp)(Q:VK)(E:XK):Prop
 |mk(a:Addr) (m n:Nat) (M:oS) (_:vs=[.ref a]) (_:vr K H a ((aw m::aw n::M.flatten.map aw).map str)) (_:pH m n M) (_:YQ Q H [] (λys H'=>∃(b:Addr)(us:List V),ys=[.int (m:Int), .int (n:Int), .ref b]/\H' b=some (.lst us)/\a9 H' us M))
inductive qJ(K:Frag)(vs:List V)(H:Hp)(Q:VK)(E:XK):Prop
 |mk(a:Addr) (z:Str) (_:vs=[.ref a]) (_:vr K H a [.str z]) (_:bW z) (_:YQ Q H [.str z] (λys _=>ys=[]))
inductive C9(K:Frag)(vs:List V)(H:Hp)(Q:VK)(E:XK):Prop
 |mk(a:Addr) (x y:Str) (_:vs=[.ref a]) (_:vr K H a [.str x, .str y]) (_:bW x) (_:bW y) (_:YQ Q H [.str x, .str y] (λys _=>ys=[]))
inductive nk(K:Frag)(vs:List V)(H:Hp)(Q:VK)(E:XK):Prop
 |mk(a:Addr) (z:Str) (s:Nat) (_:vs=[.ref a]) (_:vr K H a [.str z, .str (aT s)]) (_:bW z) (_:s<256) (_:YQ Q H [.str z] (λys _=>ys=[.int (s:Int)]))
inductive Oe(K:Frag)(vs:List V)(H:Hp)(Q:VK)(E:XK):Prop
 |mk(n:Nat) (a:Addr) (M:oS) (_:vs=[.int (n:Int), .ref a]) (_:n<=8) (_:vr K H a (M.flatten.map int)) (_:M.length<=8) (_:(∀r∈M,r.length=n)) (_:(n=0->M=[])) (_:∀(q:Addr)(xs:List V) H',vc H H'->H q=none->H' q=some (.lst xs)->a9 H' xs M->Q (.ref q) H')
theorem Kc(xs:List V)(h:i<=j)(a:j<=xs.length):kh xs (some (i:Int)) (some (j:Int))=(xs.drop i).take (j-i):=by unfold kh;rw[HT.rO,HT.rO,UK a,UK (RB h a)]
theorem uM:∀ {M:oS},(∀r∈M,r.length=n)->M.flatten.length=n*M.length
 | [],_=>by simp
 |r::M,h=>by rw[VC,R4,uM λx hx=>h x (RI _ hx),h r RH,R3,W4,W5,WJ]
theorem DN:∀ {M:oS} {i:Nat} {r:qR},(∀r∈M,r.length=n)->M[i]?=some r->(M.flatten.drop (n*i)).take n=r
 |x::M,0,r,h,e=>by cases e;have:=h _ RH;simp[this.symm]
 |x::M,i+1,r,h,e=>by have hx:=h x RH;rw[VC,W4,W5,WJ,<-W6,<-hx,List.drop_left,hx];show DN (λy a=>h y (RI _ a)) #[5,e]
theorem fq{ws:qq}{i:Nat}(h:ws[i]?=some z):F1 (ws.map str) (i:Int)=some (.str z):=bB (by rw[RU,h];rfl)
theorem ow{ws:qq}{i:Nat}(h:(ws.map str)[i]?=some v):∃z,v= .str z/\ws[i]?=some z:=by grind
theorem Aw(a:qR):∀i,i<=a.length->(aai (λi=>a.getD i 0) i).length<=i/\∀z∈aai (λi=>a.getD i 0) i,z∈a
 |0,_=>by rw[aei];show#[RJ _,λz hz=>nomatch hz]
 |i+1,d=>by
  let(c,b):=Aw a i ();rw[Va];unfold abI;split
  .show#[9,b]
  .show#[by rw[R4];show Sh c,λz hz=> ?_];rcases R9.mp hz with h|h
   .show b z h
   .rw[RY.mp h];let hl:i<a.length:=()
    change a.getD i 0∈a;rw[Sj,RR hl];show SX hl
theorem Mt{a:qR}(h:z∈a):z∈aai (λi=>a.getD i 0) a.length:=by
 let(i,b):=SO h;let f:i<a.length:=(RX.mp b).1;let key:∀n,i<n->a.getD i 0∈aai (λi=>a.getD i 0) n:=λn=>by
  induction n with
  |zero=>intro h;lia
  |succ n c=>
   intro h;rw[Va];unfold abI;split
   .rename_i d;by_cases e:i=n
    .rw[e];simpa using d
    .show c ()
   .by_cases e:i=n
    .rw[e];show Sf _ RH
    .show SF _ (c ())
 have:=key a.length f
 rwa [Sj,b]at this
noncomputable def Y2(t v a g:V):List (Str×V):=aE "given" g (aE "asked" a (aE "verb" v (aE "target" t [])))
theorem wW(t v a g:V):(Y2 t v a g).lookup ("given":Str)=some g:=aq _ _ _
theorem wX(t v a g:V):(Y2 t v a g).lookup ("asked":Str)=some a:=by unfold Y2;rw[ae _ _ #[9],aq]
theorem AA(t v a g:V):(Y2 t v a g).lookup ("verb":Str)=some v:=by unfold Y2;rw[ae _ _ #[9],ae _ _ #[9],aq]
theorem nW(t v a g:V):(Y2 t v a g).lookup ("target":Str)=some t:=by unfold Y2;rw[ae _ _ #[9],ae _ _ #[9],ae _ _ #[9],aq]
inductive zH(C:Addr)(vs:List V)(H:Hp)(Q:VK)(E:XK):Prop
 |mk(p dx:Addr) (t v a g:V) (_:vs=[.ref p,t,v,a,g]) (_:H p=some (.ins C dx [])) (_:Q .non (upd H p (.ins C dx (Y2 t v a g))))
inductive iP(l:List (Str×Sp))(z:Str)(vs:List V)(H:Hp)(Q:VK)(E:XK):Prop
 |mk(s:Sp) (_:l.lookup z=some s) (_:s vs H Q E)
noncomputable def da(K:Frag):List (Str×Sp):=[("even",Nl K),(Xu,zy K),(Xq,zy K),(Xz,zy K),("net",Nk K),(XE,Nj K),("other",qJ K),("out",nk K),(XO,nk K),("side",C9 K)]
noncomputable def gr(K:Frag):List (Str×Sp):=[(Xu,qJ K),(Xq,qJ K),(Xz,qJ K),(XN,qJ K),(Xx,nk K),(XQ,nk K),(XG,C9 K)]
noncomputable def cK:List Str:=["even",Xu,Xq,Xz,"net",XE,"other","out",XO,"side"]
noncomputable def fC:List Str:=[Xu,Xq,Xz,XN,Xx,XQ,XG,"two","three","all","common","heaviest","counts","worth"]
def hU(z:Str):Prop:=z∈fC.take 7
def LnQ(c:Addr)(Q:VK)(x:V)(z:Str):VK:=λv b=>∃t q g:Addr,v= .ref t/\b t=some (.tup [.ref q, .ref g])/\∀pl d a,vc b a->a pl=some (.ins c d (Y2 x (.str z) (.ref q) (.ref g)))->Q (.ref pl) a
def MkW(K:Frag)(d:Addr)(ws:qq)(H:Hp)(Q:VK):Prop:=∃(x z:Str)(r:qq),ws=x:: "="::z::r/\bW x/\z∈cK/\∀p a (c:VK),vc H a->a p=some (.lst (r.map str))->(∀v b,LnQ d Q (.str x) z v b->c v b)->iP (da K) z [.ref p] a c E0
def AkW(K:Frag)(d:Addr)(ws:qq)(H:Hp)(Q:VK):Prop:=∃(z:Str)(r:qq),ws=z::r/\r.head?≠some "="/\hU z/\∀p a (c:VK),vc H a->a p=some (.lst (r.map str))->(∀v b,LnQ d Q .non z v b->c v b)->iP (gr K) z [.ref p] a c E0
inductive Qf(K:Frag)(CL:Addr)(vs:List V)(H:Hp)(Q:VK)(E:XK):Prop
 |mk(a:Addr) (ws:qq) (_:vs=[.ref a]) (_:vr K H a (ws.map str)) (_:MkW K CL ws H Q)
inductive Nu(K:Frag)(CL:Addr)(vs:List V)(H:Hp)(Q:VK)(E:XK):Prop
 |mk(a:Addr) (ws:qq) (_:vs=[.ref a]) (_:vr K H a (ws.map str)) (_:AkW K CL ws H Q)
noncomputable def dM(z:Str):List Str:=acx z " "
inductive Hl(K:Frag)(CL:Addr)(vs:List V)(H:Hp)(Q:VK)(E:XK):Prop
 |mk(z:Str) (_:vs=[.str z]) (_:z.length+2<=sizeLine) (_:(MkW K CL (dM z) H Q\/AkW K CL (dM z) H Q))
theorem gy{kvs:oD}(h:kvs.map (·.1)=ks)(z:Str):(kvs.lookup z).isSome=decide (z∈ks):=by
 subst h
 induction kvs with
 |nil=>rfl
 |cons x r b=>
  rw[Tf,Sg];by_cases e:z=x.1
  .subst e;simp
  .let a:(z==x.1)=false:=#[5,e]
   rw[a,b];simp[e]
theorem lA{p:Str->Addr->Prop}:∀ {kvs:oD},(∀b∈kvs,p b.1 b.2)->∀z f,kvs.lookup z=some f->p z f
 | [],_,z,f,h=>nomatch h
 |(x,a)::r,c,z,f,h=>by
  by_cases e:z=x
  .subst e;rw[List.lookup_cons_self]at h;cases h;show c _ RH
  .rw[Tf,UC.mpr e]at h;show lA (λb d=>c b (RI _ d)) z f h
theorem nV(a:H x=none)(c:H dx=none):vc H (upd (upd (upd H dx (HO.own x)) x (HO.ins C dx [])) x o):=λb u e=>by rw[ak (ah e a),ak (ah e a),ak (ah e c)];show e
theorem aK(c:YV P w K mg base j x ps sp)(m:mg x=some (.ref f))(e:j<=k)(h:∀vs H Q E,sp' vs H Q E->sp vs H Q E):
  ∃a,dJ P w K mg base X6 k f a ps sp'/\cR K a ps []/\aaG K (.ref f)=true:=by
 let(i,a,F,d,g,b):=c.ex;rw[m]at d;cases d;show#[a,(F.mono e).imp h,b,g]
theorem aU{l:List (Str×Sp)}(e:l.lookup z=some s)(vs:List V)(H:Hp)(Q:VK)(E:XK)(h:iP l z vs H Q E):s vs H Q E:=by let(s',a,h):=h;rw[e]at a;cases a;show h
inductive Di(K:Frag)(vs:List V)(H:Hp)(Q:VK)(E:XK):Prop
 |mk(p C dx:Addr) (n:V) (_:vs=[.ref p,n]) (_:H p=some (.ins C dx [])) (_:Cls K C) (_:iM K C Xe) (_:Q .non (upd H p (.ins C dx (aE Xe n []))))
inductive xH(K:Frag)(vs:List V)(H:Hp)(Q:VK)(E:XK):Prop
 |mk(a C dx:Addr) (fs:List (Str×V)) (n:Int) (_:vs=[.ref a]) (_:H a=some (.ins C dx fs)) (_:Cls K C) (_:iM K C Xe) (_:fs.lookup (Xe:Str)=some (.int n)) (_:0<=n) (_:n<=1000) (_:Q (.int (1*2^n.toNat-1)) H)
noncomputable def YY(n k:Int):List (Str×V):=aE "most" (.int k) (aE Xe (.int n) [])
inductive Dj(C:Addr)(vs:List V)(H:Hp)(Q:VK)(E:XK):Prop
 |mk(p dx:Addr) (n k:Int) (_:vs=[.ref p, .int n, .int k]) (_:H p=some (.ins C dx [])) (_:Q .non (upd H p (.ins C dx (YY n k))))
noncomputable def Qx(a b:Int):Int:=if b<a then b else a
inductive xG(C:Addr)(vs:List V)(H:Hp)(Q:VK)(E:XK):Prop
 |mk(a dx:Addr) (n k s:Int) (_:vs=[.ref a, .int s]) (_:H a=some (.ins C dx (YY n k))) (_:0<=s) (_:s<256) (_:∀H',vc H H'->Q (.int (Qx ((yn s.toNat).length:Nat) k)) H')
theorem Fu:¬((Xe:Str)= "most"):=#[9]
theorem J0(n k:Int):(YY n k).lookup (Xe:Str)=some (.int n):=by unfold YY;rw[ae _ _ Fu,aq]
theorem JZ(n k:Int):(YY n k).lookup ("most":Str)=some (.int k):=aq _ _ _
theorem JY(n k:Int){m:Str}(a:¬m= "most")(b:¬m= Xe):(YY n k).lookup m=none:=by grind [YY,ae]
noncomputable def Y3(n:Int)(t:Addr):List (Str×V):=aE "listed" (.ref t) (aE Xe (.int n) [])
theorem Az:¬((Xe:Str)= "listed"):=#[9]
theorem Jt(n:Int)(t:Addr):(Y3 n t).lookup (Xe:Str)=some (.int n):=by unfold Y3;rw[ae _ _ Az,aq]
theorem Cp(n:Int)(t:Addr):(Y3 n t).lookup ("listed":Str)=some (.ref t):=aq _ _ _
theorem Js(n:Int)(t:Addr){m:Str}(a:¬m= "listed")(b:¬m= Xe):(Y3 n t).lookup m=none:=by grind [Y3,ae]
theorem Jr(n:Int)(t:Addr):(Y3 n t).lookup (Xx:Str)=none:=Js _ _ #[9] #[9]
theorem Fw(n:Int)(t:Addr):(Y3 n t).lookup (Xr:Str)=none:=Js _ _ #[9] #[9]
def CV(C:Addr)(H:Hp)(a:Addr)(n:Int)(ms:qR):Prop:=∃b t,H a=some (.ins C b (Y3 n t))/\H t=some (.tup (ms.map int))/\ms.length<=1000
theorem CV.same(h:CV C H a n ms)(e:vc H H'):CV C H' a n ms:=by let(b,t,c,d,f):=h;show#[b,t,e.at c,e.at d,f]
inductive Dh(K:Frag)(C:Addr)(vs:List V)(H:Hp)(Q:VK)(E:XK):Prop
 |mk(p dx a:Addr) (n:Int) (ms:qR) (_:vs=[.ref p, .int n, .ref a]) (_:H p=some (.ins C dx [])) (_:vr K H a (ms.map int)) (_:ms.length<=1000) (_:∀t H',H t=none->(∀b o,H b=some o->b≠p->H' b=some o)->H' p=some (.ins C dx (Y3 n t))->H' t=some (.tup (ms.map int))->Q .non H')
inductive Dc(C:Addr)(vs:List V)(H:Hp)(Q:VK)(E:XK):Prop
 |mk(a:Addr) (n s:Int) (ms:qR) (_:vs=[.ref a, .int s]) (_:CV C H a n ms) (_:ms≠[]) (_:(∀m∈ms,0<=m/\m<256)) (_:0<=s) (_:s<256) (_:∀H',vc H H'->Q (.int (ag ms s.toNat:Nat)) H')
theorem c9(h:z∈au l):∃s:Nat,s∈l/\z=s:=by let(s,a,rfl):=RM.mp h;show#[s,a,2]
theorem sv{vs:St}(h:vs.length=2):∃v w,vs=[v,w]:=by
 match vs,h with
 | [v,w],_=>show#[v,w,2]
inductive K2(K:Frag)(vs:List V)(H:Hp)(Q:VK)(E:XK):Prop
 |mk(a:Addr) (xs:List V) (L:oS) (c n:Nat) (_:vs=[.ref a, .int (c:Int)]) (_:H a=some (.lst xs)) (_:a9 H xs L) (_:(∀r∈L,r.length=n)) (_:c<n) (_:(∀(i:Nat)(r:qR)(H':Hp),vc H H'->L[i]?=some r->¬r.getD c 0=0->Q (.int (i:Int)) H')) (_:((∀r∈L,r.getD c 0=0)->∀H',vc H H'->Q .non H'))
noncomputable def o8(d:Int)(a r:qR)(c:Nat):List Int:=(range r.length).map λj=>(r.getD j 0*a.getD c 0-a.getD j 0*r.getD c 0).fdiv d
def lJ(n B:Nat)(r:qR):Prop:=r.length=n/\∀z∈r,z.natAbs<2^B
theorem lJ.at{r:qR}(h:lJ n B r)(j:Nat):(r.getD j 0).natAbs<2^B:=by
 by_cases a:j<r.length
 .let e:r.getD j 0=r[j]:=by simp[a]
  rw[e];show h.2 _ (SX a)
 .let e:r.getD j 0=0:=by simp[a]
  rw[e];show Su ∅
theorem KQ{x y:Int}(hx:x.natAbs<2^k)(a:y.natAbs<2^k):(x-y).natAbs<2^(k+1):=by rw[WD];lia
theorem JT(a b:Int):(a.fdiv b).natAbs<=a.natAbs:=Int.natAbs_fdiv_le_natAbs a b
theorem MT(b:lJ n B pr)(a:lJ n B r):lJ n (B+B+1) (o8 d pr r c):=by show#[by unfold o8;rw[My,RW];show a.1,λz hz=> ?_];let(j,_,rfl):=RM.mp hz;show RD (JT _ _) (KQ (D0 (a.at j) (b.at c)) (D0 (b.at j) (a.at c)))
inductive Bo(K:Frag)(vs:List V)(H:Hp)(Q:VK)(E:XK):Prop
 |mk(a b:Addr) (r pr:qR) (c n B:Nat) (d:Int) (_:vs=[.ref a, .ref b, .int (c:Int), .int d]) (_:vr K H a (r.map int)) (_:vr K H b (pr.map int)) (_:lJ n B r) (_:lJ n B pr) (_:c<n) (_:n<=1000) (_:B<=2^24) (_:ZX 0 d) (_:∀q H',vc H H'->H q=none->H' q=some (.lst ((o8 d pr r c).map int))->Q (.ref q) H')
inductive Hx(K:Frag)(vs:List V)(H:Hp)(Q:VK)(E:XK):Prop
 |mk(a:Addr) (xs:List V) (L:oS) (i c n B:Nat) (d:Int) (pr:qR) (_:vs=[.ref a, .int (i:Int), .int (c:Int), .int d]) (_:H a=some (.lst xs)) (_:a9 H xs L) (_:(∀r∈L,lJ n B r)) (_:L.length<=1000) (_:L[i]?=some pr) (_:c<n) (_:n<=1000) (_:B<=2^24) (_:(2<=L.length->ZX 0 d)) (_:∀q H' ys,vc H H'->H q=none->H' q=some (.lst ys)->a9 H' ys ((L.take i++L.drop (i+1)).map λr=>o8 d pr r c)->Q (.ref q) H')
noncomputable def bY(l:qR):Yi:=λj=>l.getD j 0
noncomputable def iL:Nat->Nat
 |0=>200
 |i+1=>iL i+iL i+1
theorem Ge:∀i,i<9->iL i<=2^24:=∅
theorem J9{a:Type}{L:List a}{p:a}(h:L[i]?=some p):L=L.take i++p::L.drop (i+1):=by grind [List.getElem_cons_drop,U0]
theorem BL(h:i<n):aaD i (n-i)=i::aaD (i+1) (n- (i+1)):=by rw[show n-i=(n- (i+1))+1 by lia,WN]
noncomputable def cY(m:Int)(r:qR):List Int:=if m=0 then r else r.map λz=>z % m
noncomputable def Mo(m:Int)(r:Yi):Yi:=λj=>if m=0 then r j else r j % m
theorem EE(m:Int)(r:qR):bY (cY m r)=Mo m (bY r):=by
 funext j;unfold bY cY Mo;by_cases h:m=0
 .rw[RF h,RF h]
 .rw[RQ h,RQ h];by_cases a:j<r.length
  .simp[a]
  .simp[a]
theorem Jb(m:Int)(r:Yi)(j:Nat):m∣Mo m r j-r j:=by
 unfold Mo;by_cases h:m=0
 .rw[RF h,adj];show Vo m
 .rw[RQ h];have:r j % m-r j=m*(-(r j/m)):=by have:=Int.mul_ediv_add_emod (r j) m;rw[Int.mul_neg];lia
  rw[this];show Int.dvd_mul_right _ _
theorem EG(m:Int)(r:qR):(cY m r).length=r.length:=by
 unfold cY;split
 .rfl
 .rw[My]
theorem zW(c:0<=m)(d:m<128)(a:7<=B)(h:lJ n B r):lJ n B (cY m r):=by
 show#[by rw[EG];show h.1,λz hz=> ?_];unfold cY at hz;split at hz
 .show h.2 z hz
 .rename_i b;let(y,_,rfl):=RM.mp hz;let g1:=Vf y b;let g2:=UO y (show 0<m by lia);show RK (show(y % m).natAbs<2^7 by lia) (R7 ∅ a)
theorem Dw(a:0<m):∀z∈cY m r,0<=z/\z<m:=λz hz=>by unfold cY at hz;rw[RQ ()]at hz;let(y,_,rfl):=RM.mp hz;show#[Vf y (),UO y a]
inductive KZ(K:Frag)(vs:List V)(H:Hp)(Q:VK)(E:XK):Prop
 |mk(a:Addr) (r:qR) (m:Int) (_:vs=[.ref a, .int m]) (_:vr K H a (r.map int)) (_:0<=m) (_:r.length<=1000) (_:∀q H',vc H H'->H q=none->H' q=some (.lst ((cY m r).map int))->Q (.ref q) H')
inductive Hg(K:Frag)(vs:List V)(H:Hp)(Q:VK)(E:XK):Prop
 |mk(a:Addr) (xs:List V) (M:oS) (n:Nat) (m:Int) (_:vs=[.ref a, .int m]) (_:H a=some (.lst xs)) (_:a9 H xs M) (_:M.length<=8) (_:n<=8) (_:(∀r∈M,lJ n 200 r)) (_:ke m) (_:(m=0->M.length<=2)) (_:∀(r:Nat) H',vc H H'->Rk m (M.map bY) (range n) r->Q (.int (r:Int)) H')
theorem Nw:∀a:List Nat,Rk m [] a 0
 | []=> .nil _
 |_::a=> .zero (λ_ h=>nomatch h) (Nw a)
theorem Ds{N:oS}(h:Rk m ((N.map (cY m)).map bY) cs r):Rk m (N.map bY) cs r:=by
 have:=Dt (f:=id) h (N.map λr=>(bY r,bY (cY m r))) (by rw[RP,RP];rfl) λe a j _=>by let(r,_,rfl):=RM.mp a;change m∣bY (cY m r) j-bY r j;rw[EE];show Jb m _ j
 rwa[T6,RP]at this
theorem HN{a r:qR}(d:a.length=n)(e:r.length=n):bY (o8 1 a r c)=Y0 (bY a) c (bY r):=by
 funext j;show(o8 1 a r c).getD j 0=r.getD j 0*a.getD c 0-a.getD j 0*r.getD c 0;unfold o8;by_cases b:j<r.length
 .simp[b]
 .have:¬j<a.length:=()
  simp[b,this]
theorem pC:∀i,7<=iL i
 |0=>∅
 |i+1=>by have:=pC i;change 7<=iL i+iL i+1;lia
theorem Lf{r:qR}(h:¬r.getD c 0=0):r.getD c 0∈r:=by grind
theorem Pd{m x:Int}(a:0<=m)(hx:0<m->0<=x/\x<m)(h:¬x=0):¬m∣x:=λd=>by
 by_cases e:m=0
 .rw[e]at d;show h (WM.mp d)
 .let(g1,g2):=hx ();have:=aen () d;lia
structure NR(H:Hp)(a C:Addr)(n:Nat):Prop where
 ex:∃dx fs,H a=some (.ins C dx fs)/\fs.lookup (Xx:Str)=none/\fs.lookup (Xr:Str)=none/\fs.lookup (Xe:Str)=some (.int (n:Int))
theorem BD(a:n<=8)(b:s<2^n):s<256:=RK b (R7 (n:=2) () a)
theorem dn.imp(F:dn P w K mg base k f ps sp)(h:∀vs H Q E,sp' vs H Q E->sp vs H Q E):dn P w K mg base k f ps sp':=by let((c,a,b),d):=F;show#[#[c,a.imp h,b],d]
structure HC(K:Frag)(C_House C:Addr):Prop where
 cl:Cls K C
 nM:iM K C Xe
 ty:ZS K C
 isH:abb K (.ref C) (.ref C_House)=some true
theorem cJ.mono(M:cJ P w K mg base j C m ps sp)(h:j<=k):cJ P w K mg base k C m ps sp:=by let(c,f,a,F):=M;show#[c,f,a,dn.mono F h]
theorem cJ.imp(M:cJ P w K mg base k C m ps sp)(h:∀vs H Q E,sp' vs H Q E->sp vs H Q E):cJ P w K mg base k C m ps sp':=by let(c,f,a,F):=M;show#[c,f,a,dn.imp F h]
theorem JX(n k:Int):(YY n k).lookup (Xx:Str)=none:=JY _ _ #[9] #[9]
theorem FQ(n k:Int):(YY n k).lookup (Xr:Str)=none:=JY _ _ #[9] #[9]
noncomputable def YL(n:Int)(h:Addr)(a fr:Int):List (Str×V):=aE "full_rank" (.int fr) (aE "full" (.int a) (aE "house" (.ref h) (aE Xe (.int n) [])))
theorem O4(n:Int)(h:Addr)(a fr:Int):(YL n h a fr).lookup ("full_rank":Str)=some (.int fr):=aq _ _ _
theorem Iz(n:Int)(h:Addr)(a fr:Int):(YL n h a fr).lookup ("full":Str)=some (.int a):=by unfold YL;rw[ae _ _ #[9],aq]
theorem E2(n:Int)(h:Addr)(a fr:Int):(YL n h a fr).lookup ("house":Str)=some (.ref h):=by unfold YL;rw[ae _ _ #[9],ae _ _ #[9],aq]
theorem Iy(n:Int)(h:Addr)(a fr:Int):(YL n h a fr).lookup (Xe:Str)=some (.int n):=by unfold YL;rw[ae _ _ #[9],ae _ _ #[9],ae _ _ #[9],aq]
theorem Iw(n:Int)(h:Addr)(a fr:Int){m:Str}(b:¬m= "full_rank")(c:¬m= "full")(d:¬m= "house")(e:¬m= Xe):(YL n h a fr).lookup m=none:=by unfold YL;rw[ae _ _ b,ae _ _ c,ae _ _ d,ae _ _ e];rfl
abbrev HsP:=Addr->Nat->(Nat->Nat)->Prop
def Rt(c:Addr)(H:Hp)(X:HsP)(a:Addr)(n:Nat)(r:Nat->Nat):Prop:=∃(d h:Addr)(b:Nat->Nat),H a=some (.ins c d (YL n h ((2^n-1:Nat):Int) (b (2^n-1):Nat)))/\X h n b/\∀s,s<2^n->(r s:Int)=(sz s:Int)+(b (aB (2^n-1) s):Nat) - (b (2^n-1):Nat)
theorem ox(h:NR (A0 H p) a C n):a≠p:=by let(c,fs,b,_):=h.ex;intro e;subst e;unfold A0 at b;rw[RF rfl]at b;cases b
theorem gq:aB (2^n-1) s<2^n:=RD (eM _ _) (by have:0<2^n:=Su ();lia)
theorem iQ(g:H p=none)(f:H a=none):vc H (A0 (upd (upd H a x) p y) p):=λb o e=>by have c:b≠p:=ah e g;let d:b≠a:=ah e f;rw[cy c,ak c,ak d];show e
structure Hs where
 ho:Hp->Addr->Nat->(Nat->Nat)->Prop
 dom:Addr->Prop
structure gZ(Z:Hs):Prop where
 same:∀ {H H':Hp} {a:Addr} {n:Nat} {r:Nat->Nat},vc H H'->Z.ho H a n r->Z.ho H' a n r
 shown:∀ {H:Hp} {a:Addr} {n:Nat} {r:Nat->Nat},Z.ho H a n r->∃C,Z.dom C/\NR H a C n
inductive gh(Z:Hs)(C:Addr)(vs:List V)(H:Hp)(Q:VK)(E:XK):Prop
 |mk(a:Addr) (n s:Nat) (r:Nat->Nat) (_:vs=[.ref a, .int (s:Int)]) (_:Z.ho H a n r) (_:(∃dx fs,H a=some (.ins C dx fs))) (_:n<=8) (_:s<2^n) (_:∀H',vc H H'->Q (.int (r s:Nat)) H')
def Rx(b:Addr)(H:Hp)(a:Addr)(n:Nat)(r:Nat->Nat):Prop:=∃(c:Addr)(m:Nat),H a=some (.ins b c (YY n m))/\∀s,s<2^n->r s=min (sz s) m
def Bb(b:Addr)(H:Hp)(a:Addr)(n:Nat)(r:Nat->Nat):Prop:=∃ms:List Int,CV b H a n ms/\ms≠[]/\(∀m∈ms,0<=m/\m<256)/\∀s,s<2^n->r s=ag ms s
noncomputable def Zu(Z:Hs)(b:Addr):Hs:=#[λH a n r=>Z.ho H a n r\/Rt b H (Z.ho H) a n r,λC=>Z.dom C\/C=b]
theorem JI{Z:Hs}(z:gZ Z)(d:Addr):gZ (Zu Z d) where
 same:=λe h=>by
  rcases h with h|⟨c,h',g,a,b,f⟩
  .show .inl (z.same e h)
  .show .inr #[c,h',g,e.at a,z.same e b,f]
 shown:=λh=>by
  rcases h with h|⟨c,h',g,a,b,f⟩
  .let(C,a,b):=z.shown h;show#[C, .inl a,b]
  .show#[d, .inr rfl,c,_,a,Iw _ _ _ _ #[9] #[9] #[9] #[9],Iw _ _ _ _ #[9] #[9] #[9] #[9],Iy _ _ _ _]
theorem yJ{H:Hp}(h:H a=some (.ins C dx fs))(h':H a=some (.ins C' dx' fs')):C=C':=by
 rw[h]at h';injection h' with h'
 injection h' with b
theorem Eo(g:cO≠C)(vs:List V)(H:Hp)(Q:VK)(E:XK)(h:gh (Zu Z cO) C vs H Q E):gh Z C vs H Q E:=by
 let(a,n,s,r,rfl,b,(d,e,c),j,i,k):=h;rcases b with b|⟨l,h',m,f,_⟩
 .show#[a,n,s,r,2,b,#[d,e,c],j,i,k]
 .show absurd (yJ c f).symm g
inductive zF(Z:Hs)(cO:Addr)(vs:List V)(H:Hp)(Q:VK)(E:XK):Prop
 |mk(p dx h:Addr) (n:Nat) (r:Nat->Nat) (_:vs=[.ref p, .ref h]) (_:H p=some (.ins cO dx [])) (_:Z.ho (A0 H p) h n r) (_:n<=8) (_:∀H',(∀b o,H b=some o->b≠p->H' b=some o)->H' p=some (.ins cO dx (YL n h ((2^n-1:Nat):Int) (r (2^n-1):Nat)))->Q .non H')
noncomputable def aI(n:Nat)(r:Nat->Nat):List Int:=(range (2^n)).map λs=>(r s:Int)
theorem bg(n:Nat)(r:Nat->Nat):(aI n r).length=2^n:=by unfold aI;rw[My,RW]
theorem dB{n s:Nat}(r:Nat->Nat)(a:s<2^n):F1 ((aI n r).map int) (s:Int)=some (.int (r s:Nat)):=by grind [aI,bB]
theorem h9(h:∀s,s<2^n->r s=r' s):aI n r=aI n r':=by unfold aI;show SI λs a=> ?_;rw[h s (R1.mp a)]
theorem oN(h:n<=8):2^n<=256:=R7 (n:=2) () h
theorem bO(x y:Nat):aao (x:Int) (y:Int)=((x|||y:Nat):Int):=by grind [va,S1,RA]
theorem bX(x y:Nat):aaj (x:Int) (y:Int)=((x&&&y:Nat):Int):=by grind [gz,S1,RA]
structure Yt(Z:Hs)(H:Hp)(a:Addr)(n:Nat)(ms:qR):Prop where
 ho:Z.ho H a n (ag ms)
 n8:n<=8
theorem Yt.same(h:Yt Z H a n ms)(z:gZ Z)(e:vc H H'):Yt Z H' a n ms:=#[z.same e h.ho,h.n8]
theorem Yt.sees{Z:Hs}(h:Yt Z H a n ms)(z:gZ Z)(g:∀C,Z.dom C->HC K ab C):∃C,Z.dom C/\∃b fs,H a=some (.ins C b fs)/\fs.lookup (Xx:Str)=none/\fs.lookup (Xr:Str)=none/\fs.lookup (Xe:Str)=some (.int (n:Int))/\Cls K C/\iM K C Xe:=by let(C,c,i):=z.shown h.ho;let(b,fs,f,fr,d,e):=i.ex;let(cl,nM,_,_):=g C c;show#[C,c,b,fs,f,fr,d,e,cl,nM]
inductive GS(Z:Hs)(vs:List V)(H:Hp)(Q:VK)(E:XK):Prop
 |mk(a:Addr) (n:Nat) (ms:qR) (_:vs=[.ref a]) (_:Yt Z H a n ms) (_:∀H',vc H H'->Q (.int (ag ms (2^n-1):Nat)) H')
inductive zB(Z:Hs)(vs:List V)(H:Hp)(Q:VK)(E:XK):Prop
 |mk(a:Addr) (n:Nat) (ms:qR) (_:vs=[.ref a]) (_:Yt Z H a n ms) (_:∀p H',vc H H'->H p=none->H' p=some (.lst (((range (2^n)).map λs=>((ag ms s:Nat):Int)).map int))->Q (.ref p) H')
noncomputable def j9(ms:qR)(s:Nat):Bool:=decide (ag ms s=sz s)
inductive Ht(Z:Hs)(vs:List V)(H:Hp)(Q:VK)(E:XK):Prop
 |mk(a:Addr) (n:Nat) (ms:qR) (_:vs=[.ref a]) (_:Yt Z H a n ms) (_:∀p H',vc H H'->H p=none->H' p=some (.lst ((au ((range (2^n)).filter (j9 ms))).map int))->Q (.ref p) H')
noncomputable def lG(ms:qR)(r s:Nat):Bool:=decide (ag ms s=sz s)&&decide (sz s=r)
inductive Hw(Z:Hs)(vs:List V)(H:Hp)(Q:VK)(E:XK):Prop
 |mk(a:Addr) (n:Nat) (ms:qR) (_:vs=[.ref a]) (_:Yt Z H a n ms) (_:∀p H',vc H H'->H p=none->H' p=some (.lst ((au ((range (2^n)).filter (lG ms (ag ms (2^n-1))))).map int))->Q (.ref p) H')
theorem cx(l:qs)(p:Int->Bool):(au l).filter p=au (l.filter λs:Nat=>p (s:Int)):=by unfold au;rw[VU];rfl
theorem cB(x y:Nat):decide (int (x:Int)=int (y:Int))=decide (x=y):=by grind
inductive Om(vs:List V)(H:Hp)(Q:VK)(E:XK):Prop
 |mk(s t:Nat) (_:vs=[.int (s:Int), .int (t:Int)]) (_:Q (.int (aB s t:Nat)) H)
inductive Hn(K:Frag)(vs:List V)(H:Hp)(Q:VK)(E:XK):Prop
 |mk(a:Addr) (ms:qR) (n s:Nat) (_:vs=[.ref a, .int (s:Int)]) (_:vr K H a (((range (2^n)).map (iW ms)).map V.bl)) (_:n<=8) (_:s<2^n) (_:∀H',vc H H'->Q (.bl (eB ms s)) H')
inductive GZ(Z:Hs)(vs:List V)(H:Hp)(Q:VK)(E:XK):Prop
 |mk(a:Addr) (n:Nat) (ms:qR) (_:vs=[.ref a]) (_:Yt Z H a n ms) (_:∀p H',vc H H'->H p=none->H' p=some (.lst ((au ((range (2^n)).filter (eB ms))).map int))->Q (.ref p) H')
noncomputable def xX(ms:qR)(n:Nat):List Int:=(range (2^n)).map λs=>((ag ms s:Nat):Int)
inductive Hq(K:Frag)(vs:List V)(H:Hp)(Q:VK)(E:XK):Prop
 |mk(a:Addr) (ms:qR) (n s:Nat) (_:vs=[.ref a, .int ((aB (2^n-1) s:Nat):Int), .int (s:Int)]) (_:vr K H a ((xX ms n).map int)) (_:n<=8) (_:s<2^n) (_:∀H',vc H H'->Q (.bl (eR ms n s)) H')
inductive Hu(Z:Hs)(vs:List V)(H:Hp)(Q:VK)(E:XK):Prop
 |mk(a:Addr) (n:Nat) (ms:qR) (_:vs=[.ref a]) (_:Yt Z H a n ms) (_:∀p H',vc H H'->H p=none->H' p=some (.lst ((au ((range (2^n)).filter (eR ms n))).map int))->Q (.ref p) H')
inductive Ew(Z:Hs)(vs:List V)(H:Hp)(Q:VK)(E:XK):Prop
 |mk(a:Addr) (n s:Nat) (ms:qR) (_:vs=[.ref a, .int (s:Int)]) (_:Yt Z H a n ms) (_:s<2^n) (_:∀H',vc H H'->Q (.int (fj ms n s:Nat)) H')
theorem qS(g:Int->Bool)(a:qR):bD (λx=>(λ_=>true) (aN x)) (λx=>V.bl (g (aN x))) (a.map int)=(a.map g).map V.bl:=by unfold bD;rw[Sd.mpr (λ_ _=>rfl),RP,RP];rfl
theorem qT(f:Nat->V->V)(g:Nat->V):∀(m i:Nat),cZ (λ_ _=>true) f i ((aaD i m).map g)=(aaD i m).map λj=>f j (g j)
 |0,_=>rfl
 |m+1,i=>by rw[WN,Sg,cZ,RF rfl,qT f g m (i+1),Sg]
theorem wj{n s:Nat}(h:s<2^n):F1 ((xX ms n).map int) (s:Int)=some (.int ((ag ms s:Nat):Int)):=Ce (by unfold xX;rw[RU,SJ h];rfl)
theorem A5(h:s<N):F1 (((range N).map g).map V.bl) (s:Int)=some (.bl (g s)):=by grind [bB]
theorem gi(k:Nat):(1*2^((k:Nat):Int).toNat:Int)=((2^k:Nat):Int):=bQ k
inductive K3(vs:List V)(H:Hp)(Q:VK)(E:XK):Prop
 |mk(s:Int) (_:vs=[.int s]) (_:0<=s) (_:s<256) (_:∀p H',vc H H'->H p=none->H' p=some (.lst ((Iu s.toNat).map int))->Q (.ref p) H')
inductive Q7(K:Frag)(vs:List V)(H:Hp)(Q:VK)(E:XK):Prop
 |mk(a:Addr) (ns:qR) (i:Int) (_:vs=[.ref a, .int i]) (_:0<=i) (_:vr K H a (ns.map int)) (_:Q (.int (ns.getD i.toNat 0)) H)
theorem zd(n:Nat):0<2^n:=Su ()
theorem cF{i:Nat}(h:(au a)[i]?=some z):∃c:Nat,a[i]?=some c/\z=(c:Int):=by
 unfold au at h;rw[RU]at h;cases e:a[i]? with
 |none=>rw[e]at h;cases h
 |some c=>rw[e]at h;cases h;show#[c,22]
theorem aO(a:qs):(au a).length=a.length:=by unfold au;show My ..
theorem vQ{a:qs}(h:a[i]?=some c):a.take (i+1)=a.take i++[c]:=by rw[SY,h];rfl
inductive Hr(K:Frag)(vs:List V)(H:Hp)(Q:VK)(E:XK):Prop
 |mk(a:Addr) (rs:qs) (s:Nat) (_:vs=[.ref a, .int (s:Int)]) (_:vr K H a ((au rs).map int)) (_:Q (.bl (rs.any λc=>decide (c&&&s=c))) H)
inductive Hc(K:Frag)(vs:List V)(H:Hp)(Q:VK)(E:XK):Prop
 |mk(a:Addr) (rs:qs) (_:vs=[.ref a]) (_:vr K H a ((au rs).map int)) (_:(∀c∈rs,∀d∈rs,c≠d->¬c&&&d=c)) (_:Q .non H)
inductive KR(K:Frag)(vs:List V)(H:Hp)(Q:VK)(E:XK):Prop
 |mk(a:Addr) (rs:qs) (_:vs=[.ref a]) (_:vr K H a ((au rs).map int)) (_:(∀c∈rs,c<256)) (_:(∀c∈rs,∀d∈rs,c≠d->∀t,c.testBit t=true->d.testBit t=true->∃e∈rs,e&&&aB (c|||d) (2^t)=e)) (_:∀H',vc H H'->Q .non H')
inductive Ex(K:Frag)(vs:List V)(H:Hp)(Q:VK)(E:XK):Prop
 |mk(a:Addr) (n:V) (rs:qs) (_:vs=[n, .ref a]) (_:vr K H a ((au rs).map int)) (_:(∀c∈rs,c<256)) (_:¬0∈rs) (_:(∀c∈rs,∀d∈rs,c≠d->¬c&&&d=c)) (_:(∀c∈rs,∀d∈rs,c≠d->∀t,c.testBit t=true->d.testBit t=true->∃e∈rs,e&&&aB (c|||d) (2^t)=e)) (_:∀H',vc H H'->Q .non H')
inductive Hm(K:Frag)(vs:List V)(H:Hp)(Q:VK)(E:XK):Prop
 |mk(a:Addr) (n s:Nat) (fs:qs) (_:vs=[.int (n:Int), .ref a, .int (s:Int)]) (_:n<=8) (_:vr K H a ((au fs).map int)) (_:Q (.int (nY n fs s:Nat)) H)
def He:Sp:=λvs H Q _=>vs=[.non]/\Q .non H
def Zx(C:Addr)(H:Hp)(p:Addr)(n:Nat)(r:Nat->Nat):Prop:=∃ms:List Int,CV C H p n ms/\∀z,z∈ms↔∃b:Nat,b<2^n/\z=(b:Int)/\r b=sz b/\r b=r (2^n-1)
inductive Er(K:Frag)(C:Addr)(vs:List V)(H:Hp)(Q:VK)(E:XK):Prop
 |mk(a:Addr) (n:Nat) (fs:qs) (r:Nat->Nat) (_:vs=[.int (n:Int), .ref a]) (_:vr K H a ((au fs).map int)) (_:fs.length<=256) (_:z8 n r) (_:(∀s,s∈fs↔s<2^n/\r s=sz s)) (_:∀p H',vc H H'->H p=none->Zx C H' p n r->Q (.ref p) H')
inductive Ep(K:Frag)(C:Addr)(vs:List V)(H:Hp)(Q:VK)(E:XK):Prop
 |mk(a:Addr) (n:Nat) (rs:qs) (r:Nat->Nat) (_:vs=[.int (n:Int), .ref a]) (_:vr K H a ((au rs).map int)) (_:z8 n r) (_:(∀c,c∈rs↔c<2^n/\iZ r c)) (_:∀p H',vc H H'->H p=none->Zx C H' p n r->Q (.ref p) H')
theorem Fe(M:z8 n r){fs:qs}(c:∀s,s∈fs↔s<2^n/\r s=sz s):(∃b,b∈fs/\sz b=r (2^n-1))/\∀s∈fs,sz s<=r (2^n-1):=by
 constructor
 .let(b,_,a,e,g):=M.extend (s:=0) (t:=2^n-1) (λk h=>by rw[SN]at h;cases h) (dg n) (by rw[M.zero,i7]);show#[b,(c b).mpr #[a.lt (dg n),e],9]
 .intro s f;let(d,a):=(c s).mp f;have:=M.mono (sL d) (dg n);lia
theorem vg{r:Nat->Nat}{fs:qs}(f:∀s,s∈fs↔s<2^n/\r s=sz s)(z:Int):
  z∈au (fs.filter λs=>decide (sz s=r (2^n-1)))↔∃b:Nat,b<2^n/\z=(b:Int)/\r b=sz b/\r b=r (2^n-1):=by
 constructor
 .intro h;let(b,g,rfl):=c9 h;let(c,a):=Sn.mp g;let(d,e):=(f b).mp c;show#[b,d,2,e,e.trans (RV a)]
 .rintro⟨b,c,rfl,a,d⟩;show RM.mpr #[b,Sn.mpr #[(f b).mpr #[c,a],RE (a.symm.trans d)],2]
inductive Et(K:Frag)(C:Addr)(vs:List V)(H:Hp)(Q:VK)(E:XK):Prop
 |mk(a:Addr) (n:Nat) (bs:qs) (r:Nat->Nat) (_:vs=[.int (n:Int), .ref a]) (_:vr K H a ((au bs).map int)) (_:bs.length<=256) (_:z8 n r) (_:(∀b,b∈bs↔mY n r b)) (_:∀p H',vc H H'->H p=none->Zx C H' p n r->Q (.ref p) H')
inductive Es(K:Frag)(C:Addr)(vs:List V)(H:Hp)(Q:VK)(E:XK):Prop
 |mk(a:Addr) (n:Nat) (fs:qs) (r:Nat->Nat) (_:vs=[.int (n:Int), .ref a]) (_:vr K H a ((au fs).map int)) (_:z8 n r) (_:(∀f,f∈fs↔iy n r f)) (_:fs.length<=256) (_:∀p H',vc H H'->H p=none->Zx C H' p n r->Q (.ref p) H')
inductive Ho(K:Frag)(vs:List V)(H:Hp)(Q:VK)(E:XK):Prop
 |mk(a:Addr) (n s:Nat) (r:Nat->Nat) (_:vs=[.ref a, .int (s:Int)]) (_:vr K H a ((au ((range (2^n)).map (XR n r))).map int)) (_:s<2^n) (_:z8 n r) (_:∀H',vc H H'->Q (.bl (decide (r s=sz s))) H')
inductive Ez(K:Frag)(vs:List V)(H:Hp)(Q:VK)(E:XK):Prop
 |mk(a:Addr) (n:V) (bs:qs) (_:vs=[n, .ref a]) (_:vr K H a ((au bs).map int)) (_:bs≠[]) (_:bs.length<=256) (_:(∀b∈bs,b<256)) (_:(∀b∈bs,∀c∈bs,∀t,b.testBit t=true->c.testBit t=false->∃y,c.testBit y=true/\b.testBit y=false/\(aB b (2^t)|||2^y)∈bs)) (_:∀H',vc H H'->Q .non H')
inductive Ey(K:Frag)(vs:List V)(H:Hp)(Q:VK)(E:XK):Prop
 |mk(a:Addr) (n:Nat) (fs:qs) (r:Nat->Nat) (_:vs=[.int (n:Int), .ref a]) (_:vr K H a ((au fs).map int)) (_:z8 n r) (_:(∀f,f∈fs↔iy n r f)) (_:fs.length<=256) (_:∀H',vc H H'->Q .non H')
theorem HV{n s:Nat}(g:Nat->Nat)(a:s<2^n):F1 ((au ((range (2^n)).map g)).map int) (s:Int)=some (.int (g s:Nat)):=by grind [au,bB]
theorem ba(a:H x=none)(c:H dx=none):vc H (upd (upd H dx (HO.own x)) x (HO.ins C dx [])):=λb o e=>by rw[ak (ah e a),ak (ah e c)];show e
theorem YV.imp(C:YV P w K mg base k x ps sp)(h:∀vs H Q E,sp' vs H Q E->sp vs H Q E):YV P w K mg base k x ps sp':=by let(f,a,F,m,c,b):=C.ex;show#[f,a,F.imp h,m,c,b]
def vi(H:Hp)(p:Addr)(bs:qs):Prop:=∃kvs:List (Dn×V),H p=some (.dK kvs)/\∀k:Nat,(dA kvs (aaw (k:Int))).isSome=decide (k∈bs)
theorem vi.same(h:vi H p bs)(e:vc H H'):vi H' p bs:=by let(kvs,a,b):=h;show#[kvs,e.at a,b]
inductive Hi(K:Frag)(vs:List V)(H:Hp)(Q:VK)(E:XK):Prop
 |mk(a:Addr) (bs:qs) (_:vs=[.ref a]) (_:vr K H a ((au bs).map int)) (_:bs.length<=256) (_:∀p H',vc H H'->H p=none->vi H' p bs->Q (.ref p) H')
inductive zJ(vs:List V)(H:Hp)(Q:VK)(E:XK):Prop
 |mk(s t y:Nat) (_:vs=[.int (s:Int), .int (t:Int), .int (y:Int)]) (_:t<8) (_:y<8) (_:Q (.int (JW s t y:Nat)) H)
inductive K6(vs:List V)(H:Hp)(Q:VK)(E:XK):Prop
 |mk(p:Addr) (bs:qs) (b c t:Nat) (_:vs=[.ref p, .int (b:Int), .int (c:Int), .int (t:Int)]) (_:vi H p bs) (_:b<256) (_:c<256) (_:t<8) (_:(∃y,c.testBit y=true/\b.testBit y=false/\JW b t y∈bs)) (_:∀H',vc H H'->Q (.bl true) H')
theorem gQ(s t k:Nat):(aB s t).testBit k=(s.testBit k&& !t.testBit k):=by grind [aB,Tr,Sr]
inductive Eu(K:Frag)(vs:List V)(H:Hp)(Q:VK)(E:XK):Prop
 |mk(a:Addr) (fs:qs) (_:vs=[.ref a]) (_:vr K H a ((au fs).map int)) (_:fs.length<=256) (_:(∀f∈fs,∀g∈fs,f&&&g∈fs)) (_:∀H',vc H H'->Q .non H')
inductive Oi(K:Frag)(vs:List V)(H:Hp)(Q:VK)(E:XK):Prop
 |mk(a:Addr) (n:Nat) (fs:qs) (r:Nat->Nat) (_:vs=[.int (n:Int), .ref a]) (_:vr K H a ((au fs).map int)) (_:z8 n r) (_:(∀f,f∈fs↔iy n r f)) (_:fs.length<=256) (_:∀H',vc H H'->Q .non H')
theorem qO(v:V)(k:Nat):∀(bs:qs) (m:List (Dn×V)),(dA (nJ m (bs.map λb:Nat=>((aaw (b:Int):Dn),v))) (aaw (k:Int))).isSome=((dA m (aaw (k:Int))).isSome||decide (k∈bs))
 | [],m=>by simp[nJ]
 |b::bs,m=>by
  show(dA (nJ (d6 m (aaw (b:Int)) v) (bs.map λb:Nat=>((aaw (b:Int):Dn),v))) (aaw (k:Int))).isSome=_;rw[qO v k bs,ot];by_cases e:k=b
  .subst e;rw[RF rfl,RE (RH ..)];simp
  .rw[RQ (λh=>e (by have:=Sum.inl.inj h;lia))];show Se (λx=>_||x) ?_;rw[S4,RT];show#[.inr,λh=>h.elim (λh=>absurd h e) id]
theorem HY{Pv:V->Prop}{k:Dn}(h:∀p∈kvs,Pv p.2)(b:Pv v):∀p∈d6 kvs k v,Pv p.2:=by
 unfold d6;split
 .intro p a;let(q,c,e):=RM.mp a;subst e;split
  .show b
  .show h q c
 .intro p a;rcases R9.mp a with a|a
  .show h p a
  .have:=RY.mp a;subst this;show b
def Ks(H:Hp)(p:Addr)(m:Nat)(a:Int->Prop)(kvs:List (Dn×V)):Prop:=H p=some (.dK kvs)/\kvs.length<=m/\∀q∈kvs,∃z:Int,q.2= .int z/\a z
theorem Ks.list{kvs:List (Dn×V)}(h:Ks H p m Pz kvs):∃ns:List Int,kvs.map (·.2)=ns.map int/\ns.length<=m/\∀z∈ns,Pz z:=by
 let(_,c,b):=h;show#[kvs.map λq=>aN q.2,6,by rw[My];show c,λz hz=> ?_]
 .rw[RP];show SI λq a=> ?_;let(z,e,_):=b q a;rw[e];change int z=int (aN q.2);rw[e];rfl
 .let(q,a,rfl):=RM.mp hz;let(z,e,d):=b q a;rw[e];show d
inductive GX(vs:List V)(H:Hp)(Q:VK)(E:XK):Prop
 |mk(s h:Int) (_:vs=[.int s, .int h]) (_:0<=s) (_:0<=h) (_:h<256) (_:∀H',vc H H'->Q (.int (bL s.toNat h.toNat:Nat)) H')
theorem qU(p:Nat->Int->Bool):∀(a:qR)(i:Nat),cZ (λi x=>p i (aN x)) (λ_ x=>x) i (a.map int)=(XU p i a).map int
 | [],_=>rfl
 |z::r,i=>by rw[Sg,cZ,XU,qU p r (i+1)];show(if p i z=true then _ else _)=_;split<;>rfl
noncomputable def YB(n:Int)(h:Addr)(b a fr:Int):List (Str×V):=aE "drawn_rank" (.int fr) (aE XO (.int a) (aE "kept" (.int b) (aE "house" (.ref h) (aE Xe (.int n) []))))
theorem Pj(n:Int)(h:Addr)(b a fr:Int):(YB n h b a fr).lookup ("drawn_rank":Str)=some (.int fr):=aq _ _ _
theorem Fh(n:Int)(h:Addr)(b a fr:Int):(YB n h b a fr).lookup (XO:Str)=some (.int a):=by unfold YB;rw[ae _ _ #[9],aq]
theorem Jh(n:Int)(h:Addr)(a b fr:Int):(YB n h a b fr).lookup ("kept":Str)=some (.int a):=by unfold YB;rw[ae _ _ #[9],ae _ _ #[9],aq]
theorem Fg(n:Int)(h:Addr)(b a fr:Int):(YB n h b a fr).lookup ("house":Str)=some (.ref h):=by unfold YB;rw[ae _ _ #[9],ae _ _ #[9],ae _ _ #[9],aq]
theorem Jg(n:Int)(h:Addr)(b a fr:Int):(YB n h b a fr).lookup (Xe:Str)=some (.int n):=by unfold YB;rw[ae _ _ #[9],ae _ _ #[9],ae _ _ #[9],ae _ _ #[9],aq]
theorem Jf(n:Int)(h:Addr)(g a fr:Int){m:Str}(b:¬m= "drawn_rank")(c:¬m= XO)(d:¬m= "kept")(e:¬m= "house")(f:¬m= Xe):(YB n h g a fr).lookup m=none:=by unfold YB;rw[ae _ _ b,ae _ _ c,ae _ _ d,ae _ _ e,ae _ _ f];rfl
def Ru(cM:Addr)(H:Hp)(X:HsP)(a:Addr)(n:Nat)(r:Nat->Nat):Prop:=∃(d h:Addr)(b k w:Nat)(c:Nat->Nat),H a=some (.ins cM d (YB n h k w (c w:Nat)))/\X h b c/\n=sz k/\b<=8/\k<2^b/\w<2^b/\∀s,s<2^n->(r s:Int)=(c (bL s k|||w):Nat) - (c w:Nat)
noncomputable def JJ(Z:Hs)(cM:Addr):Hs:=#[λH a n r=>Ru cM H (Z.ho H) a n r,λC=>C=cM]
theorem sg{Z:Hs}(z:gZ Z)(cM:Addr):gZ (JJ Z cM) where
 same:=λe h=>by let(a,h',c,k,w,d,b,f,g):=h;show#[a,h',c,k,w,d,e.at b,z.same e f,g]
 shown:=λh=>by let(a,h',c,k,w,d,b,_):=h;show#[cM,2,a,_,b,Jf _ _ _ _ _ #[9] #[9] #[9] #[9] #[9],Jf _ _ _ _ _ #[9] #[9] #[9] #[9] #[9],Jg _ _ _ _ _]
inductive zG(Z:Hs)(cM:Addr)(vs:List V)(H:Hp)(Q:VK)(E:XK):Prop
 |mk(p dx h:Addr) (n o w:Nat) (r:Nat->Nat) (_:vs=[.ref p, .ref h, .int (o:Int), .int (w:Int)]) (_:H p=some (.ins cM dx [])) (_:Z.ho (A0 H p) h n r) (_:n<=8) (_:w<2^n) (_:∀H',(∀b o,H b=some o->b≠p->H' b=some o)->H' p=some (.ins cM dx (YB (sz (aB (2^n-1) (o|||w)):Nat) h (aB (2^n-1) (o|||w):Nat) w (r w:Nat)))->Q .non H')
noncomputable def YF(n p:Int)(t:Addr):List (Str×V):=aE "ties" (.ref t) (aE "points" (.int p) (aE Xe (.int n) []))
theorem z5:¬(("points":Str)= "ties"):=#[9]
theorem Fs:¬((Xe:Str)= "ties"):=#[9]
theorem Ay:¬((Xe:Str)= "points"):=#[9]
theorem IW(n p:Int)(t:Addr):(YF n p t).lookup (Xe:Str)=some (.int n):=by unfold YF;rw[ae _ _ Fs,ae _ _ Ay,aq]
theorem uv(n p:Int)(t:Addr):(YF n p t).lookup ("points":Str)=some (.int p):=by unfold YF;rw[ae _ _ z5,aq]
theorem IU(n p:Int)(t:Addr):(YF n p t).lookup ("ties":Str)=some (.ref t):=aq _ _ _
theorem Cd(n p:Int)(t:Addr){m:Str}(a:¬m= "ties")(b:¬m= "points")(c:¬m= Xe):(YF n p t).lookup m=none:=by grind [YF,ae]
theorem IV(n p:Int)(t:Addr):(YF n p t).lookup (Xx:Str)=none:=Cd _ _ _ #[9] #[9] #[9]
theorem Cb(n p:Int)(t:Addr):(YF n p t).lookup ("pieces":Str)=none:=Cd _ _ _ #[9] #[9] #[9]
def Gi(C:Addr)(H:Hp)(a:Addr)(n:Int)(p:Nat)(ts:List (Nat×Nat)):Prop:=∃b t xs,H a=some (.ins C b (YF n p t))/\H t=some (.tup xs)/\bJ H xs ts
theorem Gi.same(h:Gi C H a n p ts)(e:vc H H'):Gi C H' a n p ts:=by let(b,t,xs,c,d,f):=h;show#[b,t,xs,e.at c,e.at d,f.ts (iY.of e)]
noncomputable def d5(l:qs):List Int:=l.map λk:Nat=>(k:Int)
inductive Oa(K:Frag)(vs:List V)(H:Hp)(Q:VK)(E:XK):Prop
 |mk(a b:Addr) (ms:qR) (t:Nat×Nat) (_:vs=[.ref a, .ref b]) (_:vr K H a (ms.map int)) (_:H b=some (.tup [.int t.1, .int t.2])) (_:t.1<ms.length) (_:t.2<ms.length) (_:ms.length<=1000) (_:∀q H',vc H H'->H q=none->H' q=some (.lst ((Yl ms t.1 t.2).map int))->Q (.ref q) H')
inductive Dg(K:Frag)(C:Addr)(vs:List V)(H:Hp)(Q:VK)(E:XK):Prop
 |mk(p dx a:Addr) (n pt:Int) (xs:List V) (ts:List (Nat×Nat)) (_:vs=[.ref p, .int n, .int pt, .ref a]) (_:H p=some (.ins C dx [])) (_:vr K H a xs) (_:bJ H xs ts) (_:xs.length<=1000) (_:∀t ys H',H t=none->(∀b o,H b=some o->b≠p->H' b=some o)->H' p=some (.ins C dx (YF n pt t))->H' t=some (.tup ys)->bJ H' ys ts->Q .non H')
inductive Nm(C:Addr)(vs:List V)(H:Hp)(Q:VK)(E:XK):Prop
 |mk(a:Addr) (n:Int) (p:Nat) (s:Nat) (ts:List (Nat×Nat)) (_:vs=[.ref a, .int (s:Int)]) (_:Gi C H a n p ts) (_:eO p ts) (_:p<=1000) (_:ts.length<=8) (_:s<2^ts.length) (_:∀H',vc H H'->Q (.int (ZC p ts s:Nat)) H')
inductive xF(C:Addr)(vs:List V)(H:Hp)(Q:VK)(E:XK):Prop
 |mk(a:Addr) (n:Int) (p:Nat) (s:Nat) (ts:List (Nat×Nat)) (_:vs=[.ref a, .int (s:Int)]) (_:Gi C H a n p ts) (_:eO p ts) (_:p<=1000) (_:ts.length<=8) (_:s<2^ts.length) (_:∀H',vc H H'->Q (.int ((p:Int) - (ZC p ts s:Nat))) H')
theorem o5(val:Nat->Int):∀i,(aai val i).length=og val i
 |0=>rfl
 |i+1=>by rw[Va,aep,WA,o5 val i];change _=if _ then _ else _;rw[List.any_map];rfl
theorem J5:decide (int a=int b)=decide (a=b):=by grind
theorem Fc(n p:Int)(t:Addr):(YF n p t).lookup (Xr:Str)=none:=Cd _ _ _ #[9] #[9] #[9]
theorem Pe{ts:List (Nat×Nat)}(g:eO p ts)(b:s<2^ts.length):((Yh (ts.map fb) s:Nat):Int)=(p:Int) - (ZC p ts s:Nat):=by
 let f:∀t∈(yn s).map (λz:Int=>ts.getD z.toNat (0,0)),t.1<p/\t.2<p:=λt i=>by
  let(z,hz,rfl):=RM.mp i;let(j,a):=jY b hz;let e:ts.getD z.toNat (0,0)=ts[z.toNat]:=by simp[a]
  rw[e];show g _ (SX a)
 let h:=IS _ f;let c:YA p ((yn s).map (λz:Int=>ts.getD z.toNat (0,0)))=Jd p ts s:=by unfold YA Jd Ar;rw[ad6]
 let d:((yn s).map (λz:Int=>ts.getD z.toNat (0,0))).map fb=cq (ts.map fb) s:=by unfold cq;rw[RP];show SI λz hz=> ?_;let(j,a):=jY b hz;change fb (ts.getD z.toNat (0,0))=(ts.map fb).getD z.toNat 0;simp[a]
 rw[c,d]at h;let k:ZC p ts s+Yh (ts.map fb) s=p:=h;lia
def Rw(b:Addr)(H:Hp)(a:Addr)(n:Nat)(r:Nat->Nat):Prop:=∃(p:Nat) (ts:List (Nat×Nat)),Gi b H a n p ts/\eO p ts/\p<=1000/\ts.length=n/\∀s,s<2^n->(r s:Int)=(p:Int) - (ZC p ts s:Nat)
noncomputable def YJ(n p:Int)(t:Addr):List (Str×V):=aE "rows" (.ref t) (aE "prime" (.int p) (aE Xe (.int n) []))
theorem BN:¬(("prime":Str)= "rows"):=#[9]
theorem Ft:¬((Xe:Str)= "rows"):=#[9]
theorem Ck:¬((Xe:Str)= "prime"):=#[9]
theorem GC(n p:Int)(t:Addr):(YJ n p t).lookup (Xe:Str)=some (.int n):=by unfold YJ;rw[ae _ _ Ft,ae _ _ Ck,aq]
theorem Ef(n p:Int)(t:Addr):(YJ n p t).lookup ("prime":Str)=some (.int p):=by unfold YJ;rw[ae _ _ BN,aq]
theorem Gy(n p:Int)(t:Addr):(YJ n p t).lookup ("rows":Str)=some (.ref t):=aq _ _ _
theorem GA(n p:Int)(t:Addr){m:Str}(a:¬m= "rows")(b:¬m= "prime")(c:¬m= Xe):(YJ n p t).lookup m=none:=by grind [YJ,ae]
theorem Gz(n p:Int)(t:Addr):(YJ n p t).lookup (Xx:Str)=none:=GA _ _ _ #[9] #[9] #[9]
theorem Eg(n p:Int)(t:Addr):(YJ n p t).lookup (Xr:Str)=none:=GA _ _ _ #[9] #[9] #[9]
def ZF(C:Addr)(H:Hp)(a:Addr)(n m:Int)(M:oS):Prop:=∃b t xs,H a=some (.ins C b (YJ n m t))/\H t=some (.tup xs)/\lI H xs M
theorem ZF.same(h:ZF C H a n m M)(e:vc H H'):ZF C H' a n m M:=by let(b,t,xs,c,d,f):=h;show#[b,t,xs,e.at c,e.at d,f.ts (iY.of e)]
inductive zC(K:Frag)(C:Addr)(vs:List V)(H:Hp)(Q:VK)(E:XK):Prop
 |mk(p dx a:Addr) (n m:Int) (xs:List V) (M:oS) (_:vs=[.ref p, .int n, .int m, .ref a]) (_:H p=some (.ins C dx [])) (_:H a=some (.lst xs)) (_:a9 H xs M) (_:xs.length<=100) (_:∀t ys H',H t=none->(∀b o,H b=some o->b≠p->H' b=some o)->H' p=some (.ins C dx (YJ n m t))->H' t=some (.tup ys)->lI H' ys M->Q .non H')
noncomputable def ir(s:Nat):List Nat:=(range 8).filter s.testBit
theorem FW(s:Nat):(ir s).length=(yn s).length:=by unfold ir yn;rw[My]
theorem CO(s:Nat):yn s=(ir s).map λk:Nat=>(k:Int):=rfl
inductive sP(C:Addr)(vs:List V)(H:Hp)(Q:VK)(E:XK):Prop
 |mk(a:Addr) (n s:Nat) (m:Int) (M:oS) (_:vs=[.ref a, .int (s:Int)]) (_:ZF C H a n m M) (_:n<=8) (_:M.length<=8) (_:(∀r∈M,lJ n 200 r)) (_:ke m) (_:(m=0->M.length<=2)) (_:s<2^n) (_:∀(r:Nat) H',vc H H'->Rk m (M.map bY) (ir s) r->Q (.int (r:Int)) H')
noncomputable def X7(s:Nat)(r:qR):List Int:=(yn s).map λz=>r.getD z.toNat 0
noncomputable def Ij(s:Nat)(r:Yi):Yi:=λj=>if j<(ir s).length then r ((ir s).getD j 0)else 0
theorem Ii(s:Nat)(r:qR):bY (X7 s r)=Ij s (bY r):=by grind [bY,X7,Ij,CO,RP]
theorem Lg{M:oS}(h:Rk m ((M.map (X7 s)).map bY) (range (ir s).length) r):Rk m (M.map bY) (ir s) r:=by
 have:=Dt (f:=λj=>(ir s).getD j 0) h (M.map λr=>(bY r,bY (X7 s r))) (by rw[RP,RP];rfl) λe a j b=>by let(r,_,rfl):=RM.mp a;change m∣bY (X7 s r) j-bY r ((ir s).getD j 0);rw[Ii];unfold Ij;rw[RF (R1.mp b),adj];show Vo m
 rwa[BK,RP]at this
noncomputable def Yy(n:Int)(a b:Addr)(c f1:Int):List (Str×V):=aE "first_full" (.int f1) (aE "first_many" (.int c) (aE "second" (.ref b) (aE "first" (.ref a) (aE Xe (.int n) []))))
theorem Ox(n:Int)(a b:Addr)(c f1:Int):(Yy n a b c f1).lookup ("first_full":Str)=some (.int f1):=aq _ _ _
theorem Ow(n:Int)(b c:Addr)(a f1:Int):(Yy n b c a f1).lookup ("first_many":Str)=some (.int a):=by unfold Yy;rw[ae _ _ #[9],aq]
theorem Bu(n:Int)(b a:Addr)(c f1:Int):(Yy n b a c f1).lookup ("second":Str)=some (.ref a):=by unfold Yy;rw[ae _ _ #[9],ae _ _ #[9],aq]
theorem EC(n:Int)(a b:Addr)(c f1:Int):(Yy n a b c f1).lookup ("first":Str)=some (.ref a):=by unfold Yy;rw[ae _ _ #[9],ae _ _ #[9],ae _ _ #[9],aq]
theorem HE(n:Int)(a b:Addr)(c f1:Int):(Yy n a b c f1).lookup (Xe:Str)=some (.int n):=by unfold Yy;rw[ae _ _ #[9],ae _ _ #[9],ae _ _ #[9],ae _ _ #[9],aq]
theorem Hz(n:Int)(a b:Addr)(c f1:Int){m:Str}(g1:¬m= "first_full")(g2:¬m= "first_many")(g3:¬m= "second")(g4:¬m= "first")(g5:¬m= Xe):(Yy n a b c f1).lookup m=none:=by unfold Yy;rw[ae _ _ g1,ae _ _ g2,ae _ _ g3,ae _ _ g4,ae _ _ g5];rfl
def Rp(h:Addr)(H:Hp)(X:HsP)(a:Addr)(n:Nat)(r:Nat->Nat):Prop:=∃(i c d:Addr)(b e:Nat)(f g:Nat->Nat),n=b+e/\H a=some (.ins h i (Yy n c d b ((2^b-1:Nat):Int)))/\X c b f/\X d e g/\∀s,s<2^n->r s=f (s % 2^b)+g (s/2^b)
noncomputable def JH(Z:Hs)(b:Addr):Hs:=#[λH a n r=>Rp b H (Z.ho H) a n r,λC=>C=b]
theorem sf{Z:Hs}(z:gZ Z)(b:Addr):gZ (JH Z b) where
 same:=λe h=>by let(a,d,f,n1,n2,g,i,c,ha,g1,g2,j):=h;show#[a,d,f,n1,n2,g,i,c,e.at ha,z.same e g1,z.same e g2,j]
 shown:=λh=>by let(a,d,f,n1,n2,g,i,c,ha,_):=h;show#[b,2,a,_,ha,Hz _ _ _ _ _ #[9] #[9] #[9] #[9] #[9],Hz _ _ _ _ _ #[9] #[9] #[9] #[9] #[9],HE _ _ _ _ _]
inductive zE(Z:Hs)(cS:Addr)(vs:List V)(H:Hp)(Q:VK)(E:XK):Prop
 |mk(p dx h1 h2:Addr) (n1 n2:Nat) (r1 r2:Nat->Nat) (_:vs=[.ref p, .ref h1, .ref h2]) (_:H p=some (.ins cS dx [])) (_:Z.ho (A0 H p) h1 n1 r1) (_:Z.ho (A0 H p) h2 n2 r2) (_:n1+n2<=8) (_:∀H',(∀b o,H b=some o->b≠p->H' b=some o)->H' p=some (.ins cS dx (Yy ((n1+n2:Nat):Int) h1 h2 n1 ((2^n1-1:Nat):Int)))->Q .non H')
def YC(Z W:Hs):Hs:=#[λH a n r=>Z.ho H a n r\/W.ho H a n r,λC=>Z.dom C\/W.dom C]
theorem e6{Z W:Hs}(z:gZ Z)(w:gZ W):gZ (YC Z W) where
 same:=λe h=>h.imp (z.same e) (w.same e)
 shown:=λh=>by
  rcases h with h|h
  .let(C,a,b):=z.shown h;show#[C, .inl a,b]
  .let(C,a,b):=w.shown h;show#[C, .inr a,b]
theorem DG{Z:Hs}(z:gZ Z)(n:¬Z.dom C)(h:Z.ho H a m r)(g:∃b fs,H a=some (.ins C b fs)):False:=by let(i,d,f):=z.shown h;let(b,fs,c,_):=f.ex;let(j,k,e):=g;show n (yJ c e▸d)
theorem Og{Z W:Hs}(w:gZ W)(n:¬W.dom C)(vs:List V)(H:Hp)(Q:VK)(E:XK)(h:gh (YC Z W) C vs H Q E):gh Z C vs H Q E:=by
 let(a,m,s,r,e,b,g,d,c,k):=h;rcases b with b|b
 .show#[a,m,s,r,e,b,g,d,c,k]
 .show(DG w n b g).elim
theorem Of{Z W:Hs}(z:gZ Z)(n:¬Z.dom C)(vs:List V)(H:Hp)(Q:VK)(E:XK)(h:gh (YC Z W) C vs H Q E):gh W C vs H Q E:=by
 let(a,m,s,r,e,b,g,d,c,k):=h;rcases b with b|b
 .show(DG z n b g).elim
 .show#[a,m,s,r,e,b,g,d,c,k]
theorem ux{Z W:Hs}(z:gZ Z)(e:gZ W)(b:∀C,Z.dom C->¬W.dom C)(hz:∀C,Z.dom C->cJ P w K mg base j C Xx ["self","s"] (gh Z C))(c:∀C,W.dom C->cJ P w K mg base j C Xx ["self","s"] (gh W C)):
  ∀C,(YC Z W).dom C->cJ P w K mg base j C Xx ["self","s"] (gh (YC Z W) C):=λC a=>by
 rcases a with a|a
 .show cJ.imp (hz C a) (Og e (b C a))
 .show cJ.imp (c C a) (Of z λd=>b C d a)
theorem z7:∀(b:List V),(∀y∈b,∃(c:Addr)(t:Nat×Nat),y= .ref c/\H c=some (.tup [.int t.1, .int t.2])/\t.1<p/\t.2<p)->∃ts,bJ H b ts/\eO p ts
 | [],_=>#[[],bJ.nil,λt g=>by cases g]
 |y::b,h=>by
  let(ts,d,e):=z7 b λz hz=>h z (RI _ hz);let(c,t,rfl,f,t1,j):=h y RH;show#[t::ts,#[by rw[R3,R3,d.1],λi u a=> ?_],λu a=> ?_]
  .cases i with
   |zero=>cases a;show#[c,2,f]
   |succ i=>show d.2 i u #[5,a]
  .rcases RT.mp a with rfl|a
   .show#[t1,j]
   .show e u a
theorem Jm{n:Nat}(n8:n<=8)(m:Nat):z8 n (λs=>min (sz s) m) where
 n8:=n8
 zero:=by change min (sz 0) m=0;rw[i7];show Nat.zero_min m
 step:=λs k a h=>by
  let b:=zp s (BD n8 a) k ();let c:sz s<=sz (s|||2^k):=lP λj _ f=>by rw[aR,f];rfl
  change min (sz s) m<=min (sz (s|||2^k)) m/\min (sz (s|||2^k)) m<=min (sz s) m+1;lia
 sub:=λs j k a f h b c=>by
  by_cases d:s.testBit j=true
  .rw[rY d];show c
  .let e:=sy (BD n8 a) (show j<8 by lia) (Us.mpr d);let o:sz (s|||2^j)<=sz (s|||2^j|||2^k):=lP λi _ g=>by rw[aR (s|||2^j),g];rfl
   change min (sz (s|||2^j|||2^k)) m=min (sz s) m;let l:min (sz (s|||2^j)) m=min (sz s) m:=b;lia
def Rv(b:Addr)(H:Hp)(a:Addr)(n:Nat)(r:Nat->Nat):Prop:=∃(m:Int) (M:oS),ZF b H a n m M/\M.length<=8/\(∀x∈M,lJ n 200 x)/\ke m/\(m=0->M.length<=2)/\∀s,s<2^n->∀q,Rk m (M.map bY) (ir s) q->q=r s
noncomputable def ZQ(a:Addr):Hs:=#[Rx a,λC=>C=a]
noncomputable def X0(a:Addr):Hs:=#[Bb a,λC=>C=a]
noncomputable def MM(a:Addr):Hs:=#[Rw a,λC=>C=a]
noncomputable def ZP(a:Addr):Hs:=#[Rv a,λC=>C=a]
theorem yK(c:Addr):gZ (ZQ c) where
 same:=λe ⟨a,m,b,d⟩=>#[a,m,e.at b,d]
 shown:=λ⟨a,m,b,d⟩=>#[c,2,a,_,b,JX _ _,FQ _ _,J0 _ _]
theorem a8(b:Addr):gZ (X0 b) where
 same:=λe ⟨ms,a,c⟩=>#[ms,a.same e,c]
 shown:=λ⟨ms,⟨d,t,a,_⟩,c⟩=>#[b,2,d,_,a,Jr _ _,Fw _ _,Jt _ _]
theorem oZ(b:Addr):gZ (MM b) where
 same:=λe ⟨p,ts,a,c⟩=>#[p,ts,a.same e,c]
 shown:=λ⟨p,ts,⟨d,t,xs,a,_⟩,c⟩=>#[b,2,d,_,a,IV _ _ _,Fc _ _ _,IW _ _ _]
theorem uJ(b:Addr):gZ (ZP b) where
 same:=λe ⟨m,M,a,c⟩=>#[m,M,a.same e,c]
 shown:=λ⟨m,M,⟨d,t,xs,a,_⟩,c⟩=>#[b,2,d,_,a,Gz _ _ _,Eg _ _ _,GC _ _ _]
theorem Rb(vs:List V)(H:Hp)(Q:VK)(E:XK)(h:gh (ZQ cE) cE vs H Q E):xG cE vs H Q E:=by
 let(a,n,s,r,rfl,(c,m,d,f),_,g,b,k):=h;let j:=BD g b;show#[a,c,117,d,99,λH' i=> ?_];have:=k H' i;rw[f s b]at this;let e:Qx ((yn (s:Int).toNat).length:Nat) (m:Int)=((min (sz s) m:Nat):Int):=by rw[RA];show(if(m:Int)<((sz s:Nat):Int)then(m:Int)else((sz s:Nat):Int))=_;split<;>lia
 rw[e];show this
theorem Ra(vs:List V)(H:Hp)(Q:VK)(E:XK)(h:gh (X0 cL) cL vs H Q E):Dc cL vs H Q E:=by let(a,n,s,r,rfl,(ms,c,d,e,f),_,g,b,k):=h;let j:=BD g b;show#[a,11,ms,2,c,d,e,99,λH' i=> ?_];have:=k H' i;rw[f s b]at this;rw[RA];show this
theorem Q9(vs:List V)(H:Hp)(Q:VK)(E:XK)(h:gh (MM cN) cN vs H Q E):xF cN vs H Q E:=by let(a,n,s,r,rfl,(p,ts,c,d,e,f,g),_,j,b,k):=h;show#[a,_,p,s,ts,2,c,d,e,9,by rw[f];show b,λH' i=> ?_];have:=k H' i;rwa[g s b]at this
theorem Q8(vs:List V)(H:Hp)(Q:VK)(E:XK)(h:gh (ZP cT) cT vs H Q E):sP cT vs H Q E:=by let(a,n,s,r,rfl,(m,M,c,d,e,i,f,g),_,j,b,k):=h;show#[a,n,s,m,M,2,c,j,d,e,i,f,b,λl H' o v=> ?_];rw[g s b l v];show k H' o
inductive zA(Z:Hs)(vs:List V)(H:Hp)(Q:VK)(E:XK):Prop
 |mk(h:Addr) (n:Nat) (r:Nat->Nat) (_:vs=[.ref h]) (_:Z.ho H h n r) (_:n<=8) (_:∀p H',vc H H'->H p=none->H' p=some (.lst ((aI n r).map int))->Q (.ref p) H')
theorem BJ(vs:List V)(H:Hp)(Q:VK)(E:XK)(h:zB Z vs H Q E):zA Z vs H Q E:=by let(a,n,ms,rfl,zo,k):=h;show#[a,n,ag ms,2,zo.ho,zo.n8,λp H' c b hl=>k p H' c b hl]
structure Cs where
 (E L N T M O S:Addr)
noncomputable def X5(c:Cs):Hs:=YC (Zu (X0 c.L) c.O) (YC (YC (ZQ c.E) (YC (MM c.N) (ZP c.T))) (YC (JJ (X0 c.L) c.M) (JH (X0 c.L) c.S)))
theorem JK(c:Cs):gZ (X5 c):=e6 (JI (a8 _) _) (e6 (e6 (yK _) (e6 (oZ _) (uJ _))) (e6 (sg (a8 _) _) (sf (a8 _) _)))
theorem r9(M:z8 n r)(h:Zx cL H p n r):Bb cL H p n r:=by let(ms,c,mem):=h;let p8:=gO M.n8;show#[ms,c,M.MX mem,λz hz=>by let(b,d,rfl,_):=(mem z).mp hz;lia,λs a=>(M.uY mem a).symm]
def Y6(c:Cs)(Q:VK)(H:Hp)(n:Nat)(r:Nat->Nat):Prop:=∀p H',vc H H'->(X5 c).ho H' p n r->Q (.ref p) H'
inductive Nr(c:Cs)(vs:List V)(H:Hp)(Q:VK)(E:XK):Prop
 |mk(hs g:Addr) (n k:Nat) (_:vs=[.ref hs, .ref g]) (_:H g=some (.lst [.int (n:Int), .int (k:Int)])) (_:Y6 c Q H n (λs=>min (sz s) k))
inductive sQ(c:Cs)(pr:Nat->(Nat->Nat)->Nat->Prop)(vs:List V)(H:Hp)(Q:VK)(E:XK):Prop
 |mk(hs g b:Addr) (n:Nat) (ms:qs) (r:Nat->Nat) (_:vs=[.ref hs, .ref g]) (_:H g=some (.lst [.int (n:Int), .ref b])) (_:H b=some (.lst ((au ms).map int))) (_:ms.length<=256) (_:z8 n r) (_:(∀s,s∈ms↔pr n r s)) (_:Y6 c Q H n r)
def NS(n:Nat)(r:Nat->Nat)(s:Nat):Prop:=s<2^n/\iZ r s
inductive Nq(c:Cs)(vs:List V)(H:Hp)(Q:VK)(E:XK):Prop
 |mk(hs g b:Addr) (p:Nat) (us:List V) (ts:List (Nat×Nat)) (_:vs=[.ref hs, .ref g]) (_:H g=some (.lst [.int (p:Int), .ref b])) (_:H b=some (.lst us)) (_:bJ H us ts) (_:eO p ts) (_:p<=9) (_:ts.length<=8) (_:Y6 c Q H ts.length (Yh (ts.map fb)))
def Gh(m n:Nat)(M:oS)(a:Nat->Nat):Prop:=((m:Int)=0->M.length<=2)/\∀s,s<2^n->∀q,Rk m (M.map bY) (ir s) q->q=a s
inductive Nn(c:Cs)(vs:List V)(H:Hp)(Q:VK)(E:XK):Prop
 |mk(hs g b:Addr) (m n:Nat) (us:List V) (M:oS) (rk:Nat->Nat) (_:vs=[.ref hs, .ref g]) (_:H g=some (.lst [.int (m:Int), .int (n:Int), .ref b])) (_:H b=some (.lst us)) (_:a9 H us M) (_:pH m n M) (_:ke (m:Int)) (_:Gh m n M rk) (_:Y6 c Q H n rk)
inductive Np(c:Cs)(vs:List V)(H:Hp)(Q:VK)(E:XK):Prop
 |mk(hs g h:Addr) (n:Nat) (r:Nat->Nat) (_:vs=[.ref hs, .ref g]) (_:H hs=some (.lst [.ref h])) (_:Bb c.L H h n r) (_:z8 n r) (_:Y6 c Q H n (lC n r))
inductive De(c:Cs)(out:Bool)(vs:List V)(H:Hp)(Q:VK)(E:XK):Prop
 |mk(hs g h:Addr) (n s:Nat) (r:Nat->Nat) (_:vs=[.ref hs, .ref g]) (_:H hs=some (.lst [.ref h])) (_:H g=some (.lst [.int (s:Int)])) (_:Bb c.L H h n r) (_:z8 n r) (_:s<2^n) (_:Y6 c Q H (sz (aB (2^n-1) s)) (uw r (aB (2^n-1) s) (if out then 0 else s)))
inductive Nt(c:Cs)(vs:List V)(H:Hp)(Q:VK)(E:XK):Prop
 |mk(hs g h1 h2:Addr) (n1 n2:Nat) (r1 r2:Nat->Nat) (_:vs=[.ref hs, .ref g]) (_:H hs=some (.lst [.ref h1, .ref h2])) (_:Bb c.L H h1 n1 r1) (_:Bb c.L H h2 n2 r2) (_:n1+n2<=8) (_:Y6 c Q H (n1+n2) (λs=>r1 (s % 2^n1)+r2 (s/2^n1)))
inductive Qg(vs:List V)(H:Hp)(Q:VK)(E:XK):Prop
 |mk(b:Bool) (x:V) (_:vs=[.bl b,x]) (_:b=true) (_:Q .non H)
inductive Hv(c:Cs)(vs:List V)(H:Hp)(Q:VK)(E:XK):Prop
 |mk(h:Addr) (n s:Nat) (r:Nat->Nat) (_:vs=[.ref h, .int (s:Int)]) (_:Bb c.L H h n r) (_:n<=8) (_:s<2^n) (_:∀H',vc H H'->Q .non H')
noncomputable def lW(c:Cs):List (Str×Sp):=[("even",Nr c),(Xu,sQ c mY),(Xq,sQ c NS),(Xz,sQ c iy),("net",Nq c),(XE,Nn c),("other",Np c),("out",De c true),(XO,De c false),("side",Nt c)]
inductive Oj(c:Cs)(vs:List V)(H:Hp)(Q:VK)(E:XK):Prop
 |mk(z:Str) (hs g:Addr) (_:vs=[.str z, .ref hs, .ref g]) (_:z∈cK) (_:iP (lW c) z [.ref hs, .ref g] H Q E0)
noncomputable def vV(l:qs):Str:=if l=[]then "none" else aaK " " (l.map aT)
inductive Bn(K:Frag)(vs:List V)(H:Hp)(Q:VK)(E:XK):Prop
 |mk(a:Addr) (l:qs) (_:vs=[.ref a]) (_:vr K H a ((au l).map int)) (_:l.length<=300) (_:(∀s∈l,s<256)) (_:∀H',vc H H'->Q (.str (aaK " " (l.map aT))) H')
inductive C8(K:Frag)(vs:List V)(H:Hp)(Q:VK)(E:XK):Prop
 |mk(a:Addr) (l:qs) (_:vs=[.ref a]) (_:vr K H a ((au l).map int)) (_:l.length<=300) (_:(∀s∈l,s<256)) (_:∀H',vc H H'->Q (.str (vV l)) H')
noncomputable def Zo(b:Bool):Str:=if b=true then "yes" else "no"
inductive Q6(vs:List V)(H:Hp)(Q:VK)(E:XK):Prop
 |mk(b:Bool) (_:vs=[.bl b]) (_:Q (.str (Zo b)) H)
noncomputable def fg(n:Nat)(ms:qR):List Nat:=(range (2^n)).filter (lG ms (ag ms (2^n-1)))
noncomputable def tM(n:Nat)(ms:qR):List Nat:=(range (2^n)).filter (eB ms)
noncomputable def uL(n:Nat)(ms:qR):List Nat:=(range (2^n)).filter (eR ms n)
noncomputable def qB(n:Nat)(ms:qR):List Nat:=(range (2^n)).filter (j9 ms)
def Pm(c:Cs)(H:Hp)(h:Addr)(n:Nat)(ms:qR):Prop:=Bb c.L H h n (ag ms)/\n<=8
theorem Pm.zo(x:Pm c H h n ms):Yt (X5 c) H h n ms:=#[.inl (.inl x.1),x.2]
theorem Pm.same(x:Pm c H h n ms)(s:vc H H'):Pm c H' h n ms:=#[(a8 c.L).same s x.1,x.2]
inductive mC(c:Cs)(f:Nat->List Int->List Nat)(vs:List V)(H:Hp)(Q:VK)(E:XK):Prop
 |mk(hs g h:Addr) (n:Nat) (ms:qR) (_:vs=[.ref hs, .ref g]) (_:H hs=some (.lst [.ref h])) (_:Pm c H h n ms) (_:∀H',vc H H'->Q (.str (vV (f n ms))) H')
inductive vU(c:Cs)(f:Nat->List Int->Nat->Str)(vs:List V)(H:Hp)(Q:VK)(E:XK):Prop
 |mk(hs g h:Addr) (n s:Nat) (ms:qR) (_:vs=[.ref hs, .ref g]) (_:H hs=some (.lst [.ref h])) (_:H g=some (.lst [.int (s:Int)])) (_:Pm c H h n ms) (_:s<2^n) (_:∀H',vc H H'->Q (.str (f n ms s)) H')
noncomputable def vZ(a b:Nat)(m1 m2:qR):Bool:=decide (a=b)&&decide (fg a m1=fg b m2)
inductive Ni(c:Cs)(vs:List V)(H:Hp)(Q:VK)(E:XK):Prop
 |mk(hs g h1 h2:Addr) (n1 n2:Nat) (m1 m2:qR) (_:vs=[.ref hs, .ref g]) (_:H hs=some (.lst [.ref h1, .ref h2])) (_:Pm c H h1 n1 m1) (_:Pm c H h2 n2 m2) (_:∀H',vc H H'->Q (.str (Zo (vZ n1 n2 m1 m2))) H')
noncomputable def gg(c:Cs):List (Str×Sp):=[(Xu,mC c fg),(Xq,mC c tM),(Xz,mC c uL),(XN,mC c qB),(Xx,vU c λ_ ms s=>aw (ag ms s:Nat)),(XQ,vU c λn ms s=>aT (fj ms n s)),(XG,Ni c)]
inductive Ov(c:Cs)(vs:List V)(H:Hp)(Q:VK)(E:XK):Prop
 |mk(z:Str) (hs g:Addr) (_:vs=[.str z, .ref hs, .ref g]) (_:hU z) (_:iP (gg c) z [.ref hs, .ref g] H Q E0)
theorem fH(b:n<=8)(p:Nat->Bool):((range (2^n)).filter p).length<=300/\∀s∈(range (2^n)).filter p,s<256:=by
 let p8:=gO b;constructor
 .have:=SA p (range (2^n));rw[RW]at this;lia
 .intro s a;have:=R1.mp (Sn.mp a).1;lia
theorem Fd:au l=au m↔l=m:=#[λh=>by have:=Se (λx:List Int=>x.map aeq) h;simpa [au,RP,Function.comp_def]using this,Se au]
theorem xq(c:n<=8)(b:s<2^n):fj ms n s<2^n:=by rw[xr c];show Vd _ λi a=> ?_;rw[lF,Sv (RK b (R7 ∅ a)),RL (show¬i<n by lia)];rfl
theorem eJ(h:k<2^60):((k:Nat):Int).natAbs.log2<1920:=by
 change k.log2<1920;by_cases e:k=0
 .rw[e];decide
 .show Tp ((W3 e).mpr h) ∅
theorem qz{l:qs}{fr:qs}{o:St}(B:vr K H a ((au l).map int))(hl:l.length<=300)(q:∀s∈l,s<256)(M:∀(i:Nat)(u:V)(m:Nat)(vs:St)(H':Hp)(R:V->St->Hp->Prop)(S:St->Hp->Prop),u= .int (m:Int)->vs.length=1->vc H H'->m<256->(∀d c,d.length=1->vc H' c->R (.str (aT m)) (d++fr.map λj=>(o[j]?).join) c)->
   g u (vs++fr.map λj=>(o[j]?).join) H' λf k=>tc f k λb H4=>if b=true then te f H4 λy r=>R y f r else S f H4)(G:∀D H',vc H H'->H' D=some (.lst ((l.map aT).map str))->((l.map aT).map (·.length)).sum+(l.map aT).length*1<=16777216->Q (.ref D) H'):Yb (YU K a) g tc te 1 fr o H Q:=by
 let U:((au l).map int).length=l.length:=by rw[My,aO]
 show aG (λ_=>true) (λv=> .str (match v with| .int z=>aT z.toNat|_=> "")) B (by rw[U];show RB hl ∅) (λi x vs c R S hx N n J=> ?_) λD c hD n p=> ?_
 .rw[RU]at hx;let(z,hz,rfl):=UQ.mp hx;let(m,L,rfl):=cF hz;show M i _ m vs c R S rfl N n (q m (RG L)) λd k t w=> ?_;have:=J d k t w
  rwa [RF rfl]at this
 .let e:bD (λ_=>true) (λv=>str (match v with| .int z=>aT z.toNat|_=> "")) ((au l).map int)=(l.map aT).map str:=by unfold bD au;rw[Sd.mpr (λ_ _=>rfl),RP,RP,RP];rfl
  rw[e]at p;show G D c n p ?_;let A:∀l:List Nat,(∀s∈l,s<256)->((l.map aT).map (·.length)).sum<=l.length*8:=λl=>by
   induction l with
   |nil=>intro _;simp
   |cons s l O=>
    intro h;have:=(zM s (h s RH)).2.1;let i:=O λx hx=>h x (RI _ hx);let e:(aT s).length=(mF s).length:=rfl;simp only[Sg,VD,R3];lia
  let h2:=A l q;rw[My];lia
noncomputable def Zv(d:Addr):List (Str×V):=aE "houses" (.ref d) []
theorem oa(d:Addr):(Zv d).lookup ("houses":Str)=some (.ref d):=aq _ _ _
theorem CD(d:Addr){m:Str}(h:¬m= "houses"):(Zv d).lookup m=none:=by unfold Zv;rw[ae _ _ h];rfl
abbrev XT:=List (Dn×V)
noncomputable abbrev D1(l:XT)(z:Str):Option V:=dA l (.inr z)
def mz(C:Addr)(H:Hp)(p d:Addr)(l:XT):Prop:=∃a,H p=some (.ins C a (Zv d))/\H d=some (.dK l)
theorem mz.same(h:mz C H p d l)(s:vc H H'):mz C H' p d l:=by let(a,b,c):=h;show#[a,s.at b,s.at c]
def SameBut(d:Addr)(H H':Hp):Prop:=∀b o,H b=some o->b≠d->H' b=some o
inductive zI(C:Addr)(vs:List V)(H:Hp)(Q:VK)(E:XK):Prop
 |mk(p dx:Addr) (_:vs=[.ref p]) (_:H p=some (.ins C dx [])) (_:∀d H',H d=none->SameBut p H H'->mz C H' p d []->Q .non H')
inductive sR(C Cn:Addr)(vs:List V)(H:Hp)(Q:VK)(E:XK):Prop
 |mk(p d:Addr) (l:XT) (z:Str) (_:vs=[.ref p, .str z]) (_:mz C H p d l) (_:z.length<=61) (_:(∀v,D1 l z=some v->Q v H)) (_:(D1 l z=none->∀ea,H ea=none->E (.ref Cn) (some ea) H))
structure Ask(l:XT)(Cn:Addr)(xs:qq)(R:List V->Hp->Prop)(H:Hp)(E:XK):Prop where
 short:∀y∈xs,y.length<=61
 few:xs.length<=10
 mono:∀ys H1 H2,vc H1 H2->R ys H1->R ys H2
 none:(∃y∈xs,D1 l y=none)->∀H' ea,vc H H'->E (.ref Cn) (some ea) H'
noncomputable def jZ(l:XT)(xs:qq):List V:=xs.map λy=>(D1 l y).getD .non
def All(l:XT)(xs:qq):Prop:=∀y∈xs,∃v,D1 l y=some v
def Rq(K:Frag)(c:Cs)(k:Addr)(d:Addr)(l:XT)(z:Str)(H:Hp)(Q:VK)(E:XK):Prop:=∃(x v:Str)(r xs:qq)(R:List V->Hp->Prop),
 dM z=x:: "="::v::r/\bW x/\v∈cK/\Ask l k xs R H E/\
 (∀i b (e:VK),vc H b->b i=some (.lst (r.map str))->YQ e b (xs.map str) R->iP (da K) v [.ref i] b e E0)/\
 (All l xs->∃(n:Nat)(f:Nat->Nat),z8 n f/\(∀h g j b (e:VK),vc H b->b h=some (.lst (jZ l xs))->b g=some (.lst j)->R j b->Y6 c e b n f->iP (lW c) v [.ref h, .ref g] b e E0)/\
  ∀a ms H',SameBut d H H'->Pm c H' a n ms->z8 n (ag ms)->(∀s,s<2^n->f s=ag ms s)->H' d=some (.dK (d6 l (.inr x) (.ref a)))->Q (.str "ok") H')
def Rr(K:Frag)(c:Cs)(i:Addr)(l:XT)(z:Str)(H:Hp)(Q:VK)(E:XK):Prop:=∃(v:Str)(r xs:qq)(R:List V->Hp->Prop),
 dM z=v::r/\r.head?≠some "="/\hU v/\Ask l i xs R H E/\
 (∀e a (b:VK),vc H a->a e=some (.lst (r.map str))->YQ b a (xs.map str) R->iP (gr K) v [.ref e] a b E0)/\
 (All l xs->∃f:Str,(∀d g h a (b:VK),vc H a->a d=some (.lst (jZ l xs))->a g=some (.lst h)->R h a->(∀H',vc a H'->b (.str f) H')->iP (gg c) v [.ref d, .ref g] a b E0)/\∀H',vc H H'->Q (.str f) H')
inductive mE(K:Frag)(c:Cs)(C Cn:Addr)(vs:List V)(H:Hp)(Q:VK)(E:XK):Prop
 |mk(p d:Addr) (l:XT) (z:Str) (_:vs=[.ref p, .str z]) (_:mz C H p d l) (_:l.length<=1000) (_:z.length+2<=sizeLine) (_:(Rq K c Cn d l z H Q E\/Rr K c Cn l z H Q E))
theorem MN(e:∀s,s<2^n->r s=r' s)(h:(X5 c).ho H a n r):(X5 c).ho H a n r':=by
 rcases h with (⟨ms,d,f,g,i⟩|⟨j,h',q,d,f,g⟩)|((⟨j,m,d,f⟩|⟨p,ts,d,f,g,i,l⟩|⟨m,M,d,f,g,i,o,l⟩)|(⟨j,h',u,k,w,q,d,f,g,i,l,o,t⟩|⟨j,g1,g2,v,x,y,z,d,f,g,i,l⟩))
 .show .inl (.inl #[ms,d,f,g,λs b=>(e s b).symm.trans (i s b)])
 .show .inl (.inr #[j,h',q,d,f,λs b=>e s b▸g s b])
 .show .inr (.inl (.inl #[j,m,d,λs b=>(e s b).symm.trans (f s b)]))
 .show .inr (.inl (.inr (.inl #[p,ts,d,f,g,i,λs b=>e s b▸l s b])))
 .show .inr (.inl (.inr (.inr #[m,M,d,f,g,i,o,λs b q k=>(l s b q k).trans (e s b)])))
 .show .inr (.inr (.inl #[j,h',u,k,w,q,d,f,g,i,l,o,λs b=>e s b▸t s b]))
 .show .inr (.inr (.inr #[j,g1,g2,v,x,y,z,d,f,g,i,λs b=>(e s b).symm.trans (l s b)]))
theorem Fp(M:z8 n r)(h:∀s,s<2^n->r' s=r s):z8 n r':=by
 show#[M.n8,by rw[h 0 (Su ()),M.zero],λs k a b=> ?_,λs j k a c b d e=> ?_]
 .rw[h s a,h _ (aJ a b)];show M.step s k a b
 .rw[h _ (aJ (aJ a c) b),h s a];rw[h _ (aJ a c),h s a]at d;rw[h _ (aJ a b),h s a]at e;show M.sub s j k a c b d e
theorem Cj(M:z8 n r):∃ms:List Int,(∀s,s<2^n->r s=ag ms s)/\z8 n (ag ms):=by
 let g:∀z:Int,z∈(au ((range (2^n)).filter λb=>decide (r b=sz b/\r b=r (2^n-1))))↔∃b:Nat,b<2^n/\z=(b:Int)/\r b=sz b/\r b=r (2^n-1):=λz=>by
  constructor
  .intro h;let(b,f,rfl):=c9 h;let(a,c):=Sn.mp f;show#[b,R1.mp a,2,RV c]
  .rintro⟨b,a,rfl,c⟩;show RM.mpr #[b,Sn.mpr #[R1.mpr a,RE c],2]
 let e:∀s,s<2^n->ag _ s=r s:=λs d=>M.uY g d;show#[_,λs d=>(e s d).symm,Fp M e]
theorem wV(b:Nat):b∈(range (2^n)).filter (lG ms (ag ms (2^n-1)))↔mY n (ag ms) b:=by rw[Sn,R1];unfold lG mY;rw[RZ,Ss,Ss];show#[λh=>#[h.1,h.2.1,h.2.1.trans h.2.2],λh=>#[h.1,h.2.1,h.2.1.symm.trans h.2.2]]
theorem Gf{n:Nat}(h:CV cL H p n (au (fg n ms))):Zx cL H p n (ag ms):=by
 show#[_,h,λz=>#[λhz=> ?_,λ⟨b,a,c,d⟩=> ?_]]
 .let(b,e,rfl):=c9 hz;let(a,c,d):=(wV b).mp e;show#[b,a,2,c,d]
 .show RM.mpr #[b,(wV b).mpr #[a,d],c.symm]
theorem Pm.but{l:XT}(x:Pm c H h n ms)(e:H d=some (.dK l))(s:SameBut d H H'):Pm c H' h n ms:=by obtain⟨⟨j,⟨f,t,a,b,g⟩,i⟩,k⟩:=x;show#[#[j,#[f,t,s _ _ a (by rintro rfl;rw[e]at a;cases a),s _ _ b (by rintro rfl;rw[e]at b;cases b),g],i],k]
inductive Ot(K:Frag)(c:Cs)(C Cn:Addr)(vs:List V)(H:Hp)(Q:VK)(E:XK):Prop
 |mk(p:Addr) (z due:Str) (_:vs=[.ref p, .str z, .str due]) (_:(∃dx fs,H p=some (.ins C dx fs)/\fs.lookup ("say":Str)=none)) (_:∀Q':VK,(∀H',Q (.bl true) H'->Q' (.str due) H')->mE K c C Cn [.ref p, .str z] H Q' (λ_ _ _=>False))
inductive Oq(K:Frag)(c:Cs)(C Cn:Addr)(vs:List V)(H:Hp)(Q:VK)(E:XK):Prop
 |mk(p:Addr) (z:Str) (_:vs=[.ref p, .str z]) (_:(∃dx fs,H p=some (.ins C dx fs)/\fs.lookup ("say":Str)=none)) (_:(∀(Q':VK)(E':XK),(∀H' ea,vc H H'->E' (.ref Cn) (some ea) H')->mE K c C Cn [.ref p, .str z] H Q' E')) (_:∀H',vc H H'->Q (.bl true) H')
inductive Oc(vs:List V)(H:Hp)(Q:VK)(E:XK):Prop
 |mk(x:Int) (k:Nat) (_:vs=[.int x, .int (k:Int)]) (_:k<=100) (_:∀p (xs:qR) H',vc H H'->H' p=some (.lst (xs.map int))->xs.length=8->(∀z∈xs,0<=z)->Q (.ref p) H')
noncomputable def Yj(n:Nat):List Int:=(range (2^n)).map λs=>((sz s:Nat):Int)
inductive KU(vs:List V)(H:Hp)(Q:VK)(E:XK):Prop
 |mk(n:Nat) (_:vs=[.int (n:Int)]) (_:n<=8) (_:∀p H',vc H H'->H p=none->H' p=some (.lst ((Yj n).map int))->Q (.ref p) H')
inductive Hj(K:Frag)(vs:List V)(H:Hp)(Q:VK)(E:XK):Prop
 |mk(a:Addr) (xs:List V) (n:Nat) (_:vs=[.ref a]) (_:vr K H a xs) (_:xs.length=2^n) (_:n<=8) (_:∀H',vc H H'->Q (.int (n:Int)) H')
inductive Ob(vs:List V)(H:Hp)(Q:VK)(E:XK):Prop
 |mk(s:Nat) (_:vs=[.int (s:Int)]) (_:s<256) (_:∀H',vc H H'->Q (.str (aT s)) H')
theorem sI{n s:Nat}(a:s<2^n):F1 ((Yj n).map int) (s:Int)=some (.int (sz s:Nat)):=bB (by unfold Yj;rw[RU,RU,SJ a];rfl)
theorem yF:∀n:Nat,n<8->∀m:Nat,m<2^n->(range (2^n)).filter (λs=>decide (s&&&m=0))=(range (2^sz (aB (2^n-1) m))).map λi=>bL i (aB (2^n-1) m):=#[9]
inductive Ou(K:Frag)(vs:List V)(H:Hp)(Q:VK)(E:XK):Prop
 |mk(a b:Addr) (n1 n2:Nat) (r1 r2:Nat->Nat) (_:vs=[.ref a, .ref b]) (_:vr K H a ((aI n1 r1).map int)) (_:vr K H b ((aI n2 r2).map int)) (_:n1+n2<=8) (_:∀p H',vc H H'->H p=none->H' p=some (.lst ((aI (n1+n2) (j3 n1 r1 r2)).map int))->Q (.ref p) H')
noncomputable def j6(r:Nat->Nat)(m:Nat):List Int:=(range m).map λs=>(r s:Int)
theorem tY(r:Nat->Nat)(m:Nat):j6 r (m+1)=j6 r m++[(r m:Int)]:=by unfold j6;rw[Td,R6];rfl
inductive Dd(K:Frag)(vs:List V)(H:Hp)(Q:VK)(E:XK):Prop
 |mk(b:Addr) (n:Nat) (r:Nat->Nat) (_:vs=[.ref b]) (_:vr K H b ((aI n r).map int)) (_:z8 n r) (_:∀p H',vc H H'->H p=none->H' p=some (.lst ((aI n (lC n r)).map int))->Q (.ref p) H')
inductive Hh(K:Frag)(vs:List V)(H:Hp)(Q:VK)(E:XK):Prop
 |mk(b:Addr) (n o w:Nat) (r:Nat->Nat) (_:vs=[.ref b, .int (o:Int), .int (w:Int)]) (_:vr K H b ((aI n r).map int)) (_:z8 n r) (_:n<=7) (_:o<2^n) (_:w<2^n) (_:∀p H',vc H H'->H p=none->H' p=some (.lst ((aI (sz (aB (2^n-1) (o|||w))) (uw r (aB (2^n-1) (o|||w)) w)).map int))->Q (.ref p) H')
theorem Nh:∀n:Nat,n<9->∀k:Nat,k<2^n->sz k<=n:=#[9]
noncomputable def YX(n m:Nat)(r:Nat->Nat)(w i:Nat):List Int:=((range i).filter λs=>decide (s&&&m=0)).map λs=>(r (s|||w):Int) - (r w:Int)
theorem Jc(n m:Nat)(r:Nat->Nat)(w i:Nat):YX n m r w (i+1)=if i&&&m=0 then YX n m r w i++[(r (i|||w):Int) - (r w:Int)]else YX n m r w i:=by
 unfold YX;rw[Td,TB,R6];by_cases h:i&&&m=0
 .rw[RF h,WW (p:=λs=>decide (s&&&m=0)) (RE h)];rfl
 .rw[RQ h,Vw (p:=λs=>decide (s&&&m=0)) (by rw[RL h];show RO)];simp
theorem Cg(n m:Nat)(r:Nat->Nat)(w i:Nat):(YX n m r w i).length<=i:=by unfold YX;rw[My];have:=SA (λs=>decide (s&&&m=0)) (range i);rwa[RW]at this
theorem Mq(M:z8 n r)(c:n<=7)(a:m<2^n)(b:w<2^n):YX n m r w (2^n)=aI (sz (aB (2^n-1) m)) (uw r (aB (2^n-1) m) w):=by unfold YX aI;rw[yF n () m a,RP];show SI λi _=> ?_;show(M.min_int gq b i).symm
theorem IA(x y:Nat):(x&&&y)+(x^^^y)=x|||y:=by
 let h:=lH (x|||y) (x|||y) (x&&&y) (RJ _);let a:(x|||y)&&& (x&&&y)=x&&&y:=Sa λi=>by rw[Sr,Sr,Ta];cases x.testBit i<;>cases y.testBit i<;>rfl
 let b:(x|||y)^^^ (x&&&y)=x^^^y:=Sa λi=>by rw[Tr,Tr,Sr,Ta];cases x.testBit i<;>cases y.testBit i<;>rfl
 rwa[a,b]at h
theorem uZ(x y:Nat):aaY (x:Int) (y:Int)=((x^^^y:Nat):Int):=by unfold aaY;rw[bO,bX];have:=IA x y;lia
inductive Qd(K:Frag)(vs:List V)(H:Hp)(Q:VK)(E:XK):Prop
 |mk(a:Addr) (cols:qs) (s:Nat) (_:vs=[.ref a, .int (s:Int)]) (_:vr K H a ((d5 cols).map int)) (_:cols.length<=8) (_:s<2^cols.length) (_:∀H',vc H H'->Q (.int (Yh cols s:Nat)) H')
noncomputable def j8(a:qs)(s i:Nat):List Nat:=(range i).map λk=>if s.testBit k=true then a.getD k 0 else 0
theorem GP(ss:qs):Ys ss 0=ss:=by unfold Ys;rw[zX,RQ (S2 0)]
theorem i9(g:Nat->Nat)(p:Nat->Bool):∀(l:qs)(ss:qs),(l.map λk=>if p k=true then g k else 0).foldl Ys ss=((l.filter p).map g).foldl Ys ss
 | [],_=>rfl
 |k::l,ss=>by
  rw[Sg,SD];cases a:p k with
  |true=>rw[RF rfl,WW a,Sg,SD];show i9 g p l _
  |false=>rw[RQ RO,GP,Vw (by rw[a];show RO)];show i9 g p l _
theorem Fq{a:qs}(f:a.length<=8)(b:s<2^a.length):(dO (j8 a s a.length)).length=Yh a s:=by
 unfold Yh X1;congr 1;unfold dO j8;rw[i9 (λk=>a.getD k 0) s.testBit];congr 1;unfold cq yn;rw[RP];let e:∀n,n<=8->s<2^n->(range n).filter s.testBit=(range 8).filter s.testBit:=by
  intro n j b;let c:∀d,n+d<=8->(range (n+d)).filter s.testBit=(range n).filter s.testBit:=by
   intro d
   induction d with
   |zero=>intro _;rfl
   |succ d h=>
    intro i;rw[show n+(d+1)=n+d+1 from rfl,Td,TB,h ()];let g:s.testBit (n+d)=false:=Sv (RK b (R7 () ()));rw[Vw (by rw[g];show RO)];simp
  have:=c (8-n) ();rw[show n+(8-n)=8 by lia]at this;show this.symm
 rw[e _ f b];show SI λk _=> ?_;change a.getD k 0=a.getD ((k:Nat):Int).toNat 0;rw[RA]
theorem HR(ss:qs)(v j:Nat)(h:ss[j]?=some w):red (ss.take (j+1)) v=mn (red (ss.take j) v) w:=by rw[SY,h];show zZ _ _ _
inductive K7(K:Frag)(vs:List V)(H:Hp)(Q:VK)(E:XK):Prop
 |mk(n m:Nat) (b:Addr) (ns:qR) (_:vs=[.int (n:Int), .int (m:Int), .ref b]) (_:n<=8) (_:m<=n) (_:vr K H b (ns.map int)) (_:ns.length<=63) (_:∀p H' gone,vc H H'->H p=none->H' p=some (.lst ((aI n (Ym m gone)).map int))->lK n m gone->(ns=[]->gone=[])->Q (.ref p) H')
theorem Lj(h:lK n m gone)(s:Nat):(if(m:Int)<((sz s:Nat):Int)then(m:Int)else((sz s:Nat):Int)) - (if decide ((s:Int)∈gone)=true then 1 else 0)=((Ym m gone s:Nat):Int):=by
 unfold Ym;let e:(if(m:Int)<((sz s:Nat):Int)then(m:Int)else((sz s:Nat):Int))=((min (sz s) m:Nat):Int):=by split<;>lia
 rw[e];by_cases a:(s:Int)∈gone
 .rw[RE a,RF rfl,RF a];let(t,_,d,c):=h.size _ a;let b:s=t:=()
  rw[<-b]at c;rcases h.mid with h0|h0
  .rw[h0]at a;cases a
  .lia
 .rw[RL a,RQ RO,RQ a];lia
theorem Eb(r:Nat->Nat):F1 ((aI n r).map int) (-1)=some (.int ((r (2^n-1):Nat):Int)):=by
 let a:0<2^n:=Su ();unfold F1;let hl:((aI n r).map int).length=2^n:=by rw[My,bg]
 let e:Zb ((aI n r).map int).length (-1)=some (2^n-1):=by unfold Zb;rw[hl,RQ (),RF ()];congr 1;lia
 rw[e];show((aI n r).map int)[2^n-1]?=_;unfold aI;rw[RU,RU,SJ ()];rfl
theorem FT(x y:Int):decide (int x=int y)=decide (x=y):=S4.mpr #[V.int.inj,Se int]
noncomputable def gb(word:Str)(n:Nat)(ms:qR):List Nat:=if word= Xu then fg n ms else if word= XN then qB n ms else if word= Xq then tM n ms else uL n ms
inductive GY(K:Frag)(vs:List V)(H:Hp)(Q:VK)(E:XK):Prop
 |mk(a:Addr) (word:Str) (n:Nat) (ms:qR) (_:vs=[.ref a, .str word]) (_:vr K H a ((aI n (ag ms)).map int)) (_:n<=8) (_:(word= Xu\/word= XN\/word= Xq\/word= Xz)) (_:∀p H',vc H H'->H p=none->H' p=some (.lst ((au (gb word n ms)).map int))->Q (.ref p) H')
theorem fc:∀s,s<256->∀k,k<8->(s.testBit k=true->s-2^k=aB s (2^k)/\sz (aB s (2^k))+1=sz s/\0<s&&&2^k)/\(s.testBit k=false->s+2^k=s|||2^k/\s&&&2^k=0):=#[9]
noncomputable def Zt(ms:qR)(s k:Nat):Bool:=s.testBit k&& !decide (((ag ms (aB s (2^k)):Nat):Int)=(sz s:Int) -1)
noncomputable def E1(ms:qR)(s k:Nat):Bool:= !s.testBit k&&decide (ag ms (s|||2^k)=ag ms s)
theorem HP(g:n<=8)(c:s<2^n):eB ms s=(decide (ag ms s<sz s)&&decide (((range n).filter (Zt ms s)).length=0)):=by
 let d:s<256:=RK c (gO g);let le:=wo ms s;rw[SV];unfold eB iW;rw[RZ,RZ,SG,UG,Ss,Ss,SU,Sx,ab2];show and_congr #[λh=>(),λh=>()] #[λh k e a=> ?_,λh z hz=> ?_]
 .unfold Zt at a;rw[RZ,SG,UG]at a;let j:=R1.mp e;let hz:((k:Nat):Int)∈yn s:=aM.mpr #[k,9,a.1,2];have:=RV (h _ hz);rw[RA]at this;let f:=((fc s d k ()).1 a.1).2.1;show a.2 (by rw[this];lia)
 .let(k,i,b,rfl):=aM.mp hz;rw[RA];let f:=((fc s d k ()).1 b).2.1;have:=h k (R1.mpr (aS c b));unfold Zt at this;rw[b,T1,SG,<-Bool.not_eq_true,Classical.not_not,Ss]at this;show RE ()
theorem JR(f:n<=8)(d:s<2^n):eR ms n s=decide (((range n).filter (E1 ms s)).length=0):=by
 let g:s<256:=RK d (gO f);rw[SV];unfold eR X3;rw[Ss,SU,Sx,ab2];show#[λh k c b=> ?_,λh z hz=> ?_]
 .unfold E1 at b;rw[RZ,SG,Ss]at b;let e:=R1.mp c;let hz:((k:Nat):Int)∈yn (aB (2^n-1) s):=aM.mpr #[k,9,by rw[ig,RE e,b.1];rfl,2];have:=RV (h _ hz);rw[RA]at this;lia
 .let(k,i,a,rfl):=aM.mp hz;rw[ig,RZ,Ss,SG]at a;rw[RA];let r:=Lm (ms:=ms) g (show k<8 by lia);have:=h k (R1.mpr a.1);unfold E1 at this;rw[a.2,aej,T1,Ss]at this;show RE ()
noncomputable def Zk(ms:qR)(s b:Nat):Bool:=decide (0<s&&&b)&& !decide (((ag ms (s-b):Nat):Int)=(sz s:Int) -1)
noncomputable def BV(ms:qR)(s b:Nat):Bool:=decide (s&&&b=0)&&decide (ag ms (s+b)=ag ms s)
theorem Pu(d:s<256)(c:k<8):Zk ms s (2^k)=Zt ms s k:=by
 let fk:=fc s d k c;unfold Zk Zt;cases a:s.testBit k with
 |true=>
  let(f1,f2,b):=fk.1 a;rw[RE b,f1]
 |false=>rw[RL (show¬0<s&&&2^k by have:=(fk.2 a).2;lia)];rfl
theorem LP(c:s<256)(b:k<8):BV ms s (2^k)=E1 ms s k:=by
 let fk:=fc s c k b;unfold BV E1;cases a:s.testBit k with
 |true=>rw[RL (show¬s&&&2^k=0 by have:=(fk.1 a).2.2;lia)];rfl
 |false=>
  let(f1,f2):=fk.2 a;rw[RE f2,f1];rfl
noncomputable def Yn(wd:Str)(ms:qR)(n s:Nat):Bool:=if wd= Xq then eB ms s else eR ms n s
theorem xg(a:Nat->Bool)(i:Nat):(au ((range (i+1)).filter a)).map int=(au ((range i).filter a)).map int++if a i=true then [int (i:Int)]else []:=by unfold au;rw[Td,TB,R6,R6];cases h:a i<;>simp[Tg,h]
theorem D4(z:Str):(dM z).map (λx=>cp x)=dP 32 (cp z):=En 32 z
theorem Cu(ws:qq):cp (aaK " " ws)=gc 32 (ws.map λx=>cp x):=by rw[show aaK " " ws=abG #[#v[32]] ws from StrLaws.glued_eq_join _ _];show uF 32 ws
theorem dW(a b:Str):cp (a++b)=cp a++cp b:=UL a b
theorem yI(a b:Str):(a++b).length=a.length+b.length:=by rw[<-f7,<-f7,<-f7,dW,R4]
theorem lE(h:cp x=cp y):x=y:=by
 cases x with
 |mk a=>cases y with
  |mk b=>show Se Str.mk (Array.toList_inj.mp h)
structure Wo(z:Str):Prop where
 wk:Wk z
 no:32∉cp z
structure O0(z:Str)(ws:qq):Prop where
 eq:cp z=gc 32 (ws.map λx=>cp x)
 ok:∀x∈ws,Wo x
 few:ws.length<=100
 some:ws≠[]
theorem uz:∀(xs a:qq),xs.map (λx=>cp x)=a.map (λx=>cp x)->xs=a
 | [],[],_=>rfl
 | [],y::r,h=>by cases h
 |x::r,[],h=>by cases h
 |x::r,y::t,h=>by rw[Sg,Sg]at h;let(b,c):=List.cons.inj h;rw[uz r t c,lE b]
theorem O0.words(h:O0 z ws):dM z=ws:=by
 let e:=D4 z;rw[h.eq,kx]at e
 .show uz _ _ e
 .intro a;show h.some (UD.mp a)
 .intro p b;let(x,hx,rfl):=RM.mp b;show(h.ok x hx).no
theorem xa(c:Nat):∀ps:List (List Nat),(∀p∈ps,p.length<=61)->(gc c ps).length<=ps.length*62
 | [],_=>by simp[gc]
 | [p],h=>by have:=h p RH;simp[gc];lia
 |p::q::r,h=>by have:=h p RH;let a:=xa c (q::r) λx hx=>h x (RI _ hx);rw[gc,R4,R3];simp only[R3]at a⊢;lia
theorem O0.len{z:Str}(h:O0 z ws):z.length<=6200:=by
 have:=xa 32 (ws.map λx=>cp x) λp a=>by let(x,hx,rfl):=RM.mp a;rw[f7];show(h.ok x hx).wk.1
 rw[<-f7,h.eq];rw[My]at this;have:=h.few;lia
theorem O0.join{ws:qq}(ok:∀x∈ws,Wo x)(a:ws.length<=100)(some:ws≠[]):O0 (aaK " " ws) ws:=#[Cu ws,ok,a,some]
theorem xb(c:Nat):∀(ps:List (List Nat)) (q:qs) (r:List (List Nat)),ps≠[]->gc c (ps++q::r)=gc c ps++c::gc c (q::r)
 | [p],q,r,_=>rfl
 |p::a::ps,q,r,_=>by change p++c::gc c (a::ps++q::r)=_;rw[xb c (a::ps) q r #[5],gc,TK,VE]
theorem O0.app{ws vs:qq}(h:O0 z ws)(a:O0 y vs)(b:ws.length+vs.length<=100):O0 (z++ " "++y) (ws++vs):=by let(v,r,rfl):=List.exists_cons_of_ne_nil a.some;show#[6,λx hx=>(R9.mp hx).elim (h.ok x) (a.ok x),by rw[R4];show b,#[5]];rw[dW,dW,h.eq,a.eq,R6,Sg,xb _ _ _ _ λe=>h.some (UD.mp e),TK];rfl
theorem O0.one(h:Wo z):O0 z [z]:=#[2,λx hx=>by rw[RY.mp hx];show h,by change 1<=100;decide,#[5]]
theorem dX{z:Str}(h:(decide (z.length<=60)&&(cp z).all λc=>decide (c<128)&& !decide (c=32))=true):Wo z:=by rw[RZ,Ub,SU]at h;show#[#[RB h.1 ∅,λc a=>RV (VW.mp (h.2 c a)).1],λe=>by have:=h.2 32 e;revert this;decide]
theorem i3{z:Int}(h:z.natAbs<10^60):Wo (aw z):=#[B8 h,λe=>by
 let key:∀n:Nat,32∉J1 n:=λn h=>by
  have:=qZ n 32 h
  revert this
  decide
 rw[qE]at e;split at e
 .rcases RT.mp e with e|e
  .cases e
  .show key _ e
 .show key _ e]
theorem NU:∀s,s<256->32∉mF s:=#[9]
theorem hV(h:s<256):Wo (aT s):=#[(xJ (n:=8) (RJ _) h).1,NU s h]
theorem bb(h:bW z):Wo z:=#[h.1,λe=>by
 let a:=h.2;unfold qX at a;rw[RZ,RZ,SU]at a;have:=a.1.2 32 e
 revert this
 decide]
theorem Mh(h:bW z):z≠ "=":=λe=>by
 rw[e]at h;have:=h.2
 revert this
 decide
structure Xs(K:Frag)(H:Hp)(x:Addr)(xs:qR):Prop where
 sq:vr K H x (xs.map int)
 len:xs.length=8
 nn:∀z∈xs,0<=z
theorem Xs.same(h:Xs K H x xs)(s:vc H H'):Xs K H' x xs:=#[s.seq h.sq,h.len,h.nn]
theorem Xs.at{xs:qR}(h:Xs K H x xs){j:Nat}(a:j<8):F1 (xs.map int) (j:Int)=some (.int (xs.getD j 0))/\0<=xs.getD j 0:=by
 show#[dI (by rw[h.len];show a),6];let hl:j<xs.length:=by rw[h.len];show a
 rw[Sj,RR hl];show h.nn _ (SX hl)
theorem bE{x m:Int}(h:0<m):0<=x % m/\x % m<m:=#[Vf x (),UO x h]
def HF(w:Str):Prop:=w= Xu\/w= Xq\/w= Xz
inductive GV(K:Frag)(vs:List V)(H:Hp)(Q:VK)(E:XK):Prop
 |mk(a x:Addr) (n:Nat) (ms xs:qR) (_:vs=[.ref a, .int (n:Int), .ref x]) (_:vr K H a ((aI n (ag ms)).map int)) (_:n<=4) (_:Xs K H x xs) (_:∀(z wd:Str)(zs:qs) H',vc H H'->HF wd->(∀s,s∈zs↔s∈gb wd n ms)->zs.length<=40->O0 z (wd::aw n::zs.map aT)->Q (.str z) H')
theorem vW(b:n<=4):(gb wd n ms).length<=16/\∀s∈gb wd n ms,s<2^n:=by
 let c:2^n<=16:=R7 (n:=2) ∅ b;let key:∀p:Nat->Bool,((range (2^n)).filter p).length<=16/\∀s∈(range (2^n)).filter p,s<2^n:=λp=>by have:=SA p (range (2^n));rw[RW]at this;show#[9,λs a=>R1.mp (Sn.mp a).1]
 unfold gb fg qB tM uL;split
 .show key _
 .split
  .show key _
  .split<;>show key _
theorem gw(s:vc H H')(h:H' p=none):H p=none:=by
 cases e:H p with
 |none=>rfl
 |some o=>rw[s p o e]at h;cases h
theorem lX{ws:qq}(ok:∀x∈ws,Wo x)(c:ws.length<=100):(ws.map (·.length)).sum+ws.length*(" ":Str).length<=16777216:=by
 let key:∀ws:List Str,(∀x∈ws,Wo x)->(ws.map (·.length)).sum<=ws.length*61:=λws=>by
  induction ws with
  |nil=>intro _;simp
  |cons x r b=>
   intro h;have:=(h x RH).wk.1;let i:=b λy a=>h y (RI _ a);simp only[Sg,VD,R3];lia
 have:=key ws ok;change _+ws.length*1<=_;lia
inductive K4(K:Frag)(vs:List V)(H:Hp)(Q:VK)(E:XK):Prop
 |mk(x:Addr) (xs:qR) (_:vs=[.ref x]) (_:Xs K H x xs) (_:∀p (ns:qq) H',vc H H'->H' p=some (.lst (ns.map str))->ns.length=4->(∀z∈ns,bW z)->Q (.ref p) H')
theorem rZ(h:qX (cp z)=true):bW z:=by
 show#[6,h];unfold qX at h;rw[RZ,RZ,SU]at h;let a:=RV h.2;rw[f7]at a;show#[RB a ∅,λc b=>by have:=RV (h.1.2 c b);unfold nq at this;let(k,d,rfl):=RM.mp this;have:=R1.mp d;lia]
theorem wO{L:qs}(a:L≠[])(b:L.length<=8)(h:∀c∈L,c∈nq):qX L=true:=by
 unfold qX;rw[RE b,SU.mpr λc d=>RE (h c d)];cases L with
 |nil=>show absurd rfl a
 |cons c r=>rfl
theorem J7(z:Str)(k:Nat):cp (aaH z none (some (k:Int)))=(cp z).take k:=by
 let e:=eq_of_beq (adk (x:=z) (n:=(k:Int)) (S1 k) rfl);rw[e];change List.take _ (List.drop 0 (cp z))=_;rw[ad7];split
 .rename_i h;rw[TY (l:=cp z) (i:=k) (by rw[f7];lia),TY (by rw[f7];lia)]
 .rw[show((k:Int) -0).toNat=k by lia]
theorem pE{x:Int}(h:0<=x)(c:x<26):F1 (cp Xw) x=some (97+x.toNat)/\97+x.toNat∈nq:=by
 let(k,rfl):=Sl h;let key:∀k:Nat,k<26->(cp Xw)[k]?=some (97+k)/\97+k∈nq:=#[9]
 let(a,b):=key k ();rw[RA];show#[bB a,b]
theorem uG:∀L:List Nat,cp (abG #[#v[]] (L.map λc=>(#[#v[c]]:Str)))=L
 | []=>rfl
 | [c]=>rfl
 |c::d::r=>by change cp (((#[#v[c]]:Str)++(#[#v[]]:Str))++abG #[#v[]] ((d::r).map λc=>(#[#v[c]]:Str)))=_;rw[dW,dW,uG (d::r)];rfl
theorem w8(L:qs):cp (aaK "" (L.map λc=>(#[#v[c]]:Str)))=L:=by rw[show aaK "" (L.map λc=>(#[#v[c]]:Str))=abG #[#v[]] (L.map λc=>(#[#v[c]]:Str))from StrLaws.glued_eq_join _ _];show uG L
theorem Aa{L:qs}(h:L.length<=100):((L.map λc=>(#[#v[c]]:Str)).map (·.length)).sum+(L.map λc=>(#[#v[c]]:Str)).length*("":Str).length<=16777216:=by
 let key:∀L:List Nat,((L.map λc=>(#[#v[c]]:Str)).map (·.length)).sum=L.length:=λL=>by
  induction L with
  |nil=>rfl
  |cons c r a=>simp only[Sg,VD,a,R3];change 1+_=_;lia
 rw[key];change _+_*0<=_;lia
theorem wx(f:Nat->Nat)(n:Nat):bc (λ_=>true) (λk=>str #[#v[f k]]) n=((((range n).map f).map λc=>(#[#v[c]]:Str))).map str:=by unfold bc;rw[Sd.mpr (λ_ _=>rfl),RP,RP];rfl
structure Yv(sps:Frag->List (Str×Sp))(v:Str)(r xs:qq)(R:List V->Hp->Prop):Prop where
 rd:∀(K:Frag) p' H1 (Q':VK),H1 p'=some (.lst (r.map str))->YQ Q' H1 (xs.map str) R->iP (sps K) v [.ref p'] H1 Q' E0
 nm:∀y∈xs,bW y
 few:xs.length<=10
 mono:∀ys H1 H2,vc H1 H2->R ys H1->R ys H2
theorem AF{y:Str}(h:bW y):y.length<=61:=h.1.1
theorem rR{a:Frag->List (Str×Sp)}(c:∀K,(a K).lookup v=some (qJ K))(hx:bW x):Yv a v [x] [x] λf _=>f=[]:=
 #[λK e g i b k=>#[_,c K,e,x,2,vr.of b,hx,k],λy d=>by rw[RY.mp d];show hx,by change 1<=10;decide,λ_ _ _ _ h=>h]
theorem rQ{b:Frag->List (Str×Sp)}(d:∀K,(b K).lookup v=some (C9 K))(hx:bW x)(a:bW y):Yv b v [x,y] [x,y] λf _=>f=[]:=
 #[λK e g i c k=>#[_,d K,e,x,y,2,vr.of c,hx,a,k],λz hz=>by
  rcases RT.mp hz with rfl|hz
  .show hx
  .rw[RY.mp hz];show a,by change 2<=10;decide,λ_ _ _ _ h=>h]
theorem oM{a:Frag->List (Str×Sp)}(d:∀K,(a K).lookup v=some (nk K))(hx:bW x)(c:s<256):Yv a v [x,aT s] [x] λg _=>g=[.int (s:Int)]:=
 #[λK f i j b k=>#[_,d K,f,x,s,2,vr.of b,hx,c,k],λy e=>by rw[RY.mp e];show hx,by change 1<=10;decide,λ_ _ _ _ h=>h]
theorem HS{n k:Nat}(c:k<=n)(d:n<=8):Yv da "even" [aw n,aw k] [] λf _=>f=[.int (n:Int), .int (k:Int)]:=
 #[λK e g i a q=>#[7,e,n,k,2,vr.of a,c,d,q],λy b=>(nomatch b),by change 0<=10;decide,λ_ _ _ _ h=>h]
theorem tO{n:Nat}{a:qs}(i:∀K,(da K).lookup v=some (zy K))(k:n<=8)(m:a.length<=60)(hz:∀s∈a,s<2^n):Yv da v (aw n::a.map aT) [] λc H'=>∃(b:Addr)(ms:qs),c=[.int (n:Int), .ref b]/\H' b=some (.lst ((au ms).map int))/\ms.Pairwise (· < ·)/\∀s,s∈ms↔s∈a:=
 #[λK l d p h q=>#[_,i K,l,n,a,2,vr.of h,k,m,hz,q],λy j=>(nomatch j),by change 0<=10;decide,λc d o s ⟨b,ms,e,f,g⟩=>#[b,ms,e,s.at f,g]]
theorem Lk{ts:List (Nat×Nat)}(j:p<=9)(k:ts.length<=8)(ok:eO p ts):Yv da "net" (aw p::ts.map λt=>gf t.1 t.2) [] λa H'=>∃(b:Addr)(us:List V),a=[.int (p:Int), .ref b]/\H' b=some (.lst us)/\bJ H' us ts:=
 #[λK i c m g q=>#[7,i,p,ts,2,vr.of g,j,k,ok,q],λy h=>(nomatch h),by change 0<=10;decide,λa c l s ⟨b,us,d,e,f⟩=>#[b,us,d,s.at e,f.ts (iY.of s)]]
theorem EH{M:oS}(ok:pH m n M):Yv da XE (aw m::aw n::M.flatten.map aw) [] λa H'=>∃(b:Addr)(us:List V),a=[.int (m:Int), .int (n:Int), .ref b]/\H' b=some (.lst us)/\a9 H' us M:=
 #[λK i c k g q=>#[7,i,m,n,M,2,vr.of g,ok,q],λy h=>(nomatch h),by change 0<=10;decide,λa c j s ⟨b,us,d,e,f⟩=>#[b,us,d,s.at e,f.same s]]
def YS(c:Cs)(v:Str)(f:List V)(R:List V->Hp->Prop)(H:Hp)(n:Nat)(h:Nat->Nat):Prop:=∀d g e a (b:VK),vc H a->a d=some (.lst f)->a g=some (.lst e)->R e a->Y6 c b a n h->iP (lW c) v [.ref d, .ref g] a b E0
theorem Fn(o:Pm c H h n ms)(M:z8 n (ag ms)):YS c "other" [.ref h] (λa _=>a=[]) H n (lC n (ag ms)):=
 λd g a f i e b j _ k=>#[7,d,g,h,n,7,b,(o.same e).1,M,k]
theorem Mu{n s:Nat}(o:Pm c H h n ms)(M:z8 n (ag ms))(f:s<2^n):YS c "out" [.ref h] (λa _=>a=[.int (s:Int)]) H (sz (aB (2^n-1) s)) (uw (ag ms) (aB (2^n-1) s) 0):=
 λi g a l m j d b e k=>#[7,i,g,h,n,s,7,d,e▸b,(o.same j).1,M,f,k]
theorem Fo{n s:Nat}(o:Pm c H h n ms)(M:z8 n (ag ms))(f:s<2^n):YS c XO [.ref h] (λa _=>a=[.int (s:Int)]) H (sz (aB (2^n-1) s)) (uw (ag ms) (aB (2^n-1) s) s):=
 λi g a l m j d b e k=>#[7,i,g,h,n,s,7,d,e▸b,(o.same j).1,M,f,k]
theorem Jj(f:Pm c H h1 n1 m1)(h:Pm c H h2 n2 m2)(e:n1+n2<=8):YS c "side" [.ref h1, .ref h2] (λb _=>b=[]) H (n1+n2) (j3 n1 (ag m1) (ag m2)):=
 λi g b j l a d m _ k=>#[7,i,g,h1,h2,n1,n2,17,d,(f.same a).1,(h.same a).1,e,k]
theorem Jk{n k:Nat}:YS c "even" [] (λa _=>a=[.int (n:Int), .int (k:Int)]) H n λs=>min (sz s) k:=
 λd g a f h j i b e q=>#[7,d,g,n,k,2,e▸b,q]
theorem Mv{ts:List (Nat×Nat)}(i:p<=9)(k:ts.length<=8)(ok:eO p ts):YS c "net" [] (λa H'=>∃(b:Addr)(us:List V),a=[.int (p:Int), .ref b]/\H' b=some (.lst us)/\bJ H' us ts) H ts.length (Yh (ts.map fb)):=
 λj g a l m o n h ⟨b,us,e,f,d⟩ q=>#[7,j,g,b,p,us,ts,2,e▸h,f,d,ok,i,k,q]
theorem Fm(ok:pH m n M)(k:ke (m:Int))(l:Gh m n M a):YS c XE [] (λd H'=>∃(b:Addr)(us:List V),d=[.int (m:Int), .int (n:Int), .ref b]/\H' b=some (.lst us)/\a9 H' us M) H n a:=
 λj g d o p s r i ⟨b,us,e,h,f⟩ q=>#[7,j,g,b,m,n,us,M,a,2,e▸i,h,f,ok,k,l,q]
theorem uy{a:qs}(l:(lW c).lookup v=some (sQ c pr))(M:z8 n r)(hz:∀s∈a,s<2^n)(mem:∀s,s∈a↔pr n r s):YS c v [] (λf H'=>∃(b:Addr)(ms:qs),f=[.int (n:Int), .ref b]/\H' b=some (.lst ((au ms).map int))/\ms.Pairwise (· < ·)/\∀s,s∈ms↔s∈a) H n r:=
 λo g f p t w u j ⟨b,ms,e,i,k,d⟩ q=>by have m:ms.Nodup:=k.imp λh=>Sb h;have:=List.Nodup.length_le_of_subset m (l₂:=range (2^n)) λs h=>R1.mpr (hz s ((d s).mp h));rw[RW]at this;show#[_,l,o,g,b,n,ms,r,2,e▸j,i,RB this (gO M.n8),M,λs=>(d s).trans (mem s),q]
def ZE(c:Cs)(v:Str)(f:List V)(R:List V->Hp->Prop)(H:Hp)(h:Str):Prop:=∀d g e a (b:VK),vc H a->a d=some (.lst f)->a g=some (.lst e)->R e a->(∀H',vc a H'->b (.str h) H')->iP (gg c) v [.ref d, .ref g] a b E0
theorem Gw(d:(gg c).lookup v=some (mC c f))(o:Pm c H h n ms):ZE c v [.ref h] (λa _=>a=[]) H (vV (f n ms)):=
 λe g a j l i b _ _ k=>#[_,d,e,g,h,n,ms,2,b,o.same i,k]
theorem KG{n s:Nat}(j:(gg c).lookup v=some (vU c f))(o:Pm c H h n ms)(i:s<2^n):ZE c v [.ref h] (λa _=>a=[.int (s:Int)]) H (f n ms s):=
 λl g a p q m d b e k=>#[_,j,l,g,h,n,s,ms,2,d,e▸b,o.same m,i,k]
theorem Gx(j:Pm c H a d m1)(l:Pm c H b e m2):ZE c XG [.ref a, .ref b] (λh _=>h=[]) H (Zo (vZ d e m1 m2)):=
 λm g h n o f i _ _ k=>#[7,m,g,a,b,d,e,m1,m2,2,i,j.same f,l.same f,k]
theorem zP{l:XT}(i:mz C H p d l)(q:l.length<=1000)(hz:O0 z (x:: "="::v::r))(hx:bW x)(m:v∈cK)(b:Yv da v r xs R)(no:(∃y∈xs,D1 l y=none)->∀H' h,vc H H'->E (.ref Cn) (some h) H')(u:All l xs->∃(n:Nat)(e:Nat->Nat),z8 n e/\YS c v (jZ l xs) R H n e/\∀a ms H',SameBut d H H'->Pm c H' a n ms->z8 n (ag ms)->(∀s,s<2^n->e s=ag ms s)->H' d=some (.dK (d6 l (.inr x) (.ref a)))->Q (.str "ok") H'):mE K c C Cn [.ref p, .str z] H Q E:=
 #[p,d,l,z,2,i,q,RB (acs hz.len 2) ∅, .inl #[x,v,r,xs,R,hz.words,hx,m,#[λy o=>AF (b.nm y o),b.few,b.mono,no],λt f g _ j k=>b.rd K t f g j k,u]]
theorem vY{l:XT}{r xs:qq}(h:mz C H p d l)(o:l.length<=1000)(hz:O0 z (v::r))(j:r.head?≠some "=")(m:hU v)(a:Yv gr v r xs R)(no:(∃y∈xs,D1 l y=none)->∀H' g,vc H H'->E (.ref Cn) (some g) H')(s:All l xs->∃b:Str,ZE c v (jZ l xs) R H b/\∀H',vc H H'->Q (.str b) H'):mE K c C Cn [.ref p, .str z] H Q E:=
 #[p,d,l,z,2,h,o,RB (acs hz.len 2) ∅, .inr #[v,r,xs,R,hz.words,j,m,#[λy n=>AF (a.nm y n),a.few,a.mono,no],λq e f _ i k=>a.rd K q e f i k,s]]
def YT(c:Cs)(H:Hp)(u v:Option V):Prop:=(u=none/\v=none)\/∃(h b:Addr)(n:Nat)(ms:qR),u=some (.ref h)/\v=some (.ref b)/\Pm c H h n ms/\z8 n (ag ms)/\n<=6/\H b=some (.lst ((aI n (ag ms)).map int))
structure TR(c:Cs)(C:Addr)(H:Hp)(p d t:Addr)(l m:XT):Prop where
 dk:mz C H p d l
 dt:H t=some (.dK m)
 ne:d≠t
 few:l.length<=900/\m.length<=900
 rel:∀z:Str,YT c H (D1 l z) (D1 m z)
theorem YT.same(h:YT c H u v)(s:vc H H'):YT c H' u v:=h.imp id λ⟨h,b,n,ms,a,d,o,M,f,e⟩=>#[h,b,n,ms,a,d,o.same s,M,f,s.at e]
theorem TR.same(h:TR c C H p d t l m)(s:vc H H'):TR c C H' p d t l m:=#[h.dk.same s,s.at h.dt,h.ne,h.few,λz=>(h.rel z).same s]
inductive Qa(K:Frag)(vs:List V)(H:Hp)(Q:VK)(E:XK):Prop
 |mk(n:Nat) (x:Addr) (xs:qR) (_:vs=[.int (n:Int), .ref x]) (_:n<=4) (_:Xs K H x xs) (_:∀(z:Str)(m:Nat) (M:oS) (rk:Nat->Nat) (p b:Addr) H',vc H H'->H' p=some (.tup [.str z, .ref b])->H b=none->H' b=some (.lst ((aI n rk).map int))->pH m n M->ke (m:Int)->Gh m n M rk->z8 n rk->O0 z (XE::aw m::aw n::M.flatten.map aw)->Q (.ref p) H')
theorem D7(h:0<=z)(a:z<6):∃m:Nat,F1 [int 0,int 3,int 5,int 7,int 11,int 97] z=some (.int (m:Int))/\m∈Yo/\ke (m:Int)/\m<=97:=by
 rcases(show z=0\/z=1\/z=2\/z=3\/z=4\/z=5 by lia)with rfl|rfl|rfl|rfl|rfl|rfl
 .show#[0,24,BM,4]
 .show#[(3),24,eY 3 ∅,4]
 .show#[(5),24,eY 5 ∅,4]
 .show#[(7),24,eY 7 ∅,4]
 .show#[(11),24,eY 11 ∅,4]
 .show#[(97),24,eY 97 ∅,4]
theorem Kx{m:Nat}(d:m<=97)(a:0<=q)(e:q<1000003):Gk (m:Int) q/\Gk ((m:Int)*q) (10^(40:Int).toNat)/\∃F:Int,(m:Int)*q*10^(40:Int).toNat=F/\(m:Int)∣F/\0<=F/\F<10^50:=by have b:0<=(m:Int)*q:=V4 (S1 m) a;let c:(m:Int)*q<=97*1000003:=W8 () () a ∅;show#[.inl #[99], .inl #[99],7,#[q*10^(40:Int).toNat,Int.mul_assoc _ _ _],V4 b ∅,6];show(m:Int)*q*10^40<10^50;generalize (m:Int)*q=y at*;lia
theorem lR(g:Nat->Int)(n:Nat):bc (λ_=>true) (λi=>int (g i)) n=((range n).map g).map int:=by unfold bc;rw[Sd.mpr (λ_ _=>rfl),RP];rfl
theorem wu(g:Nat->Str)(n:Nat):bc (λ_=>true) (λi=>str (g i)) n=((range n).map g).map str:=by unfold bc;rw[Sd.mpr (λ_ _=>rfl),RP];rfl
theorem sj(a:i<n):F1 (((range n).map g).map int) (0+(i:Int))=some (.int (g i)):=by rw[Sy];show bB (by rw[RU,RU,SJ a];rfl)
noncomputable def P9:V->V
 | .int i=> .str (aw i)
 |v=>v
theorem ES(l:qR):bD (λ_=>true) P9 (l.map int)=(l.map aw).map str:=by unfold bD;rw[Sd.mpr (λ_ _=>rfl),RP,RP];rfl
theorem zK{n i:Nat}(h:(((range n).map g).map int)[i]?=some u):∃j,j<n/\u= .int (g j):=by
 rw[RU,RU]at h;by_cases a:i<n
 .rw[SJ a]at h;show#[i,a,(Sm h).symm]
 .rw[S6 (by rw[RW];lia)]at h;cases h
theorem Pk{z:Int}(h:z=0\/z=1):z.natAbs.log2<1920:=by rcases h with rfl|rfl<;>decide
theorem Jp{z:Int}(h:z.natAbs<10^60):z.natAbs.log2<1920:=by
 by_cases e:z.natAbs=0
 .rw[e];decide
 .show(W3 e).mpr (Tp h #[9])
noncomputable def kg(n:Nat)(a b:Nat->Int):List (List Int):=if n=0 then []else [(range n).map a,(range n).map b]
theorem D8(n:Nat)(a b:Nat->Int):(kg n a b).flatten=(range n).map a++(range n).map b:=by
 unfold kg;split
 .rename_i h;subst h;rfl
 .simp
theorem Ky(f:m∈Yo)(g:n<=4)(d:∀i,(a i).natAbs<10^60)(e:∀i,(b i).natAbs<10^60):pH m n (kg n a b):=by
 let mem:∀r∈kg n a b,r=(range n).map a\/r=(range n).map b:=λr c=>by
  unfold kg at c;split at c
  .cases c
  .rcases RT.mp c with h|h
   .show .inl h
   .show .inr (RY.mp h)
 show#[f,96,λr c=> ?_,λh=> ?_,λr c z hz=> ?_]
 .unfold kg;split
  .show Sw _
  .show 2<=8;decide
 .rcases mem r c with rfl|rfl<;>rw[My,RW]
 .unfold kg;rw[RF h]
 .rcases mem r c with rfl|rfl<;>let(i,_,rfl):=RM.mp hz
  .show d i
  .show e i
theorem o3:∀(n:Nat) (M:oS),(∀r∈M,r.length=n)->M.flatten.length=M.length*n
 |_,[],_=>by simp
 |n,r::M,h=>by rw[VC,R4,h r RH,o3 n M λx hx=>h x (RI _ hx),R3,adl];lia
theorem zi{M:oS}(ok:pH m n M)(d:m<=97)(b:n<=4):O0 (aaK " " ((XE:Str)::aw (m:Int)::aw (n:Int)::M.flatten.map aw)) ((XE:Str)::aw (m:Int)::aw (n:Int)::M.flatten.map aw):=by
 show O0.join (λy a=> ?_) ?_ #[5]
 .rcases RT.mp a with rfl|a
  .show dX ∅
  rcases RT.mp a with rfl|a
  .show i3 (RD (show(m:Int).natAbs<=97 from d) ∅)
  rcases RT.mp a with rfl|a
  .show i3 (RD (show(n:Int).natAbs<=4 from b) ∅)
  let(z,hz,rfl):=RM.mp a;let(r,c,hz):=adH.mp hz;show i3 (ok.num r c z hz)
 .let h:=o3 n M ok.row;have:=V5 ok.few b;simp only[R3,My];lia
theorem Ms{D:qR}:z∈aai (λi=>D.getD i 0) D.length↔z∈D:=by
 let h:=WA (λi=>D.getD i 0) D.length z;let e:(range D.length).map (λi=>D.getD i 0)=D:=UU λi=>by
  rw[RU];by_cases a:i<D.length
  .rw[SJ a,RR a];change some (D.getD i 0)=_;rw[Sj,RR a];rfl
  .rw[S6 (by rw[RW];lia),S6 ()];rfl
 rw[e,SV,Tu,Tu]at h;simpa using h
theorem ic(b:j<n):bY ((range n).map a) j=a j:=by unfold bY;rw[Sj,RU,SJ b];rfl
theorem Ja{m:Nat}(x y:Int):x % (m:Int)=y % (m:Int)↔(m:Int)∣x-y:=by
 constructor
 .intro h;show WV (by rw[aev,h,adj,Int.zero_emod])
 .intro h;show Int.emod_eq_emod_iff_emod_sub_eq_zero.mpr (WU h)
noncomputable def YI(m n:Nat)(lv mk:Nat->Int)(s:Nat):List Int:=((range n).filter λk=>decide (lv k=1)&&s.testBit k).map λk=>mk k % (m:Int)
noncomputable def Zq(D:qR):List Int:=aai (λi=>D.getD i 0) D.length
noncomputable def YH(m n:Nat)(lv mk:Nat->Int)(s:Nat):Nat:=min 2 (Zq (YI m n lv mk s)).length
theorem Bd{s:Nat}(d:s<2^n)(z:Int):z∈Zq (YI m n lv mk s)↔∃k,s.testBit k=true/\lv k=1/\mk k % (m:Int)=z:=by
 unfold Zq YI;rw[Ms,RM];constructor
 .rintro⟨k,a,rfl⟩;rw[Sn,RZ,Ss]at a;show#[k,a.2.2,a.2.1,2]
 .rintro⟨k,b,c,rfl⟩;show#[k,Sn.mpr #[R1.mpr (aS d b),by rw[RE c,b];rfl],2]
theorem Kw(i:n<=8):z8 n (YH m n lv mk):=by
 show Mw (lv:=λk=>lv k=1) (κ:=λk=>mk k % (m:Int)) i (λs c=> ?_) (λs c=> ?_) λs c=>Nat.min_le_left _ _
 .let mem:=Bd (m:=m) (lv:=lv) (mk:=mk) c;unfold YH;generalize Zq (YI m n lv mk s)=F at*;constructor
  .intro e k g lk;have:=(mem _).mpr #[k,g,lk,2];rw[Sx.mp (show F.length=0 by lia)]at this;cases this
  .intro h;let e:F=[]:=VT.mpr λz hz=>by let(k,a,b,_):=(mem z).mp hz;show h k a b
   rw[e];rfl
 .let mem:=Bd (m:=m) (lv:=lv) (mk:=mk) c;let d:(Zq (YI m n lv mk s)).Nodup:=lV _ _;unfold YH;generalize Zq (YI m n lv mk s)=F at*;constructor
  .intro e
   match F,d with
   | [],_=>cases e
   | [_],_=>cases e
   |u::v::t,d=>
    let(j,a,b,f):=(mem u).mp RH;let(k,g1,g2,g3):=(mem v).mp (RI _ RH);show#[j,k,a,g1,b,g2,λe=>(TM.mp d).1 (by rw[<-f,e,g3];show RH)]
  .rintro⟨j,k,a,g1,b,g2,ne⟩;have:=zf ((mem _).mpr #[j,a,b,2]) ((mem _).mpr #[k,g1,g2,2]) ne;lia
theorem Kv{m n:Nat}(x:n<=8)(u:ke (m:Int))(v:∀i,lv i=0\/lv i=1)(w:(m:Int)∣F)(l:∀i,(mk i+F)*lv i=f i):Gh m n (kg n lv f) (YH m n lv mk):=by
 show#[λ_=>by unfold kg;split;show Sw _;show RJ 2,λs c q k=> ?_];let mem:=Bd (m:=m) (lv:=lv) (mk:=mk) c;let below:∀j∈ir s,j<n:=λj a=>aS c (Sn.mp a).2;unfold kg at k;split at k
 .rename_i p;subst p;rw[rP k λ_ _ _ h=>nomatch h];rfl
 .let live:∀j,lv j=1->f j=mk j+F:=λj e=>by rw[<-l,e,V6]
  show Gq u.one (κ:=λk=>mk k % (m:Int)) (lV _ _) k rfl (λj a=> ?_) (λz=>(mem z).trans #[λ⟨j,g,r,t⟩=> ?_,λ⟨j,a,b,e⟩=> ?_]) λi o j a d b=> ?_
  .rw[ic (below j a),ic (below j a)];rcases v j with e|e
   .show .inl #[e,by rw[<-l,e,aex]]
   .show .inr e
  .let a:j∈ir s:=Sn.mpr #[R1.mpr (by have:=aS c g;lia),g];show#[j,a,by rw[ic (below j a)];show r,t]
  .rw[ic (below j a)]at b;show#[j,(Sn.mp a).2,b,e]
  .rw[ic (below i o)]at d;rw[ic (below j a)]at b;rw[ic (below i o),ic (below j a),live i d,live j b,Ja,show mk j+F- (mk i+F)=mk j-mk i by lia]
noncomputable def Qw(m:Nat):V->V
 | .int i=> .int (i % (m:Int))
 |v=>v
theorem EU(m:Nat)(l:qR):bD (λ_=>true) (Qw m) (l.map int)=(l.map λi=>i % (m:Int)).map int:=by unfold bD;rw[Sd.mpr (λ_ _=>rfl),RP,RP];rfl
theorem EA{l:qR}{i:Nat}(h:(l.map int)[i]?=some u):∃j,u= .int j:=by
 rw[RU]at h;cases e:l[i]? with
 |none=>rw[e]at h;cases h
 |some j=>rw[e]at h;show#[j,(Sm h).symm]
def CU(n:Nat)(z:Str)(a:Nat->Nat):Prop:=∃(v:Str)(r:qq)(R:List V->Hp->Prop),O0 z (v::r)/\r.length<=90/\v∈cK/\Yv da v r [] R/\z8 n a/\∀c H,YS c v [] R H n a
inductive Qe(K:Frag)(vs:List V)(H:Hp)(Q:VK)(E:XK):Prop
 |mk(n:Nat) (x:Addr) (xs:qR) (_:vs=[.int (n:Int), .ref x]) (_:n<=4) (_:Xs K H x xs) (_:∀(z:Str)(rk:Nat->Nat)(p b:Addr) H',vc H H'->H' p=some (.tup [.str z, .ref b])->H b=none->H' b=some (.lst ((aI n rk).map int))->CU n z rk->Q (.ref p) H')
theorem wM{M:oS}(ok:pH m n M)(a:ke (m:Int))(d:Gh m n M rk)(mt:z8 n rk)(c:n<=4)(b:O0 z (XE::aw m::aw n::M.flatten.map aw)):CU n z rk:=
 #[XE,11,b,by
  let h:=o3 n M ok.row;have:=V5 ok.few c;simp only[R3,My];lia,4,EH ok,mt,λ_ _=>Fm ok a d]
theorem Mg{ts:List (Nat×Nat)}(a:p<=9)(c:ts.length<=4)(ok:eO p ts)(M:z8 ts.length (Yh (ts.map fb)))(b:O0 z ("net"::aw p::ts.map λt=>gf t.1 t.2)):CU ts.length z (Yh (ts.map fb)):=
 #["net",11,b,by simp only[R3,My];lia,4,Lk a () ok,M,λ_ _=>Mv a () ok]
theorem IQ(a:k<=n)(c:n<=4)(M:z8 n λs=>min (sz s) k)(b:O0 z ["even",aw n,aw k]):CU n z λs=>min (sz s) k:=
 #["even",11,b,by change 2<=90;decide,4,HS a (),M,λ_ _=>Jk]
theorem vh:s∈fg n ms↔mY n (ag ms) s:=by
 unfold fg lG mY;rw[Sn,R1,RZ,Ss,Ss];constructor
 .rintro⟨a,b,c⟩;show#[a,b,9]
 .rintro⟨a,b,c⟩;show#[a,b,9]
theorem Fi(M:z8 n (ag ms))(s:Nat):s∈(range (2^n)).filter (eB ms)↔s<2^n/\iZ (ag ms) s:=by
 rw[Sn,R1];show VX λd=> ?_;let e:=M.n8;unfold eB iW iZ;rw[RZ,SG,SU];let le:=M.wZ s d;constructor
 .rintro⟨c,b⟩;let ne:¬ag ms s=sz s:=UM c;show#[9,λk a=> ?_];have:=b (k:Int) (aM.mpr #[k,by have:=aS d a;lia,a,2]);rw[RA,lB a]at this;show RV this
 .rintro⟨c,b⟩;show#[RL (),λz hz=> ?_];let(k,_,a,rfl):=aM.mp hz;rw[RA,lB a];show RE (b k a)
theorem Ci(e:n<=8)(s:Nat):s∈(range (2^n)).filter (eR ms n)↔iy n (ag ms) s:=by
 rw[Sn,R1];show VX λc=> ?_;unfold eR X3;rw[SU];constructor
 .intro h k b a;let hz:((k:Nat):Int)∈yn (aB (2^n-1) s):=aM.mpr #[k,9,by rw[ig,RE b,a];rfl,2];have:=RV (h _ hz);rwa[RA]at this
 .intro h z hz;let(k,d,a,rfl):=aM.mp hz;rw[ig,RZ,Ss,SG]at a;rw[RA];show RE (h k a.1 a.2)
theorem Aq{a:qs}(M:z8 n (ag ms))(f:n<=4)(e:HF wd)(mem:∀s,s∈a↔s∈gb wd n ms)(g:a.length<=40)(c:O0 z (wd::aw n::a.map aT)):CU n z (ag ms):=by
 let lt:∀s∈a,s<2^n:=λs d=>(vW f).2 s ((mem s).mp d);let b:(aw (n:Int)::a.map aT).length<=90:=by simp only[R3,My];lia
 rcases e with rfl|rfl|rfl
 .show#[Xu,11,c,b,4,tO (λ_=>rfl) () () lt,M,λ_ _=>uy rfl M lt λs=>(mem s).trans vh]
 .show#[Xq,11,c,b,4,tO (λ_=>rfl) () () lt,M,λ_ _=>uy rfl M lt λs=>(mem s).trans (Fi M s)]
 .show#[Xz,11,c,b,4,tO (λ_=>rfl) () () lt,M,λ_ _=>uy rfl M lt λs=>(mem s).trans (Ci () s)]
def Gg(p:Nat)(y:V)(G:Hp):Prop:=∃(b:Addr)(t:Nat×Nat),y= .ref b/\G b=some (.tup [.int t.1, .int t.2])/\t.1<p/\t.2<p
theorem Gg.mono(e:vc G G')(h:Gg p y G):Gg p y G':=by let(b,t,a,c,d):=h;show#[b,t,a,e.at c,d]
theorem C4(h:∀(j:Nat)(y:V),ys[j]?=some y->Gg p y (A0 H q)):∃ts,bJ H ys ts/\eO p ts:=z7 (H:=H) (p:=p) ys λy b=>by let(j,a):=SO b;show(h j y a).mono de
theorem wt{a ws:List V}{ts:List (Nat×Nat)}(c:bJ H a ts)(hl:ws.length=a.length)(h:∀(j:Nat)(x y:V),a[j]?=some x->ws[j]?=some y->∃(b:Addr)(t:Nat×Nat),x= .ref b/\H b=some (.tup [.int t.1, .int t.2])/\y=f t):ws=ts.map f:=by
 show UU λj=> ?_;rw[RU];let o:=c.1;by_cases l:j<ts.length
 .let d:ts[j]?=some ts[j]:=RR l;let e:ws[j]?=some (ws[j]'()):=RR _;let(b,i,k):=c.2 j _ d;let(n,m,g,g1,g2):=h j _ _ i e;cases g;rw[k]at g1;injection g1 with g1
  injection g1 with g1
  injection g1 with g3 g4
  injection g4 with g4
  rw[e,g2,d,show m=ts[j]from Prod.ext (by have:=V.int.inj g3;lia) (by have:=V.int.inj g4;lia)];rfl
 .rw[Vg.mpr (),Vg.mpr ()];rfl
theorem KD:∀i:Nat,i<10->∀j:Nat,j<10->aw (i:Int)++aw (j:Int)=gf i j:=λi a j b=>lE (by
 rw[dW,qE,qE,RQ (),RQ ()];change J1 i++J1 j=[48+i,48+j]
 revert i j
 decide+kernel)
theorem NT(b:i<10)(d:j<10):Wo (gf i j):=#[#[by change 2<=61;decide,λc a=>by
 rcases RT.mp (show c∈[48+i,48+j]from a)with rfl|a
 .lia
 .rw[RY.mp a];lia],λe=>by
 rcases RT.mp (show 32∈[48+i,48+j]from e)with e|e
 .lia
 .have:=RY.mp e;lia]
theorem IT{ts:List (Nat×Nat)}(c:p<=9)(d:ts.length<=4)(ok:eO p ts):O0 (aaK " " (("net":Str)::aw (p:Int)::ts.map λt=>gf t.1 t.2)) (("net":Str)::aw (p:Int)::ts.map λt=>gf t.1 t.2):=by
 show O0.join (λy a=> ?_) (by simp only[R3,My];lia) #[5];rcases RT.mp a with rfl|a
 .show dX ∅
 rcases RT.mp a with rfl|a
 .show i3 (RD (show(p:Int).natAbs<=9 from c) ∅)
 let(t,b,rfl):=RM.mp a;have:=ok t b;show NT () ()
noncomputable def rg(n h:Nat)(a:qs):List (List Int):=if n=0 then []else(range h).map (fX a)
theorem Ee{a:qs}:(rg a.length h a).flatten=((range h).map (fX a)).flatten:=by
 unfold rg;split
 .rename_i e;have:∀l:List Nat,(l.map (fX a)).flatten=[]:=λl=>by
   induction l with
   |nil=>rfl
   |cons i l b=>
    rw[Sg,VC,b];unfold fX;rw[e];rfl
  rw[this];rfl
 .rfl
theorem zV{a:qs}(d:a.length<=4)(c:j<4):∀z∈fX a j,z.natAbs<10^60:=λz hz=>by unfold fX at hz;let(k,b,rfl):=RM.mp hz;have:=R1.mp b;show RD (show _<=20 by split<;>lia) ∅
theorem KH{b:qs}(d:b.length<=4)(e:h<=4):pH 2 b.length (rg b.length h b):=by
 let mem:∀r∈rg b.length h b,∃j,j<h/\r=fX b j:=λr a=>by
  unfold rg at a;split at a
  .cases a
  .let(j,c,rfl):=RM.mp a;show#[j,R1.mp c,2]
 show#[496,λr a=> ?_,λh=> ?_,λr a=> ?_]
 .unfold rg;split
  .show Sw _
  .rw[My,RW];lia
 .let(j,_,rfl):=mem r a;unfold fX;rw[My,RW]
 .unfold rg;rw[RF h]
 .let(j,c,rfl):=mem r a;show zV d ()
theorem Ed{a:qs}(d:a.length<=8)(c:∀v∈a,v<2^h):Gh 2 a.length (rg a.length h a) (Yh a):=by
 show#[λe=>absurd e ∅,λs b q k=> ?_];unfold rg at k;split at k
 .rename_i e;rw[e]at b;rw[rP k (λ_ _ _ h=>nomatch h),show s=0 by lia,(Ax a (RJ 8)).zero]
 .show Lh (g:=bY) (λ_ _=>rfl) b c k
theorem La(v j:Nat):aaj ((v:Int) /2^((j:Nat):Int).toNat) 1=if v.testBit j=true then 1 else 0:=by
 let b:((j:Nat):Int).toNat=j:=RA j;let c:((v:Int) /2^j)=((v/2^j:Nat):Int):=#[5]
 rw[b,c,gz (S1 _) ∅,RA,show((1:Int).toNat)=1 from rfl,We,kq];by_cases a:v/2^j % 2=1
 .rw[a,RE rfl,RF rfl];rfl
 .rw[RL a,RQ RO];lia
theorem MV{a:qs}(b:i<a.length):F1 ((d5 a).map int) (0+(i:Int))=some (.int ((a.getD i 0:Nat):Int)):=by rw[Sy];show bB ?_;rw[RU,d5,RU,RR b];simp[b]
theorem EW(g:Nat->Nat)(n:Nat):bc (λ_=>true) (λi=>int ((g i:Nat):Int)) n=(d5 ((range n).map g)).map int:=by unfold bc d5;rw[Sd.mpr (λ_ _=>rfl),RP,RP];rfl
theorem ER(r:Nat->Nat)(n:Nat):bc (λ_=>true) (λi=>int ((r i:Nat):Int)) (2^n)=(aI n r).map int:=by unfold bc aI;rw[Sd.mpr (λ_ _=>rfl),RP];rfl
theorem HL(a:qs)(j:Nat):(fX a j).length=a.length:=by unfold fX;rw[My,RW]
theorem FL(a:qs)(j:Nat):((range (j+1)).map (fX a)).flatten=((range j).map (fX a)).flatten++fX a j:=by rw[Td,R6,List.flatten_append];simp
def A9(l:XT)(z:Str):Prop:=∃(v:Str)(r xs:qq)(R:List V->Hp->Prop),O0 z (v::r)/\r.length<=90/\v∈cK/\Yv da v r xs R/\∃y∈xs,D1 l y=none
def Zd(c:Cs)(l:XT)(t:Addr)(H:Hp)(n:Nat)(z:Str)(b:Nat->Nat):Prop:=∃(v:Str)(r xs:qq)(R:List V->Hp->Prop),O0 z (v::r)/\r.length<=90/\v∈cK/\Yv da v r xs R/\z8 n b/\All l xs/\∀a,SameBut t H a->YS c v (jZ l xs) R a n b
theorem CU.mk(h:CU n z rk)(c:Cs)(l:XT)(t:Addr)(H:Hp):Zd c l t H n z rk:=by let(v,r,R,b,d,e,f,g,i):=h;show#[v,r,[],R,b,d,e,f,g,λy j=>(nomatch j),λa _=>i c a]
structure ZI(K:Frag)(H:Hp)(na:Addr)(ns:qq):Prop where
 sq:vr K H na (ns.map str)
 len:ns.length=4
 ok:∀z∈ns,bW z
theorem ZI.at{ns:qq}(h:ZI K H na ns)(x:Int):∃y,F1 (ns.map str) (x % 4)=some (.str y)/\bW y/\y∈ns:=by
 let m:=bE (x:=x) (show(0:Int)<4 by decide);let(k,a):=Sl m.1;let hl:k<ns.length:=by rw[h.len];lia
 show#[ns[k],6,h.ok _ (SX hl),SX hl];rw[a];show bB (by rw[RU,RR hl];rfl)
inductive GU(K:Frag)(c:Cs)(C:Addr)(vs:List V)(H:Hp)(Q:VK)(E:XK):Prop
 |mk(na t x:Addr) (ns:qq) (m:XT) (xs:qR) (p d:Addr) (l:XT) (_:vs=[.ref na, .ref t, .ref x]) (_:ZI K H na ns) (_:Xs K H x xs) (_:TR c C H p d t l m) (_:(∀z q H',vc H H'->H' q=some (.tup [.str z, .non])->A9 l z->Q (.ref q) H')) (_:∀z n rk q b H',vc H H'->H' q=some (.tup [.str z, .ref b])->H' b=some (.lst ((aI n rk).map int))->n<=6->Zd c l t H n z rk->Q (.ref q) H')
theorem AB{a v y:Str}(e:a=v++ " ")(b:Wo v)(c:Wo y):O0 (a++y) [v,y]:=by subst e;show(O0.one b).app (O0.one c) (by change 1+1<=100;decide)
theorem oX{a v y z:Str}(e:a=v++ " ")(b:Wo v)(c:Wo y)(hz:Wo z):O0 (a++y++ " "++z) [v,y,z]:=(AB e b c).app (O0.one hz) (by change 2+1<=100;decide)
theorem cv{a b:Str}(i j:Nat)(c:a.length<=i)(d:b.length<=j)(h:i+j<=10000):a.length+b.length<=sizeLine:=RB (T5 c d) (RB h ∅)
theorem iw{a b:Str}(i j:Nat)(c:a.length<=i)(d:b.length<=j):(a++b).length<=i+j:=by rw[yI];show T5 c d
structure Ry(a y z:Str):Prop where
 one:a.length+y.length<=sizeLine
 gap:(a++y).length+(" ":Str).length<=sizeLine
 two:(a++y++ " ").length+z.length<=sizeLine
theorem FP{a y z:Str}(b:a.length<=10)(c:Wo y)(hz:Wo z):Ry a y z:=
 #[cv 10 61 b c.wk.1 ∅,cv 71 1 (iw 10 61 b c.wk.1) ∅ ∅,cv 72 61 (iw 71 1 (iw 10 61 b c.wk.1) ∅) hz.wk.1 ∅]
theorem PQ{P:Str->Prop}(h:0<=x/\x<2)(p1:P a)(p2:P b):∃z,F1 [str a,str b] x=some (.str z)/\P z:=by
 rcases(show x=0\/x=1 by lia)with rfl|rfl
 .show#[a,2,p1]
 .show#[b,2,p2]
theorem Km{P:Str->Prop}(h:0<=x/\x<3)(p1:P a)(p2:P b)(p3:P c):∃z,F1 [str a,str b,str c] x=some (.str z)/\P z:=by
 rcases(show x=0\/x=1\/x=2 by lia)with rfl|rfl|rfl
 .show#[a,2,p1]
 .show#[b,2,p2]
 .show#[c,2,p3]
theorem ky(h:cp a=cp v++[32]):a=v++ " ":=lE (by rw[h,dW];rfl)
theorem Fb(a:bW y)(u:D1 l y=none):A9 l ("other "++y):=#["other",111,AB (ky ∅) (dX ∅) (bb a),by change 1<=90;decide,4,rR (λ_=>rfl) a,y,RH,u]
theorem Mf(b:bW y)(u:D1 l y=none):A9 l ("out "++y++ " b"):=#["out",111,by
 have:=oX (a:= "out ") (z:=aT 2) (ky ∅) (dX (z:= "out") ∅) (bb b) (hV ∅);rwa[show "out "++y++ " "++aT 2= "out "++y++ " b" from lE (by rw[dW,dW (_++y) " b",dW (_++y),TK];congr 1)]at this,by change 2<=90;decide,4,oM (λ_=>rfl) b ∅,y,RH,u]
theorem uu(a:bW y)(hz:bW z)(u:D1 l y=none\/D1 l z=none):A9 l ("side "++y++ " "++z):=#["side",111,oX (ky ∅) (dX ∅) (bb a) (bb hz),by change 2<=90;decide,4,rQ (λ_=>rfl) a hz,u.elim (λu=>#[y,RH,u]) λu=>#[z,RI _ RH,u]]
theorem fz(h:D1 l y=some a):All l [y]/\jZ l [y]=[a]:=#[λz hz=>#[a,by rw[RY.mp hz];show h],by change [(D1 l y).getD .non]=_;rw[h];rfl]
theorem sk(h:D1 l y=some a)(c:D1 l z=some b):All l [y,z]/\jZ l [y,z]=[a,b]:=#[λw hw=>by
 rcases RT.mp hw with rfl|hw
 .show#[a,h]
 .rw[RY.mp hw];show#[b,c],by change [(D1 l y).getD .non,(D1 l z).getD .non]=_;rw[h,c];rfl]
theorem As{l m:XT}(b:H t=some (.dK m))(a:bW y)(u:D1 l y=some (.ref h))(o:Pm c H h n ms)(M:z8 n (ag ms)):Zd c l t H n ("other "++y) (lC n (ag ms)):=
 #["other",111,AB (ky ∅) (dX ∅) (bb a),by change 1<=90;decide,4,rR (λ_=>rfl) a,M.dual,(fz u).1,(fz u).2▸λe d=>Fn (o.but b d) M]
theorem Pg{l m:XT}(d:H t=some (.dK m))(b:bW y)(u:D1 l y=some (.ref h))(o:Pm c H h n ms)(M:z8 n (ag ms))(a:s<2^n):Zd c l t H (sz (aB (2^n-1) s)) ("out "++y++ " "++aT s) (uw (ag ms) (aB (2^n-1) s) 0):=
 #["out",111,oX (ky ∅) (dX ∅) (bb b) (hV (M.bF a)),by change 2<=90;decide,4,oM (λ_=>rfl) b (M.bF a),M.minor gq (Su ()),(fz u).1,(fz u).2▸λf e=>Mu (o.but d e) M a]
theorem Je{l m:XT}(d:H t=some (.dK m))(b:bW y)(u:D1 l y=some (.ref h))(o:Pm c H h n ms)(M:z8 n (ag ms))(a:s<2^n):Zd c l t H (sz (aB (2^n-1) s)) ("drawn "++y++ " "++aT s) (uw (ag ms) (aB (2^n-1) s) s):=
 #[XO,111,oX (ky ∅) (dX ∅) (bb b) (hV (M.bF a)),by change 2<=90;decide,4,oM (λ_=>rfl) b (M.bF a),M.minor gq a,(fz u).1,(fz u).2▸λf e=>Fo (o.but d e) M a]
theorem Mr{l m:XT}(a:H t=some (.dK m))(b:bW y)(hz:bW z)(u1:D1 l y=some (.ref h1))(u2:D1 l z=some (.ref h2))(f:Pm c H h1 n1 m1)(g:Pm c H h2 n2 m2)(M1:z8 n1 (ag m1))(M2:z8 n2 (ag m2))(d:n1+n2<=8):Zd c l t H (n1+n2) ("side "++y++ " "++z) (j3 n1 (ag m1) (ag m2)):=
 #["side",111,oX (ky ∅) (dX ∅) (bb b) (bb hz),by change 2<=90;decide,4,rQ (λ_=>rfl) b hz,M1.side M2 d,(sk u1 u2).1,(sk u1 u2).2▸λh e=>Jj (f.but a e) (g.but a e) d]
theorem fK(h:TR c C H p d t l m)(y:Str):IsD H t/\j2 H t (.str y) (D1 m y):=#[.inl #[m,Rd.of h.dt],j2.k (k:=aax y) h.dt]
def CT(l:XT)(z:Str):Prop:=∃(v:Str)(r xs:qq)(R:List V->Hp->Prop),O0 z (v::r)/\r.head?≠some "="/\hU v/\Yv gr v r xs R/\∃y∈xs,D1 l y=none
def Gm(c:Cs)(l:XT)(H:Hp)(z a:Str):Prop:=∃(v:Str)(r xs:qq)(R:List V->Hp->Prop),O0 z (v::r)/\r.head?≠some "="/\hU v/\Yv gr v r xs R/\All l xs/\ZE c v (jZ l xs) R H a
inductive K1(K:Frag)(c:Cs)(C:Addr)(vs:List V)(H:Hp)(Q:VK)(E:XK):Prop
 |mk(na t x:Addr) (ns:qq) (m:XT) (xs:qR) (p d:Addr) (l:XT) (_:vs=[.ref na, .ref t, .ref x]) (_:ZI K H na ns) (_:Xs K H x xs) (_:TR c C H p d t l m) (_:(∀z q H',vc H H'->H' q=some (.tup [.str z, .non])->CT l z->Q (.ref q) H')) (_:∀z due q H',vc H H'->H' q=some (.tup [.str z, .str due])->Gm c l H z due->Q (.ref q) H')
def oy(v:Str):Prop:=v= Xu\/v= Xq\/v= Xz\/v= XN
theorem lY(a:bW y):(y::r).head?≠some "=":=λe=>Mh a (Sm e)
theorem i5(h:oy v):(∀K,(gr K).lookup v=some (qJ K))/\hU v/\Wo v/\(∀c,(gg c).lookup v=some (mC c (gb v))):=by
 rcases h with rfl|rfl|rfl|rfl
 .show#[λ_=>rfl,by unfold hU;decide,dX ∅,λ_=>rfl]
 .show#[λ_=>rfl,by unfold hU;decide,dX ∅,λ_=>rfl]
 .show#[λ_=>rfl,by unfold hU;decide,dX ∅,λ_=>rfl]
 .show#[λ_=>rfl,by unfold hU;decide,dX ∅,λ_=>rfl]
theorem qv(a:oy v)(b:bW y)(u:D1 l y=none):CT l (v++ " "++y):=#[v,111,AB rfl (i5 a).2.2.1 (bb b),lY b,(i5 a).2.1,rR (i5 a).1 b,y,RH,u]
theorem A7(a:oy v)(b:bW y)(u:D1 l y=some (.ref h))(o:Pm c H h n ms):Gm c l H (v++ " "++y) (vV (gb v n ms)):=
 #[v,111,AB rfl (i5 a).2.2.1 (bb b),lY b,(i5 a).2.1,rR (i5 a).1 b,(fz u).1,(fz u).2▸Gw ((i5 a).2.2.2 c) o]
noncomputable def Pb(v:Str)(n:Nat)(ms:qR)(s:Nat):Str:=if v= Xx then aw (ag ms s:Nat)else aT (fj ms n s)
def qV(v:Str):Prop:=v= Xx\/v= XQ
theorem jR(h:qV v):(∀K,(gr K).lookup v=some (nk K))/\hU v/\Wo v/\(∀c,(gg c).lookup v=some (vU c (Pb v))):=by
 rcases h with rfl|rfl
 .show#[λ_=>rfl,by unfold hU;decide,dX ∅,λ_=>rfl]
 .show#[λ_=>rfl,by unfold hU;decide,dX ∅,λ_=>rfl]
theorem IM(a:qV v)(b:bW y)(c:s<256)(u:D1 l y=none):CT l (v++ " "++y++ " "++aT s):=#[v,111,oX rfl (jR a).2.2.1 (bb b) (hV c),lY b,(jR a).2.1,oM (jR a).1 b c,y,RH,u]
theorem MZ(a:qV v)(b:bW y)(f:n<=8)(d:s<2^n)(u:D1 l y=some (.ref h))(o:Pm c H h n ms):Gm c l H (v++ " "++y++ " "++aT s) (Pb v n ms s):=
 let e:=RK d (gO f)
 #[v,111,oX rfl (jR a).2.2.1 (bb b) (hV e),lY b,(jR a).2.1,oM (jR a).1 b e,(fz u).1,(fz u).2▸KG ((jR a).2.2.2 c) o d]
theorem KC(M1:z8 d (ag m1))(M2:z8 i (ag m2)):vZ d i m1 m2=decide (aI d (ag m1)=aI i (ag m2)):=by
 rw[SV];unfold vZ;rw[RZ,Ss,Ss,Ss];constructor
 .rintro⟨rfl,e⟩;let key:∀ {ms:qR},z8 d (ag ms)->∀s,s<2^d->ag (au (fg d ms)) s=ag ms s:=λ{ms} M s c=>M.uY (λz=>#[λhz=>by let(b,j,rfl):=c9 hz;let(f,g,h):=vh.mp j;show#[b,f,2,g,h],λ⟨b,f,g,h⟩=>RM.mpr #[b,vh.mpr #[f,h],g.symm]]) c
  show h9 λs c=>by rw[<-key M1 s c,e,key M2 s c]
 .intro e;let hl:=Se aa7 e;rw[bg,bg]at hl;let k:d=i:=(Nat.pow_right_inj (a:=2) ∅).mp hl;subst k;let key:∀s,s<2^d->ag m1 s=ag m2 s:=λs c=>by have f:=dB (ag m1) c;rw[e,dB (ag m2) c]at f;have:=V.int.inj (Sm f);lia
  show#[2,Ut λs c=> ?_];let c:=R1.mp c;unfold lG;rw[key s c,key _ (dg d)]
theorem wJ(a:bW y)(hz:bW z)(u:D1 l y=none\/D1 l z=none):CT l ("same "++y++ " "++z):=#[XG,111,oX (ky ∅) (dX ∅) (bb a) (bb hz),lY a,by unfold hU;decide,rQ (λ_=>rfl) a hz,u.elim (λu=>#[y,RH,u]) λu=>#[z,RI _ RH,u]]
theorem Ko(a:bW y)(hz:bW z)(u1:D1 l y=some (.ref h1))(u2:D1 l z=some (.ref h2))(b:Pm c H h1 n1 m1)(d:Pm c H h2 n2 m2):Gm c l H ("same "++y++ " "++z) (Zo (vZ n1 n2 m1 m2)):=
 #[XG,111,oX (ky ∅) (dX ∅) (bb a) (bb hz),lY a,by unfold hU;decide,rQ (λ_=>rfl) a hz,(sk u1 u2).1,(sk u1 u2).2▸Gx b d]
noncomputable def Bj(P:Nat->Bool)(i:Nat):Nat:=(((range i).filter P).map λk=>2^k).sum
theorem vR(P:Nat->Bool):∀i,i<=8->Bj P i<2^i/\∀j,(Bj P i).testBit j=(decide (j<i)&&P j)
 |0,_=>#[by change 0<1;decide,λj=>by rw[RL (Ve j),Vr];show SN j]
 |i+1,f=>by
  let(b,c):=vR P i ();let e:Bj P (i+1)=Bj P i+if P i=true then 2^i else 0:=by unfold Bj;rw[Td,TB,R6,List.sum_append];cases h:P i<;>simp[Tg,h]
  let lt:2^i<2^(i+1):=T8 ∅ ();let d:Bj P i<256:=RK b (gO ());let cut:∀j,j≠i->decide (j<i+1)=decide (j<i):=λj a=>S4.mpr #[λh=>(),λh=>()];rw[e];cases h:P i with
  |true=>
   rw[RF rfl,((fc _ d i ()).2 (Sv b)).1];show#[SQ (Tp b lt) lt,λj=> ?_];rw[aR,c];by_cases a:j=i
   .subst a;rw[h];simp
   .rw[cut j a,RL (show¬i=j from λe=>a e.symm),S9]
  |false=>
   rw[RQ RO,aey];show#[Tp b lt,λj=> ?_];rw[c];by_cases a:j=i
   .subst a;rw[h,Vt,Vt]
   .rw[cut j a]
theorem CF(b:n<=8)(c:s<2^n):fj ms n s=Bj (λk=>decide (ag ms (s|||2^k)=ag ms s)) n:=Sa λj=>by
 rw[xr b,lF,(vR _ n b).2];cases a:s.testBit j with
 |true=>
  have:j<n:=T2 λh=>by rw[Sv (RK c (R7 ∅ h))]at a;cases a
  rw[RE this,c5 a,RE rfl];rfl
 |false=>rfl
theorem zq(f:Nat->Nat):∀l:List Nat,(l.map λk=>((f k:Nat):Int)).sum=(((l.map f).sum:Nat):Int)
 | []=>rfl
 |k::l=>by rw[Sg,VD,Sg,VD,zq f l];lia
noncomputable def Z6(ms:qR)(s:Nat):V->Bool
 | .int z=>decide (ag ms (s|||z.toNat)=ag ms s)
 |_=>false
theorem z9(ms:qR)(s n:Nat):bD (Z6 ms s) id (((range n).map λk=>((2^k:Nat):Int)).map int)=(((range n).filter λk=>decide (ag ms (s|||2^k)=ag ms s)).map λk=>((2^k:Nat):Int)).map int:=by unfold bD;rw[T6,RP,VU,RP];congr 1
theorem vX(a:n<=8):(gb wd n ms).length<=300/\∀s∈gb wd n ms,s<256:=by
 unfold gb fg qB tM uL;split
 .show fH a _
 .split
  .show fH a _
  .split<;>show fH a _
theorem Kn(h:0<=z/\z<7):∃W:Str,F1 [str Xu,str Xq,str Xz,str XN,str Xx,str XQ,str XG] z=some (.str W)/\W.length<=9/\((z<4/\oy W/\W≠ XG)\/(3<z/\qV W/\W≠ XG)\/W= XG):=by
 unfold oy qV;rcases(show z=0\/z=1\/z=2\/z=3\/z=4\/z=5\/z=6 by lia)with rfl|rfl|rfl|rfl|rfl|rfl|rfl
 .show#[Xu,24, .inl #[4, .inl rfl,4]]
 .show#[Xq,24, .inl #[4, .inr (.inl rfl),4]]
 .show#[Xz,24, .inl #[4, .inr (.inr (.inl rfl)),4]]
 .show#[XN,24, .inl #[4, .inr (.inr (.inr rfl)),4]]
 .show#[Xx,24, .inr (.inl #[4, .inl rfl,4])]
 .show#[XQ,24, .inr (.inl #[4, .inr rfl,4])]
 .show#[XG,24, .inr (.inr rfl)]
theorem PR{z:Int}(c:bW y)(u:D1 l y=none)(h:(z<4/\oy W/\W≠ XG)\/(3<z/\qV W/\W≠ XG)):∃r,F1 [str (W++ " "++y),str (W++ " "++y++ " a")] (if decide (3<z)=true then 1 else 0)=some (.str r)/\CT l r:=by
 rcases h with ⟨b,a,_⟩|⟨b,a,_⟩
 .rw[RL (show¬3<z by lia)];show#[7,qv a c u]
 .rw[RE b];show#[76];have:=IM (s:=1) a c ∅ u;rwa[show W++ " "++y++ " "++aT 1=W++ " "++y++ " a" from lE (by rw[dW,dW (_++y) " a",dW (_++y),TK];congr 1)]at this
theorem QK(b:Bool):F1 [str "no",str "yes"] (if b=true then 1 else 0)=some (.str (Zo b)):=by cases b<;>rfl
def gX(d t:Addr)(H H':Hp):Prop:=∀b o,H b=some o->b≠d->b≠t->H' b=some o
inductive KS(K:Frag)(c:Cs)(C:Addr)(vs:List V)(H:Hp)(Q:VK)(E:XK):Prop
 |mk(p t na x d:Addr) (l m:XT) (ns:qq) (xs:qR) (_:vs=[.ref p, .ref t, .ref na, .ref x]) (_:TR c C H p d t l m) (_:(l.length<=800/\m.length<=800)) (_:ZI K H na ns) (_:Xs K H x xs) (_:∀l' m' H',gX d t H H'->TR c C H' p d t l' m'->l'.length<=l.length+1->m'.length<=m.length+1->Q (.bl true) H')
theorem iX(h:mz C H p d l):∃a fs,H p=some (.ins C a fs)/\fs.lookup ("say":Str)=none:=by let(a,b,_):=h;show#[a,_,b,CD d ∅]
theorem yE{l:XT}(m:mz C H p d l)(o:l.length<=1000)(h:CT l z)(k:∀H' e,vc H H'->E (.ref Cn) (some e) H'):mE K c C Cn [.ref p, .str z] H Q E:=by
 let(v,r,xs,R,f,g,i,j,y,n,u):=h;show vY m o f g i j (λ_=>k) λa=>by let(w,b):=a y n;rw[u]at b;cases b
theorem wN{ws:qq}(hx:bW x)(h:O0 z ws)(a:ws.length<=95):O0 (x++ " = "++z) (x:: "="::ws):=by have:=((O0.one (bb hx)).app (O0.one (z:= "=") (dX ∅)) (by change 1+1<=100;decide)).app h (by change 2+ws.length<=100;lia);rwa[show x++ " "++ "="++ " "++z=x++ " = "++z from lE (by simp only[dW,TK];rfl)]at this
theorem IP{l:XT}(j:mz C H p d l)(n:l.length<=1000)(hx:bW x)(h:A9 l z)(k:∀H' e,vc H H'->E (.ref Cn) (some e) H'):mE K c C Cn [.ref p, .str (x++ " = "++z)] H Q E:=by
 let(v,r,xs,R,f,o,g,i,y,m,u):=h;show zP j n (wN hx f (by rw[R3];lia)) hx g i (λ_=>k) λa=>by let(w,b):=a y m;rw[u]at b;cases b
theorem DZ{l:XT}(o:mz C H p d l)(t:l.length<=1000)(A:vc H0 H)(h:Gm c l H0 z due)(k:∀H',vc H H'->Q (.str due) H'):mE K c C Cn [.ref p, .str z] H Q E:=by
 let(v,r,xs,R,i,j,m,n,f,B):=h;show vY o t i j m n (λ⟨y,q,u⟩=>by let(w,a):=f y q;rw[u]at a;cases a) λ_=>#[due,λx g G b e s=>B x g G b e (A.trans s),k]
theorem Jn{l m:XT}(f:TR c C H p d t l m)(ll:l.length<=800/\m.length<=800)(s0:vc H0 H)(h:Zd c l t H0 n z rk)(hx:bW x)(J:n<=6)(hl:H b=some (.lst ((aI n rk).map int)))(k:∀O U H',gX d t H H'->TR c C H' p d t O U->O.length<=l.length+1->U.length<=m.length+1->Q (.str "ok") H'):mE K c C Cn [.ref p, .str (x++ " = "++z)] (upd H t (.dK (d6 m (.inr x) (.ref b)))) Q E:=by
 let(v,r,xs,R,h1,h2,h3,h4,M,al,md):=h;let g:SameBut t H (upd H t (.dK (d6 m (.inr x) (.ref b)))):=λb o e ne=>by rw[ak ne];show e
 let a3:upd H t (.dK (d6 m (.inr x) (.ref b))) t=some (.dK (d6 m (.inr x) (.ref b))):=aa;generalize upd H t (.dK (d6 m (.inr x) (.ref b)))=s at*;let(A,G,L):=f.dk;let q:s p=some (.ins C A (Zv d)):=g p _ G λe=>by rw[e,f.dt]at G;cases G
 let B:s d=some (.dK l):=g d _ L f.ne;show zP #[A,q,B] () (wN hx h1 (by rw[R3];lia)) hx h3 h4 (λ⟨y,hy,u⟩=>by let(w,N):=al y hy;rw[u]at N;cases N) λ_=>#[n,rk,M,md s λb o e ne=>g b o (s0 b o e) ne,λa ms H' j ho Mm er az=> ?_]
 let a5:=d4 l (.inr x) (V.ref a);let a7:=d4 m (.inr x) (V.ref b);show k _ _ H' (λb o e n1 n2=>j b o (g b o e n2) n1) #[#[A,j p _ q (λe=>by rw[e,B]at q;cases q),az],j t _ a3 f.ne.symm,f.ne,#[99],λy=> ?_] a5 a7;let keep:∀ {b:Addr} {u:List V},H b=some (.lst u)->H' b=some (.lst u):=λ{b u} e=>j b _ (g b _ e λi=>by rw[i,f.dt]at e;cases e) λi=>by rw[i,L]at e;cases e
 change YT c H' (dA (d6 l (.inr x) (.ref a)) (.inr y)) (dA (d6 m (.inr x) (.ref b)) (.inr y));rw[ot,ot];by_cases e:(aax y:Dn)=aax x
 .rw[RF e,RF e];show .inr #[a,b,n,ms,22,ho,Mm,J,by rw[<-h9 er];show keep hl]
 .rw[RQ e,RQ e];show(f.rel y).imp id λ⟨h,b,n,ms,e1,i,o,M,J,ay⟩=>#[h,b,n,ms,e1,i,(o.but f.dt g).but B j,M,J,keep ay]
theorem Le(s:vc H H'):gX d t H H':=λb o e _ _=>s b o e
theorem gX.pre(s:vc H H1)(h:gX d t H1 H'):gX d t H H':=λb o e a c=>h b o (s b o e) a c
inductive Oo(K:Frag)(c:Cs)(C:Addr)(vs:List V)(H:Hp)(Q:VK)(E:XK):Prop
 |mk(p t d:Addr) (l m:XT) (y:Str) (_:vs=[.ref p, .ref t, .str y]) (_:TR c C H p d t l m) (_:bW y) (_:∀H',vc H H'->Q (.bl true) H')
theorem Pm.but2{l m:XT}(x:Pm c H h n ms)(e:H d=some (.dK l))(f:H t=some (.dK m))(s:gX d t H H'):Pm c H' h n ms:=by obtain⟨⟨k,⟨g,t',a,b,i⟩,j⟩,o⟩:=x;show#[#[k,#[g,t',s _ _ a (by rintro rfl;rw[e]at a;cases a) (by rintro rfl;rw[f]at a;cases a),s _ _ b (by rintro rfl;rw[e]at b;cases b) (by rintro rfl;rw[f]at b;cases b),i],j],o]
theorem lz{l m:XT}(e:H b=some (.lst u))(a:H d=some (.dK l))(c:H t=some (.dK m))(s:gX d t H H'):H' b=some (.lst u):=s b _ e (by rintro rfl;rw[a]at e;cases e) (by rintro rfl;rw[c]at e;cases e)
theorem TR.but2{l m r u:XT}(h:TR c C H p d t l m)(e:H d'=some (.dK r))(f:H t'=some (.dK u))(v:d≠d')(w:d≠t')(x:t≠d')(y:t≠t')(s:gX d' t' H H'):TR c C H' p d t l m:=by let(g,a,k):=h.dk;show#[#[g,s _ _ a (by rintro rfl;rw[e]at a;cases a) (by rintro rfl;rw[f]at a;cases a),s _ _ k v w],s _ _ h.dt x y,h.ne,h.few,λz=>(h.rel z).imp id λ⟨h,b,n,ms,i,j,o,M,A,q⟩=>#[h,b,n,ms,i,j,o.but2 e f s,M,A,lz q e f s]]
structure Yu(c:Cs)(C:Addr)(H:Hp)(p0 d0 t0 p1 d1 t1:Addr)(i:Nat):Prop where
 a:∃l m,TR c C H p0 d0 t0 l m/\l.length<=i/\m.length<=i
 b:∃l m,TR c C H p1 d1 t1 l m/\l.length<=i/\m.length<=i
 n1:d0≠d1
 n2:d0≠t1
 n3:t0≠d1
 n4:t0≠t1
theorem Yu.swap(h:Yu c C H p0 d0 t0 p1 d1 t1 i):Yu c C H p1 d1 t1 p0 d0 t0 i:=#[h.b,h.a,h.n1.symm,h.n3.symm,h.n2.symm,h.n4.symm]
theorem Yu.same(h:Yu c C H p0 d0 t0 p1 d1 t1 i)(s:vc H H'):Yu c C H' p0 d0 t0 p1 d1 t1 i:=by let(l,m,d,e):=h.a;let(f,g,g1,g2):=h.b;show#[#[l,m,d.same s,e],#[f,g,g1.same s,g2],h.n1,h.n2,h.n3,h.n4]
theorem Gp{l m a d:XT}(h:Yu c C H p0 d0 t0 p1 d1 t1 i)(b:TR c C H p0 d0 t0 l m)(hl:l.length<=i/\m.length<=i)(s:gX d0 t0 H H')(e:TR c C H' p0 d0 t0 a d)(g:a.length<=l.length+1)(j:d.length<=m.length+1):Yu c C H' p0 d0 t0 p1 d1 t1 (i+1):=by let(u,v,g1,g2):=h.b;let(_,_,f):=b.dk;show#[#[a,d,e,99],#[u,v,g1.but2 f b.dt h.n1.symm h.n3.symm h.n2.symm h.n4.symm s,99],h.n1,h.n2,h.n3,h.n4]
theorem Gs(hz:0<=z/\z<2):∃p d t a d' t',F1 [V.ref p0,V.ref p1] z=some (.ref p)/\F1 [V.ref t0,V.ref t1] z=some (.ref t)/\∀H i,Yu c C H p d t a d' t' i↔Yu c C H p0 d0 t0 p1 d1 t1 i:=by
 rcases(show z=0\/z=1 by lia)with rfl|rfl
 .show#[p0,d0,t0,p1,d1,t1,22,λ_ _=>Iff.rfl]
 .show#[p1,d1,t1,p0,d0,t0,22,λ_ _=>#[Yu.swap,Yu.swap]]
def vM{b:Type}(R:b->Prop):List b->Prop
 | []=>True
 |a::l=>R a/\vM R l
theorem di:∀ {l:List b},vM R l->∀ {i:Nat} {a:b},l[i]?=some a->R a
 | [],_,_,_,e=>nomatch e
 |_::_,h,0,_,e=>by cases e;show h.1
 |_::_,h,_+1,_,e=>di h.2 e
inductive HD(K:Frag)(n:Str)(st:Stmt):Prop
 |mk{f:Addr} {oc:Value} {od an:pa} {sl:gj} {kV dc pm cd ct:Value} (a:nsIn K aak n=some (some (.ref f))) (l:K.lookup f=some ⟨oc,od, .func (ac4 n n (cP st) (bA st) (aC st) .none kV dc pm an cd ct),sl⟩) (c:ads K cd n=true) (k:aaG K (.ref f)=true):HD K n st
inductive HM(K:Frag)(C:Addr)(n q:Str)(st:Stmt)(f:Addr):Prop
 |mk{oc:Value} {od an:pa} {sl:gj} {kV dc pm cd ct:Value} (a:abe K (.ref C) n=some (some (.ref f))) (i:isFn K (.ref f)=true) (l:K.lookup f=some ⟨oc,od, .func (ac4 n q (cP st) (bA st) (aC st) .none kV dc pm an cd ct),sl⟩) (c:ads K cd q=true) (k:aaG K (.ref f)=true):HM K C n q st f
structure HQ(K:Frag)(C:Addr):Prop extends Cls K C where
 mi:makesIn K C=true
 kc:aaG K (.ref C)=true
noncomputable abbrev dLs:List (Str×Stmt):=("holds",xS)::("things",sY)::("size",Bz)::("set_of",tm)::("within",sU)::("parts",xR)::("spread",tf)::("less",BE)::("exchanged",kO)::("all_of",tJ)::("shown",xM)::("read",BA)::("need",BB)::("made_of",pO)::("name_of",pM)::("number_of",kL)::("number_up_to",gD)::("signed_of",kD)::("set_within",jm)::("tie_of",sX)::("rows_of",pK)::("read_even",kK)::("read_house",jq)::("read_two_houses",d7)::("read_house_and_set",cX)::("read_sets",kJ)::("read_net",nr)::("read_table",jo)::("making_line",iB)::("asking_line",iC)::("line_of",pP)::("tied",By)::("rests",xP)::("pivot_place",iA)::("cleared",pW)::("all_cleared",iD)::("rank_of",pL)::("ranks",xQ)::("whole_rank",jf)::("frees",xT)::("bases",xV)::("is_ring",pQ)::("rings",xO)::("is_flat",pT)::("flats",xU)::("closed",tI)::("marked",tE)::("has_exchange",gE)::("broken_bases",gH)::("holds_ring",jx)::("ring_in_ring",gC)::("rings_without_third",cH)::("broken_rings",gF)::("least_flat",jw)::("common_not_listed",dq)::("flats_that_meet",d9)::("broken_flats",gG)::("refuse",tq)::("house_of_frees",eU)::("is_free",pR)::("of_bases",nz)::("of_rings",nt)::("of_flats",nu)::("fit",HJ)::("fit_set",pU)::("made_even",kN)::("made_of_bases",fO)::("made_of_rings",fL)::("made_of_flats",fN)::("made_net",nC)::("made_table",jr)::("made_other",jt)::("made_out",nB)::("made_drawn",jv)::("made_side",kM)::("made",BC)::("shown_all",kF)::("sets_text",kG)::("yes_or_no",kA)::("told_bases",jk)::("told_rings",jg)::("told_flats",ji)::("told_frees",jh)::("told_rank",kC)::("told_closed",iz)::("told_same",kB)::("answered",nD)::("_law_answers",gL)::("_law_nobody",iG)::("_law_stream",iF)::("_law_sizes",jz)::("_law_many_of",gK)::("_law_text",kT)::("_law_texts",jy)::("_law_minor",jC)::("_law_side",kW)::("_law_other",jA)::("_law_rank",kX)::("_law_even",kZ)::("_law_sets_of",gJ)::("_law_told_by",gI)::("_law_names",jB)::("_law_two_rows",fP)::("_law_at",pX)::("_law_new",nF)::("_law_turned",iE)::("_law_question",fQ)::("_law_step",kU)::("_law_last",kY)::("law",tF)::[]
noncomputable abbrev Zj:List (Addr×Str×Str×Stmt×Addr):=(655,"__init__","Line.__init__",fS,652)::(269,"__init__","House.__init__",eX,252)::(269,"everything","House.everything",dQ,266)::(297,"__init__","Even.__init__",fV,287)::(297,"rank","Even.rank",k7,294)::(321,"__init__","Listed.__init__",eu,313)::(321,"rank","Listed.rank",iI,318)::(835,"__init__","Net.__init__",gN,818)::(835,"pieces","Net.pieces",jE,825)::(835,"rank","Net.rank",nG,832)::(901,"__init__","Tabled.__init__",eh,893)::(901,"rank","Tabled.rank",iH,898)::(487,"__init__","Side.__init__",fR,477)::(487,"rank","Side.rank",k6,484)::(461,"__init__","Minor.__init__",eW,451)::(461,"rank","Minor.rank",jF,458)::(435,"__init__","Other.__init__",eV,425)::(435,"rank","Other.rank",jD,432)::(1149,"__init__","Desk.__init__",fW,1134)::(1149,"house_called","Desk.house_called",du,1141)::(1149,"say","Desk.say",nH,1146)::[]
noncomputable abbrev Z5:List (Str×Value):=("House", .ref 269)::("Even", .ref 297)::("Net", .ref 835)::("Tabled", .ref 901)::("Listed", .ref 321)::("Other", .ref 435)::("Minor", .ref 461)::("Side", .ref 487)::("Line", .ref 655)::("Desk", .ref 1149)::("NoName", .ref 224)::("NOUGHT_AND_PRIMES", .ref 638)::("MAKING", .ref 779)::("ASKING", .ref 780)::("MADE", .ref 1105)::("TOLD", .ref 1106)::("read_even", .ref 725)::("read_sets", .ref 730)::("read_net", .ref 735)::("read_table", .ref 740)::("read_house", .ref 747)::("read_house_and_set", .ref 759)::("read_two_houses", .ref 752)::("made_even", .ref 931)::("made_of_bases", .ref 938)::("made_of_rings", .ref 945)::("made_of_flats", .ref 952)::("made_net", .ref 959)::("made_table", .ref 966)::("made_other", .ref 973)::("made_out", .ref 980)::("made_drawn", .ref 987)::("made_side", .ref 994)::("told_bases", .ref 1015)::("told_rings", .ref 1022)::("told_flats", .ref 1029)::("told_frees", .ref 1036)::("told_rank", .ref 1043)::("told_closed", .ref 1050)::("told_same", .ref 1057)::("SMALL_LETTERS", .str dN 1040)::("FIGURES", .str lO 1042)::("LETTERS", .str dY 1016)::("EMPTY", .str C0 1018)::("MOST", .int kj 1044)::("MOST_POINTS", .int mB 1046)::[]
noncomputable abbrev zLs:List Str:=["len","range","isinstance","int","bool","list","max","min","tuple","sorted","any","all","dict","enumerate","str","set","ValueError","zip","sum","reversed"]
noncomputable abbrev aLs:List (Addr×Str×Option Value):=(269,"many",none)::(297,"many",none)::(297,"most",none)::(297,"everything",some (.ref 266))::(835,"many",none)::(835,"points",none)::(835,"ties",none)::(835,"everything",some (.ref 266))::(901,"many",none)::(901,"prime",none)::(901,"rows",none)::(901,"everything",some (.ref 266))::(321,"many",none)::(321,"listed",none)::(321,"everything",some (.ref 266))::(435,"many",none)::(435,"house",none)::(435,"full",none)::(435,"full_rank",none)::(435,"everything",some (.ref 266))::(461,"many",none)::(461,"house",none)::(461,"kept",none)::(461,"drawn",none)::(461,"drawn_rank",none)::(461,"everything",some (.ref 266))::(487,"many",none)::(487,"first",none)::(487,"second",none)::(487,"first_many",none)::(487,"first_full",none)::(487,"everything",some (.ref 266))::(655,"target",none)::(655,"verb",none)::(655,"asked",none)::(655,"given",none)::(1149,"houses",none)::[]
noncomputable abbrev ZD:List Addr:=[269,297,835,901,321,435,461,487,655,1149]
noncomputable abbrev ZR:List Addr:=[321,435,297,835,901,461,487]
noncomputable abbrev cc:Cs:=#[(297),(321),(835),(901),(461),(435),(487)]
structure Cv(w:t4)(K:Frag):Prop where
 d:vM (λp=>HD K p.1 p.2) dLs
 m:vM (λp=>HM K p.1 p.2.1 p.2.2.1 p.2.2.2.1 p.2.2.2.2) Zj
 r:vM (λp=>nsIn K aak p.1=some (some p.2)) Z5
 z:vM (λn=>nsIn K aak n=some none) zLs
 a:vM (λp=>abe K (.ref p.1) p.2.1=some p.2.2) aLs
 l:vM (HQ K) ZD
 kII:abb K (.type "int") (.type "int")=some true
 kIB:abb K (.type "int") (.type "bool")=some false
 kLL:abb K (.type "list") (.type "list")=some true
 kSS:abb K (.type "str") (.type "str")=some true
 kTT:abb K (.type "tuple") (.type "tuple")=some true
 gaH:adq K (.ref 269) "__getattribute__"=some (some (.builtin "type.__getattribute__"))
 rdH:adN K 269 (.type "type")=true
 fcH:adM K (.ref 269) (.type "type") "__init__"=some (.val (.ref 252))
 qN:excIn K 224 QJ "ValueError.__new__"=true
 xN:aef K (.ref 224) (.ref 224)=some true
 lN:∀H,GB K H 638 ((au Yo).map int)
 y:vM (ZS K) ZR
 h:vM (λC=>abb K (.ref C) (.ref 269)=some true) ZR
 fM:∀P,oo P w K 779 (cK.zip [725,730,730,730,735,740,747,759,759,752])
 fA:∀P,oo P w K 780 (fC.zip [747,747,747,747,759,759,752,747,747,747,752,771,747,778])
 fD:∀P,oo P w K 1105 (cK.zip [931,938,945,952,959,966,973,980,987,994])
 fT:∀P,oo P w K 1106 (fC.zip [1015,1022,1029,1036,1043,1050,1057,1064,1071,1078,1085,1092,1097,1104])
class Ct (P:outParam Program) (w:outParam aaX) (K:outParam Frag) (mg:outParam (Str->Option Value)) (base:outParam Heap):Prop where
 s:Cv w K
 X:K.In base
 G:base.Ns aak mg
section
open Lean in
def zzA (f : Lean.Term) (xs : Array Lean.Term) : Lean.Term:=if f.raw.isOfKind ``Lean.Parser.Term.app then #[f.raw.setArg 1 (Lean.mkNullNode (f.raw[1].getArgs++xs.map (·.raw)))] else Lean.Syntax.mkApp f xs
open Lean in
def zzV (e : Lean.Term) : Lean.Term:=if e.raw.isNatLit?.isSome then zzA (Lean.mkIdent `pv) #v[e] else e
open Lean in
def zzT(s:Term):List (Char×Term×String):=("a.Ic.vv e.rW.v r.Z4.v f.Qs.vvv E.Lw.v F.Z0.vvv x.Zr.v y.pa2.vv q.fh.vv S.OT.v T.Ip.v o.mJ.vvv p.wpt.vvv P.wpe.vvv c.Zh.vhv l.NV.kvv t.QW.kvv k.ZZ.klv d.Yx.kv h.wil.kv g.ZY.gv A.DF. B.BY. C.BZ. D.yh. G.IB. H.O5. I.IC. J.Pa. K.NI. L.DD. N.O9. i.dy. s.BO. n.tT. b.NG. j.Ls. u.Dz. z.qe. w.Zz.anv m.Yr.an v.Zp.a X.QV.aaavaav Y.QU.anaaavaav".splitOn " ").map fun k=>match (k.splitOn ".") with|[c,n,p]=>(c.front,mkIdent (.mkSimple n),p)|_=>(' ',s,"")
open Lean in
def zzE(s nd hr:Term)(x:Array Term×List Term)(e:Char):Array Term×List Term:=let y:=x.2.headD s;(x.1.push (if e=='n' then nd else if e=='h' then hr else if e=='k' then mkIdent `K else if e=='l' then mkIdent `N1.len_ else if e=='g' then mkIdent `N1.range_ else if e=='v' then zzV y else y),if e=='v'||e=='a' then x.2.tail else x.2)
open Lean in
def zzF(w:List (Char×Term×String))(s nd hr:Term)(r:List Term)(c:Char)(st:List Term):List Term:=let a:=st.headD s;let q:=st.tail;let k:="MQR".toList.idxOf c+1;if c.isDigit then quote (c.toNat - 48)::st else if c=='O' then quote (10 + zzI a)::q else if c=='Z' then r.getD (zzI a) a::q else if k<4 then zzA a ((q.take k).map zzV).toArray::q.drop k else let h:=(w.lookup c).getD (s,"");let x:=h.2.toList.foldl (zzE s nd hr) (List.toArray [],st);zzA h.1 x.1::x.2
open Lean in
local macro_rules|`(#v[$x,*])=>do{let z:List Term:=x.getElems.toList;match z with|s::nd::hr::r=>(match s.raw.isStrLit? with|none=>Macro.throwUnsupported|some wd=>do{let K:=mkIdent `K;let S:=mkIdent `N1.str_;let t<-`((bz yT ⋯ $S PyProof.Rows.boot_str,tX (K:=$K) ⋯ UR PySem.F.slot_str_join PySem.F.type_str_join (IZ (K:=$K) ⋯),tX (K:=$K) ⋯ PySem.F.plainAttrs_list PySem.F.slot_list_append PySem.F.type_list_append wR));let w:=[('U',⟨t.raw[1][0]⟩,"v"),('V',⟨t.raw[1][2][0]⟩,"vv"),('W',⟨t.raw[1][2][2]⟩,"vv")]++zzT s;pure (zzV ((wd.toList.foldr (zzF w s nd hr r) []).headD s))})|_=>Macro.throwUnsupported}
seal L2.PE L2.PS L2.X4 L2.PA L2.PT L2.PW L2.PG L2.PI
theorem apart{l m:List Addr}(h:(l++m).Nodup)(a:C∈l)(b:C∈m):False:=(Vz.mp h).2.2 C a C b rfl
theorem QH{c:Cs}(h:(Zu (X0 c.L) c.O).dom C):C∈[c.L,c.O]:=by rcases h with h|rfl;(cases h;simp);simp
theorem PF{c:Cs}(h:(YC (ZQ c.E) (YC (MM c.N) (ZP c.T))).dom C):C∈[c.E,c.N,c.T]:=by rcases h with h|h|h<;>(cases h;simp)
theorem PD{c:Cs}(h:(YC (JJ (X0 c.L) c.M) (JH (X0 c.L) c.S)).dom C):C∈[c.M,c.S]:=by rcases h with h|h<;>(cases h;simp)
theorem Qi{c:Cs}(d:[c.L,c.O,c.E,c.N,c.T,c.M,c.S].Nodup)(l:cJ P w K mg base 4 c.L "rank" ["self","s"] (gh (X0 c.L) c.L))(o:cJ P w K mg base 5 c.O "rank" ["self","s"] (gh (Zu (X0 c.L) c.O) c.O))(e:cJ P w K mg base 4 c.E "rank" ["self","s"] (xG c.E))(n:cJ P w K mg base 4 c.N "rank" ["self","s"] (xF c.N))(t:cJ P w K mg base 4 c.T "rank" ["self","s"] (sP c.T))(m:cJ P w K mg base 5 c.M "rank" ["self","s"] (gh (JJ (X0 c.L) c.M) c.M))(s:cJ P w K mg base 5 c.S "rank" ["self","s"] (gh (JH (X0 c.L) c.S) c.S)):
  ∀C,(X5 c).dom C->cJ P w K mg base 5 C "rank" ["self","s"] (gh (X5 c) C):=by
 show ux (JI (a8 _) _) (e6 (e6 (yK _) (e6 (oZ _) (uJ _))) (e6 (sg (a8 _) _) (sf (a8 _) _))) (λC a b=>apart (l:=[c.L,c.O]) (m:=[c.E,c.N,c.T,c.M,c.S]) d (QH a) ?_) (λC h=> ?_) (ux (e6 (yK _) (e6 (oZ _) (uJ _))) (e6 (sg (a8 _) _) (sf (a8 _) _)) (λC a b=>apart (l:=[c.L,c.O,c.E,c.N,c.T]) (m:=[c.M,c.S]) d (R9.mpr (.inr (PF a):C∈[c.L,c.O]\/C∈[c.E,c.N,c.T])) (PD b)) (ux (yK _) (e6 (oZ _) (uJ _)) (λC a b=>apart (l:=[c.L,c.O,c.E]) (m:=[c.N,c.T,c.M,c.S]) d (C:=C) (by cases a;simp) (by rcases b with h|h<;>(cases h;simp))) (λC h=> ?_) (ux (oZ _) (uJ _) (λC a b=>apart (l:=[c.L,c.O,c.E,c.N]) (m:=[c.T,c.M,c.S]) d (C:=C) (by cases a;simp) (by cases b;simp)) (λC h=> ?_) λC h=> ?_)) (ux (sg (a8 _) _) (sf (a8 _) _) (λC a b=>apart (l:=[c.L,c.O,c.E,c.N,c.T,c.M]) (m:=[c.S]) d (C:=C) (by cases a;simp) (by cases b;simp)) (λC h=> ?_) λC h=> ?_))
 .rcases b with h|h
  .show R9.mpr (.inl (PF h):C∈[c.E,c.N,c.T]\/C∈[c.M,c.S])
  .show R9.mpr (.inr (PD h):C∈[c.E,c.N,c.T]\/C∈[c.M,c.S])
 .rcases h with h|rfl
  .cases h;show cJ.imp (cJ.mono l ∅) (Eo λe=>apart (l:=[c.L]) (m:=[c.O,c.E,c.N,c.T,c.M,c.S]) d (C:=c.L) #[5] (by simp[<-e]))
  .show o
 .cases h;show cJ.imp (cJ.mono e ∅) Rb
 .cases h;show cJ.imp (cJ.mono n ∅) Q9
 .cases h;show cJ.imp (cJ.mono t ∅) Q8
 .cases h;show m
 .cases h;show s
theorem QG{p:Addr->Prop}{c:Cs}(h:∀C∈[c.L,c.O,c.E,c.N,c.T,c.M,c.S],p C):∀C,(X5 c).dom C->p C:=λC d=>by
 rcases d with d|d|d
 .show h C (R9.mpr (.inl (QH d):C∈[c.L,c.O]\/C∈[c.E,c.N,c.T,c.M,c.S]))
 .show h C (R9.mpr (.inl (R9.mpr (.inr (PF d):C∈[c.L,c.O]\/C∈[c.E,c.N,c.T])):C∈[c.L,c.O,c.E,c.N,c.T]\/C∈[c.M,c.S]))
 .show h C (R9.mpr (.inr (PD d):C∈[c.L,c.O,c.E,c.N,c.T]\/C∈[c.M,c.S]))
theorem QP{p:Addr->Prop}(i:p a)(j:p b)(k:p c)(l:p d)(m:p e)(n:p f)(o:p g):∀C∈[a,b,c,d,e,f,g],p C:=by simp only[Uw];show#[i,j,k,l,m,n,o,λ_ h=>nomatch h]
noncomputable def DL:List Value->List Int->Bool
 | [],[]=>true
 | .int i _::us,j::a=>decide (i=j)&&DL us a
 |_,_=>false
theorem iN:∀ {us:pk} {a:qR},DL us a=true->zj (a.map int) us
 | [],[],_=> .nil
 | .int i t::us,j::a,h=>by rw[DL,RZ,Ub]at h;show .cons #[t,by rw[h.1]] (iN h.2)
theorem NY{K:Frag}{d n:Nat}{a:pj}(e:K.lookup d=some #[.type "tuple",b, .seq a n,c])(h:DL a.toList (au Yo)=true)(H:Hp):GB K H d ((au Yo).map int):=by have v:=iN h;show .inr #[_,a,n,e,226,v];rw[<-Sq,<-v.length];decide+kernel
theorem zD:gZ (X5 cc):=JK cc
theorem zL:gZ (X0 cc.L):=a8 cc.L
theorem neO:∀C,(X0 cc.L).dom C->435≠C:=λC h e=>apart (l:=[cc.L]) (m:=[cc.O,cc.E,cc.N,cc.T,cc.M,cc.S]) ∅ (C:=C) (by cases h;simp) (by rw[<-e];simp)
abbrev Ca{P:rj}{w:t4}{K:Frag}{mg:jn}{base:Heap}[Ct P w K mg base](k:Nat)(x:Str)(ps:qq)(sp:Sp):Prop:=YV P w K mg base k x ps sp
variable{P:rj}{w:t4}{K:Frag}{mg:jn}{base:Heap}[cT:Ct P w K mg base]
include cT
theorem X9(i:Nat){n:Str}(h:zLs[i]?=some n:=by rfl):mg n=none:=PySem.W.mg_none_of cT.X cT.G (di cT.s.z h)
theorem N1:Tb K mg:=#[X9 0,X9 1,X9 2,X9 3,X9 4,X9 5,X9 6,X9 7,X9 8,X9 9,X9 10,X9 11,X9 12,X9 13,X9 14,X9 15,X9 16,X9 17,X9 18,X9 19,cT.s.kII,cT.s.kIB,cT.s.kLL,cT.s.kSS,cT.s.kTT]
theorem gR(i:Nat){n:Str}{v:Value}(h:Z5[i]?=some (n,v):=by rfl):mg n=some v:=Wi cT.X cT.G (di cT.s.r h)
theorem nA(i:Nat){C:Addr}{n:Str}{v:Option Value}(h:aLs[i]?=some (C,n,v):=by rfl):abe K (.ref C) n=some v:=di cT.s.a h
theorem hC(C:Addr)(h:C∈ZD:=by decide):HQ K C:=by let(i,e):=SO h;show di cT.s.l e
theorem mM(i:Nat){C:Addr}{m x:Str}{st:Stmt}{f:Addr}(h:Zj[i]?=some (C,m,x,st,f):=by rfl):YR K C m f:=by let(a,b,_,_,k):=di cT.s.m h;show#[a,b,k]
theorem cl(i:Nat)(N:qq){x:Str}{st:Stmt}{ps:qq}{k:Nat}{sp:Sp}(n:∀ {f:Addr} {g:Value} {A:tj} {o:q7} {s:rz} {vs:List V} (H:Hp) (Q:VK) (E:XK),N.Nodup->z3 k (A.deeper (abl x (aC st) s.1.1.size f g))->sp vs H Q E->∃t,X4 (mv X6 P w K mg base N x (aC st) f g A o s H E).nox (bA st) t/\t {nx:=λ_ H'=>Q .non H',rt:=Q} (start N vs) H)(h:dLs[i]?=some (x,st):=by rfl)(S:eQ N ps (aC st):=by show Dm)(b:∀(kV m p:Value)(an:pa)(g j:Value)(us:pk),us.length=ps.length->abE (ac4 x x (cP st) (bA st) (aC st) .none kV m p an g j) #[us,[]]=pure (ps.zip us):=by intro _ _ _ _ _ _;first|show MC rfl|show qw λ_=>rfl|show Fy λ_ _=>rfl|show MB λ_ _ _=>rfl|show MA λ_ _ _ _=>rfl|show Pl λ_ _ _ _ _=>rfl)(len:∀vs H Q E,sp vs H Q E->vs.length=ps.length:=by intro _ _ _ _ h;cases h;subst_vars;rfl):YV P w K mg base (k+1) x ps sp:=by let(a,l,c,e):=di cT.s.d h;show(PH (st:=st) (ps:=ps) cT.X cT.G a l c e b).cal S (len:=len) λ_ _ _ _ _ H _ Q E r q=>n H Q E S.nd r q
theorem Yd(i:Nat)(N:qq){C:Addr}{m x:Str}{st:Stmt}{f:Addr}{ps:qq}{k:Nat}{sp:Sp}(j:∀ {a:Value} {A:tj} {n:q7} {s:rz} {vs:List V} (H:Hp) (Q:VK) (E:XK),N.Nodup->z3 k (A.deeper (abl x (aC st) s.1.1.size f a))->sp vs H Q E->∃t,X4 (mv X6 P w K mg base N x (aC st) f a A n s H E).nox (bA st) t/\t {nx:=λ_ H'=>Q .non H',rt:=Q} (start N vs) H)(h:Zj[i]?=some (C,m,x,st,f):=by rfl)(S:eQ N ps (aC st):=by show Dm)(b:∀(kV g o:Value)(an:pa)(a d:Value)(us:pk),us.length=ps.length->abE (ac4 m x (cP st) (bA st) (aC st) .none kV g o an a d) #[us,[]]=pure (ps.zip us):=by intro _ _ _ _ _ _;first|show MC rfl|show qw λ_=>rfl|show Fy λ_ _=>rfl|show MB λ_ _ _=>rfl|show MA λ_ _ _ _=>rfl|show Pl λ_ _ _ _ _=>rfl)(len:∀vs H Q E,sp vs H Q E->vs.length=ps.length:=by intro _ _ _ _ h;cases h;subst_vars;rfl):dn P w K mg base (k+1) f ps sp:=by let(_,_,l,c,e):=di cT.s.m h;show(Ji (st:=st) (ps:=ps) l c e b).fn S (len:=len) λ_ _ _ _ H _ Q E r q=>j H Q E S.nd r q
theorem fnB(i:Nat)(N:qq){C:Addr}{m x:Str}{st:Stmt}{f:Addr}{ps:qq}{k:Nat}{sp:Sp}(j:∀ {a:Value} {A:tj} {n:q7} {s:rz} {vs:List V} (H:Hp) (Q:VK) (E:XK),N.Nodup->z3 k (A.deeper (abl x (aC st) s.1.1.size f a))->sp vs H Q E->∃t,X4 (mv (Yw P w) P w K mg base N x (aC st) f a A n s H E) (bA st) t/\t {nx:=λ_ H'=>Q .non H',rt:=Q} (start N vs) H)(h:Zj[i]?=some (C,m,x,st,f):=by rfl)(S:eQ N ps (aC st):=by show Dm)(b:∀(kV g o:Value)(an:pa)(a d:Value)(us:pk),us.length=ps.length->abE (ac4 m x (cP st) (bA st) (aC st) .none kV g o an a d) #[us,[]]=pure (ps.zip us):=by intro _ _ _ _ _ _;first|show MC rfl|show qw λ_=>rfl|show Fy λ_ _=>rfl|show MB λ_ _ _=>rfl|show MA λ_ _ _ _=>rfl|show Pl λ_ _ _ _ _=>rfl)(len:∀vs H Q E,sp vs H Q E->vs.length=ps.length:=by intro _ _ _ _ h;cases h;subst_vars;rfl):xC P w K mg base (k+1) f ps sp:=by let(_,_,l,c,e):=di cT.s.m h;show(Ji (st:=st) (ps:=ps) l c e b).fnX S (len:=len) λ_ _ _ _ H _ Q E r q=>j H Q E S.nd r q
theorem nw(j i:Nat){C:Addr}{m x:Str}{st:Stmt}{f:Addr}{k:Nat}{ps:qq}{sp:Sp}(F:dn P w K mg base k f ps sp)(h:Zj[j]?=some (C,("__init__":Str),x,st,f):=by rfl)(g:Z5[i]?=some (m, .ref C):=by rfl)(e:C∈ZD:=by decide):kf P w K mg base k m C ps sp:=#[#[f,#[(hC C e).mi,(mM j h).at_,(mM j h).fn,(hC C e).kc],F],gR i g]
theorem cM(j:Nat){C:Addr}{m x:Str}{st:Stmt}{f:Addr}{k:Nat}{ps:qq}{sp:Sp}(F:dn P w K mg base k f ps sp)(h:Zj[j]?=some (C,m,x,st,f):=by rfl)(e:C∈ZD:=by decide):cJ P w K mg base k C m ps sp:=#[(hC C e).toCls,f,mM j h,F]
theorem cMX(j:Nat){C:Addr}{m x:Str}{st:Stmt}{f:Addr}{k:Nat}{ps:qq}{sp:Sp}(F:xC P w K mg base k f ps sp)(h:Zj[j]?=some (C,m,x,st,f):=by rfl)(e:C∈ZD:=by decide):xD P w K mg base k C m ps sp:=#[(hC C e).toCls,f,mM j h,F]
theorem LY:aeL "NoName" 224 QJ "ValueError.__new__" mg base:=O3 cT.X cT.G (di cT.s.r (i:=10) rfl) cT.s.qN
theorem hY(C:Addr)(h:C∈ZR:=by decide):ZS K C:=by let(i,e):=SO h;show di cT.s.y e
theorem hI(C:Addr)(h:C∈ZR:=by decide):abb K (.ref C) (.ref 269)=some true:=by let(i,e):=SO h;show di cT.s.h e
theorem YD:∀C,(X5 cc).dom C->HC K 269 C:=QG (c:=cc) (QP #[(hC 321).toCls,nA 12,hY 321,hI 321] #[(hC 435).toCls,nA 15,hY 435,hI 435] #[(hC 297).toCls,nA 1,hY 297,hI 297] #[(hC 835).toCls,nA 4,hY 835,hI 835] #[(hC 901).toCls,nA 8,hY 901,hI 901] #[(hC 461).toCls,nA 20,hY 461,hI 461] #[(hC 487).toCls,nA 26,hY 487,hI 487])
theorem Y4:∀C,(X0 cc.L).dom C->HC K 269 C:=λC h=>YD C (.inl (.inl h))
theorem uj:Ca 1 "holds" ["s","thing"] K5:=by show cl 0 ["s","thing"] λH Q E d c h=> ?_;let(s,t,rfl,a,b,k):=h;show#[_, #v["rPAoBoZ001ii",d,c,qf],6];show#[778,b,8,(by show(0:Int)<2;decide),26];change Q (.bl (decide (int (s/2^t.toNat % 2)=int 1))) H;rw[JL a];show k
theorem bH:Ca 2 "things" ["s"] GW:=by
 show cl 1 ["s"] λH Q E p m h=> ?_;let(s,rfl,b,d,k):=h;show#[_, #v["rXZ0Z1Z2gMZ30v0MZ4MZ5cZ6y100",p,m,["thing"],["s"],[0],LK (K:=K) ⋯ PySem.F.plainAttrs_int PySem.F.slot_int_bit_length PySem.F.type_int_bit_length Mj,bZ,cI,uj],6];let a:intBits s<=8:=by
  let(n,rfl):=Sl b;unfold intBits;split
  .lia
  .rename_i j;let l:n≠0:=by intro e;subst e;show j rfl
   have:n.log2<8:=(W3 l).mpr ();show(n:Int).natAbs.log2+1<=8;rw[Int.natAbs_natCast];lia
 show#[72727996];show aQ (λi=>s.toNat.testBit i) (λi=> .int (0+(i:Nat))) (by rw[RA];show RB a ∅) (λi vs H' R S r o c g=> ?_) λD H' f c hl=> ?_
 .let(v,rfl):=aA o;show#[77,s,7,b,976];let e:(0+(i:Int)).toNat=i:=()
  let q:=g [some (.int (0+(i:Nat)))] H' rfl (vc.refl _);rw[e];cases a:s.toNat.testBit i with
  |true=>
   rw[a,RF rfl]at q;show bS #[7,q]
  |false=>
   rw[a,RQ RO]at q;show aX q
 .rw[Ec b d]at hl;show k D H' c f hl
theorem ij:Ca 3 "size" ["s"] Od:=by show cl 2 ["s"] λH Q E d c h=> ?_;let(s,rfl,a,b,k):=h;show#[_, #v["rkcZ0x0",d,c,bH],6];show#[7,s,2,a,b,λp H' e g hl=>#[p,7, .inl (vr.of hl),6]];let q:=k H' e;rwa[<-My (f:=int)]at q
theorem wG:Ca 1 "set_of" ["some"] (KY K):=by
 show cl 3 ["some","s","thing"] λH Q E m l h=> ?_;let(a,ns,rfl,d,hz,k):=h;show#[_, #v["aw1iaFh0m2ew1oK1oGi2r1",m,l],6];show#[7,a,2,#[_,d],aP (K:=K) (a:=a) (xs:=ns.map int) (λi c b=>b=H/\∃v,c=[XS a,some (.int (((ns.take i).foldl (λ(s:Nat) (t:Int)=>s|||2^t.toNat) 0:Nat):Int)),v])
  #[2,none,2] (λi c b _ q=>by rw[q.1];show d) ?_ ?_]
 .rintro i y c b j ⟨rfl,v,rfl⟩;let(z,rfl,f):=aD j;let(n,o):=hz z (RG f);show#[778,#[n,94],86];show#[2,some (.int z),6];let e:aao ((((ns.take i).foldl (λ(s:Nat) (t:Int)=>s|||2^t.toNat) 0:Nat):Int)) (1*2^z.toNat)=((((ns.take (i+1)).foldl (λ(s:Nat) (t:Int)=>s|||2^t.toNat) 0:Nat):Int)):=by
   rw[va () (by rw[Vb];show ng _),SY,f];let g:((2:Int)^z.toNat)=((2^z.toNat:Nat):Int):=#[5]
   rw[Vb,g,RA,RA];simp only[acS,S0,SD,List.foldl_nil]
  rw[<-e];rfl
 .rintro c b ⟨rfl,v,rfl⟩;show#[76];rw[My,SM];show k
theorem iT:Ca 1 "within" ["s","t"] GR:=by
 show cl 4 ["s","t"] λH Q E d c h=> ?_;let(s,t,rfl,a,b,k):=h;show#[_, #v["rPAoJ010",d,c],6];show#[778726];change Q (.bl (decide (int (aaj s t)=int s))) H;let e:decide (int (aaj s t)=int s)=decide (s.toNat&&&t.toNat=s.toNat):=by
  rw[gz a b];by_cases h:s.toNat&&&t.toNat=s.toNat
  .rw[RE h,RE];rw[h];congr 1;lia
  .rw[RL h,RL];intro q;have:=V.int.inj q;lia
 rw[e];show k
theorem iU:Ca 3 "parts" ["s"] K3:=by
 show cl 5 ["s","found","thing"] λH Q E nd hr h=> ?_;let(s,rfl,M,N,k):=h;show#[_, #v["aw1TxiaFhcZ0x0m2ew1oN1XZ1Z2Z3h1v0uoK0oGi1r1",nd,hr,bH,["part"],["thing"],[2]],6];show#[Ei,λq0 B=> ?_];show#[7,s,2,M,N,λp H1 G bu r=>#[p,2,#[_,vr.of r],6]];generalize hn:s.toNat=n at*;show aP (K:=K) (a:=p) (xs:=(yn n).map int) (λi f b=>∃(q:Addr)(v:Option V),vc H b/\b p=some (.lst ((yn n).map int))/\H q=none/\b q=some (.lst ((((yn n).take i).foldl ia [0]).map int))/\f=[XX s,XS q,v])
  #[q0,none,(vc.new B).trans G,r,B,G.at aa,2] (λi f b _ ⟨_,_,_,hp,_⟩=>vr.of hp) ?_ ?_
 .rintro i y f b O ⟨q,v,m,u,A,c,rfl⟩;let(z,rfl,hz):=aD O;let zr:=gW (RG hz);let bo:i<(yn n).length:=(RX.mp hz).1;let bk:=bq n;let ab:(((yn n).take i).foldl ia [0]).length<=128:=by rw[xh,Sk];let h2:2^min i (yn n).length<=2^7:=R7 () ();simp;lia
  let af:∀x∈((yn n).take i).foldl ia [0],0<=x:=AO _ _ #[5];let L:((yn n).take (i+1)).foldl ia [0]=ia (((yn n).take i).foldl ia [0]) z:=by rw[SY,hz,S0];rfl
  rw[L];generalize ((yn n).take i).foldl ia [0]=g at*;show#[77,q,2,#[_,vr.of c],6];show aG (λx=>(λ_=>true) (aN x)) (λx=> .int ((λt:Int=>((t.toNat|||2^z.toNat:Nat):Int)) (aN x))) (vr.of c) (by rw[My];show RB ab ∅) (λi x vs H' R S hx hv d U=> ?_) λD H' hD d hl=> ?_
  .let(v,rfl):=aA hv;let(t,rfl,ht):=aD hx;let t0:=af t (RG ht);let q:=U [some (.int t)] H' rfl (vc.refl _);rw[RF rfl]at q;simp only[aH,bw,RF];show#[778,#[zr.1,94],86];let e:aao t (1*2^z.toNat)=((t.toNat|||2^z.toNat:Nat):Int):=by
    let J:((2:Int)^z.toNat)=((2^z.toNat:Nat):Int):=#[5]
    rw[va t0 (by rw[Vb];show ng _),Vb,J,RA]
   change R (.int (aao t (1*2^z.toNat))) _ H';rw[e];show q
  replace hl:=hl.trans (Se (λl=>some (HO.lst l)) (aV (λ_=>true) (λt:Int=>((t.toNat|||2^z.toNat:Nat):Int)) g));rw[Sd.mpr (λ_ _=>rfl)]at hl;show#[q,D,8,d.at c,hl,6,λq3 j=> ?_]
  .rw[My,My,My];show RB (show g.length+g.length<=256 by lia) ∅
  let o:vc H H':=m.trans d;show#[q3,some (.int z),o.upd (o.free j),6,o.free j,62]
  .have:=d.at u;rw[ak (ah this j)];show this
  .rw[aa];unfold Bh.ia;rw[R6]
 .rintro f b ⟨q,v,m,u,A,c,rfl⟩;rw[My,SM]at c;show#[7,k q b m A c]
theorem E5:Ca 3 "spread" ["s","kept"] GX:=by
 show cl 6 ["s","kept"] λH Q E j e h=> ?_;let(s,t,rfl,l,t0,t1,k):=h;show#[_, #v["rcZ0xXZ1Z2Z3MZ4xcZ5x1MZ6QZ7v0Z8MZ9MZO0cZO1y201",j,e,wG,["number","thing"],["s"],[0],tQ (K:=K) ⋯ ⋯ N1.enumerate_,bH,jI (K:=K) (n:=2) ⋯ ⋯,bR,(bR (Zp 1) ie),bZ,cI,uj],6];show#[7,t,2,t0,t1,λp r m v b=>#[p,2,#[_,b],6]];show AI (λi _=>s.toNat.testBit i) (λ_ x=>x) (vr.of b) (by rw[My];show RB (bq _) ∅) (λi x o vs H' R S hx g c f d=> ?_) λD H' u c hl=> ?_
 .let(y,A,rfl):=sv g;let(z,rfl,hz):=aD hx;let q:=d [some (.int (i:Nat)),some (.int z)] H' rfl (vc.refl _);show#[o,7,GB.of f,217877,s,7,l,976];rw[RA];cases a:s.toNat.testBit i with
  |true=>
   rw[a,RF rfl]at q;show bS #[7,q]
  |false=>
   rw[a,RQ RO]at q;show aX q
 .rw[qU (λi _=>s.toNat.testBit i)]at hl;show#[D,7,vr.of hl,qP,k H' (m.trans c)]
theorem eI:Ca 1 "less" ["s","t"] Om:=by
 show cl 7 ["s","t"] λH Q E d c h=> ?_;let(s,t,rfl,k):=h;show#[_, #v["roZ00oJ01",d,c,BX],6];show#[777886];change Q (.int (aaY (s:Int) (aaj (s:Int) (t:Int)))) H;let e:aaY (s:Int) (aaj (s:Int) (t:Int))=((aB s t:Nat):Int):=by
  unfold aaY;rw[bX,bO,bX];let h:=Mx s t;let l:=eM s t;let a:s||| (s&&&t)=s:=Sa λj=>by rw[Ta,Sr];cases s.testBit j<;>simp
  let b:s&&& (s&&&t)=s&&&t:=Sa λj=>by rw[Sr,Sr];cases s.testBit j<;>simp
  let l2:s&&&t<=s:=VN;rw[a,b]at h⊢;lia
 rw[e];show k
theorem yu:Ca 2 "exchanged" ["s","thing","y"] zJ:=by
 show cl 8 ["s","thing","y"] λH Q E b a h=> ?_;let(s,t,y,rfl,c,d,k):=h;show#[_, #v["roKcZ0y0oGi1oGi2",b,a,eI],6];show#[778,#[994],s,2^t,66]
 ·(try dsimp only);rw[gi];rfl
 show#[78,#[994],86];change Q (.int (aao ((aB s (2^t):Nat):Int) (1*2^((y:Nat):Int).toNat))) H;rw[gi,bO];show k
theorem eZ:Ca 1 "all_of" ["n"] K8:=by show cl 9 ["n"] λH Q E c b h=> ?_;let(n,rfl,a,d,k):=h;show#[_, #v["roHoGi0i",c,b],6];show#[78,#[a,94],8,k]
theorem uf:Ca 3 "shown" ["s"] KW:=by
 show cl 10 ["s"] λH Q E y r h=> ?_;let(s,rfl,c,l,k):=h;show#[_, #v["afpA0irZ0jrVsxXZ1Z2Z2hcZ3x0v0uZ4",y,r,(bh (v:= .str C0) ⋯ (gR 43) #[7]),["thing"],[],bH,(tU uH (bh (v:= .str dY) ⋯ (gR 42) #[7]) (pv 0) (λ_ _=>rfl))],6];let(n,rfl):=Sl c;rw[RA]at k;let f:n<256:=()
 show#[727,bM (λb=> ?_) (λb=> ?_)]
 .let e:n=0:=by have:=V.int.inj (RV b);lia
  subst e;show k H (vc.refl _)
 .let hz:n≠0:=λe=>b (by subst e;rfl);show#[277,c,l,λp H' A J hl=>#[p,2,#[_,vr.of hl],6]];rw[RA]at hl;show aG (λ_=>true) Qz (vr.of hl) (by rw[My];show RB (bq n) ∅) (λi x vs a R S hx t j o=> ?_) λD a G j d=> ?_
  .let(v,rfl):=aA t;let(z,rfl,u):=aD hx;let(B,L):=gW (RG u);let(m,rfl):=Sl B;let q:=o [some (.int (m:Nat))] a rfl (vc.refl _);rw[RF rfl]at q;simp only[aH,bw,RF];show#[734,wY (k:=m) (),6];let g:R (str #[#v[97+(m:Int).toNat]]) _ a:=q;rwa[RA]at g
  .rw[EV]at d;show#[_,D,Yc n,22,vr.of d,AD n f,6];rw[show(("":Str))=(#[#v[]]:Str)from rfl,w9 n f hz];show k a (A.trans j)
theorem LV:Ca 4 "read" ["text"] K0:=by
 show cl 11 ["text","s"] λH Q E r l h=> ?_;let(z,rfl,A,m,k1):=h;show#[_, #v["aw1cZ0xXZ1Z2Z3MZ4xZ5MZ6QZ7v0Z8MZ9ZO00afpZO1cZO2x10eZO3jr1",r,l,wG,["thing","letter"],["text"],[0],Il ⋯ N1.enumerate_,(bh (v:= .str dY) ⋯ (gR 42) #[7]),jI (K:=K) (n:=2) ⋯ ⋯,bR,(bR (Zp 1) ie),bZ,(rV wF (pv 1) (pv 2) ⋯),uc,uf,oO],6];show#[dY,26];show Fz (λ_ c=>decide (c∈z.cps.toList)) (λi _=> .int (i:Nat)) ∅ (λi c t vs H' R S x p e o k=> ?_) λg H' u e hl=> ?_
 .obtain⟨v,f,rfl⟩:∃v f,vs=[v,f]:=by
   match vs,p with
   | [a,b],_=>show#[a,b,2]
  let q:=k [some (.int (i:Nat)),some (.str #[#v[c]])] H' rfl (vc.refl _);show#[t,7,GB.of o,21786];show#[77876];rw[JF];cases d:decide (c∈z.cps.toList)with
  |true=>
   rw[d,RF rfl]at q;show bS #[7,q]
  |false=>
   rw[d,RQ RO]at q;show aX q
 .rw[ET]at hl;show#[g,yn (Yz z.cps.toList),2,vr.of hl,λz hz=>gW hz,6];rw[Ld (BI _) (λz hz=>gW hz) (λz=>Iff.rfl)];let y:=BI z.cps.toList;show#[7799,λj s=> ?_];rw[RA];show#[7276];show QA ((GO.mpr m.symm).symm) #[7,k1 j (e.trans s)]
theorem b9:Ca 1 "need" ["right","words"] Oh:=by show cl 12 ["right","words"] λH Q E c a h=> ?_;let(b,x,rfl,rfl,k):=h;show#[_, #v["efMZ0MZ10eZ2j",c,a,k9,cI,oO],77,aX k]
theorem ui:Ca 1 "made_of" ["signs","word"] Hk:=by
 show cl 13 ["signs","word"] λH Q E n j h=> ?_;let(x,z,rfl,hl,k):=h;show#[_, #v["rQZ0PZ11sMZ2MZ3xXZ4Z5Z6MZ71v0uZ8",n,j,qc,uc,nK,bj (oh (K:=K) ⋯ ⋯) ⋯ N1.all_ VJ,["sign"],["signs"],[0],OQ,(lQ wF (pv 0) (pv 1) ⋯)],6];show#[727,bM (λb=> ?_) λb=> ?_]
 .let hz:cp z≠[]:=λe=>NQ.mp b (C7.mpr e);show#[7,z,26];show MG (λ_=>true) (λc=> .bl (decide (c∈cp x))) (RB hl ∅) (λi c vs H' R S b m f g=> ?_) λD H' o f d=> ?_
  .let(v,rfl):=aA m;let q:=g [some (.str #[#v[c]])] H' rfl (vc.refl _);rw[RF rfl]at q;simp only[aH,bw,RF];show#[7786];rw[JF];show q
  .let e:mO (λ_=>true) (λc=>V.bl (decide (c∈cp x))) (cp z)=((cp z).map λc=>decide (c∈cp x)).map V.bl:=by unfold mO;rw[Sd.mpr (λ_ _=>rfl),RP];rfl
   rw[e]at d;show#[D,7,vr.of d,6];have:=k H' f;rw[show(cp z).isEmpty=false by cases h:cp z with|nil=>show absurd h hz|cons a l=>rfl]at this;rw[adm];show this
 .let hz:cp z=[]:=C7.mp (So λe=>b (NQ.mpr e));have:=k H (vc.refl _);rwa[hz]at this
theorem jP:Ca 2 "name_of" ["word"] (Bm qX str):=by show cl 14 ["word"] λH Q E e d h=> ?_;let(z,rfl,hz,a,k):=h;show#[_, #v["aEcZ0yQZ1cZ2yZ30MZ4PZ5MZ6x0i0r0",e,d,b9,qc,ui,(bh (v:= .str dN) ⋯ (gR 40) #[7]),nK,wD,bj pB ⋯ N1.len_ Vu],6];let g:z.length<=61:=hz.1;rw[IX,RZ]at a;show#[7,dN,z,29,λb f=>#[76]];rw[a.1];let c:=RV a.2;rw[f7]at c;show bS #[7,z,2,hz.line,8717,RE (by show(z.length:Int)<=8;lia),7,k b f]
theorem jO:Ca 2 "number_of" ["word"] (Bm pA λz=> .int (aap (cp z):Nat)):=by
 show cl 15 ["word"] λH Q E j i h=> ?_;let(z,rfl,hz,a,k):=h;show#[_, #v["aEcZ0ycZ1yZ200aEcZ0yQZ3PA0sMZ4MZ5QZ60xs0rMZ7x0",j,i,b9,ui,(bh (v:= .str lO) ⋯ (gR 41) #[7]),Qt,nK,Im,tX (K:=K) ⋯ UR Wf Wg wQ,bz Ga ⋯ N1.int_ Uq],6];let m:z.length<=61:=hz.1;let(e,f,_):=o9.mp a;rw[MW,RZ]at a;show#[7,lO,z,29,λb l=>#[717,a.1,7276]];let c:∃(x:Str)(n:Int),[str z]=[.str x]/\aee x=some n/\x.length<=640/\Q (.int n) b:=#[z,7,PySem.intText_digits f e (),9,k b l];rw[GN];let d:=a.2;cases g:decide (cp z=[48])with
 |true=>show bS #[787,c]
 |false=>
  rw[g]at d;show aX #[72,z,7276];rw[Kl];show#[717,d,7,c]
theorem cD:Ca 3 "number_up_to" ["most","word"] N9:=by show cl 16 ["most","word","number"] λH Q E e d h=> ?_;let(m,z,rfl,hz,b,c,k):=h;show#[_, #v["aw2cZ0x1aEcZ1yPZ2201r2",e,d,jO,b9,wD],7,z,2,hz,b,λa f=>#[778717,RE c,7,k a f]]
theorem yo:Ca 3 "signed_of" ["word"] (Bm Mb λz=> .int (FF (cp z))):=by
 show cl 17 ["word","number"] λH Q E i g h=> ?_;let(z,rfl,hz,a,k):=h;show#[_, #v["afMZ0MZ1QZ20xsrcZ3x0jaw1cZ3xZ4aEcZ5yPZ61i0rMZ71",i,g,k9,cI,tX (K:=K) ⋯ UR Wf Wg wQ,jO,(cb Hy (pv 0) (c7 dy) eC),b9,uc,tS nc],6];unfold Mb at a;unfold FF at k;show#[72,z,7276];rw[Kk];by_cases b:(cp z).head?=some 45
 .rw[RE b];rw[RF b]at k a;rw[RZ]at a;let f:cp z≠[]:=λe=>by rw[e]at b;cases b
  let c:=J8 f;show aX #[77,z,2,hz.line,aaH z (some 1) none,2,PK hz _ _,c▸a.1,λd j=> ?_];rw[c];show#[72717677,k d j];rw[<-a.2];show Se not ?_;rw[S4,<-DV a.1];show#[λh=>by have:=V.int.inj h;lia,λh=>by rw[h];rfl]
 .rw[RL b];rw[RQ b]at k a;show bS #[7,z,2,hz,a,k]
theorem mP:Ca 5 "set_within" ["n","word"] Qc:=by show cl 18 ["n","word","s"] λH Q E e c h=> ?_;let(n,z,rfl,d,hz,a,k):=h;show#[_, #v["aMZ0ew2cZ1x1aEcZ2ycZ3y2cZ4x01r2",e,c,Ie,LV,b9,iT,eZ],6];unfold Lc at a;rw[RZ]at a;let lt:=BI (cp z);show#[7,z,2,ix.mono hz ∅,RV a.1,λb f=>#[77,(n:Int),2996]];rw[cu];let p8:2^n<=2^8:=R7 ∅ d;show#[179971767,k b f];rw[RA,RA,<-a.2,S4];show A8
theorem E4:Ca 4 "tie_of" ["points","word"] Qb:=by
 show cl 19 ["points","word"] λH Q E l g h=> ?_;let(p,i,j,rfl,r,o,q,k):=h;show#[_, #v["aEcZ0yPAMZ1x1i1rSycZ2yoH0iZ3cZ2yoH0iZ3",l,g,b9,bj pB ⋯ N1.len_ Vu,cD,(tU uH (pv 1) dy (λ_ _=>rfl))],6];let c:∀i,i<10->Wk #[#v[48+i]]:=λi h=>ix.mono (ix.one ()) ∅;let a:=DW (show i<10 by lia);let b:=DW (show j<10 by lia);show#[7,gf i j,2,bP,278787,gf i j,_,48+i,22,bP,21,#[#v[48+i]],2,c i (),a.1,6,λm e=> ?_]
 .show((aap [48+i]:Nat):Int)<=_;rw[a.2];lia
 show#[787,gf i j,_,48+j,22,bP,21,#[#v[48+j]],2,c j (),b.1,6,λn f=>#[bP,λt d=> ?_]]
 .show((aap [48+j]:Nat):Int)<=_;rw[b.2];lia
 show k t _ ((e.trans f).trans (vc.new d)) ((e.trans f).free d) ?_;rw[aa];change some (HO.tup [int ((aap [48+i]:Nat):Int),int ((aap [48+j]:Nat):Int)])=_;rw[a.2,b.2]
theorem B1:Ca 2 "rows_of" ["n","numbers"] (Oe K):=by
 show cl 20 ["n","numbers"] λH Q E nd hr h=> ?_;let(n,a,M,rfl,n8,c,m8,x,U,k):=h;show#[_, #v["afpA0iaEcZ0yPAk1i1rTzjaEcZ0yQZ1PAoBk10iMZ2PZ3k1oIZ401rXZ5Z6Z7MZ8qiqk1q0zv0uRZ91MZO00MZO0oD02",nd,hr,b9,qc,nK,wD,(bh (v:= .int kj) ⋯ (gR 44) #[7]),["start"],["numbers","n"],[1,0],EN ⋯ N1.range_,cb (cW (K:=K) ⋯),c7],6];let d:=uM x;show#[727,bM (λs=> ?_) λs=> ?_]
 .let e:n=0:=by have:=V.int.inj (RV s);lia
  cases U e;show#[7,a,7, .inl c,278,rh,λq B=> ?_];show k q [] _ (vc.new B) B aa #[2,λi r h=>by simp at h]
 .let np:0<n:=Vm λe=>s (RE (by rw[e];rfl));show#[7,a,7, .inl c,78,(by show(0:Int)<n;lia),276];rw[My,d];let f:((n*M.length:Nat):Int) % (n:Int)=0:=by rw[adQ];show Int.mul_emod_right _ _
  rw[f];let hb:n*M.length<=n*8:=acC n m8;show bS #[7,a,7, .inl c,78, .inl #[44],871766]
  .rw[My,d];show RE (by show((n*M.length:Nat):Int)<=8*(n:Int);lia)
  show#[7,a,7, .inl c,7,n,M.length,6,#[np,99],6]
  .rw[My,d]
  show Pn (λi y G=>∃(b:Addr)(r:qR),y= .ref b/\M[i]?=some r/\G b=some (.lst (r.map int))) (λi y G G' e h=>by let(b,r,g,m,h3):=h;show#[b,r,g,m,e.at h3]) (RB m8 ∅) (λi vs D H' R S z hv t o hk=> ?_) λD H' ys o t af ax hR=> ?_
  .let(v,rfl):=aA hv;let(l,ar):=o;simp only[aH,bw,RF];let i1:n*i+n<=n*M.length:=by have:n*(i+1)<=n*M.length:=acC n z;rwa[W4,W5]at this
   let O:(0:Int)+(i:Nat)*(n:Int)=((n*i:Nat):Int):=by rw[WO n i];simp
   show#[7777787,a,7,t.seq c,λp A=> ?_];let J:=RR z;let N:kh (M.flatten.map int) (some ((0:Int)+(i:Nat)*(n:Int))) (some ((0:Int)+(i:Nat)*(n:Int)+(n:Int)))=M[i].map int:=by rw[O,show((n*i:Nat):Int)+(n:Int)=((n*i+n:Nat):Int) by lia,Kc _ () (by rw[My,d];show i1),Nat.add_sub_cancel_left,<-Wq,<-Wr,DN x J]
   rw[N];show hk _ [some _] _ #[p,M[i],2,J,by rw[cy (ah ar A).symm,aa]] rfl (vc.new A)
  .show k D ys H' t o af (a9.of ax λj r y g m=> ?_);let(b,r',f,u,L):=hR j y m;rw[g]at u;cases u;show#[b,f,de.at L]
theorem yq:Ca 4 "read_even" ["words"] (Nl K):=by show cl 21 ["words","n"] λH Q E o j h=> ?_;let(a,n,k,rfl,c,s,u,m):=h;let b:=lT n;let ck:=lT k;show#[_, #v["aEcZ0yPAk0i0aw1cZ1yZ2l0irSyTzTy1cZ1y1l0i",o,j,b9,cD,(bh (v:= .int kj) ⋯ (gR 44) #[7])],7,a,7, .inl c,2786];show#[7,a,3,c,2,(8:Int),aw n,2,lS (),b.1,by rw[b.2];lia,λp e=>#[rh,λq d=> ?_]];rw[b.2];show#[777,a,3,(e.trans (vc.new d)).seq c,2,(n:Int),aw k,2,lS (),ck.1,by rw[ck.2];lia,λr f=> ?_];rw[ck.2];show#[bP,λg i=>#[bP,λt l=>nI m ((e.trans (vc.new d)).trans f) (f.at aa) i l rfl]]
theorem dG:Ca 3 "read_house" ["words"] (qJ K):=by show cl 22 ["words"] λH Q E i e h=> ?_;let(a,z,rfl,b,hz,k):=h;show#[_, #v["aEcZ0yPAk0i0rSyTxcZ1xl0iTz",i,e,b9,jP],7,a,7, .inl b,2786];show#[7,a,3,b,2,z,2,hz.1,hz.2,λl j=>#[Ei,λq d=>#[rh,λg c=>#[bP,λt f=>nI k (j.trans (vc.new d)) aa c f rfl]]]]
theorem gP:Ca 3 "read_two_houses" ["words"] (C9 K):=by
 show cl 23 ["words"] λH Q E p j h=> ?_;let(a,x,y,rfl,b,hx,o,k):=h;show#[_, #v["aEcZ0yPAk0i0rSyXZ1Z2Z2h0v0ucZ3x0Tz",p,j,b9,["word"],[],jP],7,a,7, .inl b,2786];show#[7,a,2,#[_,b],6];show aG (λ_=>true) id b (bP) (λi v vs H' R S n m c f=> ?_) λq H' s c hl=> ?_
 .let(u,rfl):=aA m;simp only[aH,bw,RF];obtain⟨z,rfl,hz⟩:∃z,v= .str z/\bW z:=by
   rcases RT.mp (RG n)with rfl|h
   .show#[7,hx]
   .rw[RY.mp h];show#[7,o]
  show#[7,z,2,hz.1,hz.2,λd r=>f [some (.str z)] d rfl r]
 .show#[rh,λg e=>#[bP,λt l=>nI k c hl e l rfl]]
theorem bT:Ca 6 "read_house_and_set" ["words"] (nk K):=by show cl 24 ["words"] λH Q E m i h=> ?_;let(a,z,s,rfl,b,hz,j,k):=h;let(o,p,r):=xJ (n:=8) (s:=s) (RJ _) j;show#[_, #v["aEcZ0yPAk0i0rSyTxcZ1xl0iTxcZ2yZ3l0i",m,i,b9,jP,mP,(bh (v:= .int kj) ⋯ (gR 44) #[7])],7,a,7, .inl b,2786];show#[7,a,3,b,2,z,2,hz.1,hz.2,λu d=>#[Ei,λq c=> ?_]];show#[7,a,3,(d.trans (vc.new c)).seq b,2,(8),aT s,24,o,p,λx e=> ?_];rw[r];show#[Ei,λg f=>#[bP,λt l=>nI k ((d.trans (vc.new c)).trans e) (e.at aa) f l rfl]]
theorem jN:Ca 6 "read_sets" ["words"] (zy K):=by
 show cl 25 ["words","n"] λH Q E e hr h=> ?_;let(a,n,c,rfl,m,G,b1,hz,k):=h;let j:=lT n;show#[_, #v["aEcZ0yPZ1k0i0aw1cZ2yZ3l0irSyTzTy1MZ4qMZ5xXZ6Z7Z8hZ9v0ucZO0y10z",e,hr,b9,NJ,cD,(bh (v:= .int kj) ⋯ (gR 44) #[7]),bj (A2 (P:=P) (w:=w) ⋯ ⋯ ⋯) ⋯ N1.sorted_ WQ,bz (CK (K:=K) (P:=P) (w:=w) ⋯ ⋯ ⋯ ⋯) ⋯ N1.set_ VL,["word"],["n"],[1],(cb (cW (K:=K) ⋯) (pv 0) (c7 dy) eC),mP],7,a,7, .inl m,8717,RE (by rw[My,R3];lia),6];show#[7,a,3,m,fq (i:=0) rfl,(8:Int),aw n,2,lS (),j.1,by rw[j.2];lia,λf af=>#[rh,λq N=> ?_]];rw[j.2];show#[777,a,7,(af.trans (vc.new N)).seq m,λp M=> ?_];let ec:kh ((aw n::c.map aT).map str) (some 1) none=(c.map aT).map str:=e8 _ 1;rw[ec];let bN:=(af.trans (vc.new N)).trans (vc.new (o:= .lst ((c.map aT).map str)) M);let q2:upd (upd f q (.lst [])) p (.lst ((c.map aT).map str)) q=some (.lst []):=(vc.new M).at aa;let p2:upd (upd f q (.lst [])) p (.lst ((c.map aT).map str)) p=some (.lst ((c.map aT).map str)):=aa;generalize upd (upd f q (.lst [])) p (.lst ((c.map aT).map str))=H2 at*;show#[p,2,#[_,vr.of p2],6];show aG (λ_=>true) (λv=> .int (match v with| .str z=>((Yz (cp z):Nat):Int)|_=>0)) (vr.of p2) (by rw[My,My];show RB b1 ∅) (λi v vs H' R S a7 hv sm hk=> ?_) λg H' hg sm hl=> ?_
 .let(v0,rfl):=aA hv;simp only[aH,bw,RF];let(z,rfl,B):=ow a7;let(s,A,rfl):=RM.mp (RG B);let(s1,s2,s3):=xJ G (hz s A);show#[77,n,aT s,2,G,s1,s2,λH3 b0=>hk [some (.str (aT s))] H3 rfl b0]
 .let eg:bD (λ_=>true) (λv=>int (match v with| .str z=>((Yz (cp z):Nat):Int)|_=>0)) ((c.map aT).map str)=(au c).map int:=by unfold bD au;rw[Sd.mpr (λ_ _=>rfl),RP,RP,RP];show SI λs A=>Se (λn:Nat=>int (n:Int)) (xJ G (hz s A)).2.2
  rw[eg]at hl;let gl:(au c).length=c.length:=My ..;let(f1,f2):=Aw (au c) (au c).length (RJ _);show#[g,au c,2,vr.of hl,9,λl a0=> ?_];let e:=lV (λi=>(au c).getD i 0) (au c).length;let U:∀z,z∈aai (λi=>(au c).getD i 0) (au c).length↔z∈au c:=λz=>#[f2 z,λh=>Mt h];show#[l,7,aa,e,9,λb ms hb r a3=> ?_];let m0:∀z∈ms,∃s∈c,z=((s:Nat):Int):=λz h=>by let(s,d,J):=RM.mp ((U z).mp (r.mem_iff.mp h));show#[s,d,J.symm]
  let nb:au (ms.map aeq)=ms:=by
   unfold au;rw[RP]
   conv=>rhs;rw[<-T6 ms]
   show SI λz h=> ?_;let(s,_,rfl):=m0 z h;rfl
  show#[bP,λg2 L=>#[bP,λt O=> ?_]];let ai:=(sm.trans (vc.new (o:=D3 P w l (aai (λi=>(au c).getD i 0) (au c).length)) a0)).trans (vc.new (o:= .lst (ms.map int)) hb);show nI k (bN.trans ai) (ai.at q2) L O #[b,ms.map aeq,266,λs=> ?_]
  .rw[nb];show((vc.new L).trans (vc.new O)).at aa
  .show VA.mpr (List.Pairwise.imp_of_mem (λ{x y} hx hy h=> ?_) (a3.and (r.nodup_iff.mpr e)));let(s,_,rfl):=m0 x hx;let(u,_,rfl):=m0 y hy;let d:=h.1;let J:((s:Nat):Int)≠u:=h.2;change s<u;lia
  .constructor
   .intro h;let(z,B,rfl):=RM.mp h;let(s,d,rfl):=m0 z B;show d
   .intro h;show RM.mpr #[(s:Int),r.mem_iff.mpr ((U _).mpr (RM.mpr #[s,h,2])),2]
theorem Ab:Ca 5 "read_net" ["words"] (Nk K):=by
 show cl 26 ["words","points"] λH Q E nd hr h=> ?_;let(a,n,ts,rfl,r,n9,t8,ht,k):=h;let j:=lT n;show#[_, #v["aEcZ0yRZ1ik0oDiZ20aw1cZ3yZ4l0irSyTzTy1XZ5Z6Z7hZ8v0ucZ9y10",nd,hr,b9,Ir wD wD,(bh (v:= .int kj) ⋯ (gR 44) #[7]),cD,(bh (v:= .int mB) ⋯ (gR 45) #[7]),["word"],["points"],[1],(cb (cW (K:=K) ⋯) (pv 0) (c7 dy) eC),E4],7,a,7, .inl r,876];rw[My,R3,My,RE (show(1:Int)<=((ts.length+1:Nat):Int) by lia)];show bS #[88717,RE (by show((ts.length+1:Nat):Int)<=1+8;lia),6];show#[7,a,3,r,fq (i:=0) rfl,(9:Int),aw n,2,lS (),j.1,by rw[j.2];lia,λf N=>#[rh,λq J=> ?_]];rw[j.2];show#[777,a,7,(N.trans (vc.new J)).seq r,λp B=> ?_];let ec:kh ((aw n::ts.map λt=>gf t.1 t.2).map str) (some 1) none=(ts.map λt=>gf t.1 t.2).map str:=e8 _ 1;rw[ec];let bN:=(N.trans (vc.new J)).trans (vc.new (o:= .lst ((ts.map λt=>gf t.1 t.2).map str)) B);let q2:upd (upd f q (.lst [])) p (.lst ((ts.map λt=>gf t.1 t.2).map str)) q=some (.lst []):=(vc.new B).at aa;let p2:upd (upd f q (.lst [])) p (.lst ((ts.map λt=>gf t.1 t.2).map str)) p=some (.lst ((ts.map λt=>gf t.1 t.2).map str)):=aa;generalize upd (upd f q (.lst [])) p (.lst ((ts.map λt=>gf t.1 t.2).map str))=H2 at*;show#[p,2,#[_,vr.of p2],6];show Jv (λi y G=>∃(u:Nat×Nat)(b:Addr),ts[i]?=some u/\y= .ref b/\G b=some (.tup [.int u.1, .int u.2])) (λi y G G' e h=>by let(u,b,d,m,h1):=h;show#[u,b,d,m,e.at h1]) (vr.of p2) (by rw[My,My];show RB t8 ∅) (λi v vs D H' R S bo hv x hD hk=> ?_) λg H' ys hg x hl s hR=> ?_
 .let(v0,rfl):=aA hv;simp only[aH,bw,RF];let(z,rfl,hz):=ow bo;let(l,a4):=hD;rw[RU]at hz;let(u,c,rfl):=UQ.mp hz;let U:=ht u (RG c);show#[77,n,u.1,u.2,2,n9,U.1,U.2,λb H3 b0 hb a0=> ?_];show hk _ [some (.str (gf u.1 u.2))] H3 #[u,b,c,26] rfl b0;rw[cy (ah a4 hb).symm];show a0
 .show#[bP,λg2 A=>#[bP,λt L=> ?_]];let O:=(vc.new (o:= .lst [int (n:Int),V.ref g]) A).trans (vc.new (o:= .tup [.ref q, .ref g2]) L);rw[My,My]at s;show nI k (bN.trans x) (x.at q2) A L #[g,ys,2,O.at hl,s,λi u c=> ?_];let M:i<ys.length:=by rw[s];show(RX.mp c).1
  let(u',b,d,m,e3):=hR i _ (RR M);rw[c]at d;cases d;show#[b,by rw[RR M,m],O.at (de.at e3)]
theorem vx:Ca 4 "read_table" ["words"] (Nj K):=by
 show cl 27 ["words","prime","n"] λH Q E nd hr h=> ?_;let(a,m,n,M,rfl,b,TO,k):=h;let l:=lT m;let d:=lT n;let a5:m<=100:=by
              have:∀m∈Yo,m<=100:=∅
              show this m TO.pr
 show#[_, #v["aEcZ0yPZ1k0i0aw1cZ2xl0iaEcZ0yZ30aw2cZ4yZ5l0irSyTzTq1q2qcZ6y2XZ7Z8Z8hZ9v0ucZO0x0z",nd,hr,b9,NJ,jO,(lQ (nP (K:=K) ⋯) (pv 1) (bh (v:= .ref 638) ⋯ (gR 11) rfl) ⋯),cD,(bh (v:= .int kj) ⋯ (gR 44) #[7]),B1,["word"],[],(cb (cW (K:=K) ⋯) (pv 0) (c7 dy) eC),yo],7,a,7, .inl b,8717,RE (by rw[My,R3,R3];lia),6];show#[7,a,3,b,fq (i:=0) rfl,aw m,2,lS a5,l.1,λH1 G=> ?_];rw[l.2];show#[7,(638),7, .inr (cT.s.lN _),2,lZ _,71766]
 .rw[RQ RO,oY];show RE (RM.mpr #[m,TO.pr,2])
 show#[7,a,3,G.seq b,fq (i:=1) rfl,(8:Int),aw n,2,lS (by have:=TO.n8;lia),d.1,by rw[d.2];have:=TO.n8;lia,λc bo=>#[rh,λq hq=> ?_]];rw[d.2];let N:=(G.trans bo).trans (vc.new (o:= .lst []) hq);show#[77777,a,7,N.seq b,λp A=> ?_];let O:kh ((aw m::aw n::M.flatten.map aw).map str) (some 2) none=(M.flatten.map aw).map str:=e8 _ 2;rw[O];let f:=N.trans (vc.new (o:= .lst ((M.flatten.map aw).map str)) A);let q2:upd (upd c q (.lst [])) p (.lst ((M.flatten.map aw).map str)) q=some (.lst []):=(vc.new A).at aa;let p2:upd (upd c q (.lst [])) p (.lst ((M.flatten.map aw).map str)) p=some (.lst ((M.flatten.map aw).map str)):=aa;generalize upd (upd c q (.lst [])) p (.lst ((M.flatten.map aw).map str))=j at*;show#[p,2,#[_,vr.of p2],6];let ab:M.flatten.length<=64:=by rw[uM TO.row];show V5 TO.n8 TO.few
 show aG (λ_=>true) (λv=> .int (match v with| .str z=>FF (cp z)|_=>0)) (vr.of p2) (by rw[My,My];show RB ab ∅) (λi v vs H' R S a0 hv e hk=> ?_) λg H' hg e hl=> ?_
 .let(v0,rfl):=aA hv;simp only[aH,bw,RF];let(z,rfl,hz):=ow a0;let(y,hy,rfl):=RM.mp (RG hz);let(r,ax,a4):=adH.mp hy;show#[7,aw y,2,B8 (TO.num r ax y a4),(DH y).1,λj f=>hk [some (.str (aw y))] j rfl f]
 .let U:bD (λ_=>true) (λv=>int (match v with| .str z=>FF (cp z)|_=>0)) ((M.flatten.map aw).map str)=M.flatten.map int:=by unfold bD;rw[Sd.mpr (λ_ _=>rfl),RP,RP];show SI λz _=>Se int (DH z).2
  rw[U]at hl;show#[n,g,M,2,TO.n8,vr.of hl,TO.few,TO.row,TO.none,λu us H5 J hu ay hM=> ?_];show#[GK,λg2 x=>#[bP,λt B=> ?_]];let L:=(vc.new (o:= .lst [int (m:Int),int (n:Int),V.ref u]) x).trans (vc.new (o:= .tup [.ref q, .ref g2]) B);show nI k ((f.trans e).trans J) (J.at (e.at q2)) x B #[u,us,2,L.at ay,hM.same L]
theorem qr:dn P w K mg base 1 652 ["self","target","verb","asked","given"] (zH 655):=by show Yd 0 ["self","target","verb","asked","given"] λH Q E e d h=> ?_;let(p,b,t,v,a,g,rfl,c,k):=h;show#[_, #v["aQZ001aQZ002aQZ003eQZ004",e,d,YW K],6];show#[77,p,(655),b,7,c,(hC 655).toCls,(nA 32),by change 0<1000;decide,6];show#[77,p,(655),b,7,aa,(hC 655).toCls,(nA 33),by change 1<1000;decide,6];rw[bU];show#[77,p,(655),b,7,aa,(hC 655).toCls,(nA 34),by change 2<1000;decide,6];rw[bU];show#[77,p,(655),b,7,aa,(hC 655).toCls,(nA 35),by change 3<1000;decide,6];rw[bU];show k
theorem nLn:kf P w K mg base 1 "Line" 655 ["self","target","verb","asked","given"] (zH 655):=nw 0 8 qr
theorem QM:∀z f,True->(cK.zip [725,730,730,730,735,740,747,759,759,752]).lookup z=some f->∃a,dJ P w K mg base X6 6 f a ["words"] (iP (da K) z)/\cR K a ["words"] []/\aaG K (.ref f)=true:=by show λz f _ h=>lA (p:=λz f=>∃a,dJ P w K mg base X6 6 f a ["words"] (iP (da K) z)/\cR K a ["words"] []/\aaG K (.ref f)=true) ?_ z f h;simp only[cK,Vp,Vq,Uw];show#[aK yq (gR 16) ∅ (aU rfl),aK jN (gR 17) ∅ (aU rfl),aK jN (gR 17) ∅ (aU rfl),aK jN (gR 17) ∅ (aU rfl),aK Ab (gR 18) ∅ (aU rfl),aK vx (gR 19) ∅ (aU rfl),aK dG (gR 20) ∅ (aU rfl),aK bT (gR 21) ∅ (aU rfl),aK bT (gR 21) ∅ (aU rfl),aK gP (gR 22) ∅ (aU rfl),λc b=>nomatch b]
theorem QO:∀z f,hU z->(fC.zip [747,747,747,747,759,759,752,747,747,747,752,771,747,778]).lookup z=some f->∃a,dJ P w K mg base X6 6 f a ["words"] (iP (gr K) z)/\cR K a ["words"] []/\aaG K (.ref f)=true:=by show λz f hz h=>lA (p:=λz f=>hU z->∃a,dJ P w K mg base X6 6 f a ["words"] (iP (gr K) z)/\cR K a ["words"] []/\aaG K (.ref f)=true) ?_ z f h hz;simp only[fC,Vp,Vq,Uw];let no:∀ {z:Str} {A:Prop},¬z∈fC.take 7->hU z->A:=λh q=>absurd q h;show#[λ_=>aK dG (gR 20) ∅ (aU rfl),λ_=>aK dG (gR 20) ∅ (aU rfl),λ_=>aK dG (gR 20) ∅ (aU rfl),λ_=>aK dG (gR 20) ∅ (aU rfl),λ_=>aK bT (gR 21) ∅ (aU rfl),λ_=>aK bT (gR 21) ∅ (aU rfl),λ_=>aK gP (gR 22) ∅ (aU rfl),no ∅,no ∅,no ∅,no ∅,no ∅,no ∅,no ∅,λc b=>nomatch b]
theorem uh:Ca 7 "making_line" ["words"] (Qf K 655):=by show cl 28 ["words","target","verb","found"] λH Q E u b h=> ?_;let(a,ws,rfl,d,x,z,r,rfl,hx,hz,k):=h;show#[_, #v["aw1cZ0xl0iaw2l0iaEcZ1yZ20aw3MZ3xZ4rMZ5q1q2qt3iqt3iz",u,b,jP,b9,(lQ (DC (P:=P) (w:=w) (K:=K) ⋯ ⋯ ⋯) (pv 2) (bh (v:= .ref 779) ⋯ (gR 12) rfl) ⋯),oQ (cT.s.fM P) ⋯ (gR 12) (pv 2) (by intro _ _;rfl) QM (b.mono ∅) mK,(cb (cW (K:=K) ⋯) (pv 0) (c7 dy) eC),fY nLn b ∅ ⋯],7,a,3,d,fq (i:=0) rfl,x,2,hx.1,hx.2,λB l=> ?_];let e:=l.seq d;show#[7,a,3,e,fq (i:=2) rfl,7,z,(779),(cK.zip [725,730,730,730,735,740,747,759,759,752]),22,(cT.s.fM P),717,by rw[gy rfl];show RE hz,6];show#[7,z,2,trivial,by rw[gy rfl];show RE hz,77,a,7,e,λp n=> ?_];let m:kh ((x:: "="::z::r).map str) (some 3) none=r.map str:=e8 _ 3;rw[m];show k p _ _ (l.trans (vc.new n)) aa λv G q=> ?_;let(t,q,g,rfl,f,o):=q;show#[777,t,3,GB.of f,27,t,3,GB.of f,2,λj c A y J=>#[j,c,1117,aa,26]];show o j c _ (nV A y) aa
theorem um:Ca 7 "asking_line" ["words"] (Nu K 655):=by show cl 29 ["words","verb","found"] λH Q E o b h=> ?_;let(a,ws,rfl,d,z,r,rfl,_,hz,k):=h;let f:=RE (Ua hz);show#[_, #v["aw1l0iaEcZ0yZ10aw2MZ2xZ3rMZ4qnq1qt2iqt2iz",o,b,b9,(lQ (DC (P:=P) (w:=w) (K:=K) ⋯ ⋯ ⋯) (pv 1) (bh (v:= .ref 780) ⋯ (gR 13) rfl) ⋯),oQ (cT.s.fA P) ⋯ (gR 13) (pv 1) (by intro _ _;rfl) QO (b.mono ∅) mK,(cb (cW (K:=K) ⋯) (pv 0) (c7 dy) eC),fY nLn b ∅ ⋯],7,a,3,d,fq (i:=0) rfl,7,z,(780),(fC.zip [747,747,747,747,759,759,752,747,747,747,752,771,747,778]),22,(cT.s.fA P),717,by rw[gy rfl];show f,6];show#[7,z,2,hz,by rw[gy rfl];show f,77,a,7,d,λp m=> ?_];let l:kh ((z::r).map str) (some 1) none=r.map str:=e8 _ 1;rw[l];show k p _ _ (vc.new m) aa λv y q=> ?_;let(t,q,g,rfl,e,n):=q;show#[77,t,3,GB.of e,27,t,3,GB.of e,2,λj c x u A=>#[j,c,1117,aa,26]];show n j c _ (nV x u) aa
theorem B3:Ca 8 "line_of" ["text"] (Hl K 655):=by
 show cl 30 ["text","words"] λH Q E q n h=> ?_;let(z,rfl,hz,k):=h;show#[_, #v["aw1QZ00xsafMZ1QZ2pZ3k1iMZ4pAl1isrcZ5x1jrcZ6x1",q,n,tX (K:=K) ⋯ UR PySem.F.slot_str_split PySem.F.type_str_split IY,PW.pt,jH,oR,gm,uh,um],72,z,722,hz,λp m=> ?_];let g:=vc.new (o:= .lst ((dM z).map str)) m;let a:upd H p (.lst ((dM z).map str)) p=some (.lst ((dM z).map str)):=aa;change Eh _ _ _ _ (upd H p (.lst ((dM z).map str)));generalize upd H p (.lst ((dM z).map str))=j at*;generalize dM z=ws at*;show#[7,p,7, .inl (vr.of a),876];rw[My];rcases k with ⟨x,v,r,rfl,k⟩|⟨v,r,rfl,f,k⟩
 .rw[RE (show(2:Int)<(((x:: "="::v::r).length:Nat):Int) by rw[R3,R3,R3];lia)];show bS #[7,p,3,vr.of a,fq (i:=1) rfl,27,bS #[7,p,7,vr.of a,x,v,r,2,k.1,k.2.1,λp b c s=>k.2.2 p b c (g.trans s)]]
 .let d:Nu K 655 [.ref p] j Q E0:=#[p,7,vr.of a,v,r,2,f,k.1,λp b c s=>k.2 p b c (g.trans s)];show bM (λl=> ?_) λ_=>aX #[7,d];cases r with
  |nil=>show absurd (RV l) (by show¬(2:Int)<((1:Nat):Int);decide)
  |cons y r=>
   show#[7,p,3,vr.of a,fq (i:=1) rfl,276];rw[RL λe=>f (Se some (V.str.inj e))];show aX #[7,d]
theorem oW:dn P w K mg base 1 252 ["self","n"] (Di K):=by show Yd 1 ["self","n"] λH Q E e c h=> ?_;let(p,C,a,n,rfl,b,cl,d,k):=h;show#[_, #v["eQZ001",e,c,YW K],6];show#[77,p,C,a,7,b,cl,d,(by change 0<1000;decide),k]
theorem kH:QR P w K mg base 1 269 "__init__" ["self","n"] (Di K):=#[#[_,oW,cT.s.fcH],cT.s.gaH,cT.s.rdH]
theorem aW:dn P w K mg base 2 266 ["self"] (xH K):=by show Yd 2 ["self"] λH Q E i d h=> ?_;let(a,C,b,fs,n,rfl,c,cl,g,lk,e,f,k):=h;show#[_, #v["rcZ0xd0",i,d,eZ],6];show#[7,a,C,b,fs,7,c,cl,g,lk,n,2,e,f,k]
theorem qt:dn P w K mg base 2 287 ["self","n","k"] (Dj 297):=by
 show Yd 3 ["self","n","k"] λH Q E d b h=> ?_;let(p,a,n,e,rfl,c,k):=h;show#[_, #v["aEQZ0Z1y01eQZ202",d,b,jK kH b ∅,(bh (v:= .ref 269) ⋯ (gR 0) rfl),YW K],6];show#[277,p,(297),a,7,c,(hC 297).toCls,(nA 1),6];show#[77,p,(297),a,7,aa,(hC 297).toCls,(nA 2),66]
 .show RD (av _ _ _) (by change 0+1<1000;decide)
 rw[bU];show k
theorem yC:dn P w K mg base 4 294 ["self","s"] (xG 297):=by show Yd 4 ["self","s"] λH Q E g f h=> ?_;let(a,d,n,l,s,rfl,e,i,j,k):=h;show#[_, #v["rMZ0ycZ1x1d0",g,f,bj (me ⋯) ⋯ N1.min_ U1,ij],6];show#[7,s,2,i,j,λc b=> ?_];show#[7,a,(297),d,17,b.at e,(hC 297).toCls,(nA 2),JZ _ _,17,k c b]
theorem nR:dn P w K mg base 2 313 ["self","n","some"] (Dh K 321):=by
 show Yd 5 ["self","n","some"] λH Q E u l h=> ?_;let(p,c,a,n,ms,rfl,g,q,hl,k):=h;show#[_, #v["aEQZ0Z1y01eQZ20MZ3x2",u,l,jK kH l ∅,(bh (v:= .ref 269) ⋯ (gR 0) rfl),YW K,bz (gV (K:=K) ⋯) ⋯ N1.tuple_ Vx],6];show#[277,p,(321),c,7,g,(hC 321).toCls,(nA 12),6];let s:upd H p (.ins 321 c (aE "many" (.int n) [])) p=some (.ins 321 c (aE "many" (.int n) [])):=aa;let i:∀b o,H b=some o->b≠p->upd H p (.ins 321 c (aE "many" (.int n) [])) b=some o:=λb o e d=>by rw[ak d];show e
 let r:vr K (upd H p (.ins 321 c (aE "many" (.int n) []))) a (ms.map int):=by
  rcases q with (h|⟨o,h⟩)|h
  .show .inl (.inl (i _ _ h (lr h g (by intro z;cases z))))
  .show .inl (.inr #[o,i _ _ h (lr h g (by intro z;cases z))])
  .show .inr h
 show#[7,a,7, .inl #[r,λt f=> ?_]];let j:t≠p:=λe=>by rw[e,aa]at f;cases f
 let m:H t=none:=by rwa[ak j]at f
 show#[7,p,(321),c,7,(by rw[ak j.symm];show s),(hC 321).toCls,(nA 13),66]
 .show RD (av _ _ _) (by change 0+1<1000;decide)
 show k t _ m (λb o e d=> ?_) aa ?_
 .rw[ak d,ak (ah e m)];show i b o e d
 .rw[ak j,aa]
theorem ur:dn P w K mg base 4 318 ["self","s"] (Dc 321):=by
 show Yd 6 ["self","s"] λH Q E N J h=> ?_;let(a,n,s,ms,rfl,(j,t,p,d,hl),G,B,O,s1,k):=h;show#[_, #v["rMZ0xXZ1Z2Z3MZ4d0v0ucZ5xoJ10",N,J,bj (uW (K:=K) ⋯ ⋯) ⋯ N1.max_ acd,["one"],["s"],[1],wit K,ij],6];show#[7,a,(321),j,17,p,(hC 321).toCls,(nA 13),Cp _ _,t,2,#[_,GB.of d],6];let U:s.toNat<256:=()
 show MF (λx=>(λ_=>true) (aN x)) (λx=> .int ((λm:Int=>((sz (s.toNat&&&m.toNat):Nat):Int)) (aN x))) d (by rw[My];show RB hl ∅) (λi x vs H' R S hx L f u=> ?_) λD H' hD f hl=> ?_
 .let(v,rfl):=aA L;let(m,rfl,c):=aD hx;let(m0,m1):=B m (RG c);simp only[aH,bw,RF];let b:aaj s m=((s.toNat&&&m.toNat:Nat):Int):=gz O m0;let la:s.toNat&&&m.toNat<256:=Kp U;show#[778,aaj s m,2,(by rw[b];lia),(by rw[b];lia),λg ab=> ?_];rw[b,RA];let q:=u [some (.int m)] g rfl ab;rwa[RF rfl]at q
 replace hl:=hl.trans (Se (λl=>some (HO.lst l)) (aV (λ_=>true) (λm:Int=>((sz (s.toNat&&&m.toNat):Nat):Int)) ms));rw[Sd.mpr (λ_ _=>rfl)]at hl;show#[D,7,vr.of hl,6,λz hz A=> ?_]
 .intro e;rw[UD]at e;show G e
 let o:z=((ag ms s.toNat:Nat):Int):=by let(m,c,rfl):=RM.mp hz;rw[qM (ms:=ms) (s:=s.toNat) (r:=sz (s.toNat&&&m.toNat)) #[m,c,2] λM y=> ?_];have:=A _ (RM.mpr #[M,y,2]);lia
 rw[o];show k H' f
theorem LU:Ca 1 "tied" ["marks","tie"] (Oa K):=by
 show cl 31 ["marks","tie","old","new"] λH Q E B u h=> ?_;let(a,b,ms,t,rfl,c,g,hx,A,hl,k):=h;show#[_, #v["aw2l0t1iaw3l0t1irXZ0Z1Z2h0v0uRZ3pA0210",B,u,["mark"],["new","old"],[3,2],tV],6];let t0:F1 [int (t.1:Int),int (t.2:Int)] 0=some (.int t.1):=bB (j:=0) rfl;let t1:F1 [int (t.1:Int),int (t.2:Int)] 1=some (.int t.2):=bB (j:=1) rfl;let o:F1 (ms.map int) (t.1:Int)=some (.int (ms.getD t.1 0)):=dI hx;let p:F1 (ms.map int) (t.2:Int)=some (.int (ms.getD t.2 0)):=dI A;show#[77,b,3,GB.of g,t0,a,3,c,o,6];show#[77,b,3,GB.of g,t1,a,3,c,p,6];show#[7,a,2,#[_,c],6];show aG (λx=>(λ_=>true) (aN x)) (λv=> .int ((λm:Int=>if m=ms.getD t.1 0 then ms.getD t.2 0 else m) (aN v))) c (by rw[My];show RB hl ∅) (λi v vs H' R S z y n s=> ?_) λD H' r n d=> ?_
 .let(v,rfl):=aA y;let(m,rfl,G):=aD z;let q:=s [some (.int m)] H' rfl (vc.refl _);rw[RF rfl]at q;simp only[aH,bw,RF];show#[77276];rw[J5];show bM (λf=> ?_) λf=> ?_
  .let e:=RV f;replace q:R (int (if m=ms.getD t.1 0 then ms.getD t.2 0 else m)) _ _:=q;rw[RF e]at q;show#[7,q]
  .let e:=UM (Us.mpr f);replace q:R (int (if m=ms.getD t.1 0 then ms.getD t.2 0 else m)) _ _:=q;rw[RQ e]at q;show#[7,q]
 replace d:=d.trans (Se (λl=>some (HO.lst l)) (aV (λ_=>true) (λm:Int=>if m=ms.getD t.1 0 then ms.getD t.2 0 else m) ms));rw[Sd.mpr (λ_ _=>rfl)]at d;show k D H' n r d
theorem rF:dn P w K mg base 2 818 ["self","n","points","ties"] (Dg K 835):=by
 show Yd 7 ["self","n","points","ties"] λH Q E nd hr h=> ?_;let(p,d,a,n,pt,xs,ts,rfl,u,ha,hx,hl,k):=h;show#[_, #v["aEQZ0Z1y01aQZ202eQZ20MZ3xXZ4Z5Z5h3v0uSyt0it0i",nd,hr,jK kH hr ∅,(bh (v:= .ref 269) ⋯ (gR 0) rfl),YW K,bz (gV (K:=K) ⋯) ⋯ N1.tuple_ Vx,["tie"],[]],6];show#[277,p,(835),d,7,u,(hC 835).toCls,(nA 4),6];let a4:upd H p (.ins 835 d (aE "many" (.int n) [])) p=some (.ins 835 d (aE "many" (.int n) [])):=aa;show#[77,p,(835),d,7,a4,(hC 835).toCls,(nA 5),RD (av _ _ _) (by change 0+1<1000;decide),6];rw[bU];let a5:upd H p (.ins 835 d (aE "points" (.int pt) (aE "many" (.int n) []))) p=some (.ins 835 d (aE "points" (.int pt) (aE "many" (.int n) []))):=aa;let A:∀b o,H b=some o->b≠p->upd H p (.ins 835 d (aE "points" (.int pt) (aE "many" (.int n) []))) b=some o:=λb o e f=>by rw[ak f];show e
 let nn:∀b,upd H p (.ins 835 d (aE "points" (.int pt) (aE "many" (.int n) []))) b=none->b≠p/\H b=none:=λb f=>by
  let bp:b≠p:=λe=>by rw[e,aa]at f;cases f
  rw[ak bp]at f;show#[bp,f]
 let b0:iY H (upd H p (.ins 835 d (aE "points" (.int pt) (aE "many" (.int n) [])))):=λb l e=>A b _ e (lr e u (by intro z;cases z));let af:vr K (upd H p (.ins 835 d (aE "points" (.int pt) (aE "many" (.int n) [])))) a xs:=by
  rcases ha with (h|⟨o,h⟩)|h
  .show .inl (.inl (A _ _ h (lr h u (by intro z;cases z))))
  .show .inl (.inr #[o,A _ _ h (lr h u (by intro z;cases z))])
  .show .inr h
 let O:=hx.ts b0;generalize upd H p (.ins 835 d (aE "points" (.int pt) (aE "many" (.int n) [])))=H1 at*;show#[7,a,2,#[_,af],6];show Jw (λx y G=>∃(b c:Addr)(t:Nat×Nat),x= .ref b/\y= .ref c/\G b=some (.tup [.int t.1, .int t.2])/\G c=some (.tup [.int t.1, .int t.2])) (λx y G G' e h=>by let(b,c,t,m,J,s,L):=h;show#[b,c,t,m,J,e _ _ s,e _ _ L]) af (RB hl ∅) (λi v vs H' R S bo hv r hk=> ?_) λD B l hD r ay aj hR=> ?_
 .let(v,rfl):=aA hv;let(b,t,g,rfl,f):=O.at bo;let M:=r.at f;let t0:F1 [int (t.1:Int),int (t.2:Int)] 0=some (.int t.1):=bB (j:=0) rfl;let t1:F1 [int (t.1:Int),int (t.2:Int)] 1=some (.int t.2):=bB (j:=1) rfl;simp only[aH,bw,RF];show#[7,b,3,GB.of M,t0,7,b,3,GB.of M,t1,bP,λq hq=> ?_];show hk _ [some (.ref b)] _ #[b,q,t,22,(vc.new hq).at M,aa] rfl (vc.new hq)
 let bt:bJ B l ts:=by
  show#[by rw[aj];show O.1,λi t g=> ?_];let(b,s,L):=O.2 i t g;let hi:i<l.length:=by rw[aj];show(RX.mp s).1
  let(b',c,t',m,J,g1,g2):=hR i _ _ s (RR hi);cases m;let g3:=r.at L;rw[g1]at g3;show#[c,by rw[RR hi,J],6];rw[g2];show g3
 show#[D,l,2, .inl #[vr.of ay,λt g=> ?_]];let N:=r.at a5;let U:t≠p:=λe=>by rw[e,N]at g;cases g
 let bN:H1 t=none:=by
  cases e:H1 t with
  |none=>rfl
  |some o=>rw[r.at e]at g;cases g
 show#[7,p,(835),d,7,(by rw[ak U.symm];show N),(hC 835).toCls,(nA 6),66]
 .show RD (av _ _ _) (RD (Sh (av _ _ _)) (by change 0+1+1<1000;decide))
 let a7:upd B t (.tup l) p=some (.ins 835 d (aE "points" (.int pt) (aE "many" (.int n) []))):=by rw[ak U.symm];show N
 show k t l _ (nn t bN).2 (λb o e f=> ?_) aa ?_ ?_
 .let m:=r.at (A b o e f);rw[ak f,ak (ah m g)];show m
 .rw[ak U,aa]
 .show(bt.ts (H':=upd B t (.tup l)) (iY.new g)).ts λb zs e=> ?_;rw[ak (lr e a7 (by intro z;cases z))];show e
theorem vF:dn P w K mg base 3 825 ["self","s"] (Nm 835):=by
 show Yd 8 ["self","s","marks","thing"] λH Q E nd hr h=> ?_;let(a,n,p,s,ts,rfl,hN,a3,L,h8,M,k):=h;show#[_, #v["aw2MZ0xMZ1xd0aFhcZ2x1m3ew2cZ3y2td03rMZ4xMZ5x2",nd,hr,bz (CM ⋯) ⋯ N1.list_ ab3,OU ⋯ N1.range_,bH,LU,bj uX ⋯ N1.len_ Vu,bz (uV (K:=K) ⋯ ⋯) ⋯ N1.set_ VL],6];let(A,t,xs,B,ht,hx):=id hN;show#[7,a,(835),A,17,B,(hC 835).toCls,(nA 5),uv _ _ _,7,λr a5=>#[r,p,2,aa,L,λm hm=> ?_]];let N:vc H (upd (upd H r (.rng 0 p)) m (.lst ((Bh.start p).map int))):=(vc.new a5).trans (vc.new hm);let a0:upd (upd H r (.rng 0 p)) m (.lst ((Bh.start p).map int)) m=some (.lst ((Bh.start p).map int)):=aa;let b1:s<256:=RK M (R7 (n:=2) () h8);change aH _ _ _ (upd (upd H r (.rng 0 p)) m (.lst ((Bh.start p).map int))) _;generalize upd (upd H r (.rng 0 p)) m (.lst ((Bh.start p).map int))=H1 at*;show#[7,(s:Int),299,λq U o hq hl=> ?_];rw[RA]at hl;show#[q,2,#[_,vr.of hl],6];show aP (K:=K) (a:=q) (xs:=(yn s).map int) (λi f H'=>vc U H'/\∃m v,H' m=some (.lst ((Ar p ts ((yn s).take i)).map int))/\f=[XS a,XZ s,XS m,v]) #[vc.refl _,m,none,o.at a0,2] (λi f H' _ z=>vr.of (z.1.at hl)) ?_ ?_
 .rintro i y f H' hi ⟨e,g,v,d,rfl⟩;let(z,rfl,hz):=aD hi;let(z0,O):=jY M (RG hz);let(j,rfl):=Sl z0;rw[RA]at O;let x:vc H H':=(N.trans o).trans e;let J:ts[j]?=some (ts.getD j (0,0)):=by simp[O]
  let(b,ai,aj):=(hx.ts (iY.of x)).2 j _ J;let G:=a3 _ (RG J);let c:=qY p ts ((yn s).take i);show#[77,a,(835),A,17,x.at B,(hC 835).toCls,(nA 6),IU _ _ _,7,t,3,GB.of (x.at ht),bB ai,6];show#[g,b,_,ts.getD j (0,0),2,vr.of d,aj,by rw[c];show G.1,by rw[c];show G.2,by rw[c];show L,λu H3 bo hu ay=> ?_];show#[e.trans bo,u,162];rw[ay,SY,hz,acS,Ff,RA]
 .rintro f H' ⟨e,g,v,d,rfl⟩;rw[My,SM]at d;let c:=qY p ts (yn s);show#[7,g,7,vr.of d,by rw[c];lia,λl ax=>#[l,17,aa,6]];rw[o5,c];show k _ (((N.trans o).trans e).trans (vc.new ax))
theorem mPc:∀a,a=835->cJ P w K mg base 3 a "pieces" ["self","s"] (Nm a):=λC h=>by subst h;show cM 8 vF
theorem Al:dn P w K mg base 4 832 ["self","s"] (xF 835):=by show Yd 9 ["self","s"] λH Q E l e h=> ?_;let(a,n,p,s,ts,rfl,c,g,i,f,j,k):=h;show#[_, #v["roHd0QZ00x1",l,e,eG mPc e ∅],6];let(b,t,xs,d,o,hx):=id c;show#[7,a,(835),b,17,d,(hC 835).toCls,(nA 5),uv _ _ _,7,a,(835),b,7,d,2,Cb _ _ _,7,a,n,p,s,ts,2,c,g,i,f,j,λH' m=>#[8,k H' m]]
theorem IG:Ca 1 "rests" ["row","prime"] (KZ K):=by
 show cl 32 ["row","prime"] λH Q E n j h=> ?_;let(a,r,m,rfl,c,o,hl,k):=h;show#[_, #v["afpA1irMZ0x0jrXZ1Z2Z3h0v0uoB01",n,j,bz (vK (K:=K) ⋯) ⋯ N1.list_ ab3,["number"],["prime"],[1]],6];show#[727,bM (λz=> ?_) λz=> ?_]
 .let e:m=0:=V.int.inj (RV z);show#[7,a,7, .inl c,λq b=> ?_];show k q _ (vc.new b) b ?_;rw[aa];unfold cY;rw[RF e]
 .let e:¬m=0:=λe=>z (RE (by rw[e]));show#[7,a,2,#[_,c],6];show aG (λ_=>true) (λx=> .int (aN x % m)) c (by rw[My];show RB hl ∅) (λi x vs H' R S hx l d f=> ?_) λq H' b d g=> ?_
  .let(v,rfl):=aA l;let(y,rfl,p):=aD hx;let q:=f [some (.int y)] H' rfl (vc.refl _);rw[RF rfl]at q;simp only[aH,bw,RF];show#[778,(by show(0:Int)<m;lia),q]
  .show k q H' d b (g.trans ?_);have:=aV (λ_=>true) (λz=>z % m) r;rw[this,Sd.mpr (λ_ _=>rfl)];unfold cY;rw[RQ e]
theorem ug:Ca 1 "pivot_place" ["rows","column"] (K2 K):=by
 show cl 33 ["rows","column","place","row"] λH Q E u M h=> ?_;let(a,xs,L,c,n,rfl,s,hx,J,B,k1,k2):=h;show#[_, #v["aFMZ0x0MZ1QZ2m2Z3efpZ4l31ir2jrn",u,M,tQ (K:=K) ⋯ ⋯ N1.enumerate_,jI (K:=K) (n:=2) ⋯ ⋯,bR,(bR (Yr 3 u) ie),uc],6];show#[7,a,2,#[_,s],6];show JP (K:=K) (a:=a) (xs:=xs) (λi l H'=>vc H H'/\(∀(j:Nat)(r:qR),j<i->L[j]?=some r->r.getD c 0=0)/\∃p q,l=[XS a,XZ c,p,q]) #[vc.refl _,λj _ d=>absurd d (Ve _),none,none,2] (λi l H' _ z=>vr.of (z.1.at s)) ?_ ?_
 .rintro i y t l H' G N ⟨g,hz,p,q,rfl⟩;let(b,r,f,rfl,x):=(hx.same g).at G;let o:vc H' (upd H' t (.tup [.int (i:Int), .ref b])):=vc.new N;let A:=o.at x;let v:F1 (r.map int) (c:Int)=some (.int (r.getD c 0)):=dI (by rw[J r (RG f)];show B);show#[t,7,GB.of aa,21786];show#[77,b,3,vr.of A,v,276];by_cases k:r.getD c 0=0
  .rw[k];show aX #[g.trans o,λj O d m=> ?_,17];by_cases e:j=i
   .subst e;rw[f]at m;cases m;show k
   .show hz j O () m
  .rw[RL λe=>k (V.int.inj e)];show bS #[7,k1 i r _ (g.trans o) f k]
 .rintro l H' ⟨g,hz,p,q,rfl⟩;show k2 (λr f=> ?_) H' g;let(j,d):=SO f;show hz j r (by rw[hx.1];show(RX.mp d).1) d
theorem Ai:Ca 1 "cleared" ["row","pivot","column","divisor"] (Bo K):=by
 show cl 34 ["row","pivot","column","divisor","ahead","behind"] λH Q E nd hr h=> ?_;let(a,b,r,e,c,n,B,d,rfl,o,p,f,g,z,hn,hB,O,k):=h;show#[_, #v["aw4l12aw5l02rXZ0Z1Z2MZ3y01MZ4QZ5v0Z6uoZ7oHoZ803oZ8142",nd,hr,["number","above"],["divisor","ahead","behind"],[3,4,5],Ly (K:=K) ⋯ ⋯ N1.zip_,jI (K:=K) (n:=2) ⋯ ⋯,bR,(bR (Zp 1) ie),ID,LQ],6];let J:F1 (r.map int) (c:Int)=some (.int (r.getD c 0)):=dI (by rw[f.1];show z);let G:F1 (e.map int) (c:Int)=some (.int (e.getD c 0)):=dI (by rw[g.1];show z);show#[77,b,3,p,G,6];show#[77,a,3,o,J,6];show#[77,a,b,2,#[_,o],#[_,p],6];let s:B+B<=2^26:=()
 show MD (n:=n) (λj=> .int ((r.getD j 0*e.getD c 0-e.getD j 0*r.getD c 0).fdiv d)) o p (by rw[My];show f.1) (by rw[My];show g.1) (RB hn ∅) (λi x y vs H' t R S hx hy hv A ht U=> ?_) λD H' N A ab=> ?_
 .let(v1,v2,rfl):=sv hv;let(l,rfl,L):=aD hx;let(m,rfl,M):=aD hy;let u:r.getD i 0=l:=by rw[Sj,L];rfl
  let v:e.getD i 0=m:=by rw[Sj,M];rfl
  let q:=U [some (.int l),some (.int m)] (upd H' t (.tup [.int l, .int m])) rfl (vc.refl _);rw[u,v]at q;let m1:lM l (e.getD c 0):=by rw[<-u];show lM.of (f.at i) (g.at c) s
  let m2:lM m (r.getD c 0):=by rw[<-v];show lM.of (g.at i) (f.at c) s
  show#[t,7,GB.of aa,21786];simp only[bw,RF];show#[778,m1,778,m2,878,O,q]
 .show k D H' A N (ab.trans ?_);unfold o8;rw[f.1,RP];rfl
theorem rB:Ca 2 "all_cleared" ["rows","place","column","divisor"] (Hx K):=by
 show cl 35 ["rows","place","column","divisor","pivot","others"] λH Q E nd hr h=> ?_;let(a,xs,L,i,c,n,B,d,J,rfl,ha,hx,ar,hL,hi,hc,hn,hB,hd,k):=h;show#[_, #v["aw4l01aw5oNMZ0MZ11Z2rXZ3Z4Z5h5v0ucZ6q0q1q2q3z",nd,hr,cb (cW (K:=K) ⋯) (pv 0) eC,c7,(cb (cW (K:=K) ⋯) (pv 0) (c7 (mJ yh (pv 1) dy)) eC),["row"],["pivot","column","divisor"],[4,2,3],Ai],6];let(b,bu,bx):=hx.2 i J hi;show#[77,a,3,vr.of ha,bB bu,6];show#[777,a,7,vr.of ha,λp1 b8=> ?_];rw[DU];let a3:vc H (upd H p1 (.lst (xs.take i))):=vc.new b8;let m:upd H p1 (.lst (xs.take i)) p1=some (.lst (xs.take i)):=aa;generalize upd H p1 (.lst (xs.take i))=p at*;show#[7787,a,7,vr.of (a3.at ha),λp2 cf=> ?_];rw[show(i:Int)+1=((i+1:Nat):Int)from rfl,e8];let a4:vc p (upd p p2 (.lst (xs.drop (i+1)))):=vc.new cf;let z:upd p p2 (.lst (xs.drop (i+1))) p2=some (.lst (xs.drop (i+1))):=aa;generalize upd p p2 (.lst (xs.drop (i+1)))=s at*;let dc:=hx.1;show#[p1,p2,8,a4.at m,z,6,λq hq=> ?_]
 .rw[Sk,SW];show RB (Ka i xs.length) (RB (show xs.length<=1000 by lia) ∅)
 let cO:vc s (upd s q (.lst (xs.take i++xs.drop (i+1)))):=vc.new hq;let h3:upd s q (.lst (xs.take i++xs.drop (i+1))) q=some (.lst (xs.take i++xs.drop (i+1))):=aa;generalize upd s q (.lst (xs.take i++xs.drop (i+1)))=U at*;let O:vc H U:=(a3.trans a4).trans cO;let bN:=O.at bx;let ay:a9 U (xs.take i++xs.drop (i+1)) (L.take i++L.drop (i+1)):=(hx.same O).cut i;let cL:(xs.take i++xs.drop (i+1)).length<=1000:=by rw[R4,Sk,SW];show RB (Ka i xs.length) ()
 let a5:∀r∈L.take i++L.drop (i+1),lJ n B r:=λr f=>by
  rcases R9.mp f with h|h
  .show ar r (Ua h)
  .show ar r (VY h)
 let two:∀(j:Nat)(r:qR),(L.take i++L.drop (i+1))[j]?=some r->2<=L.length:=λj r hj=>by have m:=(RX.mp hj).1;let z:=(RX.mp hi).1;rw[R4,Sk,SW]at m;lia
 generalize xs.take i++xs.drop (i+1)=zs at*;generalize L.take i++L.drop (i+1)=N at*;show#[7,q,2,#[_,vr.of h3],6];show gT (λx y G=>∃(g t:Addr)(r:qR),x= .ref g/\y= .ref t/\U g=some (.lst (r.map int))/\G t=some (.lst ((o8 d J r c).map int))) (λx y G G' e h=>by let(g,t,r,e1,e2,g1,g2):=h;show#[g,t,r,e1,e2,g1,e.at g2]) (vr.of h3) (RB cL ∅) (λj x vs D H' R S cz hv M A hk=> ?_) λD H' ys A M bo b6 hR=> ?_
 .let(v,rfl):=aA hv;let(g,r,f,rfl,a0):=ay.at cz;let(l,hl):=A;simp only[aH,bw,RF];show#[7777,g,b,r,J,c,n,B,d,2,vr.of (M.at a0),vr.of (M.at bN),a5 r (RG f),ar J (RG hi),hc,hn,hB,hd (two j r f),λu H4 cS hu b5=> ?_];show hk _ [some (.ref g)] H4 #[g,u,r,22,a0,6] rfl cS;rw[cy (ah hl hu).symm];show b5
 .show k D H' ys (O.trans M) ?_ bo ?_
  .cases e:H D with
   |none=>rfl
   |some o=>rw[O.at e]at A;cases A
  .show a9.of (by rw[b6,My];show ay.1) λj r' y f hy=> ?_;rw[RU]at f;cases hN:N[j]? with
   |none=>rw[hN]at f;cases f
   |some r=>
    rw[hN]at f;cases f;let(g,m,z):=ay.2 j r hN;let(b2,c2,r2,e1,e2,g1,g2):=hR j _ y m hy;cases e1;rw[r8 z g1];show#[c2,e2,de.at g2]
theorem B2:Ca 3 "rank_of" ["rows","prime"] (Hg K):=by
 show cl 36 ["rows","prime","left","rank","divisor","column","place","ahead"] λH Q E nd hr h=> ?_;let(a,xs,M,n,m,rfl,ha,hx,hM,n8,ct,O,M2,k):=h;show#[_, #v["afpAk0irijaY2Z0Z1Z2h0v0ucZ3y01aw3iaw4iaFgkl0im5aw6cZ4y25efpZ56naw7ll265aY2Z0Z1Z2hcZ6q2q6q5q4zv0ucZ3y01aw3oD3iefpA1iew47jjr3",nd,hr,["row"],["prime"],[1],IG,ug,yf,rB],6];let dw:=hx.1;show#[7,a,7, .inl (vr.of ha),27,bM (λz=> ?_) λz=> ?_]
 .let e:M=[]:=by have A:((xs.length:Nat):Int)=0:=V.int.inj (RV z);show Sx.mp ()
  subst e;show k 0 H (vc.refl _) (Nw _)
 let m0:0<M.length:=by show Vm λe=>z (RE ?_);rw[dw,e];rfl
 show#[7,a,2,#[_,vr.of ha],6];show gT (λx y G=>∃(o s:Addr)(r:qR),x= .ref o/\y= .ref s/\H o=some (.lst (r.map int))/\G s=some (.lst ((cY m r).map int))) (λx y G G' e h=>by let(o,s,r,A,B,g1,g2):=h;show#[o,s,r,A,B,g1,e.at g2]) (vr.of ha) (RB (show xs.length<=100 by lia) ∅) (λj x vs D H' R S cE hv sm hD hk=> ?_) λq H1 ys hq cS ey ep hR=> ?_
 .let(v,rfl):=aA hv;let(o,r,f,rfl,ax):=hx.at cE;let(l,hl):=hD;simp only[aH,bw,RF];show#[77,o,r,m,2,vr.of (sm.at ax),O.nn,by rw[(ct r (RG f)).1];lia,λu H4 a7 hu af=> ?_];show hk _ [some (.ref o)] _ #[o,u,r,22,ax,6] rfl a7;rw[cy (ah hl hu).symm];show af
 let eD:a9 H1 ys (M.map (cY m)):=by
  show a9.of (by rw[ep,My];show dw) λj r' y f hy=> ?_;rw[RU]at f;cases hN:M[j]? with
  |none=>rw[hN]at f;cases f
  |some r=>
   rw[hN]at f;cases f;let(o,h1,J):=hx.2 j r hN;let(b2,c2,r2,A,B,g1,g2):=hR j _ y h1 hy;cases A;rw[r8 J g1];show#[c2,B,de.at g2]
 clear hR;let(b0,eg,ej):=hx.2 0 _ (RR m0);let l0:=(ct _ (SX m0)).1;show#[7,a,3,vr.of (cS.at ha),bB (j:=0) eg,b0,7, .inl (vr.of (cS.at ej)),7,by rw[My];lia,by rw[My];lia,6];rw[My,l0,RA];show cg (n:=n) (λc σ H'=>vc H H'/\∃(q:Addr)(ys:List V) (L:oS) (g:Nat) (d:Int) (v5 v6 v7:Option V),H' q=some (.lst ys)/\a9 H' ys L/\L.length+g=M.length/\(∀r∈L,lJ n (iL g) r)/\(0<m->∀r∈L,∀z∈r,0<=z/\z<m)/\(2<=L.length\/m≠0->d=1)/\(∀r,Rk m (L.map bY) (aaD c (n-c)) r->Rk m (M.map bY) (range n) (r+g))/\
  σ=[XS a,XX m,XS q,XZ g,XX d,v5,v6,v7]) #[cS,q,ys,M.map (cY m),0,(1),none,none,none,ey,eD,by rw[My];rfl,λr f=> ?_,λhp r f=> ?_,λ_=>rfl,λr h=> ?_,2] ?_ ?_
 .let(r0,a3,rfl):=RM.mp f;show zW O.nn O.lt ∅ (ct r0 a3)
 .let(r0,a3,rfl):=RM.mp f;show Dw hp
 .rw[show aaD 0 (n-0)=range n by rw[U3];rfl]at h;show Ds h
 .rintro c σ H' hc ⟨b5,q',b6,L,g,d,v5,v6,v7,bu,b1,hL,t,cm,hd,ab,rfl⟩;rw[Sy];rw[BL hc]at ab;show#[77,q',b6,L,c,n,2,bu,b1,λr f=>(t r f).1,hc,λi p H2 U hi dp=> ?_,λef H2 U=> ?_]
  .let b4:=RG hi;let dr:=U.at bu;let dx:=b1.same U;let il:=(RX.mp hi).1;let en:=J9 hi;let eo:L.map bY=(L.take i).map bY++bY p::(L.drop (i+1)).map bY:=by
    conv=>lhs;rw[en]
    rw[R6,Sg]
   let ew:¬m∣p.getD c 0:=Pd O.nn (λhp=>cm hp p b4 _ (Lf dp)) dp;let eN:((L.take i++L.drop (i+1)).map λr=>o8 d p r c).map bY=((L.take i).map bY++(L.drop (i+1)).map bY).map (Y0 (bY p) c):=by
    by_cases J:2<=L.length
    .rw[hd (.inl J),<-R6,RP,RP];show SI λr f=> ?_;let rm:r∈L:=by
      rcases R9.mp f with h|h
      .show Ua h
      .show VY h
     show HN (t p b4).1 (t r rm).1
    .let e:L.take i++L.drop (i+1)=[]:=Sx.mp (by rw[R4,Sk,SW];lia);rw[<-R6,e];rfl
   let US:∀r,Rk m (((L.take i++L.drop (i+1)).map λr=>o8 d p r c).map bY) (aaD (c+1) (n- (c+1))) r->Rk m (M.map bY) (range n) (r+(g+1)):=λr h=>by rw[eN]at h;rw[show r+(g+1)=r+1+g by lia];show ab _ (.pivot eo ew h)
   clear eN;let bN:∀r∈(L.take i++L.drop (i+1)).map λr=>o8 d p r c,lJ n (iL (g+1)) r:=λx eA=>by
    let(r,f,rfl):=RM.mp eA;let rm:r∈L:=by
     rcases R9.mp f with h|h
     .show Ua h
     .show VY h
    show MT (t p b4) (t r rm)
   let lN:((L.take i++L.drop (i+1)).map λr=>o8 d p r c).length+(g+1)=M.length:=by rw[My,R4,Sk,SW];lia
   let(b,ei,ek):=dx.2 i p hi;let ar:F1 (p.map int) (c:Int)=some (.int (p.getD c 0)):=dI (by rw[(t p b4).1];show hc);let ee:2<=L.length->ZX 0 d:=λJ=>by rw[hd (.inl J)];show#[44]
   let eL:g<9:=()
   show#[727,bS ?_];show#[77,q',3,vr.of dr,bB ei,7,b,3,vr.of ek,ar,6];generalize hN:(L.take i++L.drop (i+1)).map (λr=>o8 d p r c)=N at*;show#[7777,q',b6,L,i,c,n,iL g,d,p,2,dr,dx,t,9,hi,hc,9,Ge g eL,ee,λu H4 zs a7 hu af b3=> ?_];rw[hN]at b3;let zl:=b3.1;show#[u,2,#[_,vr.of af],6];show gT (λx y G=>∃(o s:Addr)(r:qR),x= .ref o/\y= .ref s/\H4 o=some (.lst (r.map int))/\G s=some (.lst ((cY m r).map int))) (λx y G G' e h=>by let(o,s,r,A,B,g1,g2):=h;show#[o,s,r,A,B,g1,e.at g2]) (vr.of af) (RB (show zs.length<=100 by lia) ∅) (λj x vs D H' R S cE hv sm hD hk=> ?_) λq5 H5 ws e7 eP dt et hR=> ?_
   .let(v,rfl):=aA hv;let(o,r,f,rfl,ax):=b3.at cE;let(l,hl):=hD;simp only[aH,bw,RF];show#[77,o,r,m,2,vr.of (sm.at ax),O.nn,by rw[(bN r (RG f)).1];lia,λu H4 a7 hu af=> ?_];show hk _ [some (.ref o)] _ #[o,u,r,22,ax,6] rfl a7;rw[cy (ah hl hu).symm];show af
   let dv:a9 H5 ws (N.map (cY m)):=by
    show a9.of (by rw[et,My];show zl) λj r' y f hy=> ?_;rw[RU]at f;cases cj:N[j]? with
    |none=>rw[cj]at f;cases f
    |some r=>
     rw[cj]at f;cases f;let(o,h1,J):=b3.2 j r cj;let(b2,c2,r2,A,B,g1,g2):=hR j _ y h1 hy;cases A;rw[r8 J g1];show#[c2,B,de.at g2]
   clear hR;let d0:vc H H5:=((b5.trans U).trans a7).trans eP;let fB:∀r∈N.map (cY m),lJ n (iL (g+1)) r:=λr f=>by let(r0,a3,rfl):=RM.mp f;show zW O.nn O.lt (pC _) (bN r0 a3)
   let fI:0<m->∀r∈N.map (cY m),∀z∈r,0<=z/\z<m:=λhp r f=>by let(r0,a3,rfl):=RM.mp f;show Dw hp
   let fU:=λr h=>US r (Ds h);show#[786];rw[show(g:Int)+1=((g+1:Nat):Int) by lia];show#[727,bM (λz=> ?_) λz=> ?_]
   .let e:m=0:=V.int.inj (RV z);show#[7,d0,q5,ws,N.map (cY m),g+1,p.getD c 0,111,dt,dv,by rw[My];show lN,fB,fI,λh=>absurd e (h.resolve_left λh=>by rw[My]at h;have:=M2 e;lia),fU,2]
   .let e:m≠0:=λe=>z (RE (by rw[e]));show#[d0,q5,ws,N.map (cY m),g+1,d,111,dt,dv,by rw[My];show lN,fB,fI,λ_=>hd (.inr e),fU,2]
  .show#[727,aX ?_];let zr:∀r∈L.map bY,m∣r c:=λr f=>by let(l,hl,rfl):=RM.mp f;have:bY l c=0:=ef l hl;rw[this];show Vo m
   show#[b5.trans U,q',b6,L,g,d,111,U.at bu,b1.same U,hL,t,cm,hd,λr h=>ab r (.zero zr h),2]
 .rintro σ H' ⟨b5,q',b6,L,g,d,v5,v6,v7,bu,b1,hL,t,cm,hd,ab,rfl⟩;rw[Nat.sub_self]at ab;have:=ab 0 (.nil _);rw[Ux]at this;show#[7,k g H' b5 this]
theorem mr:dn P w K mg base 2 893 ["self","n","prime","rows"] (zC K 901):=by
 show Yd 10 ["self","n","prime","rows"] λH Q E nd hr h=> ?_;let(p,d,a,n,m,xs,M,rfl,U,ha,hx,hl,k):=h;show#[_, #v["aEQZ0Z1y01aQZ202eQZ20MZ3xXZ4Z5Z5h3v0uMZ3x0",nd,hr,jK kH hr ∅,(bh (v:= .ref 269) ⋯ (gR 0) rfl),YW K,bz (gV (K:=K) ⋯) ⋯ N1.tuple_ Vx,["row"],[]],6];show#[277,p,(901),d,7,U,(hC 901).toCls,(nA 8),6];let bt:upd H p (.ins 901 d (aE "many" (.int n) [])) p=some (.ins 901 d (aE "many" (.int n) [])):=aa;show#[77,p,(901),d,7,bt,(hC 901).toCls,(nA 9),RD (av _ _ _) (by change 0+1<1000;decide),6];rw[bU];let bu:upd H p (.ins 901 d (aE "prime" (.int m) (aE "many" (.int n) []))) p=some (.ins 901 d (aE "prime" (.int m) (aE "many" (.int n) []))):=aa;let ai:∀b o,H b=some o->b≠p->upd H p (.ins 901 d (aE "prime" (.int m) (aE "many" (.int n) []))) b=some o:=λb o e f=>by rw[ak f];show e
 let nn:∀b,upd H p (.ins 901 d (aE "prime" (.int m) (aE "many" (.int n) []))) b=none->b≠p/\H b=none:=λb f=>by
  let bp:b≠p:=λe=>by rw[e,aa]at f;cases f
  rw[ak bp]at f;show#[bp,f]
 let ay:=ai _ _ ha (lr ha U (by intro z;cases z));let af:a9 (upd H p (.ins 901 d (aE "prime" (.int m) (aE "many" (.int n) [])))) xs M:=#[hx.1,λi r J=>by let(b,j,s):=hx.2 i r J;show#[b,j,ai _ _ s (lr s U (by intro z;cases z))]]
 generalize upd H p (.ins 901 d (aE "prime" (.int m) (aE "many" (.int n) [])))=L at*;show#[7,a,2,#[_,vr.of ay],6];show gT (λx y G=>∃(b c:Addr)(r:qR),x= .ref b/\y= .ref c/\L b=some (.lst (r.map int))/\G c=some (.tup (r.map int))) (λx y G G' e h=>by let(b,c,r,g,O,j,s):=h;show#[b,c,r,g,O,j,e.at s]) (vr.of ay) (RB hl ∅) (λi v vs D H' R S b0 hv B hD hk=> ?_) λD N A hD B a5 a0 hR=> ?_
 .let(v,rfl):=aA hv;let(b,r,J,rfl,f):=af.at b0;let(l,bo):=hD;simp only[aH,bw,RF];show#[7,b,7, .inl #[vr.of (B.at f),λq hq=> ?_]];show hk _ [some (.ref b)] _ #[b,q,r,22,f,6] rfl (vc.new hq);rw[cy (ah bo hq).symm,aa]
 let b1:lI N A M:=by
  show#[by rw[a0];show af.1,λi r J=> ?_];let(b,j,s):=af.2 i r J;let hi:i<A.length:=by rw[a0];show(RX.mp j).1
  let(b',c,r',g,O,g1,g2):=hR i _ _ j (RR hi);cases g;rw[r8 s g1];show#[c,by rw[RR hi,O],de.at g2]
 show#[D,A,2, .inl #[vr.of a5,λt u=> ?_]];let ab:=B.at bu;let tp:t≠p:=λe=>by rw[e,ab]at u;cases u
 let b4:L t=none:=by
  cases e:L t with
  |none=>rfl
  |some o=>rw[B.at e]at u;cases u
 show#[7,p,(901),d,7,(by rw[ak tp.symm];show ab),(hC 901).toCls,(nA 10),66]
 .show RD (av _ _ _) (RD (Sh (av _ _ _)) (by change 0+1+1<1000;decide))
 let bx:upd N t (.tup A) p=some (.ins 901 d (aE "prime" (.int m) (aE "many" (.int n) []))):=by rw[ak tp.symm];show ab
 show k t A _ (nn t b4).2 (λb o e f=> ?_) aa ?_ ?_
 .let g:=B.at (ai b o e f);rw[ak f,ak (ah g u)];show g
 .rw[ak tp,aa]
 .show(b1.ts (H':=upd N t (.tup A)) (iY.new u)).ts λb zs e=> ?_;rw[ak (lr e bx (by intro z;cases z))];show e
theorem rE:dn P w K mg base 4 898 ["self","s"] (sP 901):=by
 show Yd 11 ["self","s","some"] λH Q E nd hr h=> ?_;let(a,n,s,m,M,rfl,hT,n8,hM,ar,pm,M2,hs,k):=h;show#[_, #v["aw2cZ0x1rcZ1yXZ2Z3Z4MZ5d0v0uXZ6Z2Z7h1v0ut10d0",nd,hr,bH,B2,["row"],["some"],[2],wit K,["thing"],[0]],6];let(U,t,xs,ha,ht,hx):=id hT;let dV:s<256:=RK hs (R7 (n:=2) () n8);show#[7,(s:Int),299,λq H1 A hq ai=> ?_];rw[RA]at ai;let ay:=A.at ht;let ab:=A.at ha;let a0:=hx.ts (iY.of A);let cS:=hx.1;show#[7,a,(901),U,17,ab,(hC 901).toCls,(nA 10),Gy _ _ _,t,2,#[_,GB.of ay],6];show ME (λx y G=>∃(b c:Addr)(r:qR),x= .ref b/\y= .ref c/\H1 b=some (.tup (r.map int))/\r∈M/\G c=some (.lst ((X7 s r).map int))) (λx y G G' e h=>by let(b,c,r,B,J,L,h3,N):=h;show#[b,c,r,B,J,L,h3,e.at N]) ay (RB (show xs.length<=100 by lia) ∅) (λi v vs D H' R S cL p sm hD hk=> ?_) λu H2 ys hu a5 cE cm hR=> ?_
 .let(v,rfl):=aA p;let(b,r,d,rfl,hb):=a0.at cL;let(l,cj):=hD;simp only[aH,bw,RF];let aj:=sm.at ai;let b7:=sm.at hb;show#[7,q,2,#[_,vr.of aj],6];show aG (λx=>(λ_=>true) (aN x)) (λx=> .int ((λz:Int=>r.getD z.toNat 0) (aN x))) (vr.of aj) (by rw[My];show RB (bq s) ∅) (λj x ws f R' S' cO hw g cf=> ?_) λD2 f b1 g o=> ?_
  .let(w',rfl):=aA hw;let(z,rfl,hz):=aD cO;let(z0,z1):=jY hs (RG hz);let q':=cf [some (.int z)] f rfl (vc.refl _);rw[RF rfl]at q';let az:F1 (r.map int) z=some (.int (r.getD z.toNat 0)):=by
    have:=dI (l:=r) (j:=z.toNat) (by rw[(ar r (RG d)).1];show z1)
    rwa [Int.toNat_of_nonneg z0]at this
   simp only[aH,bw,RF];show#[77,b,3,GB.of (g.at b7),az,q']
  .replace o:=o.trans (Se (λl=>some (HO.lst l)) (aV (λ_=>true) (λz:Int=>r.getD z.toNat 0) (yn s)));rw[Sd.mpr (λ_ _=>rfl)]at o;show hk _ [some (.ref b)] f #[b,D2,r,22,hb,RG d,6] rfl g;rw[cy (ah cj b1).symm];show o
 let c3:a9 H2 ys (M.map (X7 s)):=by
  show a9.of (by rw[cm,My];show cS) λj r' y d hy=> ?_;rw[RU]at d;cases O:M[j]? with
  |none=>rw[O]at d;cases d
  |some r=>
   rw[O]at d;cases d;let(b,L,N):=a0.2 j r O;let(b2,c2,r2,B,J,g1,_,g2):=hR j _ y L hy;cases B;rw[Kz N g1];show#[c2,J,de.at g2]
 let bl:=bq s;show#[7,a,(901),U,17,a5.at ab,(hC 901).toCls,(nA 9),Ef _ _ _,u,ys,M.map (X7 s),(yn s).length,m,2,cE,c3,by rw[My];show hM,bl,λr d=> ?_,pm,λe=>by rw[My];show M2 e,λrk f g p=> ?_]
 .let(r0,ct,rfl):=RM.mp d;show#[by unfold X7;rw[My],λz hz=> ?_];unfold X7 at hz;let(b,_,rfl):=RM.mp hz;show(ar r0 ct).at b.toNat
 .rw[<-FW]at p;show k rk f ((A.trans a5).trans g) (Lg p)
theorem Zi:∀C,(X5 cc).dom C->cJ P w K mg base 2 C "everything" ["self"] (xH K):=QG (c:=cc) (QP #[(hC 321).toCls,_,#[nA 14,(mM 2).fn,(mM 2).kp],aW] #[(hC 435).toCls,_,#[nA 19,(mM 2).fn,(mM 2).kp],aW] #[(hC 297).toCls,_,#[nA 3,(mM 2).fn,(mM 2).kp],aW] #[(hC 835).toCls,_,#[nA 7,(mM 2).fn,(mM 2).kp],aW] #[(hC 901).toCls,_,#[nA 11,(mM 2).fn,(mM 2).kp],aW] #[(hC 461).toCls,_,#[nA 25,(mM 2).fn,(mM 2).kp],aW] #[(hC 487).toCls,_,#[nA 31,(mM 2).fn,(mM 2).kp],aW])
theorem ZO:∀C,(X0 cc.L).dom C->cJ P w K mg base 2 C "everything" ["self"] (xH K):=λC h=>Zi C (.inl (.inl h))
theorem mL:cJ P w K mg base 4 cc.L "rank" ["self","s"] (gh (X0 cc.L) cc.L):=cJ.imp (cM 6 ur) Ra
theorem Zs:∀C,(X0 cc.L).dom C->cJ P w K mg base 4 C "rank" ["self","s"] (gh (X0 cc.L) C):=λC h=>by cases h;show mL
theorem qp:dn P w K mg base 3 477 ["self","one","other"] (zE (X0 cc.L) 487):=by
 show Yd 12 ["self","one","other"] λH Q E nd m h=> ?_;let(p,f,a,l,g,n2,r1,r2,rfl,hp,O,U,h8,k):=h;show#[_, #v["aEQZ0Z1y0oDd1d2aQZ201aQZ202aQZ20d1eQZ20MZ31",nd,m,jK kH m ∅,(bh (v:= .ref 269) ⋯ (gR 0) rfl),YW K,dD ZO m ∅],6];let(C1,s,z):=zL.shown O;let(r,G,A):=zL.shown U;let y:a≠p:=ox z;let ai:l≠p:=ox A;let(c,d,g1,az,M,j):=z.ex;let(t,u,g2,a0,ay,N):=A.ex;let x:H a=some (.ins C1 c d):=(cy (H:=H) y).symm.trans g1;let af:H l=some (.ins r t u):=(cy (H:=H) ai).symm.trans g2;let(i,n,_,_):=Y4 C1 s;let(B,ar,_,_):=Y4 r G;let a5:0<2^g:=Su ();let q:∀ {o:HO},upd H p o a=some (.ins C1 c d):=λ{o}=>by rw[ak y];show x
 show#[277,a,_,c,d,7,x,i,n,j,7,l,_,t,u,7,af,B,ar,N,8,p,(487),f,7,hp,(hC 487).toCls,(nA 26),6];show#[77,p,(487),f,7,aa,(hC 487).toCls,(nA 27),RD (av _ _ _) (by change 0+1<1000;decide),6];rw[bU];show#[77,p,(487),f,7,aa,(hC 487).toCls,(nA 28),RD (av _ _ _) (RD (Sh (av _ _ _)) (by change 0+1+1<1000;decide)),6];rw[bU];show#[7,a,_,c,d,7,q,i,n,j,7,p,(487),f,7,aa,(hC 487).toCls,(nA 29),RD (av _ _ _) (RD (Sh (av _ _ _)) (RD (Sh (Sh (av _ _ _))) (by change 0+1+1+1<1000;decide))),6];rw[bU];show#[7,a,_,c,d,2,q,s,M,a,_,c,d,(g:Int),2,q,i,n,j,997,p,(487),f,7,aa,(hC 487).toCls,(nA 30),66]
 .show RD (av _ _ _) (RD (Sh (av _ _ _)) (RD (Sh (Sh (av _ _ _))) (RD (Sh (Sh (Sh (av _ _ _)))) (by change 0+1+1+1+1<1000;decide))))
 rw[bU];let J:(1*2^((g:Nat):Int).toNat-1:Int)=((2^g-1:Nat):Int):=by rw[bQ];lia
 rw[J];show k _ (λb o e hb=> ?_) aa;rw[ak hb];show e
theorem yB:dn P w K mg base (4+1) 484 ["self","s"] (gh (JH (X0 cc.L) 487) 487):=by
 show Yd 13 ["self","s"] λH Q E nd y h=> ?_;let(a,n,s,r,rfl,hX,(a5,bu,bx),n8,z,k):=h;show#[_, #v["roDQZ0d0xoJ1d0QZ0d0xoZ11d0",nd,y,eG Zs y (),qf],6];let(c,p,q,b,f,g,i,N,d,t,ab,ai):=hX;let p1:0<2^b:=Su ();let s1:s % 2^b<2^b:=VR _ p1;let s2:s/2^b<2^f:=by rw[ab9 p1,<-V7,WJ f b,<-N];show z
 let(C1,B,ay):=zL.shown t;let(j,m,v,O,a7,bo):=ay.ex;let J:aaj (s:Int) ((2^b-1:Nat):Int)=((s % 2^b:Nat):Int):=by rw[bX,VV]
 let M:((s:Int) /2^((b:Nat):Int).toNat)=((s/2^b:Nat):Int):=by rw[RA];simp
 show#[7,a,(487),c,17,d,(hC 487).toCls,(nA 27),EC _ _ _ _ _,p,_,j,m,2,v,B,O,77,a,(487),c,17,d,(hC 487).toCls,(nA 30),Ox _ _ _ _ _,8,p,b,s % 2^b,g,(by(try dsimp only);rw[J]),t,#[j,m,v],9,s1,λH1 e=> ?_];let u:=zL.same e ab;let(C2,G,az):=zL.shown u;let(l,o,x,U,bk,bt):=az.ex;show#[7,a,(487),c,17,e.at d,(hC 487).toCls,(nA 28),Bu _ _ _ _ _,q,_,l,o,2,x,G,U,77,a,(487),c,17,e.at d,(hC 487).toCls,(nA 29),Ow _ _ _ _ _,89,q,f,s/2^b,i,(by(try dsimp only);rw[M]),u,#[l,o,x],9,s2,λA a0=> ?_];show#[86];have:=k A (e.trans a0);rw[ai s z]at this;rwa[show((g (s % 2^b)+i (s/2^b):Nat):Int)=((g (s % 2^b):Nat):Int)+((i (s/2^b):Nat):Int) by lia]at this
theorem oV:dn P w K mg base (4+1) 451 ["self","house","out","drawn"] (zG (X0 cc.L) 461):=by
 show Yd 14 ["self","house","out","drawn","kept"] λH Q E nd g h=> ?_;let(p,c,h,n,o,d,r,rfl,N,q,u,O,k):=h;show#[_, #v["aw4cZ0yMZ11oK23aEQZ2Z3y0cZ4x4aQZ501aQZ504aQZ503eQZ50QZ61x3",nd,g,eI,dD ZO g (),jK kH g (),(bh (v:= .ref 269) ⋯ (gR 0) rfl),ij,YW K,eG Zs g ()],6];let(C,j,t):=zL.shown q;let s:h≠p:=ox t;let(a,fs,M,J,B,G):=t.ex;let l:H h=some (.ins C a fs):=(cy (H:=H) s).symm.trans M;let(z,ab,a0,ar):=Y4 C j;let az:0<2^n:=Su ();let p8:=oN u;let A:(1*2^((n:Nat):Int).toNat-1:Int)=((2^n-1:Nat):Int):=by rw[bQ];lia
 let kl:aB (2^n-1) (o|||d)<2^n:=gq;show#[7,h,C,a,fs,2,l,j,B,h,C,a,fs,(n:Int),2,l,z,ab,G,99778,2^n-1,o|||d,66]
 ·(try dsimp only);rw[A,bO];rfl
 generalize aB (2^n-1) (o|||d)=U at*;show#[277,(U:Int),299,λm i=> ?_];show#[p,(461),c,7,i.at N,(hC 461).toCls,(nA 20),6];rw[RA];let y:∀ {o:HO},upd m p o h=some (.ins C a fs):=λ{o}=>by rw[ak s];show i.at l
 show#[77,p,(461),c,7,aa,(hC 461).toCls,(nA 21),RD (av _ _ _) (by change 0+1<1000;decide),6];rw[bU];show#[77,p,(461),c,7,aa,(hC 461).toCls,(nA 22),RD (av _ _ _) (RD (Sh (av _ _ _)) (by change 0+1+1<1000;decide)),6];rw[bU];show#[77,p,(461),c,7,aa,(hC 461).toCls,(nA 23),RD (av _ _ _) (RD (Sh (av _ _ _)) (RD (Sh (Sh (av _ _ _))) (by change 0+1+1+1<1000;decide))),6];rw[bU];let ai:∀ {o:HO},vc (A0 H p) (upd m p o):=λ{o} b o' e=>by
  unfold A0 at e;split at e
  .cases e
  .rename_i f;rw[ak f];show i.at e
 show#[7,h,C,a,fs,2,y,j,J,7,h,n,d,r,2,zL.same ai q,#[a,fs,y],u,O,λH5 x=> ?_];show#[7,p,(461),c,7,x.at aa,(hC 461).toCls,(nA 24),66]
 .show RD (av _ _ _) (RD (Sh (av _ _ _)) (RD (Sh (Sh (av _ _ _))) (RD (Sh (Sh (Sh (av _ _ _)))) (by change 0+1+1+1+1<1000;decide))))
 show k _ (λb o e f=> ?_) aa;rw[ak f];show x.at (by rw[ak f];show i.at e)
theorem vG:dn P w K mg base (4+1) 458 ["self","s"] (gh (JJ (X0 cc.L) 461) 461):=by
 show Yd 15 ["self","s"] λH Q E J m h=> ?_;let(a,n,s,r,rfl,x,(U,aj,ar),G,o,k):=h;show#[_, #v["roHQZ0d0xoKcZ1y1d0d0d0",J,m,eG Zs m (),E5],6];let(c,h,p,e,f,M,d,i,en,q,l,B,z):=x;let s2:=BD G o;let k2:=BD q l;let(C,v,A):=zL.shown i;let(g,fs,j,fr,fe,fm):=A.ex;let N:bL s e|||f<2^p:=SQ ((nh s e).lt l) B;show#[7,a,(461),c,17,d,(hC 461).toCls,(nA 21),Fg _ _ _ _ _,h,C,g,fs,2,j,v,fr,6];show#[77,a,(461),c,17,d,(hC 461).toCls,(nA 22),Jh _ _ _ _ _,(s:Int),(e:Int),2999,λO b=> ?_];let y:=zL.same b i;show#[7,a,(461),c,17,b.at d,(hC 461).toCls,(nA 23),Fh _ _ _ _ _,8,h,p,bL s e|||f,M,6,y,⟨g,fs,b.at j⟩,q,N,λu t=> ?_]
 ·(try dsimp only);rw[RA,RA,bO]
 show#[7,a,(461),c,17,t.at (b.at d),(hC 461).toCls,(nA 24),Pj _ _ _ _ _,86];have:=k u (b.trans t);rwa[z s o]at this
theorem oU:dn P w K mg base (4+1) 425 ["self","house"] (zF (X0 cc.L) 435):=by
 show Yd 16 ["self","house"] λH Q E N f h=> ?_;let(p,a,h,n,r,rfl,G,m,M,k):=h;show#[_, #v["aEQZ0Z1y0d1aQZ201aQZ20MZ31eQZ20QZ41xd0",N,f,jK kH f (),(bh (v:= .ref 269) ⋯ (gR 0) rfl),YW K,dD ZO f (),eG Zs f ()],6];let(C,i,t):=zL.shown m;let s:h≠p:=ox t;let(c,fs,B,A,z,l):=t.ex;let q:H h=some (.ins C c fs):=(cy (H:=H) s).symm.trans B;let(j,u,aj,ab):=Y4 C i;let ai:0<2^n:=Su ();show#[277,h,C,c,fs,7,q,j,u,l,p,(435),a,7,G,(hC 435).toCls,(nA 15),6];let g:∀ {o:HO},upd H p o h=some (.ins C c fs):=λ{o}=>by rw[ak s];show q
 let J:upd H p (.ins 435 a (aE "many" (.int (n:Int)) [])) p=some (.ins 435 a (aE "many" (.int (n:Int)) [])):=aa;show#[77,p,(435),a,7,J,(hC 435).toCls,(nA 16),RD (av _ _ _) (by change 0+1<1000;decide),6];rw[bU];show#[7,h,C,c,fs,2,g,i,z,h,C,c,fs,(n:Int),2,g,j,u,l,997,p,(435),a,7,aa,(hC 435).toCls,(nA 17),66]
 .show RD (av _ _ _) (RD (Sh (av _ _ _)) (by change 0+1+1<1000;decide))
 rw[bU];let y:(1*2^((n:Nat):Int).toNat-1:Int)=((2^n-1:Nat):Int):=by rw[bQ];lia
 rw[y];let lk:(aE "full" (int ((2^n-1:Nat):Int)) (aE "house" (V.ref h) (aE "many" (int (n:Int)) []))).lookup ("full":Str)=some (.int ((2^n-1:Nat):Int)):=aq _ _ _;let O:∀ {o:HO},vc (A0 H p) (upd H p o):=λ{o} b o' e=>by
  unfold A0 at e;split at e
  .cases e
  .rename_i d;rw[ak d];show e
 show#[7,h,C,c,fs,2,g,i,A,7,p,(435),a,17,aa,(hC 435).toCls,(nA 17),lk,h,n,2^n-1,r,2,zL.same O m,#[c,fs,g],M,9,λU x=> ?_];show#[7,p,(435),a,7,x.at aa,(hC 435).toCls,(nA 18),66]
 .show RD (av _ _ _) (RD (Sh (av _ _ _)) (RD (Sh (Sh (av _ _ _))) (by change 0+1+1+1<1000;decide)))
 show k _ (λb o e d=> ?_) aa;rw[ak d];show x.at (by rw[ak d];show e)
theorem vE:dn P w K mg base (4+1) 432 ["self","s"] (gh (Zu (X0 cc.L) 435) 435):=by
 show Yd 17 ["self","s","outside"] λH Q E z m h=> ?_;let(a,n,s,r,rfl,e,(J,U,x),p,o,k):=h;show#[_, #v["aw2cZ0yd01roHoDcZ1x1QZ2d0x2d0",z,m,eI,ij,eG Zs m ()],6];rcases e with e|⟨d,h,A,f,u,y⟩
 .let(C,c,g):=zL.shown e;let(G,O,v,_):=g.ex;show absurd (yJ x v) (neO C c)
 .let s2:=BD p o;show#[7,a,(435),d,17,f,(hC 435).toCls,(nA 17),Iz _ _ _ _,7,2^n-1,s,26];show#[7,(s:Int),299,λB b=> ?_];rw[RA];let j:=zL.same b u;let(C,c,g):=zL.shown j;let(i,fs,l,fr,M,N):=g.ex;show#[7,a,(435),d,17,b.at f,(hC 435).toCls,(nA 16),E2 _ _ _ _,h,C,i,fs,2,l,c,fr,7,h,n,aB (2^n-1) s,A,2,j,#[i,fs,l],p,gq,λt q=> ?_];show#[87,a,(435),d,17,q.at (b.at f),(hC 435).toCls,(nA 18),O4 _ _ _ _,86];have:=k t (b.trans q);rwa[y s o]at this
theorem mD:∀C,(X5 cc).dom C->cJ P w K mg base 5 C "rank" ["self","s"] (gh (X5 cc) C):=Qi (c:=cc) ∅ mL (cM 17 vE) (cM 4 yC) (cM 9 Al) (cM 11 rE) (cM 15 vG) (cM 13 yB)
theorem nE:kf P w K mg base 2 "Even" cc.E ["self","n","k"] (Dj cc.E):=nw 3 1 qt
theorem nNt:kf P w K mg base 2 "Net" cc.N ["self","n","points","ties"] (Dg K cc.N):=nw 7 2 rF
theorem nT:kf P w K mg base 2 "Tabled" cc.T ["self","n","prime","rows"] (zC K cc.T):=nw 10 3 mr
theorem nO:kf P w K mg base 5 "Other" cc.O ["self","house"] (zF (X0 cc.L) cc.O):=nw 16 5 oU
theorem nM:kf P w K mg base 5 "Minor" cc.M ["self","house","out","drawn"] (zG (X0 cc.L) cc.M):=nw 14 6 oV
theorem nS:kf P w K mg base 3 "Side" cc.S ["self","one","other"] (zE (X0 cc.L) cc.S):=nw 12 7 qp
theorem nL:kf P w K mg base 2 "Listed" cc.L ["self","n","some"] (Dh K cc.L):=nw 5 4 nR
theorem IH:Ca 6 "ranks" ["house"] (zA (X5 cc)):=by
 show cl 37 ["house"] λH Q E O m h=> ?_;let(a,n,r,rfl,o,t,k):=h;show#[_, #v["rXZ0Z1Z2hcZ3xMZ40v0uQZ51x0",O,m,["s"],["house"],[0],iU,dD Zi m ∅,eG mD m ∅],6];let p8:=oN t;let aj:0<2^n:=Su ();let(C,g,M):=zD.shown o;let(d,fs,f,fr,y,z):=M.ex;let(cl,nM,ty,ai):=YD C g;show#[7,a,_,d,fs,2,f,g,y,a,_,d,fs,(n:Int),2,f,cl,nM,z,996];rw[cu];show#[799,λp H1 c af j=>#[p,2,#[_,vr.of j],6]];rw[RA,gu n ()]at j;show aG (λx=>(λ_=>true) (aN x)) (λx=> .int ((λzD:Int=>((r zD.toNat:Nat):Int)) (aN x))) (vr.of j) (by rw[My,My,RW];show RB p8 ∅) (λi x vs H' R S hx N b G=> ?_) λD H' B b hl=> ?_
 .let(v,rfl):=aA N;let(zD,rfl,hz):=aD hx;let(s,J,rfl):=RM.mp (RG hz);let L:=R1.mp J;simp only[aH,bw,RF];let A:=zD.same b (zD.same c o);show#[7,a,_,d,fs,2,b.at (c.at f),g,fr,7,a,n,s,r,2,A,#[d,fs,b.at (c.at f)],t,L,λu U=> ?_];let q:=G [some (.int (s:Int))] u rfl U;rwa[RF rfl]at q
 replace hl:=hl.trans (Se (λl=>some (HO.lst l)) (aV (λ_=>true) (λzD:Int=>((r zD.toNat:Nat):Int)) ((range (2^n)).map λk:Nat=>(k:Int))));let e:aeg (λzD:Int=>((r zD.toNat:Nat):Int)) (aeg (λk:Nat=>(k:Int)) (range (2^n)))=aI n r:=by unfold aI;rw[RP];rfl
 rw[Sd.mpr (λ_ _=>rfl),e]at hl;show k D H' (c.trans b) (c.free B) hl
theorem rM:YV P w K mg base 6 "ranks" ["house"] (zB (X5 cc)):=YV.imp IH BJ
theorem vo:Ca 6 "whole_rank" ["house"] (GS (X5 cc)):=by show cl 38 ["house"] λH Q E i d h=> ?_;let(a,n,ms,rfl,L,k):=h;show#[_, #v["rQZ00xMZ10",i,d,eG mD d ∅,dD Zi d ∅],6];let(C,e,b,fs,c,fr,f,g,cl,nM):=L.sees zD YD;show#[7,a,C,b,fs,2,c,e,fr,7,a,C,b,fs,2,c,e,f,a,C,b,fs,n,2,c,cl,nM,g,9,by have:=L.n8;lia,6];rw[cu];let l:=gO L.n8;let m:0<2^n:=Su ();show#[a,n,2^n-1,ag ms,2,L.ho,#[b,fs,c],L.n8,9,λH' j=> ?_];show k H' j
theorem Ah:Ca 6 "frees" ["house"] (Ht (X5 cc)):=by
 show cl 39 ["house"] λH Q E nd f h=> ?_;let(a,n,ms,rfl,L,k):=h;show#[_, #v["rXZ0Z1Z2hcZ3xMZ40v0MZ5pAQZ61x0cZ7x00",nd,f,["s"],["house"],[0],iU,dD Zi f ∅,bZ,eG mD f ∅,ij],6];let(C,B,m,fs,t,fr,J,M,cl,nM):=L.sees zD YD;let hp:=gO L.n8;show#[7,a,C,m,fs,2,t,B,J,a,C,m,fs,n,2,t,cl,nM,M,9,by have:=L.n8;lia,6];rw[cu];show#[799,λp H1 j a7 d=>#[p,2,#[_,vr.of d],6]];rw[RA,gu n (by have:=L.n8;lia)]at d;show aG (λx=>(λz:Int=>j9 ms z.toNat) (aN x)) (λx=> .int ((λz:Int=>z) (aN x))) (vr.of d) (by rw[My,My,RW];show RB hp ∅) (λi x vs H' R S hx hv g U=> ?_) λD H' O g hl=> ?_
 .let(v,rfl):=aA hv;let(z,rfl,hz):=aD hx;let(s,hs,rfl):=RM.mp (RG hz);let ai:=R1.mp hs;let L2:=(L.same zD j).same zD g;let(A,G,o,r,u,N,a4,a5,a3,bk):=L2.sees zD YD;show#[7,a,A,o,r,2,u,G,N,7,a,n,s,ag ms,2,L2.ho,#[o,r,u],L.n8,ai,λH2 ax=> ?_];show#[7799,λc ay=>#[276]];let q:=U [some (.int (s:Int))] c rfl (ax.trans ay);rw[RA,cB];let b:if j9 ms s=true then R (.int (s:Int)) _ c else S _ c:=q;unfold j9 at b;change if decide (ag ms s=sz s)=true then _ else _;by_cases y:decide (ag ms s=sz s)=true
  .rw[RF y]at b⊢;show#[7,b]
  .rw[RQ y]at b⊢;show b
 replace hl:=hl.trans (Se (λl=>some (HO.lst l)) (aV (λz:Int=>j9 ms z.toNat) (λz:Int=>z) ((range (2^n)).map λk:Nat=>(k:Int))));rw[show(λz:Int=>z)=id from rfl,T6]at hl;show k D H' (j.trans g) (j.free O) (hl.trans ?_);let e:=cx (range (2^n)) (λz:Int=>j9 ms z.toNat);show Se (λl:List Int=>some (HO.lst (l.map int))) e
theorem uk:Ca 7 "bases" ["house"] (Hw (X5 cc)):=by
 show cl 40 ["house","whole"] λH Q E A t h=> ?_;let(a,n,ms,rfl,L,k):=h;show#[_, #v["aw1cZ0x0rXZ1Z2Z3hcZ4x0v0MZ5pAcZ6x010",A,t,vo,["s"],["whole"],[1],Ah,bZ,ij],6];let r:=gO L.n8;show#[7,a,n,ms,2,L,λG d=> ?_];show#[7,a,n,ms,2,L.same zD d,λp J j M f=>#[p,2,#[_,vr.of f],6]];show aG (λx=>(λz:Int=>decide (sz z.toNat=ag ms (2^n-1))) (aN x)) (λx=> .int ((λz:Int=>z) (aN x))) (vr.of f) ?_ (λi x vs H' R S hx y g o=> ?_) λD H' m g hl=> ?_
 .rw[My];unfold au;rw[My];show RB (SA _ _) (by rw[RW];show RB r ∅)
 .let(v,rfl):=aA y;let(z,rfl,hz):=aD hx;let(s,u,rfl):=c9 (RG hz);let N:=R1.mp (Sn.mp u).1;show#[7799,λc B=>#[7276]];let q:=o [some (.int (s:Int))] c rfl B;rw[RA,cB];let b:if decide (sz s=ag ms (2^n-1))=true then R (.int (s:Int)) _ c else S _ c:=q;change if decide (sz s=ag ms (2^n-1))=true then _ else _;by_cases e:decide (sz s=ag ms (2^n-1))=true
  .rw[RF e]at b⊢;show#[7,b]
  .rw[RQ e]at b⊢;show b
 replace hl:=hl.trans (Se (λl=>some (HO.lst l)) (aV (λz:Int=>decide (sz z.toNat=ag ms (2^n-1))) (λz:Int=>z) (au ((range (2^n)).filter (j9 ms)))));rw[show(λz:Int=>z)=id from rfl,T6,cx,List.filter_filter]at hl;show k D H' (d.trans (j.trans g)) (d.free (j.free m)) (hl.trans ?_);show Se (λl:List Nat=>some (HO.lst ((au l).map int))) (Ut λs _=> ?_);unfold lG j9;rw[RA,Bool.and_comm]
theorem B4:Ca 3 "is_ring" ["free","s"] (Hn K):=by
 show cl 41 ["free","s"] λH Q E G y h=> ?_;let(a,ms,n,s,rfl,f,u,A,k):=h;show#[_, #v["afMZ0l01rbjrMZ1xXZ2Z3Z4hcZ5x1v0ul1cZ6y2oGi0",G,y,cI,bj (oh (K:=K) ⋯ ⋯) ⋯ N1.all_ VJ,["thing"],["free","s"],[0,1],bH,eI],6];let p8:=gO u;let o:=A5 (g:=iW ms) A;show#[77,a,3,f,o,7,bM (λb=> ?_) λb=> ?_]
 .have:=k H (vc.refl _);unfold eB at this;rwa[b]at this
 show#[7799,λp J m U c=>#[p,2,#[_,vr.of c],6]];rw[RA]at c;show aG (λx=>(λ_=>true) (aN x)) (λx=>V.bl ((λz:Int=>iW ms (aB s (2^z.toNat))) (aN x))) (vr.of c) (by rw[My];show RB (bq _) ∅) (λi x vs H' R S hx B d t=> ?_) λD H' L d hl=> ?_
 .let(v,rfl):=aA B;let(z,rfl,hz):=aD hx;let(j,M,O,rfl):=aM.mp (RG hz);let q:=t [some (.int (j:Int))] H' rfl (vc.refl _);rw[RF rfl]at q;simp only[aH,bw,RF];let l1:=eM s (2^j);let r:=A5 (g:=iW ms) (N:=2^n) (s:=aB s (2^j)) ();show#[7778,#[994],s,2^j,6,a,3,(m.trans d).seq f,r,6]
  ·(try dsimp only);rw[gi];rfl
  .show q
 replace hl:=hl.trans (Se (λl=>some (HO.lst l)) (qS (λz:Int=>iW ms (aB s (2^z.toNat))) (yn s)));show#[D,7,vr.of hl,6];let e:(((yn s).map λz:Int=>iW ms (aB s (2^z.toNat))).all id)=eB ms s:=by unfold eB;rw[Us.mpr b,adm];rfl
 rw[e];show k H' (m.trans d)
theorem IF:Ca 7 "rings" ["house"] (GZ (X5 cc)):=by
 show cl 42 ["house","free"] λH Q E nd O h=> ?_;let(a,n,ms,rfl,L,k):=h;show#[_, #v["aw1XZ0Z1Z1MZ2xcZ3x0MZ4QZ5v0Z6uPA1cZ7x0rXZ8Z9ZO0hcZO1xMZO20v0MZO3MZO4cZO5y100",nd,O,["s","rank"],[],tQ (K:=K) ⋯ ⋯ N1.enumerate_,rM,jI (K:=K) (n:=2) ⋯ ⋯,bR,(bR (Zp 1) ie),ij,["s"],["free"],[1],iU,dD Zi O ∅,bZ,cI,B4],6];let p8:=gO L.n8;show#[7,a,n,ms,2,L,λp H1 y bt M=>#[p,2,#[_,M],6]];show AI (λ_ _=>true) (λi x=>V.bl (decide (aN x=((sz i:Nat):Int)))) (vr.of M) (by rw[My,My,RW];show RB p8 ∅) (λi x t vs H' R S hx r f ht m=> ?_) λpf H2 bx A N=> ?_
 .let(u,v,rfl):=sv r;let(z,rfl,hz):=aD hx;let bo:i<2^n:=by have:=(RX.mp hz).1;rwa[My,RW]at this
  simp only[bw,RF];show#[t,7,GB.of ht,21786];show#[77799,λB c=>#[26]];let q:=m [some (.int (i:Nat)),some (.int z)] B rfl c;rw[RF rfl]at q;rw[RA];let e:decide (int z=int (((yn i).length:Nat):Int))=decide (aN (int z)=((sz i:Nat):Int)):=by
   by_cases b:z=((sz i:Nat):Int)
   .let h1:int z=int (((yn i).length:Nat):Int):=by rw[b]
    let j:aN (int z)=((sz i:Nat):Int):=b;rw[RE h1,RE j]
   .let j:¬aN (int z)=((sz i:Nat):Int):=b;rw[RL j,RL λw=>b (V.int.inj w)]
  rw[e];show q
 let eF:cZ (λ_ _=>true) (λi x=>V.bl (decide (aN x=((sz i:Nat):Int)))) 0 (((range (2^n)).map λs=>((ag ms s:Nat):Int)).map int)=((range (2^n)).map (iW ms)).map V.bl:=by
  rw[RP,U3,qT,RP];show SI λs _=> ?_;change V.bl (decide (((ag ms s:Nat):Int)=((sz s:Nat):Int)))=V.bl (iW ms s);unfold iW;by_cases h:ag ms s=sz s
  .rw[RE h,RE (by rw[h])]
  .rw[RL h,RL ()]
 rw[eF]at N;let U:=(L.same zD y).same zD A;let(C,dm,G,fs,J,fr,fe,fm,cl,nM):=U.sees zD YD;show#[7,a,C,G,fs,2,J,dm,fe,a,C,G,fs,n,2,J,cl,nM,fm,9,by have:=L.n8;lia,6];rw[cu];show#[799,λp3 B c bu o=>#[p3,2,#[_,vr.of o],6]];rw[RA,gu n (by have:=L.n8;lia)]at o;show aG (λx=>(λz:Int=>eB ms z.toNat) (aN x)) (λx=> .int ((λz:Int=>z) (aN x))) (vr.of o) (by rw[My,My,RW];show RB p8 ∅) (λi x vs H' R S hx r f m=> ?_) λD H' hD f hl=> ?_
 .let(v,rfl):=aA r;let(z,rfl,hz):=aD hx;let(s,hs,rfl):=RM.mp (RG hz);let az:=R1.mp hs;show#[77,pf,ms,n,s,2,vr.of (f.at (c.at N)),L.n8,az,λg a5=>#[76]];let q:=m [some (.int (s:Int))] g rfl a5;let d:if eB ms s=true then R (.int (s:Int)) _ g else S _ g:=q;change if eB ms s=true then _ else _;by_cases b:eB ms s=true
  .rw[RF b]at d⊢;show#[7,d]
  .rw[RQ b]at d⊢;show d
 replace hl:=hl.trans (Se (λl=>some (HO.lst l)) (aV (λz:Int=>eB ms z.toNat) (λz:Int=>z) ((range (2^n)).map λk:Nat=>(k:Int))));rw[show(λz:Int=>z)=id from rfl,T6]at hl;show k D H' (y.trans (A.trans (c.trans f))) (y.free (A.free (c.free hD))) (hl.trans ?_);let e:=cx (range (2^n)) (λz:Int=>eB ms z.toNat);show Se (λl:List Int=>some (HO.lst (l.map int))) e
theorem B6:Ca 3 "is_flat" ["told","outside","s"] (Hq K):=by
 show cl 43 ["told","outside","s"] λH Q E J A h=> ?_;let(a,ms,n,s,rfl,t,y,g,k):=h;show#[_, #v["rMZ0xXZ1Z2Z3hcZ4x1v0uPAl1oK2oGi0oDl12i",J,A,bj (oh (K:=K) ⋯ ⋯) ⋯ N1.all_ VJ,["thing"],["told","s"],[0,2],bH],6];let p8:=gO y;let ab:0<2^n:=Su ();let U:=eM (2^n-1) s;show#[7799,λp L m O b=>#[p,2,#[_,vr.of b],6]];rw[RA]at b;show aG (λx=>(λ_=>true) (aN x)) (λx=>V.bl ((λz:Int=>decide (ag ms (s|||2^z.toNat)=ag ms s+1)) (aN x))) (vr.of b) (by rw[My];show RB (bq _) ∅) (λi x vs H' R S hx B c u=> ?_) λD H' M c hl=> ?_
 .let(v,rfl):=aA B;let(z,rfl,hz):=aD hx;let(j,N,f,rfl):=aM.mp (RG hz);rw[ig,RZ,Ss]at f;let q:=u [some (.int (j:Int))] H' rfl (vc.refl _);rw[RF rfl]at q;simp only[aH,bw,RF];let G:s|||2^j<2^n:=SQ g (T8 () f.1);let d:=(m.trans c).seq t;let r:aao (s:Int) (1*2^((j:Nat):Int).toNat)=((s|||2^j:Nat):Int):=by rw[gi,bO]
  let o:F1 ((xX ms n).map int) (aao (s:Int) (1*2^((j:Nat):Int).toNat))=some (.int ((ag ms (s|||2^j):Nat):Int)):=by rw[r];show wj G
  show#[7778,#[994],8,a,3,d,o,77,a,3,d,wj g,826];let e:decide (int ((ag ms (s|||2^j):Nat):Int)=int (((ag ms s:Nat):Int)+1))=decide (ag ms (s|||2^((j:Nat):Int).toNat)=ag ms s+1):=by rw[RA];show cB _ (ag ms s+1)
  change R (.bl (decide (int ((ag ms (s|||2^j):Nat):Int)=int (((ag ms s:Nat):Int)+1)))) _ H';rw[e];show q
 replace hl:=hl.trans (Se (λl=>some (HO.lst l)) (qS (λz:Int=>decide (ag ms (s|||2^z.toNat)=ag ms s+1)) (yn (aB (2^n-1) s))));show#[D,7,vr.of hl,6];let e:(((yn (aB (2^n-1) s)).map λz:Int=>decide (ag ms (s|||2^z.toNat)=ag ms s+1)).all id)=eR ms n s:=by unfold eR X3;rw[adm];rfl
 rw[e];show k H' (m.trans c)
theorem II:Ca 7 "flats" ["house"] (Hu (X5 cc)):=by
 show cl 44 ["house","everything","told"] λH Q E U r h=> ?_;let(a,n,ms,rfl,L,k):=h;show#[_, #v["aw1MZ00aw2cZ1x0rXZ2Z3Z4hcZ5x1v0MZ6MZ7cZ8q1qcZ9y20q0z0",U,r,dD Zi r ∅,rM,["s"],["told","everything"],[2,1],iU,bZ,cI,B6,eI],6];let p8:=gO L.n8;let ax:0<2^n:=Su ();let(C,u,j,fs,m,fr,y,A,cl,nM):=L.sees zD YD;show#[7,a,C,j,fs,2,m,u,y,a,C,j,fs,n,2,m,cl,nM,A,9,by have:=L.n8;lia,6];rw[cu];show#[7,a,n,ms,2,L,λp H1 t aj J=> ?_];show#[7799,λp3 H3 g ar d=>#[p3,2,#[_,vr.of d],6]];rw[RA,gu n (by have:=L.n8;lia)]at d;show aG (λx=>(λz:Int=>eR ms n z.toNat) (aN x)) (λx=> .int ((λz:Int=>z) (aN x))) (vr.of d) (by rw[My,My,RW];show RB p8 ∅) (λi x vs H' R S hx O f G=> ?_) λD H' B f hl=> ?_
 .let(v,rfl):=aA O;let(z,rfl,hz):=aD hx;let(s,M,rfl):=RM.mp (RG hz);let N:=R1.mp M;show#[777,2^n-1,s,27,p,ms,n,s,2,vr.of (f.at (g.at J)),L.n8,N,λc ab=>#[76]];let q:=G [some (.int (s:Int))] c rfl ab;let b:if eR ms n s=true then R (.int (s:Int)) _ c else S _ c:=q;change if eR ms n s=true then _ else _;by_cases o:eR ms n s=true
  .rw[RF o]at b⊢;show#[7,b]
  .rw[RQ o]at b⊢;show b
 replace hl:=hl.trans (Se (λl=>some (HO.lst l)) (aV (λz:Int=>eR ms n z.toNat) (λz:Int=>z) ((range (2^n)).map λk:Nat=>(k:Int))));rw[show(λz:Int=>z)=id from rfl,T6]at hl;show k D H' (t.trans (g.trans f)) (t.free (g.free B)) (hl.trans ?_);let e:=cx (range (2^n)) (λz:Int=>eR ms n z.toNat);show Se (λl:List Int=>some (HO.lst (l.map int))) e
theorem E6:Ca 6 "closed" ["house","s"] (Ew (X5 cc)):=by
 show cl 45 ["house","s","rank","found","thing"] λH Q E nd l h=> ?_;let(a,n,s,ms,rfl,L,M,k):=h;show#[_, #v["aw2QZ00x1aw31aFhcZ1xcZ2yMZ301m4efpAQZ00xoK1oGi42ew3oK3oGi4jr3",nd,l,eG mD l ∅,bH,eI,dD Zi l ∅],6];let p8:=gO L.n8;let cf:0<2^n:=Su ();let(C,dm,m,fs,A,fr,fe,fm,cl,nM):=L.sees zD YD;show#[7,a,C,m,fs,2,A,dm,fr,7,a,n,s,ag ms,2,L.ho,#[m,fs,A],L.n8,M,λH1 N=> ?_];let L1:=L.same zD N;let(C1,ar,o,u,B,b4,a0,a3,ai,bo):=L1.sees zD YD;show#[76];show#[7,a,C1,o,u,2,B,ar,a0,a,C1,o,u,n,2,B,ai,bo,a3,9,by have:=L.n8;lia,6];rw[cu];let l1:=eM (2^n-1) s;show#[7,2^n-1,s,2799,λp H2 O b6 g=>#[p,2,#[_,vr.of g],6]];rw[RA]at g;show aP (K:=K) (a:=p) (xs:=(X3 n s).map int) (λi e b=>vc H2 b/\∃v,e=[XS a,XZ s,some (.int ((ag ms s:Nat):Int)),some (.int ((((X3 n s).take i).foldl (λf z=>if ag ms (s|||2^z.toNat)=ag ms s then f|||2^z.toNat else f) s:Nat):Int)),v])
  #[vc.refl _,none,2] (λi e b _ q=>vr.of (q.1.at g)) ?_ ?_
 .rintro i y e b hi ⟨c,v,rfl⟩;let(z,rfl,hz):=aD hi;let a7:z∈yn (aB (2^n-1) s):=RG hz;let(j,b5,J,rfl):=aM.mp a7;rw[ig,RZ,Ss]at J;let lo:s|||2^j<2^n:=SQ M (T8 () J.1);let L3:=(L1.same zD O).same zD c;let(C3,ax,r,x,G,a4,b1,b3,bN,b8):=L3.sees zD YD;let es:((X3 n s).take (i+1)).foldl (λf z=>if ag ms (s|||2^z.toNat)=ag ms s then f|||2^z.toNat else f) s=if ag ms (s|||2^j)=ag ms s then((X3 n s).take i).foldl (λf z=>if ag ms (s|||2^z.toNat)=ag ms s then f|||2^z.toNat else f) s|||2^j else((X3 n s).take i).foldl (λf z=>if ag ms (s|||2^z.toNat)=ag ms s then f|||2^z.toNat else f) s:=by rw[SY,hz,S0];rfl
  generalize ((X3 n s).take i).foldl (λf z=>if ag ms (s|||2^z.toNat)=ag ms s then f|||2^z.toNat else f) s=t at*;let eo:aao (s:Int) (1*2^((j:Nat):Int).toNat)=((s|||2^j:Nat):Int):=by rw[gi,bO]
  show#[7,a,C3,r,x,2,G,ax,a4,778,#[994],8,a,n,s|||2^j,ag ms,6,L3.ho,⟨r,x,G⟩,L.n8,lo,λH5 U=> ?_]
  ·(try dsimp only);rw[eo]
  show#[7276];rw[cB];change if decide (ag ms (s|||2^j)=ag ms s)=true then _ else _;by_cases d:ag ms (s|||2^j)=ag ms s
  .rw[RF d]at es;rw[RF (RE d)];show#[778,#[994],8,c.trans U,some (.int (j:Int)),6];let ef:aao (t:Int) (1*2^((j:Nat):Int).toNat)=((t|||2^j:Nat):Int):=by rw[gi,bO]
   rw[es,<-ef];rfl
  .rw[RQ d]at es;rw[RQ #[5,d]];show#[c.trans U,some (.int (j:Int)),6];rw[es];rfl
 .rintro e b ⟨c,v,rfl⟩;rw[My,SM];show#[7,k b (N.trans (O.trans c))]
theorem wH:Ca 2 "marked" ["sets"] (Hi K):=by
 show cl 46 ["sets"] λH Q E U N h=> ?_;let(a,bs,rfl,n,L,k):=h;show#[_, #v["rMZ0xXZ1Z2Z2h0v0uSy0b",U,N,bz (A4 ⋯) ⋯ N1.dict_ aez,["s"],[]],6];show#[7,a,2,#[_,n],6];show gT (λx y G=>∃t,y= .ref t/\G t=some (.tup [x, .bl true])) (λx y G G' e h=>by let(t,i,g1):=h;show#[t,i,e.at g1]) n (by rw[My,aO];show RB L ∅) (λj x vs D H' R S aj O sm A J=> ?_) λq m g hq z M hl B=> ?_
 .let(v,rfl):=aA O;let(l,hl):=A;simp only[aH,bw,RF];show#[7,bP,λpt u=>J (.ref pt) [some x] _ #[pt,26] rfl (vc.new u)];rw[cy (ah hl u).symm];show aa
 let s:g.length=bs.length:=by rw[hl,My,aO]
 show#[q,g,bs.map λb:Nat=>((aaw (b:Int):Dn),V.bl true),2,M,by rw[My,s],by rw[My];lia,λj p c=> ?_,λd o=> ?_]
 .rw[RU]at c;cases f:bs[j]? with
  |none=>rw[f]at c;cases c
  |some b=>
   rw[f]at c;cases c;let r:j<g.length:=by rw[s];show(RX.mp f).1
   let(t,i,g1):=B j (.int (b:Int)) g[j] (by unfold au;rw[RU,RU,f];rfl) (RR r);show#[t,by rw[RR r,i],de.at g1]
 .let ab:vc m (upd m d (.dK (nJ [] (bs.map λb:Nat=>((aaw (b:Int):Dn),V.bl true))))):=vc.new o;show k d _ (z.trans ab) (z.free o) #[_,aa,λj=>by rw[qO];rfl]
theorem ro:Ca 3 "has_exchange" ["listed","one","other","thing"] K6:=by
 show cl 47 ["listed","one","other","thing","y"] λH Q E nd v h=> ?_;let(p,bs,b,c,t,rfl,O,b8,r,t8,(j,A,U,ab),k):=h;show#[_, #v["aFhcZ0xcZ1y21m4efMZ2RZ3Z4cZ5q1q3q4z0rbjrb",nd,v,bH,eI,xZ,O1,(RD (SE ∅ _) v.units),yu],6];let l8:aB c b<256:=RD (eM c b) r;show#[77,c,b,2799,λq G B hq m=>#[q,2,#[_,vr.of m],6]];rw[RA]at m;let af:j<8:=aS (n:=8) r A;let N:(j:Int)∈yn (aB c b):=aM.mpr #[j,af,by rw[gQ,A,U];rfl,2];let(i0,u):=SO N;show aP (K:=K) (a:=q) (xs:=(yn (aB c b)).map int) (λi l d=>vc G d/\i<=i0/\∃o,l=[XS p,XZ b,XZ c,XZ t,o]) #[vc.refl _,Sw _,none,2] (λi l d _ q=>vr.of (q.1.at m)) ?_ ?_
 .rintro i x l d L ⟨g,f,o,rfl⟩;let(z,rfl,hz):=aD L;let(y,y8,a0,rfl):=aM.mp (RG hz);let(kvs,J,M):=(O.same B).same g;show#[777,b,t,y,2,t8,y8,7,p,7,j2.k (k:=aaw ((JW b t y:Nat):Int)) J,76];rw[M];show bM (λs=> ?_) λs=> ?_
  .show k d (B.trans g)
  .show#[g,67];show Wa f λe=> ?_;subst e;rw[u]at hz;have:j=y:=by have:=Sm hz;lia
   subst this;show s (RE ab)
 .rintro l d ⟨g,f,o,rfl⟩;show absurd (RX.mp u).1 (WH (by rwa[My]at f))
theorem rA:Ca 4 "broken_bases" ["n","bases"] (Ez K):=by
 show cl 48 ["n","bases","listed","one","other","thing"] λH Q E nd hr h=> ?_;let(a,n,bs,rfl,A,a3,az,O,ar,k):=h;show#[_, #v["afpAk1irSqiqiqMZ0izjaw2cZ1x1aFh1m3eFh1m4eFhcZ2xcZ3y34m5efMZ4MZ5cZ6q2q3q4q5zrSq3q4q5zjrn",nd,hr,tS nc,wH,bH,eI,k9,cI,ro],6];show#[7,a,7, .inl A,276];rw[My,aO,RL (λe=>a3 (List.eq_nil_of_length_eq_zero (by have:=V.int.inj e;lia)))];show aX ?_;show#[7,a,bs,2,A,az,λp L U hp hm=> ?_];let o:=U.seq A;show#[7,a,2,#[_,o],6];show aP (K:=K) (a:=a) (xs:=(au bs).map int) (λi d m=>vc L m/\∃J g f,d=[some n,some (.ref a),some (.ref p),J,g,f]) #[vc.refl _,none,none,none,2] (λi d m _ q=>q.1.seq o) ?_ ?_
 .rintro i x d m hi ⟨r,J,g,f,rfl⟩;let(z,rfl,hz):=aD hi;let(b,hb,rfl):=cF hz;let bm:=RG hb;show#[7,a,2,#[_,r.seq o],6];show aP (K:=K) (a:=a) (xs:=(au bs).map int) (λi d v=>vc L v/\∃g f,d=[some n,some (.ref a),some (.ref p),some (.int (b:Int)),g,f]) #[r,g,f,2] (λi d m _ q=>q.1.seq o) ?_ ?_
  .rintro j x d v hj ⟨s,g,f,rfl⟩;let(z,rfl,hz):=aD hj;let(c,hc,rfl):=cF hz;let N:=RG hc;let M:=O b bm;let c8:=O c N;let l8:aB b c<256:=RD (eM b c) M;show#[77,b,c,2799,λq H4 ab hq B=>#[q,2,#[_,vr.of B],6]];rw[RA]at B;show aP (K:=K) (a:=q) (xs:=(yn (aB b c)).map int) (λi d y=>vc H4 y/\∃f,d=[some n,some (.ref a),some (.ref p),some (.int (b:Int)),some (.int (c:Int)),f]) #[vc.refl _,f,2] (λi d m _ q=>vr.of (q.1.at B)) ?_ ?_
   .rintro l x d y hl ⟨u,f,rfl⟩;let(z,rfl,hz):=aD hl;let(t,t8,G,rfl):=aM.mp (RG hz);rw[gQ,RZ,SG]at G;show#[7777,p,bs,b,c,t,2,((hm.same s).same ab).same u,M,c8,t8,ar b bm c N t G.1 G.2,λH6 a7=>#[7,aX #[u.trans a7,7]]]
   .rintro d y ⟨u,f,rfl⟩;show#[s.trans (ab.trans u),17]
  .rintro d v ⟨s,g,f,rfl⟩;show#[s,117]
 .rintro d m ⟨r,J,g,f,rfl⟩;show k _ (U.trans r)
theorem mR:Ca 2 "holds_ring" ["rings","s"] (Hr K):=by
 show cl 49 ["rings","s","ring"] λH Q E r p h=> ?_;let(a,j,s,rfl,m,k):=h;show#[_, #v["aFh0m2efMZ0cZ1y21rbjrb",r,p,cI,iT],6];show#[7,a,2,#[_,m],6];show aP (K:=K) (a:=a) (xs:=(au j).map int) (λi f b=>H=b/\(j.take i).any (λc=>decide (c&&&s=c))=false/\∃l,f=[XS a,XZ s,l]) #[22,none,2] (λi f b _ q=>q.1▸m) ?_ ?_
 .rintro i y f b o ⟨rfl,d,l,rfl⟩;let(z,rfl,hz):=aD o;let(c,n,rfl):=cF hz;show#[77179976];rw[RA,RA];show bM (λg=> ?_) λg=> ?_
  .let e:j.any (λc=>decide (c&&&s=c))=true:=Tu.mpr #[c,RG n,g];rwa[e]at k
  .show#[267];rw[vQ n,List.any_append,d];show(decide (c&&&s=c)||false)=false;rw[S9];simpa using g
 .rintro f b ⟨rfl,d,l,rfl⟩;rw[My,aO,SM]at d;rwa[d]at k
theorem ri:Ca 2 "ring_in_ring" ["rings"] (Hc K):=by
 show cl 50 ["rings","one","other"] λH Q E A x h=> ?_;let(a,o,rfl,l,p,k):=h;show#[_, #v["aFh0m1eFh0m2efMZ0QZ1pZ212MZ3MZ4cZ5y12rSq1q2qMZ6izjrn",A,x,PW.pt,jH,uc,gm,cI,iT,tS nc],6];show#[7,a,2,#[_,l],6];show aP (K:=K) (a:=a) (xs:=(au o).map int) (λi f b=>H=b/\∃n g,f=[XS a,n,g]) #[2,none,none,2] (λi f b _ q=>q.1▸l) ?_ ?_
 .rintro i y f b t ⟨rfl,n,g,rfl⟩;let(z,rfl,hz):=aD t;let(c,r,rfl):=cF hz;show#[7,a,2,#[_,l],6];show aP (K:=K) (a:=a) (xs:=(au o).map int) (λj f b=>H=b/\∃g,f=[XS a,XZ c,g]) #[2,g,2] (λi f b _ q=>q.1▸l) ?_ ?_
  .rintro j y f b u ⟨rfl,g,rfl⟩;let(z,rfl,hz):=aD u;let(d,s,rfl):=cF hz;show#[77276];rw[cB];show bM (λm=> ?_) λm=> ?_
   .let v:c≠d:=λe=>by rw[e,RE rfl]at m;cases m
    show#[77179976];rw[RA,RA,RL (p c (RG r) d (RG s) v)];show aX #[27]
   .show aX #[27]
  .rintro f b ⟨rfl,g,rfl⟩;show#[217]
 .rintro f b ⟨rfl,n,g,rfl⟩;show k
theorem jM:Ca 3 "rings_without_third" ["rings"] (KR K):=by
 show cl 51 ["rings","one","other","thing"] λH Q E nd hr h=> ?_;let(a,r,rfl,n,L,a3,k):=h;show#[_, #v["aFh0m1eFh0m2efpZ012eFhcZ1xoJ12m3efMZ2MZ3cZ4y0cZ5yoK12oGi3rSq1q2q3zjjrn",nd,hr,ud,bH,k9,cI,mR,eI],6];show#[7,a,2,#[_,n],6];show aP (K:=K) (a:=a) (xs:=(au r).map int) (λi b g=>vc H g/\∃A m f,b=[XS a,A,m,f]) #[vc.refl _,none,none,none,2] (λi b g _ q=>q.1.seq n) ?_ ?_
 .rintro i y b H1 hi ⟨N,A,m,f,rfl⟩;let(z,rfl,hz):=aD hi;let(c,hc,rfl):=cF hz;let G:=RG hc;show#[7,a,2,#[_,N.seq n],6];show aP (K:=K) (a:=a) (xs:=(au r).map int) (λj b g=>vc H g/\∃m f,b=[XS a,XZ c,m,f]) #[N,m,f,2] (λi b g _ q=>q.1.seq n) ?_ ?_
  .rintro j y b g hj ⟨o,m,f,rfl⟩;let(z,rfl,hz):=aD hj;let(d,hd,rfl):=cF hz;let J:=RG hd;show#[77876];show bM (λM=> ?_) λM=> ?_
   .let az:c≠d:=λe=>by have:=RV M;lia
    let c8:=L c G;let d8:=L d J;let a7:c&&&d<256:=RD VN c8;show#[778,((c&&&d:Nat):Int),by rw[<-bX];rfl,99,λp U O hp u=>#[p,2,#[_,vr.of u],6]];rw[RA]at u;show aP (K:=K) (a:=p) (xs:=(yn (c&&&d)).map int) (λl b g=>vc U g/\∃f,b=[XS a,XZ c,XZ d,f]) #[vc.refl _,f,2] (λl b g _ q=>vr.of (q.1.at u)) ?_ ?_
    .rintro l y b H4 hl ⟨s,f,rfl⟩;let(z,rfl,hz):=aD hl;let(t,t8,v,rfl):=aM.mp (RG hz);rw[Sr,RZ]at v;let x:=o.trans (O.trans s);show#[777878,#[994],c|||d,2^t,66]
     ·(try dsimp only);rw[gi,<-bO];rfl
     show#[a,r,7,x.seq n,76];let(e,em,ee):=a3 c G d J az t v.1 v.2;let ea:(r.any λB=>decide (B&&&aB (c|||d) (2^t)=B))=true:=Tu.mpr #[e,em,RE ee];rw[ea];show aX #[s,7]
    .rintro b H4 ⟨s,f,rfl⟩;show#[o.trans (O.trans s),17]
   .show#[o,17]
  .rintro b g ⟨o,m,f,rfl⟩;show#[o,117]
 .rintro b g ⟨x,A,m,f,rfl⟩;show k _ x
theorem rp:Ca 4 "broken_rings" ["n","rings"] (Ex K):=by
 show cl 52 ["n","rings","found"] λH Q E p l h=> ?_;let(a,n,b,rfl,c,i,f,g,o,k):=h;show#[_, #v["afZ0rSqiqiqMZ1izjaw2cZ2x1afpZ32new2cZ4x1jr2",p,l,(rV (nP (K:=K) ⋯) dy (pv 1) ⋯),tS nc,ri,qg,jM],6];show#[7,a,7, .inl c,2,lZ _,76];let d:YG (int 0) ((au b).map int)=false:=by
  rw[oY];show RL λj=>by
   let(s,m,e):=c9 j;have:s=0:=()
   show f (this▸m)
 change if(if false=true then !YG (int 0) ((au b).map int)else YG (int 0) ((au b).map int))=true then _ else _;rw[RQ RO,d];show aX ?_;show#[7,a,b,2,c,g,6];show#[7276];show bS ?_;show#[7,a,b,2,c,i,o,λH' q=>#[7,k H' q]]
theorem mQ:Ca 2 "least_flat" ["n","flats","s"] (Hm K):=by
 show cl 53 ["n","flats","s","least","flat"] λH Q E p o h=> ?_;let(a,n,s,fs,rfl,r,j,k):=h;show#[_, #v["aw3cZ0x0aFh1m4efMZ1cZ2y24ew3oJ34jr3",p,o,eZ,cI,iT],6];show#[7,(n:Int),2996];rw[cu];show#[7,a,2,#[_,j],6];show aP (K:=K) (a:=a) (xs:=(au fs).map int) (λi d b=>H=b/\∃g,d=[XZ n,XS a,XZ s,some (.int (nY n (fs.take i) s:Nat)),g]) #[2,none,2] (λi d b _ q=>q.1▸j) ?_ ?_
 .rintro i y d b m ⟨rfl,g,rfl⟩;let(z,rfl,hz):=aD m;let(c,l,rfl):=cF hz;show#[77179976];rw[RA,RA];let e:nY n (fs.take (i+1)) s=if s&&&c=s then nY n (fs.take i) s&&&c else nY n (fs.take i) s:=by rw[vQ l];unfold nY;rw[S0];rfl
  show bM (λf=> ?_) λf=> ?_
  .rw[RF (RV f)]at e;show#[778,#[2,some (.int (c:Int)),6]];rw[e,<-bX];rfl
  .rw[RQ λh=>f (RE h)]at e;show#[2,some (.int (c:Int)),6];rw[e];rfl
 .rintro d b ⟨rfl,g,rfl⟩;rw[My,aO,SM];show#[7,k]
theorem lg:Ca 3 "common_not_listed" ["flats"] (Eu K):=by
 show cl 54 ["flats","listed","one","other"] λH Q E O r h=> ?_;let(a,fs,rfl,o,L,y,k):=h;show#[_, #v["aw1cZ0x0aFh0m2eFh0m3efMZ1QZ2pZ323MZ4MZ5RZ6Z7oJ231rSq2q3qMZ8izjrn",O,r,wH,PW.pt,jH,ud,gm,xZ,qd,(RD (SE ∅ _) r.units),tS nc],6];show#[7,a,fs,2,o,L,λp n s U N=> ?_];let l:=s.seq o;show#[7,a,2,#[_,l],6];show aP (K:=K) (a:=a) (xs:=(au fs).map int) (λi e d=>n=d/\∃m f,e=[XS a,XS p,m,f]) #[2,none,none,2] (λi e d _ q=>q.1▸l) ?_ ?_
 .rintro i x e d B ⟨rfl,m,f,rfl⟩;let(z,rfl,hz):=aD B;let(b,u,rfl):=cF hz;let bm:=RG u;show#[7,a,2,#[_,l],6];show aP (K:=K) (a:=a) (xs:=(au fs).map int) (λi e d=>n=d/\∃f,e=[XS a,XS p,XZ b,f]) #[2,f,2] (λi e d _ q=>q.1▸l) ?_ ?_
  .rintro j x e d G ⟨rfl,f,rfl⟩;let(z,rfl,hz):=aD G;let(c,v,rfl):=cF hz;let t:=RG v;let(kvs,A,J):=N;show#[77876];show bM (λM=> ?_) λM=> ?_
   .show#[7787,p,dA kvs (aaw ((b&&&c:Nat):Int)),2676]
    .let g:=j2.k (k:=aaw ((b&&&c:Nat):Int)) A;(try dsimp only);rw[bX];show g
    rw[J,RE (y b bm c t)];show aX #[27]
   .show aX #[27]
  .rintro e d ⟨rfl,f,rfl⟩;show#[217]
 .rintro e d ⟨rfl,m,f,rfl⟩;show k _ s
theorem nQ:Ca 4 "flats_that_meet" ["n","flats"] (Oi K):=by
 show cl 55 ["n","flats","one","over","thing","other"] λH Q E nd L h=> ?_;let(a,n,fs,r,rfl,ha,M,a4,dt,k):=h;show#[_, #v["aFh1m2aw3Z0aFhcZ1xcZ2ycZ3x02m4eZ4eFhMZ5qMZ63zm5eFhcZ1xcZ2y52m4efpZ7Z85rSq2q5q4zjrn",nd,L,tW,bH,eI,eZ,(ya (RD (SE ∅ _) L.units) (pv 3) (pv 4) (Zh mQ L (fh (pv 0) (fh (pv 1) (fh (mJ NI (pv 2) (mJ IB dy (pv 4))) qe)))) ⋯),bj (CI ⋯) ⋯ N1.sorted_ WQ,Iq,uc,(yc (RD (SE ∅ _) L.units) (pv 3) (pv 4) (by intro _ _;rfl))],6];let n8:=M.n8;let p8:=gO n8;show#[7,a,2,#[_,ha],6];show aP (K:=K) (a:=a) (xs:=(au fs).map int) (λi d A=>vc H A/\∃v2 v3 f g,d=[XZ n,XS a,v2,v3,f,g]) #[vc.refl _,none,none,none,none,2] (λi d A _ q=>q.1.seq ha) ?_ ?_
 .rintro i x d A hi ⟨b2,v2,v3,f,g,rfl⟩;let(z,rfl,hz):=aD hi;let(b,hb,rfl):=cF hz;let hF:=(a4 b).mp (RG hb);intro p hp;let ct:H p=none:=b2.free hp;let dm:vc H (upd A p (.dK [])):=b2.trans (vc.new hp);let bk:upd A p (.dK []) p=some (.dK []):=aa;generalize upd A p (.dK [])=H3 at*;let lb:=eM (2^n-1) b;show#[7,(n:Int),2996];rw[cu];show#[7,2^n-1,b,2799,λq H4 b3 hq ar=>#[q,2,#[_,vr.of ar],6]];rw[RA]at ar;let dj:q≠p:=(ah bk hq).symm;show aP (K:=K) (a:=q) (xs:=(yn (aB (2^n-1) b)).map int) (λi d s=>vc H s/\s q=some (.lst ((yn (aB (2^n-1) b)).map int))/\∃(kvs:List (Dn×V)) (f g:Option V),Ks s p i (λz=>∃x,x<n/\b.testBit x=false/\z=((XR n r (b|||2^x):Nat):Int)) kvs/\
   (∀t:Nat,(t:Int)∈(yn (aB (2^n-1) b)).take i->dA kvs (aaw (t:Int))=some (.int (XR n r (b|||2^t):Nat)))/\d=[XZ n,XS a,XZ b,XS p,f,g])
   #[dm.trans b3,ar,[],f,g,#[b3.at bk,Sw _,λq hq=>nomatch hq],(λt ht=>nomatch ht),2] (λi d s _ q=>vr.of q.2.1) ?_ ?_
  .rintro l x d s hl ⟨O,bo,kvs,f,g,⟨hd,cS,c1⟩,N,rfl⟩;let(z,rfl,hz):=aD hl;let(t,t8,u,rfl):=aM.mp (RG hz);rw[cG,RZ,SG]at u;let tn:t<n:=RV u.1;let dc:=aJ hF.1 tn;let eo:aao (b:Int) (1*2^((t:Nat):Int).toNat)=((b|||2^t:Nat):Int):=by rw[gi,bO]
   let ll:l<8:=RK (RX.mp hz).1 (bq _);show#[77778,#[994],8,a,n,b|||2^t,fs,6,n8,O.seq ha,6]
   ·(try dsimp only);rw[eo];rfl
   rw[M.leastF_cl a4 dc];show#[77,p,upd s p (.dK (d6 kvs (aaw (t:Int)) (.int (XR n r (b|||2^t):Nat)))),2, .inl #[kvs,aaw (t:Int),hd,2,RD cS (Tp ll ∅),2],6];show#[λc o e=> ?_,611,g,#[aa,66],λt' bt=> ?_,2]
   .rw[ak (ah e ct)];show O.at e
   .rw[ak dj];show bo
   .have:=d4 kvs (aaw (t:Int):Dn) (.int (XR n r (b|||2^t):Nat));lia
   .show HY (Pv:=λv=>∃z:Int,v= .int z/\∃x,x<n/\b.testBit x=false/\z=((XR n r (b|||2^x):Nat):Int)) c1 #[7,t,tn,u.2,2]
   .rw[ot];by_cases e:t'=t
    .subst e;rw[RF rfl]
    .rw[RQ (λh=>e (by have:=Sum.inl.inj h;lia))];show N t' ?_;rw[SY,hz]at bt;rcases R9.mp bt with h|h
     .show h
     .have:=RY.mp h;show absurd () e
  .rintro d s ⟨O,bo,kvs,f,g,B,N,rfl⟩;rw[My,SM]at N;let(ns,cm,df,c3):=B.list;rw[My]at df;let b8:(yn (aB (2^n-1) b)).length<=8:=bq _;show#[7,p,kvs,2,B.1,λv hv=> ?_];show#[v,p,kvs,ns,2,aa,by rw[ak (ah B.1 hv)];show B.1,cm,9,λl ms hl c4 dw=> ?_];let b4:vc s (upd (upd s v (qH v p)) l (.lst (ms.map int))):=(vc.new hv).trans (vc.new hl);let a5:upd (upd s v (qH v p)) l (.lst (ms.map int)) l=some (.lst (ms.map int)):=aa;generalize upd (upd s v (qH v p)) l (.lst (ms.map int))=H6 at*;show#[l,2,#[_,vr.of a5],6];show aP (K:=K) (a:=l) (xs:=ms.map int) (λi d G=>vc H6 G/\∃f g,d=[XZ n,XS a,XZ b,XS p,f,g]) #[vc.refl _,f,g,2] (λi d G _ q=>vr.of (q.1.at a5)) ?_ ?_
   .rintro j x d G hj ⟨U,f,g,rfl⟩;let(z,rfl,hz):=aD hj;let(x,hx,bx,rfl):=c3 z (c4.mem_iff.mp (RG hz));let dF:=aJ hF.1 hx;let lc:=M.xt (b|||2^x);let ll:=eM (XR n r (b|||2^x)) b;show#[77,XR n r (b|||2^x),b,2799,λq8 H8 b5 dv ax=>#[q8,2,#[_,vr.of ax],6]];rw[RA]at ax;show aP (K:=K) (a:=q8) (xs:=(yn (aB (XR n r (b|||2^x)) b)).map int) (λi d J=>vc H8 J/\∃f,d=[XZ n,XS a,XZ b,XS p,f,some (.int (XR n r (b|||2^x):Nat))]) #[vc.refl _,f,2] (λi d J _ q=>vr.of (q.1.at ax)) ?_ ?_
    .rintro m y d J hm ⟨ab,f,rfl⟩;let(z,rfl,hz):=aD hm;let(t,t8,u,rfl):=aM.mp (RG hz);rw[gQ,RZ,SG]at u;let tn:=aS lc u.1;let ev:=N t (aM.mpr #[t,t8,by rw[cG,RE tn,u.2];rfl,2]);let cL:=(b4.trans (U.trans (b5.trans ab))).at B.1;rw[M.FN hF hx bx u.1 u.2]at ev;show#[77,p, .int (XR n r (b|||2^x):Nat),2, .inl #[kvs,aaw (t:Int), .inl cL,2,ev.symm],7276];rw[RE rfl];show aX #[ab,7]
    .rintro d J ⟨ab,f,rfl⟩;show#[U.trans (b5.trans ab),17]
   .rintro d G ⟨U,f,g,rfl⟩;show#[O.trans (b4.trans U),1117]
 .rintro d A ⟨sm,v2,v3,f,g,rfl⟩;show k _ sm
theorem rq:Ca 6 "broken_flats" ["n","flats"] (Ey K):=by
 show cl 56 ["n","flats","everything","found"] λH Q E p o h=> ?_;let(a,n,fs,r,rfl,c,M,b,d,k):=h;show#[_, #v["aw2cZ0x0afZ1rSq2q2qMZ2izjaw3cZ3x1afpZ43new3cZ5y01jr3",p,o,eZ,(rV (vn (K:=K) ⋯) (pv 2) (pv 1) ⋯),tS nc,lg,qg,nQ],6];let t:=M.n8;show#[7,(n:Int),2996];rw[cu];show#[77,a,7, .inl c,2,lZ _,76];let j:YG (int ((2^n-1:Nat):Int)) ((au fs).map int)=true:=by rw[oY];show RE (RM.mpr #[2^n-1,(b _).mpr M.FO,2])
 change if(if true=true then !YG (int ((2^n-1:Nat):Int)) ((au fs).map int)else YG (int ((2^n-1:Nat):Int)) ((au fs).map int))=true then _ else _;rw[RF rfl,j];show aX ?_;show#[7,a,fs,2,c,d,λf l g m=>(b _).mpr (M.JS ((b f).mp l) ((b g).mp m)),λs e=> ?_];show#[7276];show bS ?_;show#[77,a,n,fs,r,2,e.seq c,M,b,d,λi q=>#[7,k i (e.trans q)]]
theorem qi:Ca 1 "refuse" ["found"] He:=by show cl 57 ["found"] λH Q E b a h=> ?_;let(rfl,k):=h;show#[_, #v["efpZ00neZ1j",b,a,yf,oO],6];show#[727,aX k]
theorem ik:Ca 4 "house_of_frees" ["n","free"] (Er K cc.L):=by
 show cl 58 ["n","free","most"] λH Q E nd hr h=> ?_;let(a,n,fs,r,rfl,u,G,M,f,k):=h;show#[_, #v["aw2MZ0xXZ1Z2Z2h1v0ucZ3x0rMZ4y0XZ1Z5Z6h1v0MZ7pAcZ3x010",nd,hr,bj (uW (K:=K) ⋯ ⋯) ⋯ N1.max_ acd,["s"],[],ij,fY nL hr ∅ ⋯,["most"],[2],bZ],6];let((b0,y,b8),bo):=Fe M f;let p8:=gO M.n8;show#[7,a,2,#[_,u],6];show aG (λ_=>true) (λx=> .int ((λz:Int=>((sz z.toNat:Nat):Int)) (aN x))) u (by rw[My,aO];show RB G ∅) (λi x vs H' R S hx J sm A=> ?_) λq H1 hq N a4=> ?_
 .let(v,rfl):=aA J;let(z,rfl,hz):=aD hx;let(s,d,rfl):=c9 (RG hz);let bu:=((f s).mp d).1;simp only[aH,bw,RF];show#[7799,λc O=> ?_];let q:=A [some (.int (s:Int))] c rfl O;rwa[RF rfl]at q
 let a5:H1 q=some (.lst ((fs.map λs=>((sz s:Nat):Int)).map int)):=by rw[a4,aV (λ_=>true) (λz:Int=>((sz z.toNat:Nat):Int)) (au fs),Sd.mpr λ_ _=>rfl];show Se (λl:List Int=>some (HO.lst (l.map int))) (by rw[au,RP];rfl)
 show#[q,7,vr.of a5,6,λm hm bk=> ?_]
 .intro e;rw[UD]at e;rw[e]at y;cases y
 let em:m=((r (2^n-1):Nat):Int):=by let(s,d,rfl):=RM.mp hm;let h1:=bo s d;let h2:=bk _ (RM.mpr #[b0,y,2]);lia
 subst em;let ai:=N.seq u;show#[77,a,2,#[_,ai],6];show aG (λx=>(λz:Int=>decide (sz z.toNat=r (2^n-1))) (aN x)) (λx=> .int ((λz:Int=>z) (aN x))) ai (by rw[My,aO];show RB G ∅) (λi x vs H' R S hx J sm A=> ?_) λp U hp az g=> ?_
 .let(v,rfl):=aA J;let(z,rfl,hz):=aD hx;let(s,d,rfl):=c9 (RG hz);let bu:=((f s).mp d).1;show#[7799,λc O=>#[7276]];let q:=A [some (.int (s:Int))] c rfl O;rw[RA,cB];let t:if decide (sz s=r (2^n-1))=true then R (.int (s:Int)) _ c else S _ c:=q;change if decide (sz s=r (2^n-1))=true then _ else _;by_cases hc:decide (sz s=r (2^n-1))=true
  .rw[RF hc]at t⊢;show#[7,t]
  .rw[RQ hc]at t⊢;show t
 replace g:=g.trans (Se (λl=>some (HO.lst l)) (aV (λz:Int=>decide (sz z.toNat=r (2^n-1))) (λz:Int=>z) (au fs)));rw[show(λz:Int=>z)=id from rfl,T6,cx]at g;let B:U p=some (.lst ((au (fs.filter λs=>decide (sz s=r (2^n-1)))).map int)):=g;let b5:(au (fs.filter λs=>decide (sz s=r (2^n-1)))).length<=256:=by rw[aO];show RB (SA _ _) G
 show λph dh j ax cn=>#[ph,dh,p,17,aa,vr.of (by rw[ak (ah B j),ak (ah B ax)];show B),9,λtt HA cm b1 bt bx=>#[26]];let b3:vc U HA:=λb o e=>b1 b o (by rw[ak (ah e j),ak (ah e ax)];show e) (ah e j);show k ph HA ((N.trans az).trans b3) ((N.trans az).free j) #[_,#[dh,tt,bt,bx,9],vg f]
theorem B5:Ca 3 "is_free" ["over","s"] (Ho K):=by
 show cl 59 ["over","s"] λH Q E O J h=> ?_;let(a,n,s,r,rfl,y,f,M,k):=h;show#[_, #v["rMZ0MZ1xXZ2Z3Z4hcZ5x1v0ucZ6yl1cZ7y2oGi00",O,J,Im,bj (CN (K:=K) ⋯ ⋯) ⋯ N1.any_ aeA,["thing"],["over","s"],[0,1],bH,uj,eI],6];let p8:=gO M.n8;let n8:=M.n8;show#[7799,λp H1 o hp d=>#[p,2,#[_,vr.of d],6]];rw[RA]at d;let u:(yn s).length<=8:=bq s;show aG (λ_=>true) (λx=> .bl ((XR n r (s^^^2^(aN x).toNat)).testBit (aN x).toNat)) (vr.of d) (by rw[My];show RB u ∅) (λi x vs H' R S hx L U c=> ?_) λq g hq ab B=> ?_
 .let(v,rfl):=aA L;let(z,rfl,hz):=aD hx;let(t,t8,j,rfl):=aM.mp (RG hz);simp only[aH,bw,RF];let ti:((t:Int)).toNat=t:=RA t;let N:=M.fi f j;let q:=c [some (.int (t:Int))] H' rfl (vc.refl _);rw[RF rfl]at q;show#[7778,#[994],s,2^t,66]
  ·(try dsimp only);rw[gi];rfl
  rw[lB j];show#[a,3,(o.trans U).seq y,HV (XR n r) N,717996];rw[RA,RA];let m:R (.bl ((XR n r (s^^^2^((t:Int)).toNat)).testBit ((t:Int)).toNat)) [some (.int (t:Int)),_,_] H':=q;rwa[ti]at m
 let G:g q=some (.lst (((yn s).map λz=>(XR n r (s^^^2^z.toNat)).testBit z.toNat).map V.bl)):=by rw[B];unfold bD;rw[Sd.mpr (λ_ _=>rfl),RP,RP];rfl
 show#[q,7,vr.of G,76];let e:(!((yn s).map λz=>(XR n r (s^^^2^z.toNat)).testBit z.toNat).any id)=decide (r s=sz s):=by
  rw[SV,SG,Wt,Ss,M.MP f];constructor
  .intro h k c;let kn:=aS f c;have:=h _ (RM.mpr #[(k:Int),aM.mpr #[k,9,c,2],2]);rw[RA]at this;simpa using this
  .intro h b A;let(z,hz,rfl):=RM.mp A;let(k,_,c,rfl):=aM.mp hz;rw[RA,h k c];show RO
 let l:=k g (o.trans ab);rwa[<-e]at l
theorem Ae:Ca 5 "of_bases" ["n","bases"] (Et K cc.L):=by
 show cl 60 ["n","bases"] λH Q E nd v h=> ?_;let(a,n,bs,r,rfl,u,U,M,g,k):=h;show#[_, #v["aEcZ0xcZ1y01rMZ2y01",nd,v,qi,rA,fY nL v ∅ ⋯],6];let p8:=gO M.n8;let n8:=M.n8;show#[77,a,_,bs,2,u,6,U,λb j=>by have:=((g b).mp j).1;lia,λb j c O t x hu=> ?_,λG m=> ?_]
 .intro e;let(b,_,d,f,J):=M.extend (s:=0) (t:=2^n-1) (λk h=>by rw[SN]at h;cases h) (dg n) (by rw[M.zero,i7]);have:=(g b).mpr #[d.lt (dg n),f,J];rw[e]at this;cases this
 .let(y,i,d,f):=M.exch ((g b).mp j) ((g c).mp O) x hu;show#[y,i,d,6];rw[lB x];show(g _).mpr f
 show#[26];let N:=m.seq u;show#[776];show λB q l A a3=>#[B,q,a,_,au bs,2,aa,(ba l A).seq N,by rw[aO];lia,λtt p az ar ab af=>#[26]];let ax:vc G p:=λb o e=>ar b o (ba l A b o e) (ah e l);show k B p (m.trans ax) (m.free l) #[au bs,#[q,tt,ab,af,by rw[aO];lia],λz=> ?_];constructor
 .intro h;let(b,j,rfl):=c9 h;let(i,d,f):=(g b).mp j;show#[b,i,2,d,f]
 .rintro⟨b,i,rfl,d,f⟩;show RM.mpr #[b,(g b).mpr #[i,d,f],2]
theorem Ac:Ca 5 "of_rings" ["n","rings"] (Ep K cc.L):=by
 show cl 61 ["n","rings"] λH Q E nd hr h=> ?_;let(a,n,g,r,rfl,N,M,f,k):=h;show#[_, #v["aEcZ0xcZ1y01rcZ2y0XZ3Z4Z5hcZ6xcZ7x0v0MZ8MZ9MZO0cZO1y100",nd,hr,qi,rp,ik,["s"],["rings"],[1],iU,eZ,bZ,k9,cI,mR],6];let p8:=gO M.n8;let n8:=M.n8;let lt:=λc b=>((f c).mp b).1;show#[77,a,_,g,2,N,λc b=>by have:=lt c b;lia,λh0=>M.Du ((f 0).mp h0).2 rfl,λc b d j A m=>A (M.tN ((f c).mp b).2 (lt d j) ((f d).mp j).2 (dZ.mp m)),
  λc b d j A t U hu=> ?_,λH1 B=> ?_]
 .let(e,h1,J):=M.third (lt c b) (lt d j) ((f c).mp b).2 ((f d).mp j).2 A U hu;let ku:(c|||d).testBit t=true:=fF c d t U;let el:aB (c|||d) (2^t)=(c|||d)^^^2^t:=lB ku;show#[e,(f e).mpr #[J.lt (M.fi (SQ (lt c b) (lt d j)) ku),h1],dZ.mpr (by rw[el];show J)]
 show#[26];show#[77,(n:Int),2996];rw[cu];show#[799,λp H2 G b1 y=>#[p,2,#[_,vr.of y],6]];rw[RA,gu n ()]at y;show aG (λx=>(λz:Int=> !(g.any λc=>decide (c&&&z.toNat=c))) (aN x)) (λx=> .int ((λz:Int=>z) (aN x))) (vr.of y) (by rw[My,My,RW];show RB p8 ∅) (λi x vs H' R S hx hv sm hk=> ?_) λq H3 hq af o=> ?_
 .let(v,rfl):=aA hv;let(z,rfl,hz):=aD hx;let(s,m,rfl):=RM.mp (RG hz);let q:=hk [some (.int (s:Int))] H' rfl (vc.refl _);show#[77,a,g,s,2,((B.trans G).trans sm).seq N,76];let u:if(!(g.any λc=>decide (c&&&s=c)))=true then R (.int (s:Int)) _ H' else S _ H':=q;change if(!(g.any λc=>decide (c&&&s=c)))=true then _ else _;by_cases b:(!(g.any λc=>decide (c&&&s=c)))=true
  .rw[RF b]at u⊢;show#[7,u]
  .rw[RQ b]at u⊢;show u
 replace o:=o.trans (Se (λl=>some (HO.lst l)) (aV (λz:Int=> !(g.any λc=>decide (c&&&z.toNat=c))) (λz:Int=>z) ((range (2^n)).map λk:Nat=>(k:Int))));rw[show(λz:Int=>z)=id from rfl,T6]at o;let e3:=cx (range (2^n)) (λz:Int=> !(g.any λc=>decide (c&&&z.toNat=c)));let a3:H3 q=some (.lst ((au ((range (2^n)).filter λs=> !(g.any λc=>decide (c&&&s=c)))).map int)):=o.trans (Se (λl:List Int=>some (HO.lst (l.map int))) e3);show#[q,n,_,r,2,vr.of a3,RB (SA _ _) (by rw[RW];show p8),M,λs=> ?_,λph HA bx a4 hL=>k ph HA (((B.trans G).trans af).trans bx) (((B.trans G).trans af).free a4) hL];rw[Sn,R1];show VX λm=> ?_;rw[M.AN m,SG,Wt];constructor
 .intro h c b O;show h c ((f c).mpr #[O.lt m,b]) (RE (dZ.mpr O))
 .intro h c b j;show h c ((f c).mp b).2 (dZ.mp (RV j))
theorem Ad:Ca 7 "of_flats" ["n","flats"] (Es K cc.L):=by
 show cl 62 ["n","flats","sets","over"] λH Q E nd hr h=> ?_;let(a,n,fs,r,rfl,t,M,y,aj,k):=h;show#[_, #v["aEcZ0xcZ1y01aw2cZ2xcZ3x0aw3XZ4Z5Z6h2v0ucZ7q1q2q0zrcZ8y0XZ4Z9ZO0h2v0MZO1MZO2cZO3y100",nd,hr,qi,rq,iU,eZ,["s"],["n","flats"],[0,1],mQ,ik,["over"],[3],bZ,cI,B5],6];let p8:=gO M.n8;let n8:=M.n8;show#[77,a,n,fs,r,2,t,M,y,aj,λH1 G=> ?_];show#[26];show#[7,(n:Int),2996];rw[cu];show#[799,λp H2 J bx b=> ?_];rw[RA,gu n ()]at b;show#[7,p,2,#[_,vr.of b],6];show aG (λ_=>true) (λx=> .int ((λz:Int=>((XR n r z.toNat:Nat):Int)) (aN x))) (vr.of b) (by rw[My,My,RW];show RB p8 ∅) (λi x vs H' R S hx m o g=> ?_) λq U hq N ar=> ?_
 .let(v,rfl):=aA m;let(z,rfl,hz):=aD hx;let(s,d,rfl):=RM.mp (RG hz);let j:=R1.mp d;simp only[aH,bw,RF];show#[777,a,n,s,fs,2,n8,((G.trans J).trans o).seq t,6];let q:=g [some (.int (s:Int))] H' rfl (vc.refl _);rw[RF rfl]at q;rw[M.leastF_cl y j];show q
 let ax:U q=some (.lst ((au ((range (2^n)).map (XR n r))).map int)):=by rw[ar,aV (λ_=>true) (λz:Int=>((XR n r z.toNat:Nat):Int)) ((range (2^n)).map λk:Nat=>(k:Int)),Sd.mpr λ_ _=>rfl];show Se (λl:List Int=>some (HO.lst (l.map int))) (by rw[au,RP,RP];rfl)
 let A:=N.at b;show#[77,p,2,#[_,vr.of A],6];show aG (λx=>(λz:Int=>decide (r z.toNat=sz z.toNat)) (aN x)) (λx=> .int ((λz:Int=>z) (aN x))) (vr.of A) (by rw[My,My,RW];show RB p8 ∅) (λi x vs H' R S hx m o g=> ?_) λB H4 b0 a7 c=> ?_
 .let(v,rfl):=aA m;let(z,rfl,hz):=aD hx;let(s,d,rfl):=RM.mp (RG hz);let j:=R1.mp d;show#[77,q,n,s,r,2,vr.of (o.at ax),j,M,λf bk=>#[76]];let e:if decide (r s=sz s)=true then R (.int (s:Int)) _ f else S _ f:=g [some (.int (s:Int))] f rfl bk;by_cases u:decide (r s=sz s)=true
  .rw[RF u]at e⊢;show#[7,e]
  .rw[RQ u]at e⊢;show e
 replace c:=c.trans (Se (λl=>some (HO.lst l)) (aV (λz:Int=>decide (r z.toNat=sz z.toNat)) (λz:Int=>z) ((range (2^n)).map λk:Nat=>(k:Int))));rw[show(λz:Int=>z)=id from rfl,T6]at c;let e3:=cx (range (2^n)) (λz:Int=>decide (r z.toNat=sz z.toNat));let ay:H4 B=some (.lst ((au ((range (2^n)).filter λs=>decide (r s=sz s))).map int)):=c.trans (Se (λl:List Int=>some (HO.lst (l.map int))) e3);let O:=((G.trans J).trans N).trans a7;show#[B,n,_,r,2,vr.of ay,RB (SA _ _) (by rw[RW];show p8),M,λs=> ?_,λph HA bo az hL=>k ph HA (O.trans bo) (O.free az) hL];rw[Sn,R1];show VX λd=>#[λh=>RV h,λh=>RE h]
theorem IJ:Ca 1 "fit" ["right","words"] Qg:=by show cl 63 ["right","words"] λH Q E c a h=> ?_;let(b,x,rfl,rfl,k):=h;show#[_, #v["efMZ0MZ10eZ2j",c,a,k9,cI,oO],77,aX k]
theorem jQ:Ca 3 "fit_set" ["house","s"] (Hv cc):=by show cl 64 ["house","s"] λH Q E l d h=> ?_;let(h,n,s,r,rfl,g,m,i,k):=h;let(C,a,j):=(a8 cc.L).shown g;let(b,fs,c,fr,e,f):=j.ex;let(cl,nM,_,_):=Y4 C a;show#[_, #v["eEcZ0ycZ1y1MZ20s",l,d,IJ,iT,dD ZO d ∅],77,h,C,b,fs,2,c,a,e,h,C,b,fs,(n:Int),2,c,cl,nM,f,996];rw[cu];show#[1799176,k H (vc.refl _)];rw[RA,RA];show RE (A8.mpr i)
theorem yt:Ca 8 "made_even" ["houses","given"] (Nr cc):=by show cl 65 ["houses","given"] λH Q E f c h=> ?_;let(l,g,n,k,rfl,b,e):=h;show#[_, #v["rMZ0yl1il1i",f,c,fY nE c ∅ ⋯],7,g,3,vr.of b,27,g,3,vr.of b,2,λd a j i m=>#[d,a,17,aa,26]];show e d _ (nV j i) (.inr (.inl (.inl #[a,k,aa,λ_ _=>rfl])))
theorem ql:Ca 8 "made_of_bases" ["houses","given"] (sQ cc mY):=by show cl 66 ["houses","given"] λH Q E i e h=> ?_;let(l,g,b,n,ms,r,rfl,a,d,f,M,mem,k):=h;show#[_, #v["rcZ0yl1il1i",i,e,Ae],7,g,3,vr.of a,27,g,3,vr.of a,2,b,n,ms,r,2,vr.of d,f,M,mem,λp H' j _ c=>k p H' j (.inl (.inl (r9 M c)))]
theorem qj:Ca 8 "made_of_rings" ["houses","given"] (sQ cc NS):=by show cl 67 ["houses","given"] λH Q E f e h=> ?_;let(j,g,b,n,ms,r,rfl,a,d,l,M,mem,k):=h;show#[_, #v["rcZ0yl1il1i",f,e,Ac],7,g,3,vr.of a,27,g,3,vr.of a,2,b,n,ms,r,2,vr.of d,M,mem,λp H' i _ c=>k p H' i (.inl (.inl (r9 M c)))]
theorem qk:Ca 8 "made_of_flats" ["houses","given"] (sQ cc iy):=by show cl 68 ["houses","given"] λH Q E i e h=> ?_;let(l,g,b,n,ms,r,rfl,a,d,f,M,mem,k):=h;show#[_, #v["rcZ0yl1il1i",i,e,Ad],7,g,3,vr.of a,27,g,3,vr.of a,2,b,n,ms,r,2,vr.of d,M,mem,f,λp H' j _ c=>k p H' j (.inl (.inl (r9 M c)))]
theorem Ag:Ca 8 "made_net" ["houses","given"] (Nq cc):=by show cl 69 ["houses","given"] λH Q E y n h=> ?_;let(q,g,b,p,us,ts,rfl,c,j,m,l,M,N,k):=h;let B:=m.1;show#[_, #v["rMZ0qkl1iql1iql1iz",y,n,fY nNt n ∅ ⋯],7,g,3,vr.of c,2,b,us,2, .inl (vr.of j),7,g,3,vr.of c,27,g,3,vr.of c,26];rw[B];show λr i a d L=>#[r,i,b,11,us,ts,2,aa,(ba a d).seq (vr.of j),m.ts (iY.of (ba a d)),9,λt G f J z u x v=>#[26]];let A:vc H f:=λb o e=>z b o (ba a d b o e) (ah e a);show k r f A (.inr (.inl (.inr (.inl #[p,ts,#[i,t,G,u,x,v],l,92,λs q=>Pe l q]))))
theorem vy:Ca 8 "made_table" ["houses","given"] (Nn cc):=by show cl 70 ["houses","given"] λH Q E A l h=> ?_;let(N,g,b,m,n,us,M,r,rfl,c,s,j,TO,G,q,k):=h;let ul:=j.1;let m8:=TO.few;show#[_, #v["rMZ0ql1iql1iql1iz",A,l,fY nT l ∅ ⋯],7,g,3,vr.of c,27,g,3,vr.of c,27,g,3,vr.of c,26];show λp i a d U=>#[p,i,b,11,us,M,2,aa,(ba a d).at s,j.same (ba a d),9,λt L f O B u y v=>#[26]];let J:vc H f:=λb o e=>B b o (ba a d b o e) (ah e a);show k p f J (.inr (.inl (.inr (.inr #[m,M,#[i,t,L,u,y,v],m8,λx hx=>#[TO.row x hx,λz hz=>Tp (TO.num x hx z hz) Lx],G,q]))))
theorem vz:Ca 8 "made_other" ["houses","given"] (Np cc):=by show cl 71 ["houses","given"] λH Q E u j h=> ?_;let(a,g,h,n,r,rfl,q,i,M,k):=h;show#[_, #v["rMZ0xl0i",u,j,fY nO j ∅ ⋯],7,a,3,vr.of q,2,λm f c l x=>#[m,f,h,n,r,2,aa,(a8 cc.L).same (iQ c l) i,M.n8,λd v t=>#[26]]];let p:vc H d:=λb o e=>v b o (ba c l b o e) (ah e c);show k m d p (.inl (.inr #[f,h,r,t,(a8 cc.L).same p i,λs a=>M.fJ a]))
theorem Af:Ca 8 "made_out" ["houses","given"] (De cc true):=by show cl 72 ["houses","given"] λH Q E G u h=> ?_;let(v,g,h,n,s,r,rfl,p,m,j,M,B,k):=h;show#[_, #v["aEcZ0yl0il1irMZ1ql0iql1iqiz",G,u,jQ,fY nM u ∅ ⋯],7,v,3,vr.of p,27,g,3,vr.of m,2,h,n,s,r,2,j,M.n8,B,λA a=> ?_];let l:=(a8 cc.L).same a j;let d:=zd n;let q:aB (2^n-1) s<2^n:=gq;show#[7,v,3,a.seq (vr.of p),27,g,3,a.seq (vr.of m),2,λy i c x N=>#[y,i,h,n,s,0,r,2,aa,(a8 cc.L).same (iQ c x) l,M.n8,d,λf J t=>#[26]]];let z:vc A f:=λb o e=>J b o (ba c x b o e) (ah e c);rw[Nat.or_zero]at t;show k y f (a.trans z) (.inr (.inr (.inl #[i,h,n,_,0,r,t,(a8 cc.L).same z l,2,M.n8,q,d,λs _=>M.min_int q d s])))
theorem vA:Ca 8 "made_drawn" ["houses","given"] (De cc false):=by show cl 73 ["houses","given"] λH Q E G v h=> ?_;let(x,g,h,n,s,r,rfl,p,m,j,M,a,k):=h;show#[_, #v["aEcZ0yl0il1irMZ1ql0iqiql1iz",G,v,jQ,fY nM v ∅ ⋯],7,x,3,vr.of p,27,g,3,vr.of m,2,h,n,s,r,2,j,M.n8,a,λB c=> ?_];let l:=(a8 cc.L).same c j;let q:aB (2^n-1) s<2^n:=gq;show#[7,x,3,c.seq (vr.of p),27,g,3,c.seq (vr.of m),2,λz i d y N=>#[z,i,h,n,0,s,r,2,aa,(a8 cc.L).same (iQ d y) l,M.n8,a,λf J t=>#[26]]];let A:vc B f:=λb o e=>J b o (ba d y b o e) (ah e d);rw[W2]at t;show k z f (c.trans A) (.inr (.inr (.inl #[i,h,n,_,s,r,t,(a8 cc.L).same A l,2,M.n8,q,a,λu _=>M.min_int q a u])))
theorem yr:Ca 8 "made_side" ["houses","given"] (Nt cc):=by show cl 74 ["houses","given"] λH Q E U s h=> ?_;let(c,g,f,i,j,l,u,x,rfl,a,L1,L2,M,k):=h;let(C1,d1,s1):=(a8 cc.L).shown L1;let(x1,f1,y,_,_,m1):=s1.ex;let(A,N,_,_):=Y4 C1 d1;let(p,G,s2):=(a8 cc.L).shown L2;let(x2,f2,z,_,_,m2):=s2.ex;let(B,O,_,_):=Y4 p G;show#[_, #v["aEcZ0yPZ1oDdl0idl0iZ2srMZ3yl0il0i",U,s,IJ,wD,(bh (v:= .int kj) ⋯ (gR 44) #[7]),fY nS s ∅ ⋯],7,c,3,vr.of a,2,f,C1,x1,f1,7,y,A,N,m1,7,c,3,vr.of a,2,i,p,x2,f2,7,z,B,O,m2,8817,RE (by show(j:Int)+l<=8;lia),6];show#[7,c,3,vr.of a,27,c,3,vr.of a,2,λt r d m aj=>#[t,r,f,i,j,l,u,x,2,aa,(a8 cc.L).same (iQ d m) L1,(a8 cc.L).same (iQ d m) L2,M,λq ab J=>#[26]]];let n:vc H q:=λb o e=>ab b o (ba d m b o e) (ah e d);show k t q n (.inr (.inr (.inr #[r,f,i,j,l,u,x,2,J,(a8 cc.L).same n L1,(a8 cc.L).same n L2,λ_ _=>rfl])))
theorem QN:∀z f,True->(cK.zip [931,938,945,952,959,966,973,980,987,994]).lookup z=some f->∃a,dJ P w K mg base X6 8 f a ["houses","given"] (iP (lW cc) z)/\cR K a ["houses","given"] []/\aaG K (.ref f)=true:=by show λz f _ h=>lA (p:=λz f=>∃a,dJ P w K mg base X6 8 f a ["houses","given"] (iP (lW cc) z)/\cR K a ["houses","given"] []/\aaG K (.ref f)=true) ?_ z f h;simp only[cK,Vp,Vq,Uw];show#[aK yt (gR 23) ∅ (aU rfl),aK ql (gR 24) ∅ (aU rfl),aK qj (gR 25) ∅ (aU rfl),aK qk (gR 26) ∅ (aU rfl),aK Ag (gR 27) ∅ (aU rfl),aK vy (gR 28) ∅ (aU rfl),aK vz (gR 29) ∅ (aU rfl),aK Af (gR 30) ∅ (aU rfl),aK vA (gR 31) ∅ (aU rfl),aK yr (gR 32) ∅ (aU rfl),λc b=>nomatch b]
theorem LW:Ca 9 "made" ["verb","houses","given"] (Oj cc):=by show cl 75 ["verb","houses","given"] λH Q E b a h=> ?_;let(z,c,g,rfl,hz,k):=h;show#[_, #v["rMZ0y12",b,a,oQ (cT.s.fD P) ⋯ (gR 14) (pv 0) (by intro _ _;rfl) QN (a.mono ∅) mK],7,z,2,trivial,by rw[gy rfl];show RE hz,77,k]
theorem yp:Ca 4 "shown_all" ["sets"] (Bn K):=by show cl 76 ["sets"] λH Q E q n h=> ?_;let(a,l,rfl,b,hl,j,k):=h;show#[_, #v["rVsxXZ0Z1Z1h0v0ucZ2x0",q,n,["s"],[],uf],27,a,2,#[_,b],qz b hl j (λi u m vs H' R S o p x t f=> ?_) λD c r g e=>#[_,D,l.map aT,22,vr.of g,e,k c r]];let(v,rfl):=aA p;subst o;simp only[aH,bw,RF];show#[7799,λd s=>f [some (.int (m:Nat))] d rfl s]
theorem gn:Ca 5 "sets_text" ["sets"] (C8 K):=by
 show cl 77 ["sets"] λH Q E g f h=> ?_;let(a,l,rfl,c,hl,d,k):=h;show#[_, #v["rRZ0pAk0iscZ1x0",g,f,tV,yp],7,a,7, .inl c,27,bM (λb=> ?_) λb=> ?_]
 .let e:l=[]:=by have:=V.int.inj (RV b);rw[My,aO]at this;show Sx.mp ()
  subst e;show k H (vc.refl _)
 .show#[7,a,l,2,c,hl,d,λH' i=> ?_];have:=k H' i;unfold vV at this
  rwa [RQ λe=>b (RE (by rw[e];rfl))]at this
theorem yi:Ca 1 "yes_or_no" ["right"] Q6:=by
 show cl 78 ["right"] λH Q E c a h=> ?_;let(b,rfl,k):=h;show#[_, #v["rRZ0MZ10ss",c,a,tV,cI],776];unfold Zo at k;cases b
 .show aX k
 .show bS k
theorem vv:Ca 8 "told_bases" ["houses","given"] (mC cc fg):=by show cl 79 ["houses","given"] λH Q E f d h=> ?_;let(e,g,h,n,ms,rfl,c,a,k):=h;let(f1,f2):=fH a.2 (lG ms (ag ms (2^n-1)));show#[_, #v["rcZ0xcZ1xl0i",f,d,gn,uk],7,e,3,vr.of c,2,h,n,ms,2,a.zo,λp H' i _ hl=>#[p,7,vr.of hl,f1,f2,λb j=>k b (i.trans j)]]
theorem vp:Ca 8 "told_rings" ["houses","given"] (mC cc tM):=by show cl 80 ["houses","given"] λH Q E f d h=> ?_;let(e,g,h,n,ms,rfl,c,a,k):=h;let(f1,f2):=fH a.2 (eB ms);show#[_, #v["rcZ0xcZ1xl0i",f,d,gn,IF],7,e,3,vr.of c,2,h,n,ms,2,a.zo,λp H' i _ hl=>#[p,7,vr.of hl,f1,f2,λb j=>k b (i.trans j)]]
theorem vt:Ca 8 "told_flats" ["houses","given"] (mC cc uL):=by show cl 81 ["houses","given"] λH Q E f d h=> ?_;let(e,g,h,n,ms,rfl,c,a,k):=h;let(f1,f2):=fH a.2 (eR ms n);show#[_, #v["rcZ0xcZ1xl0i",f,d,gn,II],7,e,3,vr.of c,2,h,n,ms,2,a.zo,λp H' i _ hl=>#[p,7,vr.of hl,f1,f2,λb j=>k b (i.trans j)]]
theorem vq:Ca 8 "told_frees" ["houses","given"] (mC cc qB):=by show cl 82 ["houses","given"] λH Q E f d h=> ?_;let(e,g,h,n,ms,rfl,c,a,k):=h;let(f1,f2):=fH a.2 (j9 ms);show#[_, #v["rcZ0xcZ1xl0i",f,d,gn,Ah],7,e,3,vr.of c,2,h,n,ms,2,a.zo,λp H' i _ hl=>#[p,7,vr.of hl,f1,f2,λb j=>k b (i.trans j)]]
theorem yk:Ca 8 "told_rank" ["houses","given"] (vU cc λ_ ms s=>aw (ag ms s:Nat)):=by show cl 83 ["houses","given"] λH Q E r j h=> ?_;let(l,g,h,n,s,ms,rfl,i,f,a,m,k):=h;show#[_, #v["aEcZ0yl0il1irUxQZ1l0ixl1i",r,j,jQ,eG Zs j ∅],7,l,3,vr.of i,27,g,3,vr.of f,2,h,n,s,7,a.1,a.2,m,λu b=> ?_];let d:=(a8 cc.L).same b a.1;let(C,p,q):=(a8 cc.L).shown d;let(c,fs,e,fr,v,x):=q.ex;show#[7,l,3,b.seq (vr.of i),2,h,C,c,fs,2,e,p,fr,7,g,3,b.seq (vr.of f),2,h,n,s,7,d,#[c,fs,e],a.2,m,λo t=> ?_];show#[7,eJ (RD (show ag ms s<=8 from RB (wo ms s) (bq s)) ∅),k o (b.trans t)]
theorem ue:Ca 8 "told_closed" ["houses","given"] (vU cc λn ms s=>aT (fj ms n s)):=by show cl 84 ["houses","given"] λH Q E l j h=> ?_;let(f,g,h,n,s,ms,rfl,e,d,a,c,k):=h;show#[_, #v["aEcZ0yl0il1ircZ1xcZ2yl0il1i",l,j,jQ,uf,E6],7,f,3,vr.of e,27,g,3,vr.of d,2,h,n,s,7,a.1,a.2,c,λp b=> ?_];show#[7,f,3,b.seq (vr.of e),27,g,3,b.seq (vr.of d),2,h,n,s,ms,2,(a.same b).zo,c,λq m=> ?_];let lt:fj ms n s<256:=RK (xq a.2 c) (gO a.2);show#[799,λi o=>k i ((b.trans m).trans o)]
theorem yj:Ca 8 "told_same" ["houses","given"] (Ni cc):=by
 show cl 85 ["houses","given","as_many"] λH Q E N j h=> ?_;let(b,g,f,i,l,m,m1,m2,rfl,a,n,o,k):=h;let(C1,d1,O):=(a8 cc.L).shown n.1;let(x1,f1,t,_,_,z):=O.ex;let(v,J,_,_):=Y4 C1 d1;let(d,y,U):=(a8 cc.L).shown o.1;let(x2,f2,u,_,_,A):=U.ex;let(x,M,_,_):=Y4 d y;show#[_, #v["aw2PAdl0idl0ircZ0xQZ12MZ2PZ3cZ4xl0icZ4xl0i",N,j,yi,qc,nK,(DE (K:=K) ⋯ j.units),uk],7,b,3,vr.of a,2,f,C1,x1,f1,7,t,v,J,z,7,b,3,vr.of a,2,i,d,x2,f2,7,u,x,M,A,26];unfold vZ at k;show#[776];rw[cB];by_cases e:l=m
 .rw[RE e];rw[RE e]at k;show bS #[7,b,3,vr.of a,2,f,l,m1,2,n.zo,λp H1 c _ B=>#[7,b,3,c.seq (vr.of a),2,i,m,m2,2,(o.same c).zo,λq s r _ G=>#[p,q,8,r.seq (vr.of B),vr.of G,76]]];have:=k s (c.trans r);rwa[T1,<-S4.mpr Fd]at this
 .rw[RL e];rw[RL e]at k;show aX #[7,k H (vc.refl _)]
theorem QL:∀z f,hU z->(fC.zip [1015,1022,1029,1036,1043,1050,1057,1064,1071,1078,1085,1092,1097,1104]).lookup z=some f->∃a,dJ P w K mg base X6 8 f a ["houses","given"] (iP (gg cc) z)/\cR K a ["houses","given"] []/\aaG K (.ref f)=true:=by show λz f hz h=>lA (p:=λz f=>hU z->∃a,dJ P w K mg base X6 8 f a ["houses","given"] (iP (gg cc) z)/\cR K a ["houses","given"] []/\aaG K (.ref f)=true) ?_ z f h hz;simp only[fC,Vp,Vq,Uw];let no:∀ {z:Str} {A:Prop},¬z∈fC.take 7->hU z->A:=λh q=>absurd q h;show#[λ_=>aK vv (gR 33) ∅ (aU rfl),λ_=>aK vp (gR 34) ∅ (aU rfl),λ_=>aK vt (gR 35) ∅ (aU rfl),λ_=>aK vq (gR 36) ∅ (aU rfl),λ_=>aK yk (gR 37) ∅ (aU rfl),λ_=>aK ue (gR 38) ∅ (aU rfl),λ_=>aK yj (gR 39) ∅ (aU rfl),no ∅,no ∅,no ∅,no ∅,no ∅,no ∅,no ∅,λc b=>nomatch b]
theorem Aj:Ca 9 "answered" ["verb","houses","given"] (Ov cc):=by show cl 86 ["verb","houses","given"] λH Q E b a h=> ?_;let(z,c,g,rfl,hz,k):=h;show#[_, #v["rMZ0y12",b,a,oQ (cT.s.fT P) ⋯ (gR 15) (pv 0) (by intro _ _;rfl) QL (a.mono ∅) mK],7,z,2,hz,by rw[gy rfl];show RE (Ua hz),77,k]
theorem qu:dn P w K mg base 1 1134 ["self"] (zI 1149):=by
 show Yd 18 ["self"] λH Q E l j h=> ?_;let(p,c,rfl,f,k):=h;show#[_,(rW (YW K (pv 0) tW)),6];intro d a;let g:p≠d:=ah f a;show#[7,p,(1149),c,7,(by rw[ak g];show f),(hC 1149).toCls,(nA 36),by change 0<1000;decide,6];show k d _ a (λb o e i=> ?_) #[c,aa,6]
 .rw[ak i,ak (ah e a)];show e
 .rw[ak g.symm,aa]
theorem nDk:kf P w K mg base 1 "Desk" 1149 ["self"] (zI 1149):=nw 18 9 qu
theorem lq:xC P w K mg base 1 1141 ["self","name"] (sR 1149 224):=by
 show fnB 19 ["self","name"] λH Q E j a h=> ?_;let(p,d,l,z,rfl,(c,f,e),hz,i,g):=h;show#[_, #v["afMZ0RZ1Z21d0eMZ3xMZ41jrZ5",j,a,xZ,qd,(RD (SE ∅ _) a.units),Ig rfl LY PySem.F.excBase_ValueError ⋯ EK,OW,(yc (RD (SE ∅ _) a.units) (Yx K (pv 0)) (pv 1) (by intro _ _;rfl))],6];show#[77,p,(1149),c,17,f,(hC 1149).toCls,(nA 36),oa _,d,7,j2.k (k:=aax z) e,76];cases b:dA l (aax z)with
 |none=>show bS #[7,z,2,RB hz ∅,λy=>#[Ei,g b]]
 |some v=>show aX #[7,p,(1149),c,17,f,(hC 1149).toCls,(nA 36),oa _,7,d,v,2,b▸j2.k (k:=aax z) e,i v b]
theorem mHC:xD P w K mg base 1 1149 "house_called" ["self","name"] (sR 1149 224):=cMX 19 lq
theorem Am:xC P w K mg base 10 1146 ["self","line"] (mE K cc 1149 224):=by
 show fnB 20 ["self","line","told","asked","house"] λH Q E nd hr h=> ?_;let(p,d,l,z,rfl,hp,hl,hz,h):=h;show#[_, #v["aw2cZ0x1aZ1afpZ2d2nrcZ3qd2q3qd2zjaw4cZ4qd2q3qd2zaZ5rs",nd,hr,B3,(wq (i:=3) nd ⋯ ⋯ (.inr #[222,LO]) (vars:=["name"]) (frn:=["self"]) (fr:=[0]) rfl ⋯ ⋯ ⋯ ⋯ #[#[⋯,U6 ⋯,U6 ⋯],Ti] (wil K (Yx K (pv 2))) (λ_ _ _ _=>(yb (i:=0) (show ad9 (["name","self"]:List abc) by decide+kernel) ⋯ (U6 rfl))) (λ_ _ _ _=>Dz) (λ_ _ _ _=>(z6 mHC hr ∅ BQ (pv 1) (Zr (pv 0))))),qg,Aj,LW,(ya (RD (SE ∅ _) hr.units) (Yx K (pv 0)) (Yx K (pv 2)) (fY nL hr ∅ ⋯ (pa2 (Yx K (pv 4)) (Zh uk hr (Zr (pv 4))))) ⋯)],6];let dk:∀ {B:Hp},vc H B->∃N,B p=some (.ins 1149 N (Zv d))/\B d=some (.dK l):=λs=>hp.same s;let eL:∀xs:List Str,(xs.map str).map (λv=>match v with| .str y=>(D1 l y).getD .non|v=>v)=jZ l xs:=λxs=>by rw[RP];rfl
 let all:∀ {xs:qq},(∀v∈xs.map str,∃y u,v=str y/\D1 l y=some u)->All l xs:=λ{xs} h y hy=>by let(_,u,e,h):=h (.str y) (RM.mpr #[y,hy,2]);cases e;show#[u,h]
 let step:∀ {G:Hp} {xs:qq} {R:List V->Hp->Prop},vc H G->Ask l 224 xs R H E->∀ {i:Nat} {u:V} {vs:St} {H':Hp} {R':V->St->Hp->Prop} {S':St->Hp->Prop},(xs.map str)[i]?=some u->vs.length=1->vc G H'->
   ((∃y v,u=str y/\D1 l y=some v)->∀c8 cm,c8.length=1->vc H' cm->R' (match u with| .str y=>(D1 l y).getD .non|v=>v) (c8++[some (.ref p)]) cm)->
   aH 0 u (vs++[some (.ref p)]) H' λbk G=>bw bk G λb H4=>if b=true then GG 1149 "house_called" (sR 1149 224) [] E (KI 1) (sx (KI 0) xE) bk H4 λy U=>R' y bk U else S' bk H4:=λ{G xs R} m A {i u vs H' R' S'} hu az s hk=>by
  let(u0,rfl):=aA az;simp only[aH,bw,RF];let(y,rfl,hy):=ow hu;let ym:=RG hy;let(N,cN,dV):=dk (m.trans s);show#[7,p,N,7,cN,CD _ #[9],7,p,d,l,y,2,#[N,cN,dV],A.short y ym,λu e=> ?_,λe ea _=>A.none #[y,ym,e] H' ea (m.trans s)];have:=hk #[y,u,2,e] [some (.str y)] H' rfl (vc.refl _);simp only[e,adw]at this;show this
 rcases h with ⟨x,v,r,xs,R,ew,hx,hv,A,rd,J⟩|⟨v,r,xs,R,ew,ec,hv,A,rd,J⟩
 .show#[7,z,2,hz, .inl #[x,v,r,ew,hx,hv,λp' B Q' a3 b3 hQ=>rd p' B Q' a3 b3 λt q g ys H2 cf ht hq hg hR=>hQ _ _ #[t,q,g,2,ht,λj f G c O=> ?_]]];let m:=(a3.trans cf).trans c;show#[7,j,(655),f,17,O,(hC 655).toCls,(nA 34),wX _ _ _ _,q,2,#[_,vr.of (c.at hq)],6];show AG (λv=>∃y u,v= .str y/\D1 l y=some u) (λv=>match v with| .str y=>(D1 l y).getD .non|v=>v) (vr.of (c.at hq)) (by rw[My];show RB A.few ∅) (λi u vs H' R' S' hu az s hk=>step m A hu az s hk) λq2 H4 eb a ai hG=> ?_;rw[eL]at ai;let(n,rk,M,mk,J):=J (all hG);let L:=a.at O;show#[7,j,(655),f,17,L,(hC 655).toCls,(nA 32),nW _ _ _ _,27,aX ?_];show#[7,j,(655),f,17,L,(hC 655).toCls,(nA 33),AA _ _ _ _,77,j,(655),f,17,L,(hC 655).toCls,(nA 35),wW _ _ _ _,v,q2,g,2,hv,mk q2 g ys H4 _ (m.trans a) ai ((c.trans a).at hg) (A.mono _ _ _ (c.trans a) hR) λhh U a7 dw=> ?_];let(ms,em,Mm):=Cj M;let zo:Yt (X5 cc) U hh n ms:=#[MN em dw,M.n8];let(Ch,dm,dp,dv,dF,_,_,fm,dj,ef):=zo.sees (JK cc) YD;show#[7,hh,Ch,dp,dv,7,dF,dj,ef,fm,7,hh,n,ms,2,zo,λb H6 c1 _ d0=> ?_];let fs:=(fH M.n8 (lG ms (ag ms (2^n-1)))).1;show λpl cz b6 cS en=>#[pl,cz,b,_,au (fg n ms),2,aa,(ba b6 cS).seq (vr.of d0),by rw[aO];show RB fs ∅,λtt HA ek eg d8 ed=>#[26]];let c2:vc H6 HA:=λb o e=>eg b o (ba b6 cS b o e) (ah e b6);let c4:=(m.trans a).trans ((a7.trans c1).trans c2);let(N,d2,cL):=dk c4;let li:Pm cc HA pl n ms:=#[r9 Mm (Gf #[cz,tt,d8,ed,by rw[aO];show RB fs ∅]),M.n8];show#[7,p,(1149),N,17,d2,(hC 1149).toCls,(nA 36),oa _,7,j,(655),f,17,(((a.trans a7).trans c1).trans c2).at O,(hC 655).toCls,(nA 32),nW _ _ _ _,d,7,Gj.k (k:=aax x) cL (RD hl ∅),6];let c3:SameBut d HA (upd HA d (.dK (d6 l (aax x) (.ref pl)))):=λb o e hb=>by rw[ak hb];show e
  show J pl ms _ (λb o e hb=>c3 b o (c4.at e) hb) (li.but cL c3) Mm em aa
 .show#[7,z,2,hz, .inr #[v,r,ew,ec,hv,λp' B Q' a3 b3 hQ=>rd p' B Q' a3 b3 λt q g ys H2 cf ht hq hg hR=>hQ _ _ #[t,q,g,2,ht,λj f G c O=> ?_]]];let m:=(a3.trans cf).trans c;show#[7,j,(655),f,17,O,(hC 655).toCls,(nA 34),wX _ _ _ _,q,2,#[_,vr.of (c.at hq)],6];show AG (λv=>∃y u,v= .str y/\D1 l y=some u) (λv=>match v with| .str y=>(D1 l y).getD .non|v=>v) (vr.of (c.at hq)) (by rw[My];show RB A.few ∅) (λi u vs H' R' S' hu az s hk=>step m A hu az s hk) λq2 H4 eb a ai hG=> ?_;rw[eL]at ai;let(ep,mk,J):=J (all hG);let L:=a.at O;show#[7,j,(655),f,17,L,(hC 655).toCls,(nA 32),nW _ _ _ _,27,bS ?_];show#[7,j,(655),f,17,L,(hC 655).toCls,(nA 33),AA _ _ _ _,77,j,(655),f,17,L,(hC 655).toCls,(nA 35),wW _ _ _ _,v,q2,g,2,hv,mk q2 g ys H4 _ (m.trans a) ai ((c.trans a).at hg) (A.mono _ _ _ (c.trans a) hR) λU a7=>J U ((m.trans a).trans a7)]
theorem mS:xD P w K mg base 10 1149 "say" ["self","line"] (mE K cc 1149 224):=cMX 20 Am
theorem j7:Ca 11 "_law_answers" ["_law_desk","_law_line","_law_due"] (Ot K cc 1149 224):=by show cl 87 ["_law_desk","_law_line","_law_due","_law_found"] λH Q E e a h=> ?_;let(p,z,f,rfl,(b,fs,c,d),k):=h;show#[_, #v["aw3QZ00x1rQZ1MZ2y3Z3MZ4PA32",e,a,z6 mS a ∅ LM,qc,bj (yX (K:=K) ⋯) ⋯ N1.isinstance_ adR,(LL (v:= .ty "str") ⋯ N1.str_ aeB rfl),nK],7,p,b,fs,2,c,d,7,k _ λH' q=> ?_];show#[7111,true,2, .str _,N1.kSS,7,bS #[7726]];rw[RE rfl];show q
theorem lh:Ca 11 "_law_nobody" ["_law_desk","_law_line"] (Oq K cc 1149 224):=by show cl 88 ["_law_desk","_law_line","_law_nobody_here"] λH Q E b a h=> ?_;let(p,z,rfl,(c,fs,d,e),k,q):=h;show#[_, #v["aw2baZ0r2",b,a,(Lu mS a ∅ ⋯ (gR 10) cT.s.xN rfl rfl (λ_=>(pv 0)) (λ_=>(Zr (pv 1))) (λ_=>(rW (Zz 2 b NG))))],7,p,c,fs,2,d,e,7,k _ _ λH' g f=>#[26]];show#[7,q H' f]
theorem uq:Ca 1 "_law_stream" ["_law_cell","_law_k"] Oc:=by
 show cl 89 ["_law_cell","_law_k","_law_number","_law_found","_law_j"] λH Q E m j h=> ?_;let(c,k,rfl,r,l):=h;show#[_, #v["aw2oBoDoDoI0ioIoIi111iaw3TzaFgim4aw2oBoDoDoI2ioIoIi44iieEW3xoL2ir3",m,j],6];let small:∀i:Int,Gk i 1103515245:=λi=> .inr #[44];show#[78,small _,78, .inl #[44],78, .inr #[99],878846];generalize (c*1103515245+7919*(k:Int)*k+k) % 2147483647=z;show#[rh,λp f=> ?_];show#[(8),2446];show cg (n:=8) (λi e a=>vc H a/\∃(xs:qR)(z:Int)(v:Option V),a p=some (.lst (xs.map int))/\xs.length=i/\(∀x∈xs,0<=x/\x<2^27)/\e=[XX c,XZ k,XX z,XS p,v]) #[vc.new f,[],z,none,aa,2,(λx hx=>by cases hx),2] ?_ ?_
 .rintro i e a g ⟨d,xs,z,v,hx,hl,b,rfl⟩;show#[78, .inr #[44],78, .inl #[44],78, .inr #[99],88846];let o:=Vf (z*69621+7*(0+(i:Nat))*(0+(i:Nat))+1) (show(2147483629:Int)≠0 by decide);let q:=UO (z*69621+7*(0+(i:Nat))*(0+(i:Nat))+1) (show(0:Int)<2147483629 by decide);generalize (z*69621+7*(0+((i:Nat):Int))*(0+((i:Nat):Int))+1) % 2147483629=y at*;show#[7, .inl #[21,vr.of hx],78,#[44],6];show#[p,8,hx,by rw[My,hl];show RK g ∅,6];show#[d.upd f,xs++[y/16],y,_,by rw[aa,R6];rfl,by rw[R4,hl];rfl,λx hx=> ?_,2];rcases R9.mp hx with h|h
  .show b x h
  .rw[RY.mp h];lia
 .rintro e a ⟨d,xs,z,v,hx,hl,b,rfl⟩;show#[7,l p xs a d hx hl λz hz=>(b z hz).1]
theorem iJ:Ca 1 "_law_sizes" ["_law_many"] KU:=by
 show cl 90 ["_law_many","_law_sizes_here","_law_k"] λH Q E A t h=> ?_;let(n,rfl,L,k):=h;show#[_, #v["aw1TxiaFg0m2ew1oN1XZ0Z1Z1h1v0uoD0ir1",A,t,["_law_one"],[]],Ei,λp m=>#[7,n,2996]];show cg (n:=n) (λi g a=>vc H a/\∃(q:Addr)(v:Option V),H q=none/\a q=some (.lst ((Yj i).map int))/\g=[XZ n,XS q,v]) #[vc.new m,p,none,m,aa,2] ?_ ?_
 .rintro i g a J ⟨b,q,v,o,hl,rfl⟩;let d:((Yj i).map int).length=2^i:=by rw[My];unfold Yj;rw[My,RW]
  let p8:2^i<=256:=R7 (n:=2) ∅ (show i<=8 by lia);show#[77,q,2,#[_,vr.of hl],6];show aG (λ_=>true) (λv=> .int (aN v+1)) (vr.of hl) (by rw[d];show RB p8 ∅) (λj x vs H' R S hx y M s=> ?_) λD B G c l=> ?_
  .let(v,rfl):=aA y;let(z,rfl,_):=aD hx;simp only[aH,bw,RF];show#[78,s [some (.int z)] H' rfl (vc.refl _)]
  let e:bD (λ_=>true) (λv=>int (aN v+1)) ((Yj i).map int)=((Yj i).map (· +1)).map int:=by unfold bD;rw[Sd.mpr (λ_ _=>rfl),RP,RP];rfl
  rw[e]at l;show#[q,D,8,c.at hl,l,by rw[d,My,My,<-My (f:=int),d];show RB (T5 p8 p8) ∅,λu r=>#[(b.trans c).trans (vc.new r),u,_,(b.trans c).free r,62]];let key:∀i,i<8->Yj (i+1)=Yj i++(Yj i).map (· +1):=#[9]
  rw[aa,key i (),R6]
 .rintro g a ⟨b,q,v,o,hl,rfl⟩;show#[7,k q a b o hl]
theorem f6:Ca 1 "_law_many_of" ["_law_told"] (Hj K):=by
 show cl 91 ["_law_told"] λH Q E o j h=> ?_;let(a,xs,n,rfl,d,hx,m,k):=h;show#[_, #v["rkXZ0Z1Z2giv0MZ3pZ4oGi0k10",o,j,["_law_k"],["_law_told"],[0],bZ,ud],(8),2446];show aQ (λk=>decide (2^k<2^n)) (λk=> .int (0+(k:Int))) ∅ (λi vs H' R S s l p f=> ?_) λpt b t r g=> ?_
 .let(v,rfl):=aA l;let q:=f [some (.int (0+(i:Nat)))] H' rfl (vc.refl _);show#[78,#[994],7,a,7, .inl (p.seq d),876];let e:decide ((1*2^(0+(i:Int)).toNat:Int)<((xs.length:Nat):Int))=decide (2^i<2^n):=by rw[hx,Sy,bQ,S4];lia
  rw[e];cases c:decide (2^i<2^n)with
  |true=>rw[c,RF rfl]at q;show bS #[7,q]
  |false=>rw[c,RQ RO]at q;show aX q
 .show#[pt,7, .inl (vr.of g),6];let e:(bc (λk=>decide (2^k<2^n)) (λk=>int (0+(k:Int))) 8).length=n:=by
   have:∀n,n<=8->((range 8).filter λk=>decide (2^k<2^n)).length=n:=#[9]
   unfold bc;rw[My];show this n m
  change Q (.int ((bc (λk=>decide (2^k<2^n)) (λk=>int (0+(k:Int))) 8).length:Nat)) b;rw[e];show k b r
theorem gp:Ca 1 "_law_text" ["_law_s"] Ob:=by
 show cl 92 ["_law_s"] λH Q E n l h=> ?_;let(s,rfl,c,k):=h;show#[_, #v["afpA0irsjrVsxXZ0Z1Z2giv0MZ3pAoJoZ410iiZ5",n,l,["_law_k"],["_law_s"],[0],bZ,qf,(tU uH BO (pv 0) (λ_ _=>rfl))],727,bM (λa=> ?_) (λa=> ?_)]
 .let e:s=0:=by have:=V.int.inj (RV a);lia
  subst e;show k H (vc.refl _)
 .let hz:s≠0:=λe=>a (by subst e;rfl);show#[2,(8),2446];show aQ (λk=>s.testBit k) (λk=> .str #[#v[97+k]]) ∅ (λi vs H' R S p m t g=> ?_) λpt d r o j=> ?_
  .let(v,rfl):=aA m;let q:=g [some (.int (0+(i:Nat)))] H' rfl (vc.refl _);show#[77898276];rw[Dk];let f:F1 dY.cps.toList (0+(i:Int))=some (97+i):=by rw[Sy];show wY ()
   cases b:s.testBit i with
   |true=>rw[b,RF rfl]at q;show bS #[734,f,q]
   |false=>rw[b,RQ RO]at q;show aX q
  .let e:bc (λk=>s.testBit k) (λk=>str #[#v[97+k]]) 8=(Yc s).map str:=by unfold bc Yc Jz;rw[RP];rfl
   show#[_,pt,Yc s,22,vr.of (e▸j),AD s c,6];rw[show(("":Str))=(#[#v[]]:Str)from rfl,w9 s c hz];show k d o
theorem mT:Ca 2 "_law_texts" ["_law_some"] (C8 K):=by
 show cl 93 ["_law_some"] λH Q E t q h=> ?_;let(a,l,rfl,b,hl,p,k):=h;show#[_, #v["afpAk0irsjrVsxXZ0Z1Z1h0v0ucZ2x0",t,q,["_law_s"],[],gp],7,a,7, .inl b,27,bM (λc=> ?_) λc=> ?_]
 .let e:l=[]:=by have:=V.int.inj (RV c);rw[My,aO]at this;show Sx.mp ()
  subst e;show k H (vc.refl _)
 .show#[27,a,2,#[_,b],qz b hl p (λi u m vs H' R S r s z o j=> ?_) λD d x n g=>#[_,D,l.map aT,22,vr.of n,g,6]]
  .let(v,rfl):=aA s;subst r;simp only[aH,bw,RF];show#[7,m,2,o,λf y=>j [some (.int (m:Nat))] f rfl y]
  .have:=k d x;unfold vV at this
   rwa [RQ λe=>c (RE (by rw[e];rfl))]at this
theorem vD:Ca 1 "_law_minor" ["_law_told","_law_out","_law_drawn"] (Hh K):=by
 show cl 94 ["_law_told","_law_out","_law_drawn","_law_found","_law_s"] λH Q E U G h=> ?_;let(b,n,o,a,r,rfl,t,M,O,A,f,k):=h;show#[_, #v["aw3TzaFgk0m4efpAoJ4oK12ieEW3xoHl0oK42l02jr3",U,G],6];let p8:=oN (show n<=8 by lia);let af:0<2^n:=Su ();let y:((aI n r).map int).length=2^n:=by rw[My,bg]
 let N:o|||a<2^n:=SQ A f;show#[Sw _,λq l=> ?_];let x:vc H (upd H q (.lst [])):=vc.new l;let B:upd H q (.lst []) q=some (.lst ((YX n (o|||a) r a 0).map int)):=aa;generalize upd H q (.lst [])=H0 at*;show#[7,b,7, .inl (x.seq t),79,by rw[y];lia,6];rw[y,RA];show cg (n:=2^n) (λi p H'=>∃m:Option V,vc H H'/\H' q=some (.lst ((YX n (o|||a) r a i).map int))/\p=[XS b,XZ o,XZ a,XS q,m]) #[none,x,B,2] ?_ ?_
 .rintro i p H' v ⟨m,d,c,rfl⟩;let u:=d.seq t;let s:aaj (0+(i:Int)) (aao (o:Int) (a:Int))=((i&&& (o|||a):Nat):Int):=by rw[Sy,bO,bX]
  let es:=Jc n (o|||a) r a i;show#[7778827,bM (λj=> ?_) λj=> ?_]
  .let g:i&&& (o|||a)=0:=by
    have:=RV j;injection this with this
    rw[s]at this;lia
   rw[RF g]at es;let J:i|||a<2^n:=SQ v f;let z:F1 ((aI n r).map int) (aao (0+(i:Int)) (a:Int))=some (.int (r (i|||a):Nat)):=by rw[Sy,bO];show dB r J
   let L:=Cg n (o|||a) r a i;show#[7, .inl #[21,vr.of c],7778,b,3,u,z,77,b,3,u,dB r f,8,q,8,c,66]
   .rw[My];show RD L (RK v (RB p8 ∅))
   show#[_,d.upd l,62];rw[aa,es,R6];rfl
  .let g:¬i&&& (o|||a)=0:=λe=>j (RE (by rw[s,e];rfl));rw[RQ g]at es;show#[_,d,62];rw[es];show c
 .rintro p H' ⟨m,d,c,rfl⟩;rw[Mq M O N f]at c;show#[7,k q H' d l c]
theorem yx:Ca 1 "_law_side" ["_law_first","_law_second"] (Ou K):=by
 show cl 95 ["_law_first","_law_second","_law_found","_law_high","_law_low"] λH Q E nd hr h=> ?_;let(a,b,c,l,f,d,rfl,B,G,h8,k):=h;show#[_, #v["aw2TzaFh1m3eFh0m4eEW2xoD43r2",nd,hr],6];show#[Sw _,λq v=> ?_];let N:vc H (upd H q (.lst [])):=vc.new v;let af:upd H q (.lst []) q=some (.lst ((j6 (j3 c f d) (0*2^c)).map int)):=by rw[aa,Nat.zero_mul];rfl
 generalize upd H q (.lst [])=H0 at*;let p1:0<2^c:=Su ();let M:2^l*2^c=2^(c+l):=by rw[V7,WO]
 let p8:=oN h8;let L:((aI c f).map int).length=2^c:=by rw[My,bg]
 let l2:((aI l d).map int).length=2^l:=by rw[My,bg]
 show#[7,b,2,#[_,N.seq G],6];show aP (K:=K) (a:=b) (xs:=(aI l d).map int) (λi e H'=>vc H H'/\H' q=some (.lst ((j6 (j3 c f d) (i*2^c)).map int))/\∃A g,e=[XS a,XS b,XS q,A,g]) #[N,af,none,none,2] (λi e H' _ z=>z.1.seq G) ?_ ?_
 .rintro i y e H' o ⟨s,r,A,g,rfl⟩;let J:i<2^l:=by rw[<-l2];show(RX.mp o).1
  let t:y= .int ((d i:Nat):Int):=by unfold aI at o;rw[RU,RU,SJ J]at o;show(Sm o).symm
  subst t;let hbound:i*2^c+2^c<=256:=by have:(i+1)*2^c<=2^l*2^c:=Nat.mul_le_mul_right _ J;rw[adl,M]at this;lia
  show#[7,a,2,#[_,s.seq B],6];show aP (K:=K) (a:=a) (xs:=(aI c f).map int) (λj e m=>vc H m/\m q=some (.lst ((j6 (j3 c f d) (i*2^c+j)).map int))/\∃g,e=[XS a,XS b,XS q,some (.int ((d i:Nat):Int)),g]) #[s,r,g,2] (λj e m _ z=>z.1.seq B) ?_ ?_
  .rintro j y e m p ⟨x,n,g,rfl⟩;let u:j<2^c:=by rw[<-L];show(RX.mp p).1
   let t:y= .int ((f j:Nat):Int):=by unfold aI at p;rw[RU,RU,SJ u]at p;show(Sm p).symm
   subst t;let em:(i*2^c+j) % 2^c=j:=by rw[WO,Nat.mul_add_mod];show adG u
   let O:(i*2^c+j) /2^c=i:=by rw[WO,Nat.mul_add_div p1,adE u,aey]
   let U:((f j:Nat):Int)+((d i:Nat):Int)=((j3 c f d (i*2^c+j):Nat):Int):=by unfold j3;rw[em,O];lia
   show#[7, .inl #[21,vr.of n],778,q,8,n,66]
   .rw[My,j6,My,RW];show RD (show i*2^c+j<=256 by lia) ∅
   show#[x.upd v,67];(try dsimp only);rw[aa,U,<-Nat.add_assoc,tY,R6];rfl
  .rintro e m ⟨x,n,g,rfl⟩;rw[L]at n;show#[x,617];rw[adl];show n
 .rintro e H' ⟨s,r,A,g,rfl⟩;rw[l2,M]at r;show#[7,k q H' s v r]
theorem vB:Ca 2 "_law_other" ["_law_told"] (Dd K):=by
 show cl 96 ["_law_told","_law_sizes_here","_law_top"] λH Q E G A h=> ?_;let(b,n,r,rfl,l,M,k):=h;let e:=M.n8;show#[_, #v["aw1cZ0xcZ1x0aw2oHk0irXZ2Z3Z4gk0v0uoHoDl30l1oH20l12",G,A,iJ,f6,["_law_s"],["_law_told","_law_top","_law_sizes_here"],[0,2,1]],6];let p8:=oN e;let ab:0<2^n:=Su ();let g:((aI n r).map int).length=2^n:=by rw[My,bg]
 show#[7,b,_,n,2,l,g,e,λN J=>#[n,2,e,λp1 O a U t=> ?_]];replace a:=J.trans a;let c:=a.seq l;show#[7,b,7, .inl c,86];show#[7,b,7, .inl c,79,by rw[g];lia,6];rw[g,RA];show aQ (λ_=>true) (λi=> .int ((lC n r i:Nat):Int)) (RB p8 ∅) (λi vs H' R S d B f u=> ?_) λpt j z L x=> ?_
 .let(v,rfl):=aA B;simp only[aH,bw,RF];let o:F1 ((Yj n).map int) (0+(i:Int))=some (.int (sz i:Nat)):=by rw[Sy];show sI d
  let s:((2^n:Nat):Int) -1- (0+(i:Int))=((aB (2^n-1) i:Nat):Int):=by have:=FJ (n:=n) (b:=i) d;lia
  let p:F1 ((aI n r).map int) (((2^n:Nat):Int) -1- (0+(i:Int)))=some (.int (r (aB (2^n-1) i):Nat)):=by rw[s];show dB r gq
  let q:F1 ((aI n r).map int) (((2^n:Nat):Int) -1)=some (.int (r (2^n-1):Nat)):=by rw[show((2^n:Nat):Int) -1=((2^n-1:Nat):Int) by lia];show dB r ()
  show#[77,p1,3,vr.of (f.at t),o,6];show#[7778,b,3,f.seq c,p,86];show#[77,b,3,f.seq c,q,86];let m:=u [some (.int (0+(i:Nat)))] H' rfl (vc.refl _);rwa[RF rfl,M.fJ d]at m
 let y:j pt=some (.lst ((aI n (lC n r)).map int)):=by rw[x];unfold bc aI;rw[Sd.mpr (λ_ _=>rfl),RP];rfl
 show k pt j (a.trans L) (a.free z) y
theorem yy:Ca 1 "_law_rank" ["_law_columns","_law_s"] (Qd K):=by
 show cl 97 ["_law_columns","_law_s","_law_steps","_law_k","_law_left","_law_step_here"] λH Q E nd hr h=> ?_;let(a,b,s,rfl,L,h8,hs,k):=h;show#[_, #v["aw2TzaFgk0m3aw4oIl03oJoZ013iaFh2m5ew4MZ1y4oZ245efpZ34ieEW2x4jrk2",nd,hr,qf,bj (me ⋯) ⋯ N1.min_ U1,BX,oR],6];show#[Sw _,λq O=> ?_];let U:vc H (upd H q (.lst [])):=vc.new O;let ay:upd H q (.lst []) q=some (.lst ((d5 (dO (j8 b s 0))).map int)):=aa;generalize upd H q (.lst [])=H0 at*;let A:((d5 b).map int).length=b.length:=by rw[My,d5,My]
 show#[7,a,7, .inl (U.seq L),79,by rw[A];lia,6];rw[A,RA];let a7:∀i,(dO (j8 b s i)).length<=i:=λi=>by have:=Li (j8 b s i);unfold j8 at this;rwa[My,RW]at this
 show cg (n:=b.length) (λi d H'=>∃t x c:Option V,vc H H'/\H' q=some (.lst ((d5 (dO (j8 b s i))).map int))/\d=[XS a,XZ s,XS q,t,x,c])
  #[none,none,none,U,ay,2] ?_ ?_
 .rintro i d H' N ⟨t,x,c,j,f,rfl⟩;let ab:F1 ((d5 b).map int) (0+(i:Int))=some (.int ((b.getD i 0:Nat):Int)):=by rw[Sy];show bB ?_;rw[RU,d5,RU,RR N];simp[N]
  let B:aaj ((s:Int) /2^(0+(i:Int)).toNat) 1=if s.testBit i=true then 1 else 0:=by
   let e1:(0+(i:Int)).toNat=i:=()
   let o:((s:Int) /2^i)=((s/2^i:Nat):Int):=#[5]
   rw[e1,o,gz (S1 _) ∅,RA,show((1:Int).toNat)=1 from rfl,We,kq];by_cases M:s/2^i % 2=1
   .rw[M,RE rfl,RF rfl];rfl
   .rw[RL M,RQ RO];lia
  show#[77,a,3,j.seq L,ab,778988, .inr ?_,6]
  .rw[B];split<;>show#[44]
  (try dsimp only);rw[B];let ev:((b.getD i 0:Nat):Int)*(if s.testBit i=true then 1 else 0)=(((if s.testBit i=true then b.getD i 0 else 0):Nat):Int):=by
   split
   .lia
   .lia
  rw[ev];let em:j8 b s (i+1)=j8 b s i++[if s.testBit i=true then b.getD i 0 else 0]:=by unfold j8;rw[Td,R6];rfl
  generalize (if s.testBit i=true then b.getD i 0 else 0)=v at*;let sl:=a7 i;generalize a3:dO (j8 b s i)=ss at*;show#[7,q,2,#[_,vr.of f],6];show aP (K:=K) (a:=q) (xs:=(d5 ss).map int) (λu d l=>l=H'/\∃c:Option V,d=[XS a,XZ s,XS q,some (.int (0+(i:Int))),some (.int ((red (ss.take u) v:Nat):Int)),c])
   #[2,c,2] (λu d l _ q=>by rw[q.1];show vr.of f) ?_ ?_
  .intro u y d l hu r;let(e,c,es):=r;subst es;let(z,rfl,hz):=aD hu;unfold d5 at hz;rw[RU]at hz;cases p:ss[u]? with
   |none=>rw[p]at hz;cases hz
   |some m=>
    rw[p]at hz;cases hz;show#[7778176];rw[uZ];show#[e,some (.int (m:Int)),6];let o:=HR ss v u p;let e3:(if((red (ss.take u) v^^^m:Nat):Int)<((red (ss.take u) v:Nat):Int)then((red (ss.take u) v^^^m:Nat):Int)else((red (ss.take u) v:Nat):Int))=((red (ss.take (u+1)) v:Nat):Int):=by
     rw[o];unfold mn;by_cases g:red (ss.take u) v^^^m<red (ss.take u) v
     .rw[RF (),RF g]
     .rw[RQ (),RQ g]
    rw[<-e3];rfl
  .intro d l r;let(e,c,es):=r;subst es;subst e;let J:((d5 ss).map int).length=ss.length:=by rw[My,d5,My]
   rw[J,SM];let G:dO (j8 b s (i+1))=Ys ss v:=by rw[em,ja,a3]
   show#[787,bM (λg=> ?_) λg=> ?_]
   .let ax:0<red ss v:=by have:=RV g;lia
    show#[7, .inl #[21,vr.of f],7,q,8,f,(by rw[J];show RD (show ss.length<=8 by lia) ∅),6];show#[111,j.upd O,62];rw[aa,G,Ys,RF ax];unfold d5;rw[R6,R6];rfl
   .let hz:¬0<red ss v:=by have:=UM (Us.mpr g);lia
    show#[111,j,62];rw[G,Ys,RQ hz];show f
 .rintro d H' ⟨t,x,c,j,f,rfl⟩;show#[7,q,7, .inl (vr.of f),6];rw[My,d5,My,Fq h8 hs];show k H' j
theorem yA:Ca 2 "_law_even" ["_law_many","_law_most","_law_numbers"] (K7 K):=by
 show cl 98 ["_law_many","_law_most","_law_numbers","_law_sizes_here","_law_sets","_law_gone","_law_number","_law_s","_law_near"] λH Q E nd hr h=> ?_;let(n,m,b,ns,rfl,hn,hm,hb,dt,k):=h;show#[_, #v["aw3cZ0x0aY4Z1Z2Z3goGi0v0MZ4pAl2010aw5TzafMZ5QZ6pZ7i1MZ8pZ710eFh2m6aw7l4oB6k4aY8Z9ZO0ZO1h5v0MZ4pZO2l1oJ03oH2i0efpAk8ieEW5x7jjrXZ1ZO3ZO4goGi0v0uoHMZO5yl201MZO6xZO7",nd,hr,iJ,["_law_s"],["_law_most","_law_sizes_here"],[1,3],bZ,PW.pt,jH,ud,gm,["_law_one"],["_law_sizes_here","_law_most","_law_s"],[3,1,7],oR,["_law_most","_law_sizes_here","_law_gone"],[1,3,5],bj (me ⋯) ⋯ N1.min_ U1,bz mj ⋯ N1.int_ Uq,(lQ (nP (K:=K) ⋯) (pv 0) (pv 3) ⋯)],6];let p8:=oN hn;let d0:0<2^n:=Su ();show#[7,n,2,hn,λN H1 dm dx cf=> ?_];show#[78,#[994],76];rw[bQ];show#[996];rw[RA];show aQ (λi=>decide (sz i=m)) (λi=> .int (0+(i:Nat))) (RB p8 ∅) (λi vs H' R S hi hv G hk=> ?_) λp3 J dv cn bk=> ?_
 .let(v,rfl):=aA hv;let O:F1 ((Yj n).map int) (0+(i:Int))=some (.int (sz i:Nat)):=by rw[Sy];show sI hi
  show#[77,N,3,vr.of (G.at cf),O,7276];let q:=hk [some (.int (0+(i:Nat)))] H' rfl (vc.refl _);let e2:decide (int (sz i:Nat)=int (m:Int))=decide (sz i=m):=by rw[FT];show S4.mpr ()
  rw[e2];change if decide (sz i=m)=true then _ else _;by_cases c:decide (sz i=m)=true
  .rw[RF c]at q⊢;show#[7,q]
  .rw[RQ c]at q⊢;show q
 rw[BS]at bk;generalize b8:(aeg (λs:Nat=>(s:Int)) (aeJ (λi=>decide (sz i=m)) (range (2^n))))=f at bk;let dh:∀z∈f,∃s:Nat,s<2^n/\z=(s:Int)/\sz s=m:=λz hz=>by rw[<-b8]at hz;let(s,hs,rfl):=RM.mp hz;let(h1,h2):=Sn.mp hs;show#[s,R1.mp h1,2,RV h2]
 let d1:0<f.length:=by
  let(s,h1,h2,_):=KA (ps:=[]) hn hm (.inl rfl);have:(s:Int)∈f:=by rw[<-b8];show RM.mpr #[s,Sn.mpr #[R1.mpr h1,RE h2],2]
  show Ui this
 let ay:=dm.trans cn;let cj:=cn.at cf;show#[Sw _,λq hq=> ?_];let bN:vc J (upd J q (.lst [])):=vc.new hq;let b6:upd J q (.lst []) q=some (.lst (([]:qR).map int)):=aa;generalize upd J q (.lst [])=H3 at*;(try dsimp only);show Cf (λct H'=>∃(gone:qR)(o r A:Option V),vc J H'/\H' q=some (.lst (gone.map int))/\lK n m gone/\(ns=[]->gone=[])/\ct=[XZ n,XZ m,XS b,XS N,XS p3,XS q,o,r,A]) ?_ ?_
 .rintro ct H' ⟨gone,o,r,A,b0,M,d,c2,rfl⟩;show#[78,#[994],76];rw[bQ];show#[996];rw[RA];show aQ (λ_=>true) (λi=> .int ((Ym m gone i:Nat):Int)) (RB p8 ∅) (λi vs a0 R S hi hv G hk=> ?_) λp H4 hp ar ai=> ?_
  .let(v,rfl):=aA hv;simp only[aH,bw,RF];let B:=hk [some (.int (0+(i:Nat)))] a0 rfl (vc.refl _);rw[RF rfl]at B;let O:F1 ((Yj n).map int) (0+(i:Int))=some (.int (sz i:Nat)):=by rw[Sy];show sI hi
   show#[77,N,3,vr.of (G.at (b0.at cj)),O,7176];show#[77,q,7, .inl (vr.of (G.at M)),2,lZ _, .inr #[76]];show#[86];let e:=Lj d i;let e2:YG (int (0+(i:Int))) (gone.map int)=decide ((i:Int)∈gone):=by rw[Sy,oY]
   change R (int ((if(m:Int)<((sz i:Nat):Int)then(m:Int)else((sz i:Nat):Int)) - (if YG (int (0+(i:Int))) (gone.map int)=true then 1 else 0))) _ _;rw[e2,e];show B
  .show k p H4 gone (ay.trans (b0.trans ar)) (ay.free (b0.free hp)) (ai.trans ?_) d c2;unfold bc aI;rw[Sd.mpr (λ_ _=>rfl),RP];rfl
 .intro _ bu;let stop:∃(gone:qR)(o r A:Option V),vc J H3/\H3 q=some (.lst (gone.map int))/\lK n m gone/\(ns=[]->gone=[])/\[some (int (n:Int)),some (.int (m:Int)),some (.ref b),some (.ref N),some (.ref p3),some (.ref q),none,none,none]=[some (.int (n:Int)),some (.int (m:Int)),some (.ref b),some (.ref N),some (.ref p3),some (.ref q),o,r,A]:=
   #[[],none,none,none,bN,b6,#[λz hz=>(by cases hz),DO _, .inl rfl],λ_=>rfl,2]
  show#[787,bM (λcL=> ?_) λc=>aX (bu _ _ stop)];show#[7787,bM (λcN=> ?_) λc=>bu _ _ stop];let m0:0<m:=by have:=RV cL;lia
  let m1:m<n:=by have:=RV cN;lia
  show#[7,b,2,#[_,(ay.trans bN).seq hb],6];show aP (K:=K) (a:=b) (xs:=ns.map int) (λi σ H'=>∃(gone:qR)(o r A:Option V),vc J H'/\H' q=some (.lst (gone.map int))/\lK n m gone/\gone.length<=i/\σ=[XZ n,XZ m,XS b,XS N,XS p3,XS q,o,r,A])
   #[[],none,none,none,bN,b6,#[λz hz=>(by cases hz),DO _, .inl rfl],RJ _,2] (λi σ H' _ ⟨_,_,_,_,G,_⟩=>(ay.trans G).seq hb) ?_ ?_
  .rintro i y σ H' hi ⟨gone,o,r,A,U,M,d,ax,rfl⟩;let(z,rfl,dc):=aD hi;let dV:i<63:=by have:=(RX.mp dc).1;lia
   let b7:=U.at bk;let lp:(0:Int)<(((f.map int).length:Nat):Int):=by rw[My];lia
   let j0:0<=z % (((f.map int).length:Nat):Int):=Vf _ ();let j1:=UO z lp;let(j,hj):=Sl j0;let a7:j<f.length:=by rw[hj,My]at j1;lia
   let O:F1 (f.map int) (z % (((f.map int).length:Nat):Int))=some (.int (f[j]'a7)):=by rw[hj];show Ce (RR a7)
   let(s,hs,es,hsz):=dh _ (SX a7);rw[es]at O;show#[777,p3,7, .inl (vr.of b7),8,lp,p3,3,vr.of b7,O,6];show#[7,q,2,#[_,vr.of M],6];show aG (λx=>(λz:Int=>decide ((m:Int) -2<(sz (z.toNat&&&s):Nat))) (aN x)) (λx=> .int ((λz:Int=>z) (aN x))) (vr.of M) (by rw[My];show RB (show gone.length<=63 by lia) ∅) (λu x vs a0 R S hx hv G hk=> ?_) λpn H4 dw ar ai=> ?_
   .let(v,rfl):=aA hv;let(g,rfl,L):=aD hx;let(t,ht,rfl,dF):=d.size g (RG L);let B:=hk [some (.int (t:Int))] a0 rfl (vc.refl _);let cz:F1 ((Yj n).map int) (aaj (t:Int) (s:Int))=some (.int (sz (t&&&s):Nat)):=by rw[bX];show sI (RD VN ht)
    show#[7778,N,3,vr.of (G.at (U.at cj)),cz,78876];change if decide ((m:Int) -2<(sz (t&&&s):Nat))=true then _ else _;let ep:(λz:Int=>decide ((m:Int) -2<(sz (z.toNat&&&s):Nat))) (aN (int (t:Int)))=decide ((m:Int) -2<(sz (t&&&s):Nat)):=by change decide ((m:Int) -2<(sz (((t:Nat):Int).toNat&&&s):Nat))=_;rw[RA]
    rw[ep]at B;by_cases c:decide ((m:Int) -2<(sz (t&&&s):Nat))=true
    .rw[RF c]at B⊢;show#[7,B]
    .rw[RQ c]at B⊢;show B
   replace ai:=ai.trans (Se (λl=>some (HO.lst l)) (aV (λz:Int=>decide ((m:Int) -2<(sz (z.toNat&&&s):Nat))) (λz:Int=>z) gone));let bt:=ar.at M;show#[7,pn,7, .inl (vr.of ai),276];rw[FT,My,My];show bM (λc=> ?_) λc=> ?_
   .let c1:∀a∈gone,¬((sz (a.toNat&&& ((s:Nat):Int).toNat):Int)>(m:Int) -2):=λa ha b3=>by have h0:=RV c;let cO:a∈gone.filter λz:Int=>decide ((m:Int) -2<(sz (z.toNat&&&s):Nat)):=Sn.mpr #[ha,RE (by rwa[RA]at b3)];have:=Ui cO;lia
    show#[7, .inl #[21,vr.of bt],7,q,8,bt,(by rw[My];show RD (show gone.length<=63 by lia) ∅),6];show#[gone++[(s:Int)],111,(U.trans ar).upd hq,6,#[λg L=> ?_,JU d.far c1, .inr #[m0,m1]],62]
    .rw[aa,R6];rfl
    .rcases R9.mp L with L|L
     .show d.size g L
     .rw[RY.mp L];show#[s,hs,2,hsz]
    .rw[R4];show Sh ax
   .show#[gone,111,U.trans ar,bt,d,92]
  .rintro σ H' ⟨gone,o,r,A,U,M,d,ax,rfl⟩;show bu _ _ #[gone,o,r,A,U,M,d,λe=> ?_,2];rw[e]at ax;show Sx.mp (Nat.le_zero.mp ax)
theorem fZ:Ca 2 "_law_sets_of" ["_law_told","_law_word"] (GY K):=by
 show cl 99 ["_law_told","_law_word","_law_many","_law_sizes_here","_law_found","_law_s","_law_bits","_law_inside","_law_outside"] λH Q E nd hr h=> ?_;let(a,wd,n,ms,rfl,ha,O,hw,k):=h;let p8:=oN O;let d8:0<2^n:=Su ();let U:((aI n (ag ms)).map int).length=2^n:=by rw[My,bg]
 show#[_, #v["aw2cZ0x0aw3cZ1x2afpA1srXZ2Z3Z4gk0v0MZ5RZ6l10l20l2MZ7i0jafpA1srXZ2Z3Z4gk0v0MZ5pAl10l200jaw4TzaFgk0m5aY6Z8Z9Z9g2v0uoGi0aY7ZO0ZO1ZO2h6v0MZ5MZO3QZO4pZO5oJ10iMZO6pZO7l2oH10oHl31i0aY8ZO0ZO8ZO9h6v0MZ5MZO3QZO4pAoJ10iMZO6pAl2oD10l210afMZO3QZO4pA1sQZO4pZOO0l05l35MZO6pAk7ieEW4x5jefMZO3QZO4pA1sMZO6pAk8ieEW4x5jr4",nd,hr,f6,iJ,["_law_s"],["_law_sizes_here","_law_told"],[3,0],bZ,HZ DF DF,tS nc,["_law_k"],[],["_law_bit"],["_law_s","_law_told","_law_sizes_here"],[5,0,3],PW.pt,jH,oR,gm,uc,["_law_s","_law_told"],[5,0],ud],6];show ao λf k1=> ?_;show#[7,a,_,n,2,ha,U,O,λH0 dx=> ?_];show nx k1 ?_;clear k1 f;show ao λf k1=> ?_;show#[7,n,2,O,λo r u _ dm=> ?_];replace u:=dx.trans u;let p:=u.seq ha;show nx k1 ?_;clear k1 f;let L:∀ {H'} {i:Nat},i<2^n->vc r H'->vr K H' o ((Yj n).map int)/\F1 ((Yj n).map int) (i:Int)=some (.int (sz i:Nat)):=λc g=>#[vr.of (g.at dm),sI c];let ab:∀ {i:Nat},i<2^n->F1 ((aI n (ag ms)).map int) (i:Int)=some (.int (ag ms i:Nat)):=λc=>dB _ c;let last:=Eb (n:=n) (ag ms);show ao λf k1=> ?_;show#[727,bM (λN=> ?_) λN=> ?_]
 .let ew:wd= "bases":=V.str.inj (RV N);subst ew;show#[7,a,7, .inl p,79,by rw[U];lia,6];rw[U,RA];show aQ (lG ms (ag ms (2^n-1))) (λs=> .int ((s:Nat):Int)) (RB p8 ∅) (λi vs H' R S c t g m=> ?_) λpt H2 b0 b6 bN=> ?_
  .let(v,rfl):=aA t;let q:=m [some (.int (i:Nat))] H' rfl (vc.refl _);rw[Sy];show#[77,o,3,(L c g).1,(L c g).2,77,a,3,g.seq p,ab c,276];rw[cB];unfold lG at q;by_cases e:sz i=ag ms i
   .rw[RE e];rw[RE e.symm,T1,e]at q;show bS #[7,(1),2,a,3,g.seq p,last,276];rw[cB];by_cases e2:ag ms i=ag ms (2^n-1)
    .rw[RE e2]at q⊢;rw[RF rfl]at q;show bS #[7,q]
    .rw[RL e2]at q⊢;rw[RQ RO]at q;show aX q
   .rw[RL e];rw[RL λz=>e z.symm,Vr,RQ RO]at q;show aX #[7,aX q]
  .show k pt H2 (u.trans b6) (u.free b0) (bN.trans ?_);unfold bc au gb fg;rw[RF rfl,RP];rfl
 show nx k1 ?_;clear k1 f;let nb:wd≠ "bases":=λe=>N (RE (Se str e));show ao λf k1=> ?_;show#[727,bM (λN=> ?_) λN=> ?_]
 .let ew:wd= "frees":=V.str.inj (RV N);subst ew;show#[7,a,7, .inl p,79,by rw[U];lia,6];rw[U,RA];show aQ (j9 ms) (λs=> .int ((s:Nat):Int)) (RB p8 ∅) (λi vs H' R S c t g m=> ?_) λpt H2 b0 b6 bN=> ?_
  .let(v,rfl):=aA t;let q:=m [some (.int (i:Nat))] H' rfl (vc.refl _);rw[Sy];show#[77,o,3,(L c g).1,(L c g).2,77,a,3,g.seq p,ab c,276];rw[cB];unfold j9 at q;by_cases e:sz i=ag ms i
   .rw[RE e];rw[RE e.symm,RF rfl]at q;show bS #[7,q]
   .rw[RL e];rw[RL λz=>e z.symm,RQ RO]at q;show aX q
  .show k pt H2 (u.trans b6) (u.free b0) (bN.trans ?_);unfold bc au gb qB;rw[RQ nb,RF rfl,RP];rfl
 show nx k1 ?_;clear k1 f;let nf:wd≠ "frees":=λe=>N (RE (Se str e));show ao λf k1=> ?_;show#[rh,λd b1=> ?_];let dd:upd r d (.lst []) d=some (.lst ((au ((range 0).filter (Yn wd ms n))).map int)):=aa;let c4:vc r (upd r d (.lst [])):=vc.new b1;generalize upd r d (.lst [])=H2 at*;show nx k1 ?_;clear k1 f;show#[7,a,7, .inl (c4.seq p),79,by rw[U];lia,6];rw[U,RA];show cg (n:=2^n) (λi σ H'=>∃A B G J:Option V,vc r H'/\H' d=some (.lst ((au ((range i).filter (Yn wd ms n))).map int))/\σ=[XS a,some (.str wd),XZ n,XS o,XS d,A,B,G,J]) #[none,none,none,none,c4,dd,2] ?_ ?_
 .rintro i σ H3 c ⟨A,B,G,J,b7,b2,rfl⟩;let i8:i<256:=()
  rw[Sy];show ao λf k1=> ?_;show#[7,n,2996];rw[RA];show aQ (λ_=>true) (λk=> .int ((2^k:Nat):Int)) (RB O ∅) (λj vs H' R S hj t g m=> ?_) λpb H4 d0 a5 bo=> ?_
  .let(v,rfl):=aA t;simp only[aH,bw,RF];show#[78,#[994],6];rw[Sy,bQ];show m [some (.int (j:Int))] H' rfl (vc.refl _)
  let eb:bc (λ_=>true) (λk=>int ((2^k:Nat):Int)) n=(range n).map λk=>int ((2^k:Nat):Int):=by unfold bc;rw[Sd.mpr (λ_ _=>rfl)]
  rw[eb]at bo;let df:=a5.at b2;replace a5:=b7.trans a5;show nx k1 ?_;clear k1 f;show ao λf k1=> ?_;let item:∀ {j:Nat} {x:V},((range n).map λk=>int ((2^k:Nat):Int))[j]?=some x->x= .int ((2^j:Nat):Int)/\j<n:=λ{j x} h=>by
   let jl:j<n:=by have:=(RX.mp h).1;rwa [My,RW]at this
   rw[RU,SJ jl]at h;show#[(Sm h).symm,jl]
  let bl:((range n).map λk=>int ((2^k:Nat):Int)).length<=sizeLine:=by rw[My,RW];show RB O ∅
  let sub:∀ {b:Nat},(aaj (i:Int) ((2^b:Nat):Int))=((i&&&2^b:Nat):Int):=λ{b}=>bX _ _;let c3:∀(pV:V->Bool)(pN:Nat->Bool),(∀k,k<n->pV (.int ((2^k:Nat):Int))=pN k)->(bD pV id ((range n).map λk=>int ((2^k:Nat):Int))).length=((range n).filter pN).length:=λpV pN h=>by unfold bD;rw[VU,My,My];show Se aa7 (Ut λk m=>h k (R1.mp m))
  show#[7,pb,2,#[_,vr.of bo],6];show aG (λv=>Zk ms i (aN v).toNat) id (vr.of bo) bl (λj x vs H' R S hx t g m=> ?_) λpi H5 d1 aj cz=> ?_
  .let(v,rfl):=aA t;let(rfl,hj):=item hx;let q:=m [some (.int ((2^j:Nat):Int))] H' rfl (vc.refl _);let fk:=fc i i8 j ();let ar:=a5.trans g;replace q:if Zk ms i (2^j)=true then _ else _:=q;unfold Zk at q;show#[778876];rw[sub];cases hb:i.testBit j with
   |true=>
    let(f1,f2,f3):=fk.1 hb;rw[RE (show(0:Int)<((i&&&2^j:Nat):Int) by lia)];rw[RE f3,T1]at q;let ei:(i:Int) - ((2^j:Nat):Int)=((i-2^j:Nat):Int):=by have:=Nat.ge_two_pow_of_testBit hb;lia
    let ax:=ab (i:=i-2^j) (RD (ad2 _ _) c);rw[<-ei]at ax;show bS #[7778,a,3,ar.seq p,ax,77,o,3,(L c ar).1,(L c ar).2,8276];rw[FT];cases M:decide (((ag ms (i-2^j):Nat):Int)=(sz i:Int) -1)with
    |true=>rw[M,U9,RQ RO]at q;show aX q
    |false=>rw[M,aej,RF rfl]at q;show bS #[7,q]
   |false=>
    let(_,f2):=fk.2 hb;rw[RL (show¬(0:Int)<((i&&&2^j:Nat):Int) by lia)];rw[RL (show¬0<i&&&2^j by lia),Vr,RQ RO]at q;show aX (aX q)
  let li:=c3 (λv=>Zk ms i (aN v).toNat) (Zt ms i) λk m=>Pu i8 ();generalize bD (λv=>Zk ms i (aN v).toNat) id ((range n).map λk=>int ((2^k:Nat):Int))=dp at cz li;let dh:=aj.at df;let ct:=aj.at bo;replace aj:=a5.trans aj;show nx k1 ?_;clear k1 f;show ao λf k1=> ?_;show#[7,pb,2,#[_,vr.of ct],6];show aG (λv=>BV ms i (aN v).toNat) id (vr.of ct) bl (λj x vs H' R S hx t g m=> ?_) λpo H6 d2 y cE=> ?_
  .let(v,rfl):=aA t;let(rfl,hj):=item hx;let q:=m [some (.int ((2^j:Nat):Int))] H' rfl (vc.refl _);let fk:=fc i i8 j ();let ar:=aj.trans g;replace q:if BV ms i (2^j)=true then _ else _:=q;unfold BV at q;show#[778276];rw[sub,FT];cases hb:i.testBit j with
   |true=>
    let(f1,f2,f3):=fk.1 hb;rw[RL (show¬((i&&&2^j:Nat):Int)=0 by lia)];rw[RL (show¬i&&&2^j=0 by lia),Vr,RQ RO]at q;show aX (aX q)
   |false=>
    let(f1,f2):=fk.2 hb;rw[RE (show((i&&&2^j:Nat):Int)=0 by lia)];rw[RE f2,T1]at q;let ei:(i:Int)+((2^j:Nat):Int)=((i+2^j:Nat):Int):=()
    let ax:=ab (i:=i+2^j) (by rw[f1];show aJ c hj);rw[<-ei]at ax;show bS #[7778,a,3,ar.seq p,ax,77,a,3,ar.seq p,ab c,276];rw[cB];cases M:decide (ag ms (i+2^j)=ag ms i)with
    |false=>rw[M,RQ RO]at q;show aX q
    |true=>rw[M,RF rfl]at q;show bS #[7,q]
  let lo:=c3 (λv=>BV ms i (aN v).toNat) (E1 ms i) λk m=>LP i8 ();generalize bD (λv=>BV ms i (aN v).toNat) id ((range n).map λk=>int ((2^k:Nat):Int))=dw at cE lo;let az:=y.at dh;let dc:=y.at cz;replace y:=aj.trans y;show nx k1 ?_;clear k1 f;let e1:=HP (ms:=ms) O c;let e2:=JR (ms:=ms) O c;rw[<-li]at e1;rw[<-lo]at e2;let ll:((au ((range i).filter (Yn wd ms n))).map int).length<sizeLine:=by rw[My,aO];have:=SA (Yn wd ms n) (range i);rw[RW]at this;show RD this (RK i8 ∅)
  let done:Yn wd ms n i=false->∃A B G J:Option V,vc r H6/\H6 d=some (.lst ((au ((range (i+1)).filter (Yn wd ms n))).map int))/\[some (.ref a),some (.str wd),some (.int (n:Int)),some (.ref o),some (.ref d),some (.int (i:Int)),some (.ref pb),some (.ref pi),some (.ref po)]=[some (.ref a),some (.str wd),some (.int (n:Int)),some (.ref o),some (.ref d),A,B,G,J]:=λh=>#[1111,y,by rw[xg,h,RQ RO,Tc];show az,2];let put:Yn wd ms n i=true->∃A B G J:Option V,vc r (upd H6 d (.lst ((au ((range i).filter (Yn wd ms n))).map int++[int (i:Int)])))/\upd H6 d (.lst ((au ((range i).filter (Yn wd ms n))).map int++[int (i:Int)])) d=some (.lst ((au ((range (i+1)).filter (Yn wd ms n))).map int))/\[some (.ref a),some (.str wd),some (.int (n:Int)),some (.ref o),some (.ref d),some (.int (i:Int)),some (.ref pb),some (.ref pi),some (.ref po)]=[some (.ref a),some (.str wd),some (.int (n:Int)),some (.ref o),some (.ref d),A,B,G,J]:=λh=>#[1111,y.upd b1,by rw[aa,xg,h,RF rfl],2];let ni:∀ {l:List V},decide (int ((l.length:Nat):Int)=int 0)=decide (l.length=0):=λ{l}=>cB l.length 0;rcases hw with h|h|h|h
  .show absurd h nb
  .show absurd h nf
  .subst h;let er:Yn "rings" ms n i=eB ms i:=RF rfl;rw[er,e1]at done put;let dt:decide (str "rings"=str "flats")=false:=∅
   show ao λf k1=> ?_;show#[7276];rw[RE rfl];show bS #[77,a,3,y.seq p,ab c,77,o,3,(L c y).1,(L c y).2,876];rw[show decide (((ag ms i:Nat):Int)<((sz i:Nat):Int))=decide (ag ms i<sz i)from S4.mpr ()];let out:∀ {H'},(∃A B G J:Option V,vc r H'/\H' d=some (.lst ((au ((range (i+1)).filter (Yn "rings" ms n))).map int))/\[some (V.ref a),some (str "rings"),some (int (n:Int)),some (V.ref o),some (V.ref d),some (int (i:Int)),some (V.ref pb),some (V.ref pi),some (V.ref po)]=[XS a,some (.str "rings"),XZ n,XS o,XS d,A,B,G,J])->f [some (V.ref a),some (str "rings"),some (int (n:Int)),some (V.ref o),some (V.ref d),some (int (i:Int)),some (V.ref pb),some (V.ref pi),some (V.ref po)] H':=λx=>by show k1 _ _ #[7276];rw[dt];show aX (aX x)
   cases M:decide (ag ms i<sz i)with
   |false=>rw[M]at done;show aX (aX (out (done rfl)))
   |true=>
    rw[M,T1]at done put;show bS #[7,pi,7, .inl (vr.of dc),276];rw[ni];cases hz:decide (dp.length=0)with
    |false=>show aX (out (done hz))
    |true=>show bS #[7, .inl #[21,vr.of az],7,d,8,az,ll,out (put hz)]
  .subst h;let dv:decide (str "flats"=str "rings")=false:=∅
   let er:Yn "flats" ms n i=eR ms n i:=RQ ∅;rw[er,e2]at done put;show ao λf k1=> ?_;show#[7276];rw[dv];show aX (aX (k1 _ _ #[7276]));rw[RE rfl];show bS #[7,po,7, .inl (vr.of cE),276];rw[ni];cases hz:decide (dw.length=0)with
   |false=>show aX (done hz)
   |true=>show bS #[7, .inl #[21,vr.of az],7,d,8,az,ll,put hz]
 .rintro σ H3 ⟨A,B,G,J,b7,b2,rfl⟩;show#[7,k d H3 (u.trans b7) (u.free b1) (b2.trans ?_)];have:(range (2^n)).filter (Yn wd ms n)=gb wd n ms:=by
   unfold gb Yn;rw[RQ nb,RQ nf];by_cases e:wd= "rings"
   .rw[RF e];simp only[RF e];rfl
   .rw[RQ e];simp only[RQ e];rfl
  rw[this]
theorem rD:Ca 3 "_law_told_by" ["_law_told","_law_many","_law_xs"] (GV K):=by
 show cl 100 ["_law_told","_law_many","_law_xs","_law_word","_law_words","_law_turn"] λH Q E nd hr h=> ?_;let(a,x,n,ms,xs,rfl,ha,A,hx,k):=h;show#[_, #v["aw3lZ0oBl2iiaY4Z1Z2Z2hcZ3y03v0ucZ4x0aw5oBl2ioDk4iaw4oNZ5MZ6MZ75afMZ8QZ9pAoBoLl2iiiiMZO0pZO1k4ieEW4xl4ijrVsxoNTy3Ux14",nd,hr,(jJ [.str "bases", .str "rings", .str "flats"] #[9]),["_law_s"],[],fZ,gp,(cb (cW (K:=K) ⋯) (pv 4) (c7 (pv 5)) eC),cb (cW (K:=K) ⋯) (pv 4) eC,c7,PW.pt,jH,gm,oR],6];show ao λf k1=> ?_;show#[GK,λp hp=> ?_];let m3:=bE (x:=xs.getD 5 0) (show(0:Int)<3 by decide);obtain⟨wd,ar,O⟩:∃wd,F1 [str "bases",str "rings",str "flats"] (xs.getD 5 0 % 3)=some (.str wd)/\HF wd:=by
  rcases(show xs.getD 5 0 % 3=0\/xs.getD 5 0 % 3=1\/xs.getD 5 0 % 3=2 by lia)with e|e|e<;>rw[e]
  .show#[7, .inl rfl]
  .show#[7, .inr (.inl rfl)]
  .show#[7, .inr (.inr rfl)]
 let af:vc H (upd H p (.lst [str "bases",str "rings",str "flats"])):=vc.new hp;show#[7,x,3,(hx.same af).sq,(hx.at (j:=5) ∅).1,84,p,3,vr.of aa,ar,6];generalize upd H p (.lst [str "bases",str "rings",str "flats"])=H1 at*;show nx k1 ?_;clear k1 f ar;show ao λf k1=> ?_;let(cL,lt):=vW (wd:=wd) (ms:=ms) A;let cN:2^n<=16:=R7 (n:=2) ∅ A;show#[77,a,wd,n,ms,2,af.seq ha,9,by rcases O with h|h|h;show .inl h;show .inr (.inr (.inl h));show .inr (.inr (.inr h)),λp2 H2 cj _ ax=>#[p2,2,#[_,vr.of ax],qz (vr.of ax) () (λs r=>RK (lt s r) ()) (λi u m vs H' R S hu hv sm b0 hk=> ?_) λD d g z _=> ?_]]
 .let(v,rfl):=aA hv;subst hu;simp only[aH,bw,RF];show#[7,m,2,b0,λd g=>hk [some (.int (m:Nat))] d rfl g]
 generalize hL:gb wd n ms=l at*;replace g:=(af.trans cj).trans g;show nx k1 ?_;clear k1 f;show ao λf k1=> ?_;let U:((l.map aT).map str).length=l.length:=by rw[My,My]
 show#[7,x,3,(hx.same g).sq,(hx.at (j:=6) ∅).1,7,D,7, .inl (vr.of z),88,by rw[U];lia,6];rw[U];let mt:=bE (x:=xs.getD 6 0) (show(0:Int)<((l.length:Nat):Int)+1 by lia);let(b,et):=Sl mt.1;rw[et]at mt⊢;show nx k1 ?_;clear k1 f;show ao λf k1=> ?_;show#[777,D,7,vr.of z,λp4 ay=> ?_];rw[e8];let G:vc d (upd d p4 (.lst (((l.map aT).map str).drop b))):=vc.new ay;show#[777,D,7,vr.of (G.at z),λp5 az=> ?_];rw[DU];let J:vc (upd d p4 (.lst (((l.map aT).map str).drop b))) (upd (upd d p4 (.lst (((l.map aT).map str).drop b))) p5 (.lst (((l.map aT).map str).take b))):=vc.new az;let er:((l.map aT).map str).drop b++((l.map aT).map str).take b=((l.drop b++l.take b).map aT).map str:=by rw[R6,R6,Wq,Wq,Wr,Wr]
 show#[p4,p5,8,J.at aa,aa,by rw[SW,Sk,U];show RB (show _<=32 by lia) ∅,λp6 M=> ?_];rw[er];let L:=((g.trans G).trans J).trans (vc.new (o:= .lst (((l.drop b++l.take b).map aT).map str)) M);let q:upd (upd (upd d p4 (.lst (((l.map aT).map str).drop b))) p5 (.lst (((l.map aT).map str).take b))) p6 (.lst (((l.drop b++l.take b).map aT).map str)) p6=some (.lst (((l.drop b++l.take b).map aT).map str)):=aa;generalize upd (upd (upd d p4 (.lst (((l.map aT).map str).drop b))) p5 (.lst (((l.map aT).map str).take b))) p6 (.lst (((l.drop b++l.take b).map aT).map str))=H6 at*;let bk:H p6=none:=gw ((g.trans G).trans J) M;let B:∀s,s∈l.drop b++l.take b↔s∈l:=λs=>by rw[R9,<-R9,R9,Or.comm,<-R9,U0]
 let rl:(l.drop b++l.take b).length<=32:=by rw[R4,SW,Sk];lia
 generalize l.drop b++l.take b=m at*;show nx k1 ?_;clear k1 f G J ay az M z er;show zO (λa4 H'=>∃c:List Nat,vc H H'/\H' p6=some (.lst ((c.map aT).map str))/\(∀s,s∈c↔s∈l)/\c.length<=33/\a4=[XS a,XZ n,XS x,some (.str wd),XS p6,XZ b]) ?_ λN=> ?_
 rotate_left
 .show#[7,x,3,(hx.same L).sq,(hx.at (j:=6) ∅).1,8,#[44],8427,bM (λ_=> ?_) λ_=>aX (N _ _ #[m,L,q,B,92])];show#[7,p6,7, .inl (vr.of q),87,bM (λhc=> ?_) λ_=>N _ _ #[m,L,q,B,92]];cases m with
  |nil=>show absurd (RV hc) (by show¬(0:Int)<((0:Nat):Int);decide)
  |cons s0 m=>
   show#[7, .inl #[21,vr.of q],7,p6,3,vr.of q,fq (i:=0) rfl,p6,8,q,by rw[My,My];show RD rl ∅,6];show N _ _ #[s0::m++[s0],L.upd bk,by rw[aa,R6,R6];rfl,λs=> ?_,by rw[R4];change _+1<=33;lia,2];rw[R9,RY,B];show#[λh=>h.elim id λe=>e▸ (B s0).mp RH, .inl]
 rintro a4 H7 ⟨c,cm,bN,mem,zl,rfl⟩;show#[2777,eJ (RD A ∅),bP,λpq b2=> ?_];let s8:vc H7 (upd H7 pq (.lst [str wd,str (aw (n:Int))])):=vc.new b2;show#[7,pq,p6,8,aa,s8.at bN,by rw[My,My];show RB (show 2+c.length<=35 by lia) ∅,λpr b3=> ?_];let ec:[str wd,str (aw (n:Int))]++(c.map aT).map str=(wd::aw (n:Int)::c.map aT).map str:=rfl;rw[ec];let cn:∀s∈c,s<256:=λs r=>RK (lt s ((mem s).mp r)) ();let ok:∀y∈wd::aw (n:Int)::c.map aT,Wo y:=λy t=>by
  rcases RT.mp t with rfl|t
  .rcases O with rfl|rfl|rfl<;>show dX ∅
  .rcases RT.mp t with rfl|t
   .show i3 (RD (show(n:Int).natAbs<=4 from A) ∅)
   .let(s,r,rfl):=RM.mp t;show hV (cn s r)
 let aj:(wd::aw (n:Int)::c.map aT).length<=100:=by rw[R3,R3,My];lia
 show#[_,pr,wd::aw (n:Int)::c.map aT,22,vr.of aa,lX ok aj,k _ wd c _ ((cm.trans s8).trans (vc.new b3)) O (by rw[hL];show mem) () (O0.join ok aj #[5])]
theorem vC:Ca 1 "_law_names" ["_law_xs"] (K4 K):=by
 show cl 101 ["_law_xs","_law_letters","_law_word","_law_some","_law_at_here","_law_names_here","_law_j"] λH Q E nd hr h=> ?_;let(x,xs,rfl,hx,k):=h;show#[_, #v["aw1safpAoBl0iiirlTyZ0Z1oBl0iijafpAoBl0iiiaw2VsxXZ2Z3Z4giv0uZ5rXZ2Z6Z7giv0uMZ8MZ9oD0ijaw3XZ2ZO0ZO1goDioBl0iiv0uoBoLl1ioD0iiaw4oBl0ik3aw5TzaFgim6eEW5xVsxXZ2ZO2ZO3gk3v0uZO4r5",nd,hr,(jJ [.str "bases", .str "rank", .str "even", .str "other"] #[9]),(jJ [.str "side", .str "all", .str "none", .str "net"] #[9]),["_law_k"],["_law_letters","_law_xs"],[1,0],(tU uH (pv 1) (mJ BY (mJ DD (NV K (pv 2) dy) (mJ yh (pv 0) dy)) dy) (λ_ _=>rfl)),["_law_word"],[2],cb Hy (pv 1) eC,c7,["_law_xs"],[0],["_law_letters","_law_some","_law_j","_law_at_here"],[1,3,6,4],(tU uH (pv 1) (mJ BY (mJ yh (NV K (pv 2) (pv 0)) (mJ IC (pv 3) (bz mj ⋯ N1.int_ Uq (Zr (wpe DF (pv 0) (pv 4)))))) dy) (λ_ _=>rfl))],6];show ao λa k1=>k1 _ _ ?_;clear k1 a;let a0:=hx.at (j:=0) ∅;let B:=hx.at (j:=1) ∅;let a2:=hx.at (j:=2) ∅;let a3:=hx.at (j:=3) ∅;let bo:("abcdefghijklmnopqrstuvwxyz":Str).length<=sizeLine:=RB (show("abcdefghijklmnopqrstuvwxyz":Str).length<=26 by decide+kernel) ∅;show ao λa k1=> ?_;show#[7,x,3,hx.sq,a0.1,8427,bM (λ_=> ?_) λ_=>k1 _ _ ?_]
 .show#[P8,λp1 h1=>#[P8,λp2 h2=>#[bP,λp3 h3=> ?_]]];let s1:vc H (upd H p1 (.lst [str "bases",str "rank",str "even",str "other"])):=vc.new h1;let s2:=vc.new (o:=HO.lst [str "side",str "all",str "none",str "net"]) h2;let s3:=vc.new (o:=HO.lst [V.ref p1,V.ref p2]) h3;let g1:=(s2.trans s3).at (show upd H p1 (.lst [str "bases",str "rank",str "even",str "other"]) p1=some (.lst [str "bases",str "rank",str "even",str "other"])from aa);let g2:=s3.at (show upd (upd H p1 (.lst [str "bases",str "rank",str "even",str "other"])) p2 (.lst [str "side",str "all",str "none",str "net"]) p2=some (.lst [str "side",str "all",str "none",str "net"])from aa);let b:=(s1.trans s2).trans s3;let m2:=bE (x:=xs.getD 1 0) (show(0:Int)<2 by decide);rcases(show xs.getD 1 0 % 2=0\/xs.getD 1 0 % 2=1 by lia)with e|e
  .show#[7,x,3,(hx.same b).sq,B.1,84,p3,3,vr.of aa,by rw[e];rfl,k p1 ["bases","rank","even","other"] _ b g1 rfl λz hz=>rZ ?_]
   revert z
   decide+kernel
  .show#[7,x,3,(hx.same b).sq,B.1,84,p3,3,vr.of aa,by rw[e];rfl,k p2 ["side","all","none","net"] _ b g2 rfl λz hz=>rZ ?_]
   revert z
   decide+kernel
 clear k1 a;let let1:∀i:Nat,i<8->0<=xs.getD 1 0/(0+(i:Int)+1) % 26/\xs.getD 1 0/(0+(i:Int)+1) % 26<26:=λi _=>bE ∅;show ao λa k1=> ?_;show#[7,x,3,hx.sq,a0.1,8427,bM (λ_=> ?_) λ_=>k1 _ _ ?_]
 .show#[2,(5),2446];show aQ (λ_=>true) (λi=> .str #[#v[97+(xs.getD 1 0/(0+(i:Int)+1) % 26).toNat]]) ∅ (λi vs H' R S f r b p=> ?_) λpt s b7 O t=> ?_
  .let(v,rfl):=aA r;simp only[aH,bw,RF];let q:=p [some (.int (0+(i:Nat)))] H' rfl (vc.refl _);let li:=let1 i ();show#[77,x,3,(hx.same b).sq,B.1,788,#[99],843,bo,(pE li.1 li.2).1,q]
  rw[show bc (λ_=>true) (λi:Nat=>str #[#v[97+(xs.getD 1 0/(0+(i:Int)+1) % 26).toNat]]) (5:Int).toNat=_ from wx (λi=>97+(xs.getD 1 0/(0+(i:Int)+1) % 26).toNat) 5]at t;let hL:∀c∈(range 5).map (λi:Nat=>97+(xs.getD 1 0/(0+(i:Int)+1) % 26).toNat),c∈nq:=λc u=>by let(i,f,rfl):=RM.mp u;have:=R1.mp f;show(pE (let1 i ()).1 (let1 i ()).2).2
  let A:((range 5).map (λi:Nat=>97+(xs.getD 1 0/(0+(i:Int)+1) % 26).toNat)).length=5:=by rw[My,RW]
  generalize (range 5).map (λi:Nat=>97+(xs.getD 1 0/(0+(i:Int)+1) % 26).toNat)=L at*;show#[_,pt,72,vr.of t,Aa (),6];let cz:=w8 L;generalize aaK "" (L.map λc=>(#[#v[c]]:Str))=z at*;let zl:z.length<=sizeLine:=by rw[<-f7,cz,A];decide
  show#[(4),2446];show aQ (λ_=>true) (λi=> .str (aaH z none (some (((i+1:Nat):Int))))) ∅ (λi vs H' R S f r b p=> ?_) λpn H3 c1 cL a4=> ?_
  .let(v,rfl):=aA r;simp only[aH,bw,RF];let q:=p [some (.int (0+(i:Nat)))] H' rfl (vc.refl _);show#[7787,z,2,zl,6];rw[show(0+(i:Int)+1)=((i+1:Nat):Int) by lia];show q
  .let e:bc (λ_=>true) (λi:Nat=>str (aaH z none (some (((i+1:Nat):Int))))) (4:Int).toNat=((range 4).map λi=>aaH z none (some (((i+1:Nat):Int)))).map str:=by unfold bc;rw[Sd.mpr (λ_ _=>rfl),RP];rfl
   rw[e]at a4;show k pn _ H3 (O.trans cL) a4 (by rw[My];rfl) λy hy=> ?_;let(i,f,rfl):=RM.mp hy;let i4:=R1.mp f;show rZ ?_;rw[J7,cz];show wO (λe=> ?_) (by rw[Sk];lia) λc u=>hL c (Ua u);have:=Se aa7 e;rw[Sk,A]at this;simp at this
 clear k1 a;show ao λa k1=> ?_;let m8:=bE (x:=xs.getD 2 0) (show(0:Int)<8 by decide);obtain⟨m,hm⟩:∃m:Nat,1+xs.getD 2 0 % 8=(m:Int):=#[(1+xs.getD 2 0 % 8).toNat,9];let m1:1<=m/\m<=8:=()
 show#[7,x,3,hx.sq,a2.1,848,1+xs.getD 2 0 % 8,2996];rw[hm,RA];show aQ (λ_=>true) (λi=> .int (xs.getD 1 0/(0+(i:Int)+1) % 26)) (RB m1.2 ∅) (λi vs H' R S f r b p=> ?_) λps s c2 O t=> ?_
 .let(v,rfl):=aA r;simp only[aH,bw,RF];let q:=p [some (.int (0+(i:Nat)))] H' rfl (vc.refl _);show#[7,x,3,(hx.same b).sq,B.1,788,#[99],84,q]
 let es:bc (λ_=>true) (λi:Nat=>int (xs.getD 1 0/(0+(i:Int)+1) % 26)) m=((range m).map λi:Nat=>xs.getD 1 0/(0+(i:Int)+1) % 26).map int:=by unfold bc;rw[Sd.mpr (λ_ _=>rfl),RP];rfl
 rw[es]at t;show nx k1 ?_;clear k1 a es;let N:((range m).map λi:Nat=>xs.getD 1 0/(0+(i:Int)+1) % 26).length=m:=by rw[My,RW]
 generalize ((range m).map λi:Nat=>xs.getD 1 0/(0+(i:Int)+1) % 26)=d at*;show ao λa k1=> ?_;show#[7,x,3,(hx.same O).sq,a3.1,7,ps,7, .inl (vr.of t),8,by rw[My,N];lia,6];generalize xs.getD 3 0 % ((d.map int).length:Nat)=g;show nx k1 ?_;clear k1 a;show ao λa k1=> ?_;show#[rh,λl bk=> ?_];let cN:vc s (upd s l (.lst [])):=vc.new bk;let b8:upd s l (.lst []) l=some (.lst (([]:qq).map str)):=aa;generalize upd s l (.lst [])=H3 at*;show nx k1 ?_;clear k1 a;show#[(4),2446];show cg (n:=4) (λi σ H'=>∃(ns:qq)(v:Option V),vc s H'/\H' l=some (.lst (ns.map str))/\ns.length=i/\(∀z∈ns,bW z)/\σ=[XS x,some (.str "abcdefghijklmnopqrstuvwxyz"),none,XS ps,XX g,XS l,v]) #[[],none,cN,b8,2,(λz hz=>by cases hz),2] ?_ ?_
 .rintro j σ H4 hj ⟨ns,v,U,G,M,hn,rfl⟩;let a7:=U.at t;show#[7, .inl #[21,vr.of G],27,ps,7, .inl (vr.of a7),79,by rw[My,N];lia,6];rw[My,N,RA];let J:∀i:Nat,0<=(d.getD i 0+(0+(j:Int))*(if decide (int (0+(i:Int))=int g)=true then 1 else 0)) % 26/\(d.getD i 0+(0+(j:Int))*(if decide (int (0+(i:Int))=int g)=true then 1 else 0)) % 26<26:=λi=>bE ∅;show aQ (λ_=>true) (λi=> .str #[#v[97+((d.getD i 0+(0+(j:Int))*(if decide (int (0+(i:Int))=int g)=true then 1 else 0)) % 26).toNat]]) (RB m1.2 ∅) (λi vs H' R S f r b p=> ?_) λpt H5 b7 bx a5=> ?_
  .let(v',rfl):=aA r;simp only[aH,bw,RF];let q:=p [some (.int (0+(i:Nat)))] H' rfl (vc.refl _);let ai:F1 (d.map int) (0+(i:Int))=some (.int (d.getD i 0)):=by rw[Sy];show dI (by rw[N];show f)
   show#[777,ps,3,vr.of (b.at a7),ai,7772, .inr #[78, .inl #[99],8843,bo,(pE (J i).1 (J i).2).1,q]]
  rw[wx (λi=>97+((d.getD i 0+(0+(j:Int))*(if decide (int (0+(i:Int))=int g)=true then 1 else 0)) % 26).toNat) m]at a5;let hL:∀c∈(range m).map (λi:Nat=>97+((d.getD i 0+(0+(j:Int))*(if decide (int (0+(i:Int))=int g)=true then 1 else 0)) % 26).toNat),c∈nq:=λc u=>by let(i,f,rfl):=RM.mp u;show(pE (J i).1 (J i).2).2
  let A:((range m).map (λi:Nat=>97+((d.getD i 0+(0+(j:Int))*(if decide (int (0+(i:Int))=int g)=true then 1 else 0)) % 26).toNat)).length=m:=by rw[My,RW]
  generalize (range m).map (λi:Nat=>97+((d.getD i 0+(0+(j:Int))*(if decide (int (0+(i:Int))=int g)=true then 1 else 0)) % 26).toNat)=L at*;let cf:=bx.at G;show#[_,pt,72,vr.of a5,Aa (),l,8,cf,by rw[My,M];show RK hj ∅,6];show#[ns++[aaK "" (L.map λc=>(#[#v[c]]:Str))],_,(U.trans bx).upd bk,by rw[aa,R6];rfl,by rw[R4,M];rfl,λz hz=> ?_,2];rcases R9.mp hz with h|h
  .show hn z h
  .rw[RY.mp h];show rZ ?_;rw[w8];show wO (λe=>by rw[e]at A;simp at A;lia) () hL
 .rintro σ H4 ⟨ns,v,U,G,M,hn,rfl⟩;show#[7,k l ns H4 (O.trans U) G M hn]
theorem qm:Ca 1 "_law_two_rows" ["_law_many","_law_xs"] (Qa K):=by
 show cl 102 ["_law_many","_law_xs","_law_prime","_law_far","_law_live","_law_marks","_law_words","_law_told","_law_s","_law_some"] λH Q E nd hr h=> ?_;let(n,x,xs,rfl,A,hx,k):=h;show#[_, #v["aw2lZ0oBl1iiaw3oIoI2oBl1iioZ1iiaw4XZ2Z3Z4g0v0uMZ5xPZ6oBoLl1ioD0iiiaw5XZ2Z3Z4g0v0uoHoBoLl1ioDoI00iiiaw6oNTqsqUx2qUx0zXZ7Z8Z8h4v0uUx0aw6oN6XZ2Z9ZO0g0v0uUxoIoDl301l20aw7TzaFgoGi0m8aY9Z2ZO1ZO2g0v0MZO3MZO4QZO5pAl20iMZO6pAoJoZO730iil10afpZ62ieY9ZO8ZO9ZOO0h9v0uoB01jeEW7xMZOO1yiMZOO2xMZOO3x9rSyVsx67",nd,hr,(jJ [.int 0, .int 3, .int 5, .int 7, .int 11, .int 97] #[9]),O6,["_law_k"],["_law_xs"],[1],bz mj ⋯ N1.int_ Uq,oR,["_law_one"],[],["_law_far","_law_live","_law_marks"],[3,4,5],["_law_marks","_law_live","_law_s"],[5,4,8],bZ,PW.pt,jH,gm,qf,["_law_mark"],["_law_prime"],[2],bj (me ⋯) ⋯ N1.min_ U1,bj uX ⋯ N1.len_ Vu,bz (uV (K:=K) ⋯ ⋯) ⋯ N1.set_ VL],6];show ao λc k1=> ?_;let m6:=bE (x:=xs.getD 1 0) (show(0:Int)<6 by decide);let(m,c3,ec,hm,b2):=D7 m6.1 m6.2;show#[Q5,λp hp=> ?_];let ai:vc H (upd H p (.lst [int 0,int 3,int 5,int 7,int 11,int 97])):=vc.new hp;show#[7,x,3,(hx.same ai).sq,(hx.at (j:=1) ∅).1,84,p,3,vr.of aa,c3,6];generalize upd H p (.lst [int 0,int 3,int 5,int 7,int 11,int 97])=H1 at*;show nx k1 ?_;clear k1 c c3 m6;show ao λc k1=> ?_;let mq:=bE (x:=xs.getD 4 0) (show(0:Int)<1000003 by decide);let(f1,f2,F,hF,dF,F0,eL):=Kx b2 mq.1 mq.2;show#[77,x,3,(hx.same ai).sq,(hx.at (j:=4) ∅).1,848,f1,8,#[444],8,f2,6];rw[hF];show nx k1 ?_;clear k1 c hF f1 f2 mq;let a5:=hx.at (j:=5) ∅;let a3:=hx.at (j:=3) ∅;show ao λc k1=> ?_;obtain⟨lv,dc,U⟩:∃lv:Nat->Int,(∀i:Nat,(if decide ((0:Int)<xs.getD 5 0/(0+(i:Int)+1) % 4)=true then(1:Int)else 0)=lv i)/\∀i,lv i=0\/lv i=1:=#[_,λ_=>rfl,λi=>by split;show .inr rfl;show .inl rfl];show#[7,(n:Int),2996];show aQ (n:=n) (λ_=>true) (λi=> .int (lv i)) (RB A ∅) (λi vs H' R S L y z t=> ?_) λpl H2 ee aj r=> ?_
 .let(v,rfl):=aA y;simp only[aH,bw,RF];let q:=t [some (.int (0+(i:Nat)))] H' rfl (vc.refl _);rw[<-dc]at q;show#[7,x,3,(hx.same (ai.trans z)).sq,a5.1,788,#[99],848, .inr #[7,q]]
 rw[lR]at r;replace aj:=ai.trans aj;show nx k1 ?_;clear k1 c dc a5;show ao λc k1=> ?_;obtain⟨mk,df,eo⟩:∃mk:Nat->Int,(∀i:Nat,xs.getD 3 0/((0+(i:Int))*(0+(i:Int))+1) % 13-6=mk i)/\∀i,-6<=mk i/\mk i<=6:=#[_,λ_=>rfl,λi=>by have:=bE (x:=xs.getD 3 0/((0+(i:Int))*(0+(i:Int))+1)) (show(0:Int)<13 by decide);lia];show#[7,(n:Int),2996];show aQ (n:=n) (λ_=>true) (λi=> .int (mk i)) (RB A ∅) (λi vs H' R S L y z t=> ?_) λpm H3 ef G J=> ?_
 .let(v,rfl):=aA y;simp only[aH,bw,RF];let q:=t [some (.int (0+(i:Nat)))] H' rfl (vc.refl _);rw[<-df]at q;let sq:0<=(0+(i:Int))*(0+(i:Int))/\(0+(i:Int))*(0+(i:Int))<=4*4:=#[V4 () (),W8 () () () ()];show#[7,x,3,(hx.same (aj.trans z)).sq,a3.1,778, .inl #[99],88,#[99],848,q]
 rw[lR]at J;replace r:=G.at r;replace G:=aj.trans G;show nx k1 ?_;clear k1 c df a3 aj ai;show ao λc k1=> ?_;let nf:n<2^60:=RD A ∅;let mf:m<2^60:=RD b2 ∅;show#[77,eJ mf,77,eJ nf,GK,λpq dm=> ?_];let s4:vc H3 (upd H3 pq (.lst [str "table",str (aw (m:Int)),str (aw (n:Int))])):=vc.new dm;show#[7,pl,2,#[_,vr.of (s4.at r)],6];show aG (λ_=>true) P9 (vr.of (s4.at r)) (by rw[My,My,RW];show RB A ∅) (λi u vs H' R S hu y z t=> ?_) λpr H4 eg ar bx=> ?_
 .let(v,rfl):=aA y;simp only[aH,bw,RF];let(j,hj,rfl):=zK hu;let q:=t [some (.int (lv j))] H' rfl (vc.refl _);show#[77,Pk (U j),q]
 rw[ES]at bx;let dr:=ar.at (show upd H3 pq (.lst [str "table",str (aw (m:Int)),str (aw (n:Int))]) pq=some (.lst [str "table",str (aw (m:Int)),str (aw (n:Int))])from aa);replace ar:=s4.trans ar;show#[pq,pr,8,dr,bx,by rw[My,My,My,RW];show RB (show 3+n<=7 by lia) ∅,λp5 dj=> ?_];let e5:[str "table",str (aw (m:Int)),str (aw (n:Int))]++(((range n).map lv).map aw).map str=(("table":Str)::aw (m:Int)::aw (n:Int)::((range n).map lv).map aw).map str:=rfl;rw[e5];let s5:=vc.new (o:= .lst ((("table":Str)::aw (m:Int)::aw (n:Int)::((range n).map lv).map aw).map str)) dj;let c8:upd H4 p5 (.lst ((("table":Str)::aw (m:Int)::aw (n:Int)::((range n).map lv).map aw).map str)) p5=some (.lst ((("table":Str)::aw (m:Int)::aw (n:Int)::((range n).map lv).map aw).map str)):=aa;generalize upd H4 p5 (.lst ((("table":Str)::aw (m:Int)::aw (n:Int)::((range n).map lv).map aw).map str))=H5 at*;replace s5:=ar.trans s5;replace r:=s5.at r;replace J:=s5.at J;replace G:=G.trans s5;show nx k1 ?_;clear k1 c e5 s4 s5 ar dr bx dm eg dj ee ef hp;show ao λc k1=> ?_;obtain⟨d,az⟩:∃d:Nat->Int,∀i,(mk i+F)*lv i=d i:=#[_,λ_=>rfl];let cz:∀i,(d i).natAbs<10^60:=λi=>by
  have:=eo i;rw[<-az];rcases U i with e|e<;>rw[e]
  .rw[aex];decide
  .rw[V6];lia
 show#[77,(n:Int),2996];show aQ (n:=n) (λ_=>true) (λi=> .str (aw (d i))) (RB A ∅) (λi vs H' R S L y z t=> ?_) λpb H6 ed b4 bN=> ?_
 .let(v,rfl):=aA y;simp only[aH,bw,RF];let q:=t [some (.int (0+(i:Nat)))] H' rfl (vc.refl _);rw[<-az]at q;let b6:=cz i;rw[<-az]at b6;show#[77,pm,3,vr.of (z.at J),sj L,7877,pl,3,vr.of (z.at r),sj L,8, .inr (by rcases U i with e|e<;>rw[e]<;>decide),7,Jp b6,q]
 rw[wu]at bN;let e7:(("table":Str)::aw (m:Int)::aw (n:Int)::((range n).map lv).map aw).map str++((range n).map λi=>aw (d i)).map str=(("table":Str)::aw (m:Int)::aw (n:Int)::(kg n lv d).flatten.map aw).map str:=by rw[D8,R6,RP (g:=aw) (f:=d),<-R6];rfl
 show#[p5,pb,8,b4.at c8,bN,by simp only[My,R3,RW];show RB (show n+1+1+1+n<=11 by lia) ∅,λp7 dk=> ?_];rw[e7];let ok:=Ky (a:=lv) (b:=d) ec A (λi=>by rcases U i with e|e<;>rw[e]<;>decide) cz;let ln:O0 (aaK " " (("table":Str)::aw (m:Int)::aw (n:Int)::(kg n lv d).flatten.map aw)) (("table":Str)::aw (m:Int)::aw (n:Int)::(kg n lv d).flatten.map aw):=zi ok b2 A;let s7:=vc.new (o:= .lst ((("table":Str)::aw (m:Int)::aw (n:Int)::(kg n lv d).flatten.map aw).map str)) dk;let eb:upd H6 p7 (.lst ((("table":Str)::aw (m:Int)::aw (n:Int)::(kg n lv d).flatten.map aw).map str)) p7=some (.lst ((("table":Str)::aw (m:Int)::aw (n:Int)::(kg n lv d).flatten.map aw).map str)):=aa;generalize upd H6 p7 (.lst ((("table":Str)::aw (m:Int)::aw (n:Int)::(kg n lv d).flatten.map aw).map str))=H7 at*;replace s7:=b4.trans s7;replace r:=s7.at r;replace J:=s7.at J;replace G:=G.trans s7;show nx k1 ?_;clear k1 c e7 s7 b4 c8 bN dk ed;show ao λc k1=>#[rh,λpt M=> ?_];let s8:=vc.new (o:= .lst []) M;let ek:upd H7 pt (.lst []) pt=some (.lst ((j6 (YH m n lv mk) 0).map int)):=aa;generalize upd H7 pt (.lst [])=H8 at*;let ez:H pt=none:=gw G M;let np:pt≠pl:=λe=>by rw[e,r]at M;cases M
 let nm:pt≠pm:=λe=>by rw[e,J]at M;cases M
 show nx k1 ?_;clear k1 c;let p8:=oN (n:=n) ();let fe:0<2^n:=Su ();show ao λc k1=> ?_;show#[78,#[994],76];rw[bQ];show#[996];rw[RA];show cg (n:=2^n) (λi σ H'=>∃v8 v9:Option V,vc H7 H'/\H' pt=some (.lst ((j6 (YH m n lv mk) i).map int))/\σ=[XZ n,XS x,XZ m,XX F,XS pl,XS pm,XS p7,XS pt,v8,v9]) #[none,none,s8,ek,2] ?_ ?_
 .rintro s σ H' hs ⟨v8,v9,B,N,rfl⟩;rw[Sy];show ao λN2 k2=> ?_;show#[7,(n:Int),2996];show aQ (n:=n) (λk=>decide (lv k=1)&&s.testBit k) (λk=> .int (mk k)) (RB A ∅) (λi vs H9 R S L y z t=> ?_) λpS H9 e4 ax a0=> ?_
  .let(v,rfl):=aA y;let q:=t [some (.int (0+(i:Nat)))] H9 rfl (vc.refl _);show#[77,pl,3,vr.of ((B.trans z).at r),sj L,276];rw[FT];rcases U i with e|e
   .rw[e]at q⊢;show aX q
   .rw[e]at q⊢;show bS #[77898276];rw[Dk];cases hb:s.testBit i with
    |true=>rw[hb]at q;show bS #[77,pm,3,vr.of ((B.trans z).at J),sj L,q]
    |false=>rw[hb]at q;show aX q
  let e9:bc (λk=>decide (lv k=1)&&s.testBit k) (λk=>int (mk k)) n=(((range n).filter λk=>decide (lv k=1)&&s.testBit k).map mk).map int:=by unfold bc;rw[RP];rfl
  rw[e9]at a0;let dv:=ax.at N;replace ax:=B.trans ax;show nx k2 ?_;clear k2 N2 e9 B N;let fl:((range n).filter λk=>decide (lv k=1)&&s.testBit k).length<=4:=RB (SA _ _) (by rw[RW];show A);show zO (λdV H'=>∃O:Addr,vc H7 H'/\H' pt=some (.lst ((j6 (YH m n lv mk) s).map int))/\H' O=some (.lst ((YI m n lv mk s).map int))/\dV=[XZ n,XS x,XZ m,XX F,XS pl,XS pm,XS p7,XS pt,XZ s,XS O]) ?_ λdt=> ?_
  rotate_left
  .show#[787,bM (λhc=> ?_) λhc=> ?_]
   .let m0:(0:Int)<m:=RV hc;show#[7,pS,2,#[_,vr.of a0],6];show aG (λ_=>true) (Qw m) (vr.of a0) (by rw[My,My];show RB fl ∅) (λi u vs H' R S hu y z t=> ?_) λO HD e3 dx a4=> ?_
    .let(v,rfl):=aA y;simp only[aH,bw,RF];let(j,rfl):=EA hu;show#[778,m0,t [some (.int j)] H' rfl (vc.refl _)]
    .rw[EU]at a4;replace a4:HD O=some (.lst ((((range n).filter λk=>decide (lv k=1)&&s.testBit k).map λk=>mk k % (m:Int)).map int)):=by rw[a4];simp only[RP];rfl
     show dt _ _ #[O,ax.trans dx,dx.at dv,a4,2]
   .let m0:m=0:=by have:¬(0:Int)<m:=λh=>hc (RE h);lia
    let e0:(λk=>mk k % (m:Int))=mk:=funext λk=>by rw[m0];show Int.emod_zero _
    show dt _ _ #[pS,ax,dv,by unfold YI;rw[e0];show a0,2]
  rintro dV H' ⟨O,B,N,hD,rfl⟩;let dl:(YI m n lv mk s).length<=4:=by unfold YI;rw[My];show fl
  obtain⟨D,eD⟩:∃D,YI m n lv mk s=D:=#[7];let tt:YH m n lv mk s=min 2 (aai (λi=>D.getD i 0) D.length).length:=by unfold YH;rw[eD];rfl
  rw[eD]at hD dl;show#[7, .inl #[21,vr.of N],7,O,D,2,vr.of hD,9,λl hl=>#[l,17,aa,(2),7,pt,8,(vc.new hl).at N,66]]
  .rw[My,show(j6 (YH m n lv mk) s).length=s by unfold j6;rw[My,RW]];show RK hs (RB p8 ∅)
  show#[11,(B.trans (vc.new hl)).upd M,62];let ev:(if(((aai (λi=>D.getD i 0) D.length).length:Nat):Int)<2 then(((aai (λi=>D.getD i 0) D.length).length:Nat):Int)else 2)=((YH m n lv mk s:Nat):Int):=by rw[tt];split<;>lia
  rw[aa,tY,R6,<-ev];rfl
 .rintro σ H' ⟨v8,v9,B,N,rfl⟩;show k1 _ _ ?_;clear k1 c;show#[271,p7,72,vr.of (B.at eb),lX ln.ok ln.few,7,bP,λpz dp=>k _ m (kg n lv d) _ pz pt _ (G.trans (B.trans (vc.new dp))) aa ez ((vc.new dp).at N) ok hm (Kv () hm U dF az) (Kw ()) ln]
theorem B7:Ca 1 "_law_at" ["_law_script","_law_k"] (Q7 K):=by
 show cl 103 ["_law_script","_law_k"] λH Q E l f h=> ?_;let(a,ns,i,rfl,g,d,k):=h;show#[_, #v["afpZ01k0rl01jri",l,f,ud],6];let(j,rfl):=Sl g;rw[RA]at k;show#[77,a,7, .inl d,87,bM (λb=> ?_) λb=> ?_]
 .let c:j<ns.length:=by have:=RV b;rw[My]at this;lia
  let e:F1 (ns.map int) (j:Int)=some (.int (ns.getD j 0)):=bB (by rw[RU];simp[c]);show#[77,a,3,d,e,k]
 .let c:ns.length<=j:=by have:=UM (Us.mpr b);rw[My]at this;lia
  rwa[Sj,Vg.mpr c]at k
theorem Ak:Ca 4 "_law_new" ["_law_many","_law_xs"] (Qe K):=by
 show cl 104 ["_law_many","_law_xs","_law_most","_law_high","_law_way","_law_numbers","_law_told","_law_columns","_law_points","_law_ties","_law_words","_law_j"] λH Q E nd hr h=> ?_;let(n,x,xs,rfl,f,hx,k):=h;show#[_, #v["aw2oBl1ioD0iaw3oDioBl1iiaw4oBl1iiafpA4ircZ0y01jafpA4irSyoCoCoCsUx0sUx2cZ1q0q2qTzzjafpA4iaY5Z2Z3Z4goBl1ioDoIi0iv0uoLl1ioD0iaw6cZ1q0q2q5zrSycZ5q6q0q1z6jaw7XZ2Z6Z7g0v0uoBoLl2ioDoI00ioGi1afpA4iaw8oDioBl1iiaY9Z2Z8Z9g0v0uSyoBoLl2ioD0i1oBoLl2ioD0i1afpAoBl1iiieY9Z2ZO0ZO1g0v0uSyoB01oBoD0i1jaw7XZO2ZO3ZO3h9MZO4QZO5v0ZO6uoZO7oGi0oGi1ewO0oNTysUx8XZO2ZO3ZO3h9MZO4QZO5v0ZO6uoCUx0Ux1jaY6ZO8ZO9ZOO0goGi0v0ucZOO1y10afpA4irSyVsxO06jafpA4irSycZ5q6q0q1z6jawO0TqsqsqUx0zafpZOO20ieFg3mO1ewO0oNO0XZ2ZOO3ZOO4g0v0uUxoDoJoZOO5l201ioIioH10jrSyVsxO06",nd,hr,qm,yA,["_law_k"],["_law_xs"],[1],rD,["_law_high","_law_xs"],[3,1],["_law_points","_law_xs"],[8,1],["_law_points"],[8],["_law_one","_law_other_here"],[],jI (K:=K) (n:=2) ⋯ ⋯,bR,(bR (Zp 1) ie),BX,["_law_s"],["_law_columns"],[7],yy,oR,["_law_j","_law_columns"],[11,7],qf],6];show ao λA k1=> ?_;let a1:=hx.at (j:=1) ∅;let a2:=hx.at (j:=2) ∅;let a3:=hx.at (j:=3) ∅;let a4:=hx.at (j:=4) ∅;let mm:=bE (x:=xs.getD 1 0) (show(0:Int)<(n:Int)+1 by lia);let(mo,eA):=Sl mm.1;show#[7,x,3,hx.sq,a1.1,78896];rw[eA]at mm⊢;let c2:mo<=n:=()
 show nx k1 ?_;clear k1 A mm eA;show ao λA k1=> ?_;let mh:=bE (x:=xs.getD 1 0) (show(0:Int)<4 by decide);obtain⟨g,ew⟩:∃g:Nat,1+xs.getD 1 0 % 4=(g:Int):=Sl ();let fy:1<=g/\g<=4:=()
 show#[7,x,3,hx.sq,a1.1,8486];rw[ew];show nx k1 ?_;clear k1 A mh ew;show ao λA k1=> ?_;show#[7,x,3,hx.sq,a2.1,846];let mw:=bE (x:=xs.getD 2 0) (show(0:Int)<6 by decide);generalize xs.getD 2 0 % 6=wy at*;show nx k1 ?_;clear k1 A;show ao λA k1=> ?_;show#[727,bM (λd=> ?_) λd=>k1 _ _ ?_]
 .show#[77,n,x,xs,2,f,hx,λz m M rk p b H' B hp hb hl ok hm tr mt ln=>k z _ p b H' B hp hb hl (wM ok hm tr mt f ln)]
 clear k1 A;show ao λA k1=> ?_;let nf:n<2^60:=RD f ∅;let mf:mo<2^60:=RD (RB c2 f) ∅;let wn:Wo (aw (n:Int)):=i3 (RD (show(n:Int).natAbs<=4 from f) ∅);let wm:Wo (aw (mo:Int)):=i3 (RD (show(mo:Int).natAbs<=4 by change mo<=4;lia) ∅);show#[727,bM (λd=> ?_) λd=>k1 _ _ ?_]
 .let l0:=((O0.one (z:= "even") (dX ∅)).app (O0.one wn) (show 1+1<=100 by decide)).app (O0.one wm) (by change 2+1<=100;decide);rw[show("even":Str)++ " "= "even " from lE (by rw[dW];decide)]at l0;let w1:=wn.wk.1;let w2:=wm.wk.1;let z1:("even "++aw (n:Int)).length<=66:=by rw[yI];show T5 (show("even ":Str).length<=5 by decide) w1
  let z2:("even "++aw (n:Int)++ " ").length<=67:=by rw[yI];show T5 z1 (show(" ":Str).length<=1 by decide)
  show#[77,eJ nf,8,RB (T5 (show("even ":Str).length<=5 by decide) w1) ∅,8,RB (T5 z1 (show(" ":Str).length<=1 by decide)) ∅,77,eJ mf,8,RB (T5 z2 w2) ∅,77,rh,λpe eF=> ?_];show#[n,mo,pe,[],29,c2,vr.of aa,4,λp H' gone B hp hl en ge=>#[bP,λpz ab=> ?_]];let hB:=(vc.new (o:= .lst []) eF).trans B;rw[ge rfl]at hl;show k _ (λs=>min (sz s) mo) pz p _ (hB.trans (vc.new ab)) aa (gw (vc.new (o:= .lst []) eF) hp) (by rw[(vc.new ab).at hl];rfl) (IQ c2 f (Jm () mo) l0)
 clear k1 A;show ao λA k1=> ?_;show#[727,bM (λd=> ?_) λd=>k1 _ _ ?_]
 .show ao λN2 k2=> ?_;let mc:=bE (x:=xs.getD 4 0) (show(0:Int)<2*(n:Int)+2 by lia);let(c,fx):=Sl mc.1;show#[7,x,3,hx.sq,a4.1,78, .inl #[99],88976];rw[fx]at mc⊢;show#[996];rw[RA];show aQ (n:=c) (λ_=>true) (λi=> .int (xs.getD 3 0/(0+(i:Int)+1))) (RB (show c<=10 by lia) ∅) (λi vs H' R S hi N B O=> ?_) λpn H1 hS U aj=> ?_
  .let(v,rfl):=aA N;simp only[aH,bw,RF];let q:=O [some (.int (0+(i:Nat)))] H' rfl (vc.refl _);show#[7,x,3,(hx.same B).sq,a3.1,788,#[99],q]
  rw[lR]at aj;show nx k2 ?_;clear k2 N2;show ao λN2 k2=> ?_;show#[777,n,mo,pn,79,c2,vr.of aj,by rw[My,RW];lia,λp H2 gone L hp hl en _=> ?_];replace hp:=gw U hp;replace L:=U.trans L;let(ms,dw,M):=Cj (Jl () en);rw[h9 dw]at hl;show nx k2 ?_;clear k2 N2;show#[777,p,x,n,ms,xs,2,vr.of hl,f,hx.same L,λz wd zs H3 b0 hw mem zl ln=>#[7,bP,λpz ab=> ?_]];show k _ _ pz p _ ((L.trans b0).trans (vc.new ab)) aa hp ((vc.new ab).at (b0.at hl)) (Aq M f hw mem zl ln)
 clear k1 A;show ao λA k1=> ?_;let eD:0<2^g:=Su ();obtain⟨cf,dF,dt⟩:∃cf:Nat->Nat,(∀i:Nat,xs.getD 3 0/((0+(i:Int))*(0+(i:Int))+1) % ((2^g:Nat):Int)=((cf i:Nat):Int))/\∀i,cf i<2^g:=by
  let key:∀i:Nat,∃c:Nat,xs.getD 3 0/((0+(i:Int))*(0+(i:Int))+1) % ((2^g:Nat):Int)=(c:Int)/\c<2^g:=λi=>by have mm:=bE (x:=xs.getD 3 0/((0+(i:Int))*(0+(i:Int))+1)) (show(0:Int)<((2^g:Nat):Int) by lia);let(c,d):=Sl mm.1;show#[c,d,9]
  show#[λi=>Classical.choose (key i),λi=>(ace (key i)).1,λi=>(ace (key i)).2]
 show#[7,(n:Int),2996];show aQ (n:=n) (λ_=>true) (λi=> .int ((cf i:Nat):Int)) (RB f ∅) (λi vs H' R S hi N B O=> ?_) λpc H1 eE U aj=> ?_
 .let(v,rfl):=aA N;simp only[aH,bw,RF];let q:=O [some (.int (0+(i:Nat)))] H' rfl (vc.refl _);let sq:0<=(0+(i:Int))*(0+(i:Int))/\(0+(i:Int))*(0+(i:Int))<=4*4:=#[V4 () (),W8 () () () ()];show#[7,x,3,(hx.same B).sq,a3.1,778, .inl #[99],88,#[99],78,#[994],8,by rw[bQ];lia,6];rw[bQ,dF];show q
 rw[EW]at aj;show nx k1 ?_;clear k1 A;show d3 (λbx H'=>∃(pc:Addr)(a:qs)(v8 v9 ed:Option V),vc H H'/\H' pc=some (.lst ((d5 a).map int))/\a.length=n/\((wy=2/\∃(pw:Addr)(p:Nat) (ts:List (Nat×Nat)),ed=some (.ref pw)/\H' pw=some (.lst ((("net":Str)::aw (p:Int)::ts.map λt=>gf t.1 t.2).map str))/\a=ts.map fb/\eO p ts/\p<=9)\/(¬wy=2/\∀v∈a,v<2^g))/\bx=[XZ n,XS x,XZ mo,XZ g,XX wy,none,none,XS pc,v8,v9,ed,none]) ?_ ?_
 rotate_left
 .intro _ bu;let ej:∀v∈(range n).map cf,v<2^g:=λv N=>by let(i,_,rfl):=RM.mp N;show dt i
  show#[727,bM (λd=> ?_) λd=>bu _ _ #[pc,1111,U,aj,(by rw[My,RW]), .inr #[(λe=>d (by rw[e];rfl)),ej],2]];clear ej;let hL:wy=2:=V.int.inj (RV d);clear d aj dt dF eD;show ao λN2 k2=> ?_;obtain⟨p,hp,p0,p9⟩:∃p:Nat,(1+xs.getD 1 0 % 9:Int)=(p:Int)/\0<p/\p<=9:=by have:=bE (x:=xs.getD 1 0) (show(0:Int)<9 by decide);show#[(1+xs.getD 1 0 % 9).toNat,999]
  show#[7,x,3,(hx.same U).sq,a1.1,8486];rw[hp];show nx k2 ?_;clear k2 N2 hp;let cE:(0:Int)<(p:Int):=()
  let below:∀z:Int,∃o:Nat,z % (p:Int)=(o:Int)/\o<p:=λz=>by have:=bE (x:=z) cE;let(o,ho):=Sl this.1;show#[o,ho,9]
  show ao λN2 k2=> ?_;show#[7,(n:Int),2996];show w4 (n:=n) (λ_ y G=>Gg p y G) (λx y G G' e h=>h.mono e) (RB f ∅) (λi vs D H' R S hi N B hD O=> ?_) λq H2 ys hq L eL cS hR=> ?_
  .let(v,rfl):=aA N;let(l,hl):=hD;let(o1,e1,l1):=below (xs.getD 3 0/(0+(i:Int)+1));let(o2,e2,l2):=below (xs.getD 4 0/(0+(i:Int)+1));simp only[aH,bw,RF];let eN:=(hx.same (U.trans B)).sq;show#[7,x,3,eN,a3.1,788,#[99],78,cE,7,x,3,eN,a4.1,788,#[99],78,cE,bP,λu hu=> ?_];(try dsimp only);rw[e1,e2];show O _ [some (.int (0+(i:Int)))] _ #[u,(o1,o2),26,l1,l2] rfl (vc.new hu);rw[cy (ah hl hu).symm,aa]
  replace L:=U.trans L;let(ts,ar,a7):=C4 hR;replace cS:ts.length=n:=ar.1.symm.trans cS;show nx k2 ?_;clear k2 N2 hR hq;show d3 (λbx H'=>∃(q:Addr)(ys:List V) (ts:List (Nat×Nat)),vc H H'/\H' q=some (.lst ys)/\bJ H' ys ts/\ts.length=n/\eO p ts/\bx=[XZ n,XS x,XZ mo,XZ g,XX wy,none,none,XS pc,XZ p,XS q,none,none]) ?_ ?_
  rotate_left
  .intro _ bu;show#[7,x,3,(hx.same L).sq,a4.1,8427,bM (λd=> ?_) λd=>bu _ _ #[q,ys,ts,L,eL,ar,cS,a7,2]];show#[7,(n:Int),2996];show w4 (n:=n) (λ_ y G=>Gg p y G) (λx y G G' e h=>h.mono e) (RB f ∅) (λi vs D H' R S hi N B hD O=> ?_) λq3 H3 hM hT b0 fA fI fu=> ?_
   .let(v,rfl):=aA N;let(l,hl):=hD;let(o1,e1,l1):=below (0+(i:Int));let(o2,e2,l2):=below (0+(i:Int)+1);simp only[aH,bw,RF];show#[778,cE,7878,cE,bP,λu hu=> ?_];(try dsimp only);rw[e1,e2];show O _ [some (.int (0+(i:Int)))] _ #[u,(o1,o2),26,l1,l2] rfl (vc.new hu);rw[cy (ah hl hu).symm,aa]
   let(hG,eH,fU):=C4 fu;show bu _ _ #[q3,hM,hG,L.trans b0,fA,eH,eH.1.symm.trans fI,fU,2]
  clear cS a7 ar eL L ts ys q H2 below U H1 eE;rintro bx H1 ⟨q,ys,ts,U,c1,ar,e4,a7,rfl⟩;let ef:ys.length=n:=ar.1.trans e4;show ao λN2 k2=> ?_;show#[7,q,2,#[_,vr.of c1],6];show gT (λx y G=>∃(b:Addr)(t:Nat×Nat),x= .ref b/\H1 b=some (.tup [.int t.1, .int t.2])/\y= .int ((fb t:Nat):Int)) (λx y G G' e h=>h) (vr.of c1) (by rw[ef];show RB f ∅) (λi x vs D H' R S hx N B hD O=> ?_) λpd H2 ws hQ L a5 fD ep=> ?_
  .let(v1,v2,rfl):=sv N;let(b,t,ht,rfl,hb):=ar.at hx;let(t1,t2):=a7 t (RG ht);show#[b,7,GB.of (B.at hb),21786];simp only[bw,RF];show#[78,#[994],78,#[994],86];(try dsimp only);rw[bQ,bQ,uZ];show O _ [some (.int (t.1:Int)),some (.int (t.2:Int))] H' #[b,t,2,hb,2] rfl (vc.refl _)
  let ek:ws=(d5 (ts.map fb)).map int:=(wt ar fD ep).trans (by unfold d5;rw[RP,RP];rfl);rw[ek]at a5;clear ek ep;show nx k2 ?_;clear k2 N2;let pf:p<2^60:=RD p9 ∅;show#[77,eJ pf,bP,λJ d0=> ?_];let s3:vc H2 (upd H2 J (.lst [str "net",str (aw (p:Int))])):=vc.new d0;let c4:=L.trans s3;show#[7,q,2,#[_,vr.of (c4.at c1)],6];show gT (λx y G=>∃(b:Addr)(t:Nat×Nat),x= .ref b/\H1 b=some (.tup [.int t.1, .int t.2])/\y= .str (gf t.1 t.2)) (λx y G G' e h=>h) (vr.of (c4.at c1)) (by rw[ef];show RB f ∅) (λi x vs D H' R S hx N B hD O=> ?_) λpb H4 us gd b6 fB ez fw=> ?_
  .let(v1,v2,rfl):=sv N;let(b,t,ht,rfl,hb):=ar.at hx;let(t1,t2):=a7 t (RG ht);show#[b,7,GB.of ((c4.trans B).at hb),21786];simp only[bw,RF];let w1:Wo (aw (t.1:Int)):=i3 (RD (show(t.1:Int).natAbs<=9 by change t.1<=9;lia) ∅);let w2:Wo (aw (t.2:Int)):=i3 (RD (show(t.2:Int).natAbs<=9 by change t.2<=9;lia) ∅);let q5:=O (.str (gf t.1 t.2)) [some (.int (t.1:Int)),some (.int (t.2:Int))] H' #[b,t,2,hb,2] rfl (vc.refl _);rw[<-KD t.1 () t.2 ()]at q5;show#[77,eJ (RD (show t.1<=9 by lia) ∅),77,eJ (RD (show t.2<=9 by lia) ∅),8,RB (T5 w1.wk.1 w2.wk.1) ∅,q5]
  let fp:=wt ar ez fw;let dx:=b6.at (show upd H2 J (.lst [str "net",str (aw (p:Int))]) J=some (.lst [str "net",str (aw (p:Int))])from aa);show#[J,pb,8,dx,fB,by rw[ez,ef];show RB (show 2+n<=6 by lia) ∅,λp5 f3=> ?_];let e5:[str "net",str (aw (p:Int))]++us=(("net":Str)::aw (p:Int)::ts.map λt=>gf t.1 t.2).map str:=by rw[fp,Sg,Sg,RP];rfl
  rw[e5];let s5:=vc.new (o:= .lst ((("net":Str)::aw (p:Int)::ts.map λt=>gf t.1 t.2).map str)) f3;show bu _ _ #[pd,1111,((U.trans c4).trans b6).trans s5,s5.at (b6.at (s3.at a5)),by rw[My];show e4, .inl #[hL,p5,p,ts,2,aa,2,a7,p9],2]
 clear aj U dF dt cf eE pc H1 eD;rintro bx H1 ⟨pc,a,v8,v9,ed,U,aj,cl,dV,rfl⟩;let p8:=oN (n:=n) ();let hX:0<2^n:=Su ();show ao λA k1=> ?_;show#[78,#[994],76];rw[bQ];show#[996];rw[RA];show aQ (n:=2^n) (λ_=>true) (λi=> .int ((Yh a i:Nat):Int)) (RB p8 ∅) (λi vs H' R S hi N B O=> ?_) λpt H2 ar L a5=> ?_
 .let(v,rfl):=aA N;simp only[aH,bw,RF];show#[77,pc,a,i,(by rw[Sy];rfl),vr.of (B.at aj),9,by rw[cl];show hi,λH5 b7=>O [some (.int (0+(i:Nat)))] H5 rfl b7]
 rw[ER]at a5;let Mc:z8 n (Yh a):=Ax a ();let ec:H pt=none:=gw U ar;replace aj:=L.at aj;let c8:=U.trans L;show nx k1 ?_;clear k1 A;show ao λA k1=> ?_;show#[727,bM (λd=> ?_) λd=>k1 _ _ ?_]
 .let(_,pw,p,ts,rfl,hw,rfl,a7,p9):=dV.resolve_right λh=>h.1 (V.int.inj (RV d));rw[My]at cl;subst cl;let ln:=IT p9 f a7;show#[271,pw,72,vr.of (L.at hw),lX ln.ok ln.few,7,bP,λpz ab=> ?_];show k _ _ pz pt _ (c8.trans (vc.new ab)) aa ec ((vc.new ab).at a5) (Mg p9 f a7 Mc ln)
 clear k1 A;let fm:∀v∈a,v<2^g:=(dV.resolve_left λh=>d (by rw[h.1];rfl)).2;clear dV d U L ar H1;show ao λA k1=> ?_;show#[727,bM (λd=> ?_) λd=>k1 _ _ ?_]
 .let(ms,dw,M):=Cj Mc;rw[h9 dw]at a5;show#[777,pt,x,n,ms,xs,2,vr.of a5,f,hx.same c8,λz wd zs H3 b0 hw mem zl ln=>#[7,bP,λpz ab=> ?_]];show k _ _ pz pt _ ((c8.trans b0).trans (vc.new ab)) aa ec ((vc.new ab).at (b0.at a5)) (Aq M f hw mem zl ln)
 clear k1 A d;subst cl;show ao λA k1=> ?_;show#[77,eJ nf,GK,λJ d0=> ?_];let e2:[str "table",str "2",str (aw (a.length:Int))]=(("table":Str)::aw ((2:Nat):Int)::aw (a.length:Int)::(((range 0).map (fX a)).flatten.map aw)).map str:=by rw[show aw ((2:Nat):Int)= "2" from lE (by rw[qE];decide)];rfl
 rw[e2];let s3:=vc.new (o:= .lst ((("table":Str)::aw ((2:Nat):Int)::aw (a.length:Int)::(((range 0).map (fX a)).flatten.map aw)).map str)) d0;let et:upd H2 J (.lst ((("table":Str)::aw ((2:Nat):Int)::aw (a.length:Int)::(((range 0).map (fX a)).flatten.map aw)).map str)) J=_:=aa;generalize upd H2 J (.lst ((("table":Str)::aw ((2:Nat):Int)::aw (a.length:Int)::(((range 0).map (fX a)).flatten.map aw)).map str))=H3 at*;show nx k1 ?_;clear k1 A e2;let ok:=KH (h:=g) f fy.2;show d3 (λbx H'=>∃(J:Addr)(b1:Option V),vc H2 H'/\H' J=some (.lst ((("table":Str)::aw ((2:Nat):Int)::aw (a.length:Int)::((rg a.length g a).flatten.map aw)).map str))/\bx=[XZ a.length,XS x,XZ mo,XZ g,XX wy,none,XS pt,XS pc,v8,v9,XS J,b1]) ?_ ?_
 rotate_left
 .intro _ bu;show#[787,bM (λd=> ?_) λd=>bu _ _ #[J,none,s3,62]]
  .show#[7,(g:Int),2996];show cg (n:=g) (λi σ H'=>∃(J:Addr)(b1:Option V),vc H2 H'/\H' J=some (.lst ((("table":Str)::aw ((2:Nat):Int)::aw (a.length:Int)::(((range i).map (fX a)).flatten.map aw)).map str))/\σ=[XZ a.length,XS x,XZ mo,XZ g,XX wy,none,XS pt,XS pc,v8,v9,XS J,b1]) #[J,none,s3,et,2] ?_ ?_
   .rintro j σ H' hj ⟨J,b1,B,ha,rfl⟩;rw[Sy];let fl:=o3 a.length ((range j).map (fX a)) λr hr=>by let(i,_,rfl):=RM.mp hr;show HL a i
    have:=V5 (show j<=4 by lia) f;rw[My,RW]at fl;show#[77,(a.length:Int),2996];show aQ (n:=a.length) (λ_=>true) (λi=> .str (aw ((if(a.getD i 0).testBit j=true then 1 else 0)+2*((j:Int) - (i:Int))))) (RB f ∅) (λi vs H5 R S hi N b7 O=> ?_) λpb H5 gd b7 ey=> ?_
    .let(v,rfl):=aA N;simp only[aH,bw,RF];let q:=O [some (.int (0+(i:Nat)))] H5 rfl (vc.refl _);show#[77,pc,3,vr.of ((B.trans b7).at aj),MV hi,78987788, .inl #[44],86];(try dsimp only);rw[La,show(j:Int) - (0+(i:Int))=(j:Int) - (i:Int) by lia];show#[7,Jp (zV f (show j<4 by lia) _ (RM.mpr #[i,R1.mpr hi,2])),q]
    rw[wu]at ey;show#[J,pb,8,b7.at ha,ey,by simp only[My,R3,RW];show RB (show _<=30 by lia) ∅,λp7 f5=>#[p7,_,(B.trans b7).trans (vc.new f5),62]];rw[aa,FL,R6,show(fX a j).map aw=(range a.length).map λi=>aw ((if(a.getD i 0).testBit j=true then 1 else 0)+2*((j:Int) - (i:Int))) by unfold fX;rw[RP];rfl,<-R6];rfl
   .rintro σ H' ⟨J,b1,B,ha,rfl⟩;rw[<-Ee]at ha;show bu _ _ #[J,b1,B,ha,2]
  .let n0:a.length=0:=by show Nat.eq_zero_of_not_pos λh=>d (RE ?_);lia
   rw[show(rg a.length g a).flatten=[] by unfold rg;rw[RF n0];rfl];show et
 rintro bx H4 ⟨pb,b1,b6,dx,rfl⟩;let ln:=zi ok ∅ f;show#[271,pb,72,vr.of dx,lX ln.ok ln.few,7,bP,λpz ab=> ?_];show k _ _ pz pt _ ((c8.trans b6).trans (vc.new ab)) aa ec ((vc.new ab).at (b6.at a5)) (wM ok (eY 2 ∅) (Ed () fm) Mc f ln)
theorem uo:Ca 3 "_law_turned" ["_law_names_here","_law_there","_law_xs"] (GU K cc 1149):=by
 show cl 105 ["_law_names_here","_law_there","_law_xs","_law_first","_law_second","_law_told","_law_more","_law_s","_law_way"] λH Q E nd hr h=> ?_;let(na,t,x,ns,m,xs,p,d,l,rfl,hn,hx,v,no,bt):=h;show#[_, #v["aw3l0oBl2iiaw4l0oBl2iiaw5Z0aw6Z1afpZ25nrSylTqoCs3qoCoCs3sqoCoCoCs3s4zoBl2iinjaw7oBl2ik5aw8oBl2iiafMZ3QZ4pA8iMZ5pZ26nrSylTyoCoCoCs3s4oCoCoCs4s3oBl2iinjafMZ3QZ6pA8iMZ7MZ3QZ4pA8iMZ5pZ8oIk5k6irSyoCs3cZ9x5jafpA8irSyoCoCoCs3scZO0x7cZO1q5q7qizjafpA8irSyoCoCoCs3scZO0x7cZO1q5qiq7zjrSyoCoCoCs3s4cZO2y56",nd,hr,(oP (RD (SE ∅ _) hr.units) (pv 1) (pv 3) tT #[2222]),(oP (RD (SE ∅ _) hr.units) (pv 1) (pv 4) tT #[2222]),qg,PW.pt,jH,gm,Qq,OH,oR,vB,gp,vD,yx],6];let a1:=hx.at (j:=1) ∅;let a2:=hx.at (j:=2) ∅;let a3:=hx.at (j:=3) ∅;let a4:=hx.at (j:=4) ∅;let a5:=hx.at (j:=5) ∅;let(A,c1,B,_):=hn.at (xs.getD 1 0);let(i,c2,ax,_):=hn.at (xs.getD 2 0);let w1:=bb B;let w2:=bb ax;show ao λb k1=>#[77,x,3,hx.sq,a1.1,84,na,3,hn.sq,c1,6];show nx k1 ?_;clear k1 b;show ao λb k1=>#[77,x,3,hx.sq,a2.1,84,na,3,hn.sq,c2,6];show nx k1 ?_;clear k1 b;show ao λb k1=>#[7,t,2,(fK v A).1,71,(fK v A).2,6];show nx k1 ?_;clear k1 b;show ao λb k1=>#[7,t,2,(fK v A).1,71,(fK v i).2,6];show nx k1 ?_;clear k1 b c1 c2 a1 a2;let f2:=λ(a:Str) (h:a.length<=10)=>FP (a:=a) h w1 w2;rcases v.rel A with ⟨u1,v1⟩|⟨h1,G,c,c8,u1,v1,o1,M1,b0,ai⟩
 .rw[v1];show ao λb k1=>#[727,bS ?_];let(z,b6,cj):=Km (P:=A9 l) (bE (x:=xs.getD 3 0) (show(0:Int)<3 by decide)) (Fb B u1) (Mf B u1) (uu B ax (.inl u1));let fs:=f2 "side " ∅;show#[78,(f2 "other " ∅).one,78,(f2 "out " ∅).one,8,cv 71 2 (iw 10 61 ∅ w1.wk.1) ∅ ∅,78,fs.one,8,fs.gap,78,fs.two,GK,λpl b8=> ?_];let s1:=vc.new (o:= .lst [str ("other "++A),str ("out "++A++ " b"),str ("side "++A++ " "++i)]) b8;show#[7,x,3,(hx.same s1).sq,a3.1,84,pl,3,vr.of aa,b6,bP,λq f=> ?_];show no z q _ (s1.trans (vc.new f)) aa cj
 rw[v1];show ao λb k1=>#[727,aX (k1 _ _ ?_)];clear k1 b;let qw:((aI c (ag c8)).map int).length=2^c:=by rw[My,bg]
 let dc:0<2^c:=Su ();show ao λb k1=>#[7,x,3,hx.sq,a4.1,7,G,7, .inl (vr.of ai),8,by rw[qw];lia,6];rw[qw];let ms:=bE (x:=xs.getD 4 0) (show(0:Int)<((2^c:Nat):Int) by lia);let(s,hs):=Sl ms.1;rw[hs]at ms⊢;let U:s<2^c:=()
 let sT:Wo (aT s):=hV (M1.bF U);show k1 [XS na,XS t,XS x,some (.str A),some (.str i),XS G,some ((D1 m i).getD .non),XZ s,none] _ ?_;clear k1 b hs ms a4;show ao λb k1=>#[7,x,3,hx.sq,a3.1,846];let mw:=bE (x:=xs.getD 3 0) (show(0:Int)<4 by decide);generalize xs.getD 3 0 % 4=O at*;show nx k1 ?_;clear k1 b a3;let fs:=f2 "side " ∅;let cn:∀ {Q':VK},(∀H' q,vc H H'->H' q=some (.lst ((aI c (lC c (ag c8))).map int))->Q' (.ref q) H')->Dd K [.ref G] H Q' E0:=λk=>#[G,c,7,vr.of ai,M1,λq H' sm _ f=>k H' q sm f];show d3 (λbu H'=>bu=[some (.ref na),some (.ref t),some (.ref x),some (.str A),some (.str i),some (.ref G),some ((D1 m i).getD .non),some (.int (s:Int)),some (.int O)]/\H'=H/\(O=3->D1 m i≠none)) ?_ ?_
 rotate_left
 .intro _ aj;show#[727,bM (λM=> ?_) λM=>aX (aj _ _ #[22,λe=>absurd (by rw[e];rfl) M])];rcases v.rel i with ⟨u2,y⟩|⟨h2,J,u,N,u2,y,_⟩
  .rw[y];show#[727,bS ?_];let b5:=FP (a:= "side ") ∅ w2 w1;let(z,b6,cj):=PQ (P:=A9 l) (bE (x:=xs.getD 5 0) (show(0:Int)<2 by decide)) (uu B ax (.inr u2)) (uu ax B (.inl u2));show#[78,fs.one,8,fs.gap,78,fs.two,78,b5.one,8,b5.gap,78,b5.two,bP,λpl b8=> ?_];let s1:=vc.new (o:= .lst [str ("side "++A++ " "++i),str ("side "++i++ " "++A)]) b8;show#[7,x,3,(hx.same s1).sq,a5.1,84,pl,3,vr.of aa,b6,bP,λq f=> ?_];show no z q _ (s1.trans (vc.new f)) aa cj
  .rw[y];show#[727,aX (aj _ _ #[by rw[y],2,λ_ e=>by rw[y]at e;cases e])]
 rintro bu H' ⟨rfl,e,w3⟩;rw[e];clear e;clear H';show d3 (λbu H'=>bu=[some (.ref na),some (.ref t),some (.ref x),some (.str A),some (.str i),some (.ref G),some ((D1 m i).getD .non),some (.int (s:Int)),some (.int O)]/\H'=H/\O≠0/\(O=3->∃(h2 J:Addr)(u:Nat)(N:qR),D1 l i=some (.ref h2)/\D1 m i=some (.ref J)/\Pm cc H h2 u N/\z8 u (ag N)/\c+u<=6/\H J=some (.lst ((aI u (ag N)).map int)))) ?_ ?_
 rotate_left
 .intro _ aj;let fo:=(f2 "other " ∅).one;show#[727,bM (λM=>bS ?_) λM=>#[727,bM (λb7=> ?_) λb7=>aX (aj _ _ #[22,λe=>absurd (by rw[e];rfl) M,λe=>absurd (by rw[e];rfl) b7])]]
  .show#[78,fo,7,cn λH' q sm f=>#[bP,λL r=>bt _ c _ L q _ (sm.trans (vc.new r)) aa ((vc.new r).at f) b0 (As v.dt B u1 o1 M1)]]
  .rcases v.rel i with ⟨u2,y⟩|⟨h2,J,u,N,u2,y,o2,M2,dx,bx⟩
   .show absurd y (w3 (V.int.inj (RV b7)))
   let Fy:((aI u (ag N)).map int).length=2^u:=by rw[My,bg]
   let q1:2^c<=64:=R7 (n:=2) ∅ b0;let q2:2^u<=64:=R7 (n:=2) ∅ dx;let e2:(D1 m i).getD .non= .ref J:=by rw[y];rfl
   rw[e2]at aj⊢;show#[7,G,7, .inl (vr.of ai),7,J,7, .inl (vr.of bx),8, .inl (by rw[qw];show#[99]),87,bM (λdr=> ?_) λdv=>aj _ _ #[22,λe=>absurd (by rw[e];rfl) M,λ_=>#[h2,J,u,N,u2,y,o2,M2,6,bx]]]
   .show#[78,fo,7,cn λH' q sm f=>#[bP,λL r=>bt _ c _ L q _ (sm.trans (vc.new r)) aa ((vc.new r).at f) b0 (As v.dt B u1 o1 M1)]]
   .show Ts λdr=>dv (RE ?_);rw[qw,Fy,<-adQ,<-V7];have:=R7 (n:=2) ∅ (show 7<=c+u by lia);lia
 rintro bu H' ⟨rfl,e,w0,w3⟩;rw[e];clear e H' cn;let c4:sz (aB (2^c-1) s)<=6:=RB (Nh c () _ gq) b0;let fo:=FP (a:= "out ") ∅ w1 sT;let fd:=FP (a:= "drawn ") ∅ w1 sT;show ao λb k1=>#[727,bM (λM=> ?_) λdm=>k1 _ _ ?_]
 .show#[78,fo.one,8,fo.gap,7,s,2,M1.bF U,λH1 a7=>#[8,fo.two,77,G,c,s,0,7,vr.of (a7.at ai),M1,9,U,dc,λq H2 bk _ f=>#[bP,λL r=> ?_]]];rw[Nat.or_zero]at f;show bt _ _ _ L q _ ((a7.trans bk).trans (vc.new r)) aa ((vc.new r).at f) c4 (Pg v.dt B u1 o1 M1 U)
 clear k1 b;show ao λb k1=>#[727,bM (λM=> ?_) λdp=>k1 _ _ ?_]
 .show#[78,fd.one,8,fd.gap,7,s,2,M1.bF U,λH1 a7=>#[8,fd.two,77,G,c,0,s,7,vr.of (a7.at ai),M1,9,dc,U,λq H2 bk _ f=>#[bP,λL r=> ?_]]];rw[W2]at f;show bt _ _ _ L q _ ((a7.trans bk).trans (vc.new r)) aa ((vc.new r).at f) c4 (Je v.dt B u1 o1 M1 U)
 clear k1 b;let dV:O=3:=by have g:∀j:Int,¬decide (int O=int j)=true->O≠j:=λj h e=>h (by rw[e];show RE rfl);have:=g 1 dm;have:=g 2 dp;lia
 let(h2,J,u,N,u2,y,o2,M2,dw,bx):=w3 dV;rw[y];show#[78,fs.one,8,fs.gap,78,fs.two,77,G,J,c,u,17,vr.of ai,vr.of bx,9,λq H2 bk _ f=>#[bP,λL r=> ?_]];show bt _ _ _ L q _ (bk.trans (vc.new r)) aa ((vc.new r).at f) dw (Mr v.dt B ax u1 u2 o1 o2 M1 M2 ())
theorem qo:Ca 3 "_law_question" ["_law_names_here","_law_there","_law_xs"] (K1 K cc 1149):=by
 show cl 106 ["_law_names_here","_law_there","_law_xs","_law_first","_law_second","_law_word","_law_told","_law_more","_law_due","_law_s","_law_bits"] λH Q E nd hr h=> ?_;let(na,t,x,ns,m,xs,p,d,l,rfl,hn,hx,hb,no,dr):=h;show#[_, #v["aw3l0oBl2iiaw4l0oBl2iiaw5lZ0oBl2iiaw6Z1aw7Z2afpA5saw8nafMZ3QZ4pZ56nMZ6pZ57new8lZ7MZ8xPZ967jrSyoCoCoCs3s48jafpZO06nrSylTyoCoC5s3oCoCoC5s3sMZ8xPZO1oBl2iiinjafpZO2oBl2iiirSyoCoC5s3cZO3xcZO4y65jaw9oBl2ik6aw8Uxl69afpA5saYO0ZO5ZO6ZO6gcZO7x6v0uoGi0ew8cZO8xMZO9xXZOO0ZOO1ZOO2hO0v0MZOO3pAl1oK20l120jrSyoCoCoCoC5s3scZO8x98",nd,hr,(jJ [.str "bases", .str "rings", .str "flats", .str "frees", .str "rank", .str "closed", .str "same"] #[9]),(oP (RD (SE ∅ _) hr.units) (pv 1) (pv 3) tT #[2222]),(oP (RD (SE ∅ _) hr.units) (pv 1) (pv 4) tT #[2222]),PW.pt,jH,yf,gm,(jJ [.str "no", .str "yes"] #[9]),bz mj ⋯ N1.int_ Uq,(DE (K:=K) ⋯ hr.units),qg,oR,ud,mT,fZ,["_law_k"],[],f6,gp,bj (F6 (K:=K) ⋯ ⋯) ⋯ N1.sum_ aeC,["_law_bit"],["_law_told","_law_s"],[6,9],bZ],6];let a1:=hx.at (j:=1) ∅;let a2:=hx.at (j:=2) ∅;let a3:=hx.at (j:=3) ∅;let a4:=hx.at (j:=4) ∅;let(f,c3,ar,_):=hn.at (xs.getD 1 0);let(B,c4,bN,_):=hn.at (xs.getD 2 0);let w1:=bb ar;let w2:=bb bN;show ao λc k1=>#[77,x,3,hx.sq,a1.1,84,na,3,hn.sq,c3,6];show nx k1 ?_;clear k1 c;show ao λc k1=>#[77,x,3,hx.sq,a2.1,84,na,3,hn.sq,c4,6];show nx k1 ?_;clear k1 c c3 c4 a1 a2;let(W,bo,W9,hW):=Kn (bE (x:=xs.getD 3 0) (show(0:Int)<7 by decide));show ao λc k1=>#[Q4,λpl df=> ?_];let s1:=vc.new (o:= .lst [str "bases",str "rings",str "flats",str "frees",str "rank",str "closed",str "same"]) df;show#[7,x,3,(hx.same s1).sq,a3.1,84,pl,3,vr.of aa,bo,6];show nx k1 ?_;clear k1 c bo;replace hx:=hx.same s1;let cf:=hb;replace hb:=hb.same s1;let dj:=λz q H' (s:vc _ H')=>no z q H' (s1.trans s);let cE:=λz az q H' (s:vc _ H') h a=>dr z az q H' (s1.trans s) h a;clear hn no dr;generalize upd H pl (.lst [str "bases",str "rings",str "flats",str "frees",str "rank",str "closed",str "same"])=H1 at*;show ao λc k1=>#[7,t,2,(fK hb f).1,71,(fK hb f).2,6];show nx k1 ?_;clear k1 c;show ao λc k1=>#[7,t,2,(fK hb f).1,71,(fK hb B).2,6];show nx k1 ?_;clear k1 c;show ao λc k1=>#[727,bM (λM=> ?_) λM=>k1 _ _ ?_]
 .let fs:=FP (a:= "same ") ∅ w1 w2;show ao λN2 k2=>k2 [XS na,XS t,XS x,some (.str f),some (.str B),some (.str W),some ((D1 m f).getD .non),some ((D1 m B).getD .non),some .non,none,none] _ ?_;clear k2 N2;show d3 (λa7 H'=>∃D,a7=[some (.ref na),some (.ref t),some (.ref x),some (.str f),some (.str B),some (.str W),some ((D1 m f).getD .non),some ((D1 m B).getD .non),some D,none,none]/\vc H1 H'/\((D= .non/\CT l ("same "++f++ " "++B))\/∃az,D= .str az/\Gm cc l H ("same "++f++ " "++B) az)) ?_ ?_
  rotate_left
  .intro _ J;rcases cf.rel f with ⟨u1,v1⟩|⟨h1,G,A,y,u1,v1,o1,M1,bx,L⟩
   .let U:(D1 m f).getD .non= .non:=by rw[v1];rfl
    rw[U]at J⊢;show#[727,aX (aX (J _ _ #[7,vc.refl _, .inl #[2,wJ ar bN (.inl u1)]]))]
   .let U:(D1 m f).getD .non= .ref G:=by rw[v1];rfl
    rw[U]at J⊢;show#[727,bS ?_];rcases cf.rel B with ⟨u2,v2⟩|⟨h2,b2,n2,ep,u2,v2,o2,M2,ew,bt⟩
    .let e2:(D1 m B).getD .non= .non:=by rw[v2];rfl
     rw[e2]at J⊢;show#[727,aX (J _ _ #[7,vc.refl _, .inl #[2,wJ ar bN (.inr u2)]])]
    .let e2:(D1 m B).getD .non= .ref b2:=by rw[v2];rfl
     rw[e2]at J⊢;show#[727,bS #[bP,λpq cn=> ?_]];let r:=vc.new (o:= .lst [str "no",str "yes"]) cn;show#[77,G,b2,8,vr.of (r.at (s1.at L)),vr.of (r.at (s1.at bt)), .inr #[7,pq,3,vr.of aa,QK _,J _ _ #[7,r, .inr #[76]]]];rw[<-KC M1 M2];show Ko ar bN u1 u2 o1 o2
  rintro a7 H2 ⟨D,rfl,r,hD⟩;show#[78,fs.one,8,fs.gap,78,fs.two,7,bP,λq hq=> ?_];rcases hD with ⟨rfl,h⟩|⟨az,rfl,h⟩
  .show dj _ q _ (r.trans (vc.new hq)) aa h
  .show cE _ _ q _ (r.trans (vc.new hq)) aa h
 clear k1 c;let wz:=bE (x:=xs.getD 3 0) (show(0:Int)<7 by decide);replace hW:(xs.getD 3 0 % 7<4/\oy W/\W≠ "same")\/(3<xs.getD 3 0 % 7/\qV W/\W≠ "same"):=hW.imp id λh=>h.resolve_right λe=>M (by rw[e];show RE rfl);clear M;let W7:(W++ " ").length<=10:=iw 9 1 W9 ∅;let f0:W.length+(" ":Str).length<=sizeLine:=cv 9 1 W9 ∅ ∅;let f1:=cv 10 61 W7 w1.wk.1 ∅;let f2:=cv (b:= " a") 71 2 (iw 10 61 W7 w1.wk.1) ∅ ∅;rcases cf.rel f with ⟨u1,v1⟩|⟨h1,G,A,y,u1,v1,o1,M1,bx,L⟩
 .let U:(D1 m f).getD .non= .non:=by rw[v1];rfl
  rw[U];show ao λc k1=>#[727,bS #[78,f0,78,f1,78,f0,78,f1,8,f2,bP,λpq cn=> ?_]];let r:=vc.new (o:= .lst [str (W++ " "++f),str (W++ " "++f++ " a")]) cn;let(z,bo,d2):=PR ar u1 hW;show#[7,x,3,(hx.same r).sq,a3.1,848, .inr #[7,pq,3,vr.of aa,bo,bP,λq hq=> ?_]];show dj _ q _ (r.trans (vc.new hq)) aa d2
 let U:(D1 m f).getD .non= .ref G:=by rw[v1];rfl
 rw[U];show ao λc k1=>#[727,aX (k1 _ _ ?_)];clear k1 c U f2;replace L:=s1.at L;show ao λc k1=>#[7,x,3,hx.sq,a3.1,8487,bM (λM=> ?_) λM=>k1 _ _ ?_]
 .let M:=RV M;let N:oy W:=(hW.resolve_right λh=>()).2.1;let d0:W= "bases"\/W= "frees"\/W= "rings"\/W= "flats":=by
   rcases N with h|h|h|h
   .show .inl h
   .show .inr (.inr (.inl h))
   .show .inr (.inr (.inr h))
   .show .inr (.inl h)
  let(g1,g2):=vX (wd:=W) (n:=A) (ms:=y) ();show#[78,f0,78,f1,77,G,W,A,y,2,vr.of L,9,d0,λq2 H2 r _ dF=>#[q2,7,vr.of dF,g1,g2,λH3 s3=>#[bP,λq hq=> ?_]]];show cE _ _ q _ ((r.trans s3).trans (vc.new hq)) aa (A7 N ar u1 o1)
 clear k1 c;let N:qV W:=(hW.resolve_left λh=>M (RE h.1)).2.1;clear M hW wz;let qw:((aI A (ag y)).map int).length=2^A:=by rw[My,bg]
 let ey:0<2^A:=Su ();show ao λc k1=>#[7,x,3,hx.sq,a4.1,7,G,7, .inl (vr.of L),8,by rw[qw];lia,6];rw[qw];let ms:=bE (x:=xs.getD 4 0) (show(0:Int)<((2^A:Nat):Int) by lia);let(s,hs):=Sl ms.1;rw[hs]at ms⊢;let O:s<2^A:=()
 let s8:s<256:=M1.bF O;show nx k1 ?_;clear k1 c hs ms a4 a3;let rl:ag y s<2^60:=RD (RB (M1.wZ s O) (Nh A () s O)) (RD bx ∅);show ao λc k1=>#[77,G,3,vr.of L,dB _ O,7,eJ rl,6];show nx k1 ?_;clear k1 c;show d3 (λa7 H'=>∃dp,a7=[some (.ref na),some (.ref t),some (.ref x),some (.str f),some (.str B),some (.str W),some (.ref G),some ((D1 m B).getD .non),some (.str (Pb W A y s)),some (.int (s:Int)),dp]/\vc H1 H') ?_ ?_
 rotate_left
 .intro _ J;rcases N with rfl|rfl
  .show#[727,aX (J _ _ #[7,vc.refl _])]
  .show#[727,bS ?_];show ao λN2 k2=>#[7,G,_,A,2,vr.of L,qw,9,λH2 r=>#[(A:Int),2996]];show aQ (n:=A) (λ_=>true) (λi=> .int ((2^i:Nat):Int)) (RB bx ∅) (λi vs H' R S hi N sm hk=> ?_) λpl H3 df s3 cm=> ?_
   .let(v,rfl):=aA N;simp only[aH,bw,RF];let q:=hk [some (.int (0+(i:Nat)))] H' rfl (vc.refl _);show#[78,#[994],6];(try dsimp only);rw[show(1*2^(0+(i:Int)).toNat:Int)=((2^i:Nat):Int) by rw[Sy];show bQ i];show q
   rw[lR]at cm;replace s3:=r.trans s3;show nx k2 ?_;clear k2 N2;show#[7,pl,2,#[_,vr.of cm],6];show aG (Z6 y s) id (vr.of cm) (by rw[My,My,RW];show RB bx ∅) (λi u vs H' R S hu N sm hk=> ?_) λpr H4 eo s4 dd=> ?_
   .let(v,rfl):=aA N;let(k,dx,rfl):=zK (g:=λk=>((2^k:Nat):Int)) hu;let q:=hk [some (.int ((2^k:Nat):Int))] H' rfl (vc.refl _);let bt:=vr.of (K:=K) ((s3.trans sm).at L);show#[7778,G,3,bt,(by rw[bO];show dB _ (aJ O dx)),77,G,3,bt,dB _ O,276];rw[FT];let ec:Z6 y s (.int ((2^k:Nat):Int))=decide (((ag y (s|||2^k):Nat):Int)=((ag y s:Nat):Int)):=by change decide (ag y (s||| ((2^k:Nat):Int).toNat)=_)=_;rw[RA];show S4.mpr #[λh=>(),λh=>()]
    rw[ec]at q;cases hd:decide (((ag y (s|||2^k):Nat):Int)=((ag y s:Nat):Int))with
    |true=>rw[hd]at q;show bS #[7,q]
    |false=>rw[hd]at q;show aX q
   rw[z9]at dd;show#[pr,7,vr.of dd,fj y A s,6,RK (xq () O) (gO ()),λH5 s5=>J _ _ #[7,(s3.trans s4).trans s5]];rw[zq,CF () O];rfl
 rintro a7 H2 ⟨dp,rfl,r⟩;let f3:=FP (a:=W++ " ") W7 w1 (hV s8);show#[78,f0,78,f3.one,8,f3.gap,7,s,2,s8,λH3 s3=>#[8,f3.two,7,bP,λq hq=> ?_]];show cE _ _ q _ ((r.trans s3).trans (vc.new hq)) aa (MZ N ar () O u1 o1)
theorem yw:Ca 12 "_law_step" ["_law_desk","_law_there","_law_names_here","_law_xs"] (KS K cc 1149):=by
 show cl 107 ["_law_desk","_law_there","_law_names_here","_law_xs","_law_name","_law_line","_law_due","_law_told"] λH Q E nd hr h=> ?_;let(p,t,O,x,d,l,m,ns,xs,rfl,B,hl,N,hx,k):=h;show#[_, #v["aw4l2oBl3iiafpAoBl3iiiaQZ0cZ1q2q1q3zMZ2QZ3m5Z4afpZ56nrcZ6y05jrcZ7q0q5q6zjafpAoBl3iiieQZ0cZ8q2q1q3zMZ2QZ3m5Z9eQZ0cZO0yoBoLl3iii3MZ2QZ3m5Z9afpZ57nrcZ6y0oCoC4s5jaZO1rcZ7q0qoCoC4s5qsz",nd,hr,ON,qo,jI (K:=K) (n:=2) ⋯ ⋯,bR,(bR (Yr 6 nd) ie),qg,lh,j7,uo,(bR (Yr 7 nd) ie),Ak,(ya (RD (SE ∅ _) hr.units) (pv 1) (pv 4) (pv 7) ⋯)],6];let a0:=hx.at (j:=0) ∅;let a7:=hx.at (j:=7) ∅;let(y,bk,ny,_):=N.at (xs.getD 7 0);let w1:=bb ny;let a3:∀H',vc H H'->Q (.bl true) H':=λH' s=>k l m H' (Le s) (B.same s) (Uh _) (Uh _);show ao λU k1=>#[77,x,3,hx.sq,a7.1,84,O,3,N.sq,bk,6];show nx k1 ?_;clear k1 U bk a7;show ao λU k1=>#[7,x,3,hx.sq,a0.1,8427,bM (λM=> ?_) λM=>k1 _ _ ?_]
 .show ao λf k2=>#[777,O,t,x,ns,m,xs,p,d,l,2,N,hx,B,λz q G a g i=> ?_,λz b0 q G a g ask=> ?_]
  .show#[q,7,GB.of g,2178,nx k2 ?_];clear k2 f;let c:=B.same a;show ao λf k2=>#[727,bS #[77,p,z,2,iX c.dk,λQ' E' o=>yE c.dk () i o,λA L=>a3 A (a.trans L)]]
  .show#[q,7,GB.of g,2178,nx k2 ?_];clear k2 f;let c:=B.same a;show ao λf k2=>#[727,aX (k2 _ _ ?_)];show#[777,p,z,b0,2,iX c.dk,λQ' o=>DZ c.dk () a ask λA L=>o A (a3 A (a.trans L))]
 clear k1 U M;show d3 (λbx H'=>∃z D,bx=[some (.ref p),some (.ref t),some (.ref O),some (.ref x),some (.str y),some (.str z),none,some D]/\vc H H'/\((D= .non/\A9 l z)\/∃(n:Nat)(u:Nat->Nat)(b:Addr),D= .ref b/\H' b=some (.lst ((aI n u).map int))/\n<=6/\Zd cc l t H n z u)) ?_ ?_
 rotate_left
 .intro _ ar;show#[7,x,3,hx.sq,a0.1,8427,bM (λM=> ?_) λM=> ?_]
  .show#[777,O,t,x,ns,m,xs,p,d,l,2,N,hx,B,λz q G a g i=> ?_,λz n u q b G a g J n6 mk=> ?_]
   .show#[q,7,GB.of g,2178,ar _ _ #[z, .non,2,a, .inl #[2,i]]]
   .show#[q,7,GB.of g,2178,ar _ _ #[z, .ref b,2,a, .inr #[n,u,b,2,J,n6,mk]]]
  .let m5:=bE (x:=xs.getD 0 0/3) (show(0:Int)<5 by decide);let(n,b5):=Sl m5.1;show#[7,x,3,hx.sq,a0.1,8,#[44],847,n,x,xs,(by rw[<-b5];rfl),9,hx,λz u q b G a g cj J i=> ?_];show#[q,7,GB.of g,2178,ar _ _ #[z, .ref b,2,a, .inr #[n,u,b,2,J,9,i.mk cc l t H]]]
 rintro bx G ⟨z,D,rfl,a,hD⟩;let c:=B.same a;let f1:y.length+(" = ":Str).length<=sizeLine:=cv 61 3 w1.wk.1 ∅ ∅;let f2:∀ {ws:qq},O0 z ws->(y++ " = ").length+z.length<=sizeLine:=λh=>cv 64 6200 (iw 61 3 w1.wk.1 ∅) h.len ∅;rcases hD with ⟨rfl,i⟩|⟨n,u,b,rfl,J,n6,mk⟩
 .let f3:=i;let(v,r,_,_,ln,_):=f3;show ao λf k2=>#[727,bS #[778,f1,78,f2 ln,p,7,iX c.dk,λQ' E' o=>IP c.dk () ny i o,λA L=>a3 A (a.trans L)]]
 let f3:=mk;let(v,r,_,_,ln,_):=f3;show ao λf k2=>#[727,aX (k2 _ _ ?_)];clear k2 f;show ao λf k2=> ?_;show#[777,t,7,Gj.k (k:=aax y) c.dt (RD hl.2 ∅),k2 _ _ ?_];clear k2 f;let(dx,hp,hd):=c.dk;show#[778,f1,78,f2 ln,p,17,#[dx,_,(ak λe=>by rw[e,c.dt]at hp;cases hp).trans hp,CD d ∅],λQ' o=>Jn c hl a mk ny n6 J λl' m' H' sb bo e1 e2=>o H' (k l' m' H' (gX.pre a sb) bo e1 e2)]
theorem yz:Ca 12 "_law_last" ["_law_desk","_law_there","_law_name"] (Oo K cc 1149):=by
 show cl 108 ["_law_desk","_law_there","_law_name","_law_word"] λH Q E nd z h=> ?_;let(p,t,d,l,m,y,rfl,b,j,k):=h;show#[_, #v["afMZ0RZ1Z221rQZ3cZ4y0oCs2MZ5cZ4y0oCs2jaFhZ6m3efMZ7MZ8cZ9q0qoCoC3s2qcZO0xcZO1yZO23zrbjrb",nd,z,xZ,qd,(RD (SE ∅ _) z.units),qc,lh,nK,(jJ [.str "bases", .str "frees"] #[9]),k9,cI,j7,mT,fZ,(yc (RD (SE ∅ _) z.units) (pv 1) (pv 2) (by intro _ _;rfl))],6];let J:=bb j;let O:("bases ":Str)= "bases"++ " ":=ky ∅;let U:("frees ":Str)= "frees"++ " ":=ky ∅;show ao λL k1=>#[77,t,7,j2.k (k:=aax y) b.dt,76];rcases b.rel y with ⟨u1,r⟩|⟨h1,x,n1,af,u1,r,o1,M1,b6,g⟩
 .let nb:=qv (v:= "bases") (.inl rfl) j u1;let nf:=qv (v:= "frees") (.inr (.inr (.inr rfl))) j u1;rw[<-O]at nb;rw[<-U]at nf;rw[show dA m (aax y)=none from r];show bS #[778,cv 10 61 ∅ J.wk.1 ∅,p,7,iX b.dk,λM E' f=>yE b.dk (RB b.few.1 ∅) nb f,λH1 s1=>#[true,2,bS ?_]];let g:=b.same s1;show#[778,cv 10 61 ∅ J.wk.1 ∅,p,7,iX g.dk,λM E' f=>yE g.dk (RB b.few.1 ∅) nf f,λc e=>k c (s1.trans e)]
 rw[show dA m (aax y)=some (.ref x)from r];show aX (k1 _ _ ?_);clear k1 L O U;show ao λL k1=>#[bP,λpl bk=> ?_];let s0:=vc.new (o:= .lst [str "bases",str "frees"]) bk;let ab:upd H pl (.lst [str "bases",str "frees"]) pl=some (.lst [str "bases",str "frees"]):=aa;generalize upd H pl (.lst [str "bases",str "frees"])=H0 at*;show#[pl,2,#[_,vr.of ab],aP (K:=K) (a:=pl) (xs:=[str "bases",str "frees"]) (λi s c=>vc H0 c/\∃G,s=[XS p,XS t,some (.str y),G]) #[vc.refl _,none,2] (λi s c _ q=>vr.of (q.1.at ab)) ?_ ?_]
 .rintro i u s c A ⟨az,G,rfl⟩;let hi:i<2:=(RX.mp A).1;obtain⟨W,rfl,hv,N,hw⟩:∃W:Str,u= .str W/\oy W/\W.length<=9/\(W= "bases"\/W= "frees"\/W= "rings"\/W= "flats"):=by
   rcases(show i=0\/i=1 by lia)with rfl|rfl
   .cases A;show#["bases",2, .inl rfl,4, .inl rfl]
   .cases A;show#["frees",2, .inr (.inr (.inr rfl)),4, .inr (.inl rfl)]
  let e:=s0.trans az;let a7:=b.same e;let(g1,g2):=vX (wd:=W) (n:=n1) (ms:=af) ();show#[778,cv 9 1 N ∅ ∅,78,cv 10 61 (iw 9 1 N ∅) J.wk.1 ∅,77,t, .ref x,2,r▸j2.k (k:=aax y) a7.dt,7,x,W,n1,af,2,vr.of (e.at g),9,hw,λq H3 s3 _ hq=>#[q,7,vr.of hq,g1,g2,λH4 s4=> ?_]];let B:=(e.trans s3).trans s4;show#[p,17,iX (b.same B).dk,λM f=>DZ (b.same B).dk (RB b.few.1 ∅) B (A7 hv j u1 o1) λH5 s5=>f H5 #[true,2,aX #[((az.trans s3).trans s4).trans s5,7]]]
 .rintro s c ⟨e,G,rfl⟩;show k1 _ _ (k c (s0.trans e))
theorem HG:eQ ["_law_script","_law_names_here","_law_desks","_law_kept","_law_cells","_law_k","_law_name"] ["_law_script"] (aC tF):=Dm
theorem Pc(F:Zf K "law" "law" tF f fd):dJ P w K mg base X6 13 f fd ["_law_script"] (Df K):=by
 show F.ok HG λez A eP eT H vs Q E hr h=> ?_;let(a,ns,rfl,ha,eE,k):=h;show#[_, #v["aw1cZ0xcZ1ycZ2y0iiaw2TyZ3Z3aw3TyZ4Z4aw4RZ50MZ6iMZ6iaFgk4m5efMZ7MZ8cZ9ql2oB5iql3oB5iq1qcZ1yl45oD5izrbjaFgim5eFh1m6efMZ7MZ8cZO0ql25ql35q6zrbjrb",HG.nd,hr,vC,uq,B7,(LD nDk hr ∅ ⋯),tW,cb (cW (K:=K) ⋯),c7,k9,cI,yw,yz],6];show ao λB k1=>#[7,a,ns,0,24,ha,_,0,24,λpx xs H1 g hx xl xn=>#[px,xs,2,#[vr.of hx,xl,xn],λpn ys H2 U r yl eb=> ?_]];replace ha:=(g.trans U).seq ha;show nx k1 ?_;clear k1 B hx xl xn xs px g U H1 H;show ao λB k1=>λp0 x0 cj dx eL=>#[p0,x0,2,aa,λd0 HA eo dF h0=>#[2,λp1 x1 bx cm eN=>#[p1,x1,2,aa,λd1 HB dw dV h1=>#[2,bP,λO dj=> ?_]]]];let sA:vc H2 HA:=λb o e=>dF b o (ba cj dx b o e) (ah e cj);let sB:vc HA HB:=λb o e=>dV b o (ba bx cm b o e) (ah e bx);let sC:=vc.new (o:= .lst [V.ref p0,V.ref p1]) dj;let v:upd HB O (.lst [V.ref p0,V.ref p1]) O=some (.lst [V.ref p0,V.ref p1]):=aa;generalize upd HB O (.lst [V.ref p0,V.ref p1])=H3 at*;let(y0,g0,ai):=h0;let dd:d0≠d1:=ah ai (gw (ba bx cm) dw);let ei:mz 1149 H3 p0 d0 []:=mz.same #[y0,g0,ai] (sB.trans sC);let ej:mz 1149 H3 p1 d1 []:=h1.same sC;let s3:vc H2 H3:=(sA.trans sB).trans sC;show nx k1 ?_;clear k1 B dF dV sA sB sC eo dw cj bx dx cm h1 g0 ai;show ao λB k1=>λt0 bN t1 a3=>#[bP,λN dh=> ?_];let sD:=vc.new (o:= .dK []) bN;let sE:=vc.new (o:= .dK []) a3;let sF:=vc.new (o:= .lst [V.ref t0,V.ref t1]) dh;let cf:upd H3 t0 (.dK []) t0=some (.dK []):=aa;let tt:t0≠t1:=ah cf a3;let dp:=sF.at (sE.at cf);let dr:=sF.at (show upd (upd H3 t0 (.dK [])) t1 (.dK []) t1=some (.dK [])from aa);let L:upd (upd (upd H3 t0 (.dK [])) t1 (.dK [])) N (.lst [V.ref t0,V.ref t1]) N=some (.lst [V.ref t0,V.ref t1]):=aa;let sG:=(sD.trans sE).trans sF;let(y0,g0,ai):=ei;let(y1,g1,bk):=ej;let cS:d0≠t0:=ah ai bN;let c2:d1≠t0:=ah bk bN;let c1:d0≠t1:=ah (sD.at ai) a3;let c3:d1≠t1:=ah (sD.at bk) a3;generalize upd (upd (upd H3 t0 (.dK [])) t1 (.dK [])) N (.lst [V.ref t0,V.ref t1])=H4 at*;let two:Yu cc 1149 H4 p0 d0 t0 p1 d1 t1 0:=#[#[[],[],#[#[y0,sG.at g0,sG.at ai],dp,cS,#[44],λz=> .inl #[22]],RJ _,RJ _],#[[],[],#[#[y1,sG.at g1,sG.at bk],dr,c3,#[44],λz=> .inl #[22]],RJ _,RJ _],dd,c1,c2.symm,tt];replace ha:=(s3.trans sG).seq ha;replace r:=(s3.trans sG).at r;replace v:=sG.at v;show nx k1 ?_;clear k1 B sG sF sE sD s3 cf dp dr g0 g1 ai bk bN a3 dh dj dd cS c2 c1 c3 tt;let(J,ec,hc):=Kb ns (some 1) (some 63);show ao λB k1=>#[777,a,7,ha,λM df=> ?_];rw[ec];let sH:=vc.new (o:= .lst (J.map int)) df;let ax:upd H4 M (.lst (J.map int)) M=some (.lst (J.map int)):=aa;generalize upd H4 M (.lst (J.map int))=H5 at*;replace two:=two.same sH;replace r:=sH.at r;replace v:=sH.at v;replace L:=sH.at L;show nx k1 ?_;clear k1 B sH ha df ec;let eD:J.length<=63:=()
 show ao λB k1=>#[7,M,7, .inl (vr.of ax),J.length,by rw[My],996];show cg (n:=J.length) (λi s H'=>Yu cc 1149 H' p0 d0 t0 p1 d1 t1 i/\H' pn=some (.lst (ys.map str))/\H' O=some (.lst [V.ref p0,V.ref p1])/\H' N=some (.lst [V.ref t0,V.ref t1])/\H' M=some (.lst (J.map int))/\∃v5,s=[XS a,XS pn,XS O,XS N,XS M,v5,none]) #[two,r,v,L,ax,none,2] ?_ ?_
 .rintro i s H' hi ⟨two,r,v,L,ax,v5,rfl⟩;let(p,d,t,p',d',t',b7,b8,bu):=Gs (c:=cc) (C:=1149) (p0:=p0) (d0:=d0) (t0:=t0) (p1:=p1) (d1:=d1) (t1:=t1) (bE (x:=0+(i:Int)) (show(0:Int)<2 by decide));rw[<-bu]at two;show#[7784,O,3,vr.of v,b7,7784,N,3,vr.of L,b8,777,M,3,vr.of ax,(by rw[Sy];show dI hi),78,J.getD i 0,i+1,(by rw[Sy];rfl),9,λpx xs H1 g hx xl xn=> ?_];replace two:=two.same g;let(l,m,G,ll):=two.a;show#[p,t,pn,px,d,l,m,ys,xs,2,G,#[99],#[vr.of (g.at r),yl,eb],#[vr.of hx,xl,xn],λl' m' H2 sb ed e1 e2=>#[true,2,aX ?_]];let(_,_,hd):=G.dk;let ea:=Gp two G ll sb ed e1 e2;rw[bu]at ea;show#[ea,lz (g.at r) hd G.dt sb,lz (g.at v) hd G.dt sb,lz (g.at L) hd G.dt sb,lz (g.at ax) hd G.dt sb,7]
 clear two r v L ax;rintro s H6 ⟨two,r,v,L,ax,v5,rfl⟩;show k1 _ _ ?_;clear k1 B;show ao λB k1=> ?_;show#[(2),2446];show cg (n:=2) (λi s H'=>vc H6 H'/\∃v5 v6,s=[XS a,XS pn,XS O,XS N,XS M,v5,v6]) #[vc.refl _,17] ?_ ?_
 .rintro i s H' hi ⟨g,v5,v6,rfl⟩;let(p,d,t,p',d',t',b7,b8,bu):=Gs (c:=cc) (C:=1149) (p0:=p0) (d0:=d0) (t0:=t0) (p1:=p1) (d1:=d1) (t1:=t1) (show 0<=0+(i:Int)/\0+(i:Int)<2 by lia);rw[<-bu]at two;show#[7,pn,2,#[_,vr.of (g.at r)],aP (K:=K) (a:=pn) (xs:=ys.map str) (λj s H2=>vc H6 H2/\∃v6,s=[XS a,XS pn,XS O,XS N,XS M,some (.int (0+(i:Int))),v6]) #[g,7] (λj s H2 _ q=>vr.of (q.1.at r)) ?_ ?_]
  .rintro j u s H2 hu ⟨U,v6,rfl⟩;rw[RU]at hu;let(y,hy,rfl):=UQ.mp hu;let(l,m,G,_):=(two.same U).a;show#[77,O,3,vr.of (U.at v),b7,77,N,3,vr.of (U.at L),b8,7,p,t,d,l,m,y,2,G,eb y (RG hy),λH3 s3=>#[true,2,aX #[U.trans s3,7]]]
  .rintro s H2 ⟨U,v6,rfl⟩;show#[U,17]
 .rintro s H' ⟨g,v5,v6,rfl⟩;show k1 _ _ (k H')
end
theorem all_mk{l:ab5}{K:Frag}{h:Heap}(s:Cv w K)(X:K.In h)(G:h.Ns aak b)(j:b "law"=some (.ref fa)):
  ∃f:FuncData,(∀(s:rz)(v:Value),ac2 s f #[[v],[]] [("_law_script",v)])/\∀base:Heap,K.In base->base.Ns aak b->dJ l.prog w K b base X6 13 fa f ["_law_script"] (Df K):=by
 let D:HD K "law" tF:=di s.d (i:=109) rfl;let(a,e,c,k):=D;cases j.symm.trans (Wi X G a);let F:=uK (st:=tF) e c k;let W:=λ(base:Heap) (KB:K.In base) (g:base.Ns aak b)=>have:Ct l.prog w K b base:=#[s,KB,g];Pc F;show#[16,W];show λs v=> .of_eq rfl
theorem walk{l:ab5}{d:DefRec}{K:aab->Frag}(j:l.most=some 63)(i:d.params.defaults=[])(hY:∀(w:t4)(h:Heap),YP w h->(K w.params).In h)(F:∀(w:t4)(b:jn)(c:Addr)(h:Heap),(K w.params).In h->h.Ns aak b->b d.name=some (.ref c)->
   ∃e:FuncData,(∀(s:rz)(u:Value),ac2 s e #[[u],[]] [("_law_script",u)])/\∀base:Heap,(K w.params).In base->base.Ns aak b->dJ l.prog w (K w.params) b base X6 13 c e ["_law_script"] (Df (K w.params))):
  aem q loose XP YP l.row.toRowW d [] (λf vs=>ad3 f vs):=
 L2.CZ (n:=63) (k:=13) (x:= "_law_script") (CX:=λ_=>X6) (sp:=λw=>Df (K w.params)) j ∅ i #[2442] hY F (λ_ _ a ns hl _ g=>#[a,ns,2,g,hl,λ_=>rfl]) λ_ _ _ _ _ z=>z
end BhK
end
namespace Hd
open PySem PySem.W PySem.Calls PyProof.Rows
theorem _root_.PySem.W.Fast.te7239439084724097079:True:=trivial
open PySem.W.Fast PySem.Challenge BhK
noncomputable section
theorem _root_.PySem.W.Fast.tw15232423092731648490:True:=trivial
noncomputable abbrev R(a:Nat):Value:= .ref a
noncomputable abbrev V(x:Str)(t:Nat):Value:= .str x t
noncomputable abbrev I(i:Int):Value:= .int i 0
noncomputable abbrev E(P:aab)(x:Str)(t:Nat)(v:Value):DictEntry:=⟨PyData.keyHash P x, .str x t,v⟩
noncomputable abbrev Y:Obj:=⟨.type "tuple",none, .seq #[] 0, #[]⟩
noncomputable abbrev T(l:List Value):Obj:=⟨.type "tuple",none, .seq ⟨l⟩ 0, #[]⟩
noncomputable abbrev Z:Obj:=⟨.none,none, .fields #[], #[]⟩
noncomputable abbrev W(l:List Value):Obj:=⟨.none,none, .fields ⟨l⟩, #[]⟩
noncomputable abbrev F(n q:Str)(s:Stmt)(g:Nat)(dv kv doc pm:Value)(an:Option Nat)(cd ct:Value)(b:Nat):FuncData:=⟨n,q,L2.cP s, .stmts (L2.bA s),L2.aC s,g,[],dv,kv,doc,pm,an,cd,ct,b⟩
noncomputable abbrev C(n q:Str)(t:Nat)(l k g:Int)(x:Nat)(b:Bool)(u v w:Value)(d:Nat):Obj:=⟨.type "code",none, .fields ⟨[.str n t, .str q (t.add 1), .str "/claim/cut.py" (t.add 2), .int l 0, .int k 0, .int 0 0, .int 0 0, .int g 0, .ref x, .bool b, .int 181 0, .ref (x.add 1), .none,u,v,w, .int d 0, .int l 0, .str "/claim/cut.py" (d.add 1)]⟩, #[]⟩
abbrev ff(n q:Str)(s:Stmt):Obj:=⟨.none,none, .func (F n q s 0 .none .none .none .none none .none .none 0), #[]⟩
abbrev fk(n q:Str)(s:Stmt)(m:Value)(c:Nat):Obj:=⟨.type "function",none, .func (F n q s 3 .none .none .none m none (.ref c) .none 0), #[]⟩
abbrev f1(n:Str)(s:Stmt):Obj:=ff n n s
abbrev f2(n:Str)(s:Stmt)(m:Value)(c:Nat):Obj:=fk n n s m c
abbrev C1(n:Str)(t:Nat)(l k g:Int)(x:Nat)(b:Bool)(u v w:Value)(d:Nat):Obj:=C n n t l k g x b u v w d
abbrev kc(n q:Str)(t:Nat)(l k:Int)(w:Nat):Obj:=C n q t l k 3 (w.sub 2) true .none .none (R w) (t.add 3)
abbrev kd(n q:Str)(t:Nat)(l k:Int)(w d:Nat):Obj:=C n q t l k 3 (w.sub 4) true (R (w.sub 2)) (R (w.sub 1)) (R w) d
abbrev ka(n:Str)(t:Nat)(l k:Int)(w:Nat):Obj:=kc n n t l k w
abbrev kb(n:Str)(t:Nat)(l k:Int)(w d:Nat):Obj:=kd n n t l k w d
noncomputable abbrev D(l:List DictEntry)(k:Nat):Obj:=⟨.type "dict",none, .dict ⟨l⟩ k, #[]⟩
abbrev fr(a b:Nat)(m:Value):Obj:=⟨.type "frame",none,Data.plain, #[some (R a),some (R 3),some (R b),none,some m,none,some (R 0)]⟩
noncomputable abbrev bf(n:String)(v:Value):Obj:=⟨.type "builtin_function_or_method",none, .fields ⟨[.builtin n,v]⟩, #[]⟩
noncomputable abbrev su(a:Nat):Obj:=⟨.type "super",none, .fields ⟨[R a,R a,R a]⟩, #[]⟩
noncomputable abbrev bi(a:Nat):Obj:=bf "object.__init_subclass__" (R a)
noncomputable abbrev bp:Obj:=bf "type.__prepare__" (.type "type")
noncomputable abbrev em(P:aab)(t:Nat)(m:Value):DictEntry:=E P "__module__" t m
noncomputable abbrev eq(P:aab)(x:Str)(t:Nat):DictEntry:=E P "__qualname__" (t.add 1) (V x t)
noncomputable abbrev el(P:aab)(l:Int)(t:Nat):DictEntry:=E P "__firstlineno__" (t.add 1) (.int l t)
noncomputable abbrev es(P:aab)(t a:Nat):DictEntry:=E P "__static_attributes__" t (R a)
noncomputable abbrev er(P:aab)(x:Str)(t a:Nat):DictEntry:=E P x t (R a)
noncomputable abbrev kz(n:Str)(t:Nat)(l:Int)(x:Nat):Obj:=C1 n t l 0 0 x false .none .none .none (t.add 3)
noncomputable abbrev TyL:Type:=aaX->aaA->Option (Flow×aaq×Code×Pos)
abbrev m0:=V "basehouse.errors" 380
abbrev m1:=V "basehouse.sets" 187
abbrev m2:=V "basehouse.breaks" 260
abbrev m3:=V "HouseError" 390
abbrev m4:=V "basehouse.houses" 493
abbrev m5:=V "House" 503
abbrev m6:=V "House" 495
abbrev m7:=V "basehouse.turned" 714
abbrev m8:=V "basehouse.tellings" 605
abbrev m9:=V "basehouse.fields" 901
abbrev m10:=V "basehouse.barred" 828
abbrev m11:=V "basehouse.pivots" 865
abbrev m12:=V "basehouse.lines" 1038
abbrev m13:=V "basehouse.names" 1014
abbrev m14:=V "basehouse.answers" 1479
abbrev m15:=V "basehouse.nets" 1321
abbrev m16:=V "basehouse.poly" 1371
abbrev m17:=V "basehouse.tables" 1432
abbrev m18:=V "law_basehouse_k61_desk_houses" 1814
abbrev m19:=V "basehouse.desk" 1770
open Lean in
def zzQ(f:Name)(a b:Term):Term:=Syntax.mkApp (mkIdent f) [a,b].toArray
open Lean in
def zzS(c n:String):Term:=mkIdent (.mkStr4 "PySem" "W" "Fast" (c++toString (Name.mkStr2 "Hd" n).hash))
open Lean in
def zzG(e:Term):Term:=Syntax.mkApp (match e.raw.isNatLit? with|some n=>zzS "tw" s!"u{n}"|none=>e) [mkIdent `P].toArray
open Lean in
def zzK(e q:Term):Term:=let k(n:Syntax)(o:Term):Term:=zzQ ``List.cons (zzQ ``Prod.mk ⟨zzN `rawNatLit [mkAtom "nat_lit",n]⟩ o) q;if e.raw.isOfKind ``Parser.Term.tuple then k e.raw[1][0] ⟨e.raw[1][2][0]⟩ else if e.raw.isOfKind `«term-_» then k e.raw[1] (mkIdent `Y) else k e (mkIdent (.mkSimple s!"o{zzI e}"))
open Lean in
local macro_rules|`(#v[$x,*])=>do{let z:List Term:=x.getElems.toList;let a:=z.headD ⟨.missing⟩;let r:=z.tail;if r.isEmpty then pure (zzS "te" a.raw.getId.toString) else if a.raw.isOfKind ``Parser.Term.hole then do{let w:Term:=r.foldr zzK (mkIdent ``List.nil);pure w} else if (r.headD a).raw.isStrLit?.isSome then do{let n:=zzI a;let l:=(r.zipIdx.map fun(e,i)=>zzQ `V e (quote (n+i))).toArray;`(T [$l,*])} else do{let w:Term:=z.dropLast.foldr (fun e q=>zzQ ``List.append (zzG e) q) (zzG z.getLast!);pure w}}
abbrev o13:=kz "<module>" 182 1 11
abbrev o14:=fr 13 3 (V "__main__" 164)
abbrev g0(P:aab):List DictEntry:=[E P "__name__" 165 m0]
abbrev g1(P:aab):List DictEntry:=[E P "__doc__" 166 .none,E P "__package__" 167 .none,E P "__loader__" 168 (.builtin "__main__.__loader__#opaque"),E P "__spec__" 169 .none,er P "__annotations__" 170 6,er P "__builtins__" 171 4,E P "__file__" 173 (V "/claim/cut.py" 172),E P "__cached__" 174 .none,er P "holds" 196 21,er P "things" 202 26,er P "size" 209 33,er P "set_of" 218 40,er P "within" 226 47,er P "parts" 232 52,er P "choices" 238 57,er P "spread" 244 62,er P "all_of" 251 69,er P "less" 259 76,er P "marked" 267 81,er P "exchanged" 276 88,er P "has_exchange" 287 95,er P "broken_bases" 299 102,er P "holds_ring" 308 109,er P "ring_in_ring" 317 116,er P "rings_without_third" 327 123,er P "broken_rings" 336 130,er P "common_not_listed" 346 137,er P "least_flat" 357 144,er P "flats_that_meet" 369 151,er P "broken_flats" 379 158,er P "HouseError" 399 168,er P "NoSet" 415 181]
abbrev g2:=[I 2]
noncomputable abbrev g3:=[I 0,R 20,I 4,I 0,R 25,I 6,I 0,R 32,I 8,I 0,R 39,I 13,I 0,R 46,I 15,I 0,R 51,I 20,I 0,R 56,I 22,I 0,R 61,I 24,I 0,R 68,I 26,I 0,R 75,I 29,I 0,R 80,I 31,I 0,R 87,I 33,I 0,R 94,I 38,I 0,R 101,I 48,I 0,R 108,I 53,I 0,R 115,I 59,I 0,R 122,I 67,I 0,R 129,I 74,I 0,R 136,I 81,I 0,R 143,I 87,I 0,R 150,I 97,I 0,R 157,I 106,I 0,R 164,I 108,I 0,R 177]
abbrev o17:=#v[192,"s","thing"]
abbrev o19:=f1 "holds" xS
abbrev o20:=kb "holds" 189 2 2 19 194
abbrev o21:=f2 "holds" xS m1 20
abbrev o25:=ka "things" 197 4 1 24
abbrev o26:=f2 "things" sY m1 25
abbrev o29:=#v[206,"s"]
abbrev o32:=kb "size" 203 6 1 31 207
abbrev o33:=f2 "size" Bz m1 32
abbrev o36:=#v[213,"some","s","thing"]
abbrev o39:=kb "set_of" 210 8 1 38 216
abbrev o40:=f2 "set_of" tm m1 39
abbrev o43:=#v[222,"s","t"]
abbrev o46:=kb "within" 219 13 2 45 224
abbrev o47:=f2 "within" sU m1 46
abbrev o51:=ka "parts" 227 15 1 50
abbrev o52:=f2 "parts" xR m1 51
abbrev o61:=ka "spread" 239 22 2 60
abbrev o62:=f2 "spread" tf m1 61
abbrev o65:=#v[248,"n"]
abbrev o68:=kb "all_of" 245 24 1 67 249
abbrev o69:=f2 "all_of" tJ m1 68
abbrev o72:=#v[255,"s","t"]
abbrev o75:=kb "less" 252 26 2 74 257
abbrev o76:=f2 "less" BE m1 75
abbrev o80:=ka "marked" 262 29 1 79
abbrev o81:=f2 "marked" tE m2 80
abbrev o84:=#v[271,"s","thing","y"]
abbrev o87:=kb "exchanged" 268 31 3 86 274
abbrev o88:=f2 "exchanged" kO m2 87
abbrev o91:=#v[280,"listed","one","other","thing","y"]
abbrev o94:=kb "has_exchange" 277 33 4 93 285
abbrev o95:=f2 "has_exchange" gE m2 94
abbrev o98:=#v[291,"n","bases","listed","one","other","thing"]
abbrev o101:=kb "broken_bases" 288 38 2 100 297
abbrev o102:=f2 "broken_bases" gH m2 101
abbrev o105:=#v[303,"rings","s","ring"]
abbrev o108:=kb "holds_ring" 300 48 2 107 306
abbrev o109:=f2 "holds_ring" jx m2 108
abbrev o112:=#v[312,"rings","one","other"]
abbrev o115:=kb "ring_in_ring" 309 53 1 114 315
abbrev o116:=f2 "ring_in_ring" gC m2 115
abbrev o119:=#v[321,"rings","one","other","thing"]
abbrev o122:=kb "rings_without_third" 318 59 1 121 325
abbrev o123:=f2 "rings_without_third" cH m2 122
abbrev o126:=#v[331,"n","rings","found"]
abbrev o129:=kb "broken_rings" 328 67 2 128 334
abbrev o130:=f2 "broken_rings" gF m2 129
abbrev o133:=#v[340,"flats","listed","one","other"]
abbrev o136:=kb "common_not_listed" 337 74 1 135 344
abbrev o137:=f2 "common_not_listed" dq m2 136
abbrev o140:=#v[350,"n","flats","s","least","flat"]
abbrev o143:=kb "least_flat" 347 81 3 142 355
abbrev o144:=f2 "least_flat" jw m2 143
abbrev o147:=#v[361,"n","flats","one","over","thing","other"]
abbrev o150:=kb "flats_that_meet" 358 87 2 149 367
abbrev o151:=f2 "flats_that_meet" d9 m2 150
abbrev o154:=#v[373,"n","flats","everything","found"]
abbrev o157:=kb "broken_flats" 370 97 2 156 377
abbrev o158:=f2 "broken_flats" gG m2 157
abbrev o167(P:aab):=D ([em P 389 m0,el P 106 392,es P 394 166,er P "__weakref__" 396 169,E P "__doc__" 397 .none]) 3
abbrev o169:Obj:=⟨(.type "getset_descriptor"),none, .fields ⟨[V "__weakref__" 395,R 168,(.builtin "ExceptionGroup.__weakref__"), .none]⟩, #[]⟩
abbrev o170:Obj:=su 168
abbrev o171:=bi 168
abbrev o172:=T [R 168]
abbrev o173:=bp
abbrev o174(P:aab):=D ([em P 407 m0,eq P "NoSet" 408,el P 108 410,es P 412 179]) 4
abbrev o177:=kz "NoSet" 402 108 175
abbrev o178:=fr 177 174 m0
abbrev o180(P:aab):=D ([em P 407 m0,el P 108 410,es P 412 179,E P "__doc__" 413 .none]) 2
abbrev o181:Obj:=⟨(.type "type"),none,aat {name:=aaf "NoSet",bases:=[aaa 168],mro:=[aaa 181,aaa 168,aae "ValueError",aae "Exception",aae "BaseException",aae "object"],ns:=180,qualname:=aaf "NoSet"}, #[some (R 172),none,some (V "NoSet" 400),some (V "NoSet" 408),some (.builtin "ValueError.__new__"),some (.bool true)]⟩
abbrev o182:Obj:=su 181
abbrev o183:=bi 181
abbrev g4(P:aab):List DictEntry:=[E P "__name__" 165 m4]
abbrev g5(P:aab):List DictEntry:=[er P "NoHouse" 444 200,er P "NoLine" 460 212,er P "NoName" 476 224,er P "NoFit" 492 236,er P "House" 538 269]
abbrev g6:=[I 110,I 0,R 189,I 117,I 0,R 208,I 119,I 0,R 220,I 121,I 0,R 232,I 124,I 0,R 244]
abbrev o168v1:Obj:=⟨(.type "type"),none,aat {name:=aaf "HouseError",bases:=[aae "ValueError"],mro:=[aaa 168,aae "ValueError",aae "Exception",aae "BaseException",aae "object"],ns:=167,qualname:=aaf "HouseError",subclasses:=[aaa 181,aaa 200,aaa 212,aaa 224,aaa 236]}, #[some (R 159),none,some (V "HouseError" 382),some m3,some (.builtin "ValueError.__new__"),some (.bool true)]⟩
abbrev o198:=#v[438,"one","other","thing"]
abbrev o199(P:aab):=D ([em P 423 m0,el P 110 426,er P "__init__" 437 197,es P 441 198,E P "__doc__" 442 .none]) 2
abbrev o200:Obj:=⟨(.type "type"),none,aat {name:=aaf "NoHouse",bases:=[aaa 168],mro:=[aaa 200,aaa 168,aae "ValueError",aae "Exception",aae "BaseException",aae "object"],ns:=199,qualname:=aaf "NoHouse"}, #[some (R 184),none,some (V "NoHouse" 416),some (V "NoHouse" 424),some (.builtin "ValueError.__new__"),some (.bool true)]⟩
abbrev o203:=T [R 168]
abbrev o211(P:aab):=D ([em P 452 m0,el P 117 455,es P 457 210,E P "__doc__" 458 .none]) 2
abbrev o212:Obj:=⟨(.type "type"),none,aat {name:=aaf "NoLine",bases:=[aaa 168],mro:=[aaa 212,aaa 168,aae "ValueError",aae "Exception",aae "BaseException",aae "object"],ns:=211,qualname:=aaf "NoLine"}, #[some (R 203),none,some (V "NoLine" 445),some (V "NoLine" 453),some (.builtin "ValueError.__new__"),some (.bool true)]⟩
abbrev o215:=T [R 168]
abbrev o223(P:aab):=D ([em P 468 m0,el P 119 471,es P 473 222,E P "__doc__" 474 .none]) 2
abbrev o224:Obj:=⟨(.type "type"),none,aat {name:=aaf "NoName",bases:=[aaa 168],mro:=[aaa 224,aaa 168,aae "ValueError",aae "Exception",aae "BaseException",aae "object"],ns:=223,qualname:=aaf "NoName"}, #[some (R 215),none,some (V "NoName" 461),some (V "NoName" 469),some (.builtin "ValueError.__new__"),some (.bool true)]⟩
abbrev o227:=T [R 168]
abbrev o235(P:aab):=D ([em P 484 m0,el P 121 487,es P 489 234,E P "__doc__" 490 .none]) 2
abbrev o236:Obj:=⟨(.type "type"),none,aat {name:=aaf "NoFit",bases:=[aaa 168],mro:=[aaa 236,aaa 168,aae "ValueError",aae "Exception",aae "BaseException",aae "object"],ns:=235,qualname:=aaf "NoFit"}, #[some (R 227),none,some (V "NoFit" 477),some (V "NoFit" 485),some (.builtin "ValueError.__new__"),some (.bool true)]⟩
abbrev o248:=#v[510,"self","n"]
abbrev o251:=kd "__init__" "House.__init__" 507 126 2 250 512
abbrev o252:=fk "__init__" "House.__init__" eX m4 251
abbrev o262:=#v[526,"self"]
abbrev o264:=ff "everything" "House.everything" dQ
abbrev o265:=kd "everything" "House.everything" 523 132 1 264 527
abbrev o266:=fk "everything" "House.everything" dQ m4 265
abbrev o267:=#v[530,"many"]
abbrev o268(P:aab):=D ([em P 502 m4,el P 124 505,er P "__init__" 514 252,er P "rank" 522 259,er P "everything" 529 266,es P 531 267,er P "__dict__" 533 270,er P "__weakref__" 535 271,E P "__doc__" 536 .none]) 4
abbrev o270:Obj:=⟨(.type "getset_descriptor"),none, .fields ⟨[V "__dict__" 532,R 269,(.builtin "function.__dict__"),(.builtin "function.__dict__#set")]⟩, #[]⟩
abbrev o271:Obj:=⟨(.type "getset_descriptor"),none, .fields ⟨[V "__weakref__" 534,R 269,(.builtin "ExceptionGroup.__weakref__"), .none]⟩, #[]⟩
abbrev o272:Obj:=su 269
abbrev o273:=bi 269
abbrev g7(P:aab):List DictEntry:=[E P "__name__" 165 m7]
abbrev g8(P:aab):List DictEntry:=[er P "Even" 572 297,er P "Listed" 604 321,er P "whole_rank" 613 330,er P "ranks" 619 335,er P "frees" 625 340,er P "bases" 631 345,er P "is_ring" 637 350,er P "rings" 643 355,er P "is_flat" 649 360,er P "flats" 655 365,er P "closed" 666 372,er P "refuse" 673 379,er P "house_of_frees" 679 384,er P "of_bases" 687 391,er P "of_rings" 693 396,er P "is_free" 699 401,er P "of_flats" 705 406,er P "common" 713 411]
noncomputable abbrev g9:=[I 134,I 0,R 279,I 142,I 0,R 305,I 151,I 0,R 329,I 153,I 0,R 334,I 155,I 0,R 339,I 157,I 0,R 344,I 160,I 0,R 349,I 164,I 0,R 354,I 167,I 0,R 359,I 169,I 0,R 364,I 173,I 0,R 371,I 180,I 0,R 378,I 183,I 0,R 383,I 186,I 0,R 390,I 189,I 0,R 395,I 192,I 0,R 400,I 194,I 0,R 405,I 200,I 0,R 410]
abbrev o274:=T [R 269]
abbrev o275:=bp
abbrev o283:=#v[554,"self","n","k"]
abbrev o286:=kd "__init__" "Even.__init__" 551 136 3 285 557
abbrev o287:=fk "__init__" "Even.__init__" fV m4 286
abbrev o290:=#v[563,"self","s"]
abbrev o293:=kd "rank" "Even.rank" 560 140 2 292 565
abbrev o294:=fk "rank" "Even.rank" k7 m4 293
abbrev o295:=#v[568,"most"]
abbrev o296(P:aab):=D ([em P 546 m4,el P 134 549,er P "__init__" 559 287,er P "rank" 567 294,es P 569 295,E P "__doc__" 570 .none]) 2
abbrev o297:Obj:=⟨(.type "type"),none,aat {name:=aaf "Even",bases:=[aaa 269],mro:=[aaa 297,aaa 269,aae "object"],ns:=296,qualname:=aaf "Even"}, #[some (R 274),none,some (V "Even" 539),some (V "Even" 547),some (.builtin "object.__new__"),some (.bool true)]⟩
abbrev o300:=T [R 269]
abbrev o309:=#v[588,"self","n","some"]
abbrev o312:=kd "__init__" "Listed.__init__" 585 144 3 311 591
abbrev o313:=fk "__init__" "Listed.__init__" eu m4 312
abbrev o317:=kc "rank" "Listed.rank" 594 148 2 316
abbrev o318:=fk "rank" "Listed.rank" iI m4 317
abbrev o319:=#v[600,"listed"]
abbrev o320(P:aab):=D ([em P 580 m4,el P 142 583,er P "__init__" 593 313,er P "rank" 599 318,es P 601 319,E P "__doc__" 602 .none]) 2
abbrev o321:Obj:=⟨(.type "type"),none,aat {name:=aaf "Listed",bases:=[aaa 269],mro:=[aaa 321,aaa 269,aae "object"],ns:=320,qualname:=aaf "Listed"}, #[some (R 300),none,some (V "Listed" 573),some (V "Listed" 581),some (.builtin "object.__new__"),some (.bool true)]⟩
abbrev o326:=#v[610,"house"]
abbrev o329:=kb "whole_rank" 607 151 1 328 611
abbrev o330:=f2 "whole_rank" jf m8 329
abbrev o334:=ka "ranks" 614 153 1 333
abbrev o335:=f2 "ranks" xQ m8 334
abbrev o339:=ka "frees" 620 155 1 338
abbrev o340:=f2 "frees" xT m8 339
abbrev o344:=ka "bases" 626 157 1 343
abbrev o345:=f2 "bases" xV m8 344
abbrev o349:=ka "is_ring" 632 160 2 348
abbrev o350:=f2 "is_ring" pQ m8 349
abbrev o354:=ka "rings" 638 164 1 353
abbrev o355:=f2 "rings" xO m8 354
abbrev o359:=ka "is_flat" 644 167 3 358
abbrev o360:=f2 "is_flat" pT m8 359
abbrev o364:=ka "flats" 650 169 1 363
abbrev o365:=f2 "flats" xU m8 364
abbrev o368:=#v[659,"house","s","rank","found","thing"]
abbrev o371:=kb "closed" 656 173 2 370 664
abbrev o372:=f2 "closed" tI m8 371
abbrev o375:=#v[670,"found"]
abbrev o378:=kb "refuse" 667 180 1 377 671
abbrev o379:=f2 "refuse" tq m8 378
abbrev o383:=ka "house_of_frees" 674 183 2 382
abbrev o384:=f2 "house_of_frees" eU m8 383
abbrev o387:=#v[683,"n","bases"]
abbrev o390:=kb "of_bases" 680 186 2 389 685
abbrev o391:=f2 "of_bases" nz m8 390
abbrev o395:=ka "of_rings" 688 189 2 394
abbrev o396:=f2 "of_rings" nt m8 395
abbrev o400:=ka "is_free" 694 192 2 399
abbrev o401:=f2 "is_free" pR m8 400
abbrev o405:=ka "of_flats" 700 194 2 404
abbrev o406:=f2 "of_flats" nu m8 405
abbrev o409:=f1 "common" zS
abbrev o410:=ka "common" 708 200 2 409
abbrev o411:=f2 "common" zS (V "basehouse.common" 706) 410
abbrev g10(P:aab):List DictEntry:=[E P "__name__" 165 m9]
abbrev g11(P:aab):List DictEntry:=[er P "Other" 751 435,er P "Minor" 790 461,er P "Side" 827 487,E P "TWO_OF_FOUR" 831 (V "two of four" 830),E P "TWO_OF_FIVE" 833 (V "two of five" 832),E P "THREE_OF_FIVE" 835 (V "three of five" 834),E P "SEVEN" 837 (V "seven" 836),E P "OTHER_SEVEN" 839 (V "other seven" 838),er P "is_even" 845 494,er P "holders" 851 499,er P "is_seven" 857 504,er P "kind_of" 864 511,er P "rests" 872 516,er P "pivot_place" 882 523,er P "cleared" 888 528,er P "all_cleared" 894 533,er P "rank_of" 900 538]
noncomputable abbrev g12:=[I 209,I 0,R 417,I 220,I 0,R 443,I 232,I 0,R 469,I 249,I 0,R 493,I 253,I 0,R 498,I 255,I 0,R 503,I 261,I 0,R 510,I 274,I 0,R 515,I 278,I 0,R 522,I 283,I 0,R 527,I 287,I 0,R 532,I 291,I 0,R 537]
abbrev o412:=T [R 269]
abbrev o421:=#v[731,"self","house"]
abbrev o424:=kd "__init__" "Other.__init__" 728 211 2 423 733
abbrev o425:=fk "__init__" "Other.__init__" eV m7 424
abbrev o428:=#v[739,"self","s","outside"]
abbrev o431:=kd "rank" "Other.rank" 736 217 2 430 742
abbrev o432:=fk "rank" "Other.rank" jD m7 431
abbrev o433:=#v[745,"full","full_rank","house"]
abbrev o434(P:aab):=D ([em P 723 m7,el P 209 726,er P "__init__" 735 425,er P "rank" 744 432,es P 748 433,E P "__doc__" 749 .none]) 2
abbrev o435:Obj:=⟨(.type "type"),none,aat {name:=aaf "Other",bases:=[aaa 269],mro:=[aaa 435,aaa 269,aae "object"],ns:=434,qualname:=aaf "Other"}, #[some (R 412),none,some (V "Other" 716),some (V "Other" 724),some (.builtin "object.__new__"),some (.bool true)]⟩
abbrev o438:=T [R 269]
abbrev o447:=#v[767,"self","house","out","drawn","kept"]
abbrev o450:=kd "__init__" "Minor.__init__" 764 222 4 449 772
abbrev o451:=fk "__init__" "Minor.__init__" eW m7 450
abbrev o454:=#v[778,"self","s"]
abbrev o457:=kd "rank" "Minor.rank" 775 230 2 456 780
abbrev o458:=fk "rank" "Minor.rank" jF m7 457
abbrev o459:=#v[783,"drawn","drawn_rank","house","kept"]
abbrev o460(P:aab):=D ([em P 759 m7,el P 220 762,er P "__init__" 774 451,er P "rank" 782 458,es P 787 459,E P "__doc__" 788 .none]) 2
abbrev o461:Obj:=⟨(.type "type"),none,aat {name:=aaf "Minor",bases:=[aaa 269],mro:=[aaa 461,aaa 269,aae "object"],ns:=460,qualname:=aaf "Minor"}, #[some (R 438),none,some (V "Minor" 752),some (V "Minor" 760),some (.builtin "object.__new__"),some (.bool true)]⟩
abbrev o464:=T [R 269]
abbrev o473:=#v[806,"self","one","other"]
abbrev o476:=kd "__init__" "Side.__init__" 803 234 3 475 809
abbrev o477:=fk "__init__" "Side.__init__" fR m7 476
abbrev o480:=#v[815,"self","s"]
abbrev o483:=kd "rank" "Side.rank" 812 241 2 482 817
abbrev o484:=fk "rank" "Side.rank" k6 m7 483
abbrev o486(P:aab):=D ([em P 798 m7,el P 232 801,er P "__init__" 811 477,er P "rank" 819 484,es P 824 485,E P "__doc__" 825 .none]) 2
abbrev o487:Obj:=⟨(.type "type"),none,aat {name:=aaf "Side",bases:=[aaa 269],mro:=[aaa 487,aaa 269,aae "object"],ns:=486,qualname:=aaf "Side"}, #[some (R 464),none,some (V "Side" 791),some (V "Side" 799),some (.builtin "object.__new__"),some (.bool true)]⟩
abbrev o515:=ka "rests" 867 274 2 514
abbrev o516:=f2 "rests" xP m11 515
abbrev o519:=#v[876,"rows","column","place","row"]
abbrev o522:=kb "pivot_place" 873 278 2 521 880
abbrev o523:=f2 "pivot_place" iA m11 522
abbrev o527:=ka "cleared" 883 283 4 526
abbrev o528:=f2 "cleared" pW m11 527
abbrev o531:=f1 "all_cleared" iD
abbrev o532:=ka "all_cleared" 889 287 4 531
abbrev o533:=f2 "all_cleared" iD m11 532
abbrev o536:=f1 "rank_of" pL
abbrev o537:=ka "rank_of" 895 291 2 536
abbrev o538:=f2 "rank_of" pL m11 537
abbrev g13(P:aab):List DictEntry:=[E P "__name__" 165 m12]
abbrev g14(P:aab):List DictEntry:=[er P "Known" 935 562,er P "columns_with" 941 569,er P "fits" 947 574,er P "column_for" 953 579,er P "single" 959 584,er P "table_for" 965 589,er P "left_barred" 979 596,er P "told_over" 992 603,er P "over_two" 999 610,er P "over_three" 1007 617,er P "over_all" 1013 622,E P "LETTERS" 1017 (V "abcdefgh" 1016),E P "EMPTY" 1019 (V "-" 1018),er P "shown" 1025 627,er P "read" 1031 632,er P "shown_all" 1037 637,E P "SMALL_LETTERS" 1041 (V "abcdefghijklmnopqrstuvwxyz" 1040),E P "FIGURES" 1043 (V "0123456789" 1042),E P "MOST" 1045 (.int 8 1044),E P "MOST_POINTS" 1047 (.int 9 1046),er P "NOUGHT_AND_PRIMES" 1074 638,er P "Line" 1109 655,er P "need" 1117 666,er P "made_of" 1123 671,er P "name_of" 1130 678,er P "number_of" 1137 685,er P "number_up_to" 1146 692,er P "signed_of" 1154 699,er P "set_within" 1163 706]
noncomputable abbrev g15:=[I 307,I 0,R 544,I 315,I 0,R 568,I 324,I 0,R 573,I 331,I 0,R 578,I 338,I 0,R 583,I 340,I 0,R 588,I 352,I 0,R 595,I 360,I 0,R 602,I 370,I 0,R 609,I 372,I 0,R 616,I 375,I 0,R 621,I 386,I 0,R 626,I 390,I 0,R 631,I 395,I 0,R 636,I 403,I 0,R 644,I 410,I 0,R 665,I 413,I 0,R 670,I 415,I 0,R 677,I 418,I 0,R 684,I 422,I 0,R 691,I 426,I 0,R 698,I 432,I 0,R 705]
abbrev o561(P:aab):=D ([em P 910 m9,el P 307 913,er P "__init__" 922 552,er P "rank" 930 559,es P 932 560,E P "__doc__" 933 .none]) 2
abbrev o562:Obj:=⟨(.type "type"),none,aat {name:=aaf "Known",bases:=[aaa 269],mro:=[aaa 562,aaa 269,aae "object"],ns:=561,qualname:=aaf "Known"}, #[some (R 539),none,some (V "Known" 903),some (V "Known" 911),some (.builtin "object.__new__"),some (.bool true)]⟩
abbrev o626:=ka "shown" 1020 386 1 625
abbrev o627:=f2 "shown" xM m13 626
abbrev o631:=ka "read" 1026 390 1 630
abbrev o632:=f2 "read" BA m13 631
abbrev o636:=ka "shown_all" 1032 395 1 635
abbrev o637:=f2 "shown_all" kF m13 636
noncomputable abbrev o638:=T [(.int 0 1048),(.int 2 1049),(.int 3 1050),(.int 5 1051),(.int 7 1052),(.int 11 1053),(.int 13 1054),(.int 17 1055),(.int 19 1056),(.int 23 1057),(.int 29 1058),(.int 31 1059),(.int 37 1060),(.int 41 1061),(.int 43 1062),(.int 47 1063),(.int 53 1064),(.int 59 1065),(.int 61 1066),(.int 67 1067),(.int 71 1068),(.int 73 1069),(.int 79 1070),(.int 83 1071),(.int 89 1072),(.int 97 1073)]
abbrev o648:=#v[1090,"self","target","verb","asked","given"]
abbrev o651:=kd "__init__" "Line.__init__" 1087 405 5 650 1095
abbrev o652:=fk "__init__" "Line.__init__" fS m12 651
abbrev o653:=#v[1098,"asked","given","target","verb"]
abbrev o654(P:aab):=D ([em P 1082 m12,el P 403 1085,er P "__init__" 1097 652,es P 1102 653,er P "__dict__" 1104 656,er P "__weakref__" 1106 657,E P "__doc__" 1107 .none]) 4
abbrev o655:Obj:=⟨(.type "type"),none,aat {name:=aaf "Line",bases:=[aae "object"],mro:=[aaa 655,aae "object"],ns:=654,qualname:=aaf "Line"}, #[none,none,some (V "Line" 1075),some (V "Line" 1083),some (.builtin "object.__new__"),some (.bool true)]⟩
abbrev o656:Obj:=⟨(.type "getset_descriptor"),none, .fields ⟨[V "__dict__" 1103,R 655,(.builtin "function.__dict__"),(.builtin "function.__dict__#set")]⟩, #[]⟩
abbrev o657:Obj:=⟨(.type "getset_descriptor"),none, .fields ⟨[V "__weakref__" 1105,R 655,(.builtin "ExceptionGroup.__weakref__"), .none]⟩, #[]⟩
abbrev o662:=#v[1113,"right","words"]
abbrev o665:=kb "need" 1110 410 2 664 1115
abbrev o666:=f2 "need" BB m12 665
abbrev o670:=ka "made_of" 1118 413 2 669
abbrev o671:=f2 "made_of" pO m12 670
abbrev o674:=#v[1127,"word"]
abbrev o677:=kb "name_of" 1124 415 1 676 1128
abbrev o678:=f2 "name_of" pM m12 677
abbrev o681:=#v[1134,"word"]
abbrev o684:=kb "number_of" 1131 418 1 683 1135
abbrev o685:=f2 "number_of" kL m12 684
abbrev o688:=#v[1141,"most","word","number"]
abbrev o691:=kb "number_up_to" 1138 422 2 690 1144
abbrev o692:=f2 "number_up_to" gD m12 691
abbrev o695:=#v[1150,"word","number"]
abbrev o697:=f1 "signed_of" kD
abbrev o698:=kb "signed_of" 1147 426 1 697 1152
abbrev o699:=f2 "signed_of" kD m12 698
abbrev o702:=#v[1158,"n","word","s"]
abbrev o704:=f1 "set_within" jm
abbrev o705:=kb "set_within" 1155 432 2 704 1161
abbrev o706:=f2 "set_within" jm m12 705
abbrev g16(P:aab):List DictEntry:=[er P "tie_of" 1171 713,er P "rows_of" 1177 718,er P "read_even" 1185 725,er P "read_sets" 1191 730,er P "read_net" 1197 735,er P "read_table" 1203 740,er P "read_house" 1210 747,er P "read_two_houses" 1216 752,er P "read_house_and_set" 1223 759,er P "read_house_and_numbers" 1229 764,er P "read_weights" 1236 771,er P "read_worth" 1243 778]
noncomputable abbrev g17:=[I 439,I 0,R 712,I 442,I 0,R 717,I 448,I 0,R 724,I 452,I 0,R 729,I 456,I 0,R 734,I 460,I 0,R 739,I 466,I 0,R 746,I 469,I 0,R 751,I 472,I 0,R 758,I 475,I 0,R 763,I 478,I 0,R 770,I 481,I 0,R 777]
abbrev o709:=#v[1167,"points","word"]
abbrev o712:=kb "tie_of" 1164 439 2 711 1169
abbrev o713:=f2 "tie_of" sX m12 712
abbrev o717:=ka "rows_of" 1172 442 2 716
abbrev o718:=f2 "rows_of" pK m12 717
abbrev o721:=#v[1181,"words","n"]
abbrev o724:=kb "read_even" 1178 448 1 723 1183
abbrev o725:=f2 "read_even" kK m12 724
abbrev o729:=ka "read_sets" 1186 452 1 728
abbrev o730:=f2 "read_sets" kJ m12 729
abbrev o734:=ka "read_net" 1192 456 1 733
abbrev o735:=f2 "read_net" nr m12 734
abbrev o739:=ka "read_table" 1198 460 1 738
abbrev o740:=f2 "read_table" jo m12 739
abbrev o743:=#v[1207,"words"]
abbrev o746:=kb "read_house" 1204 466 1 745 1208
abbrev o747:=f2 "read_house" jq m12 746
abbrev o751:=ka "read_two_houses" 1211 469 1 750
abbrev o752:=f2 "read_two_houses" d7 m12 751
abbrev o755:=#v[1220,"words"]
abbrev o758:=kb "read_house_and_set" 1217 472 1 757 1221
abbrev o759:=f2 "read_house_and_set" cX m12 758
abbrev o769:=f1 "read_weights" kI
abbrev o770:=kb "read_weights" 1230 478 1 769 1234
abbrev o771:=f2 "read_weights" kI m12 770
abbrev o774:=#v[1240,"words"]
abbrev o776:=f1 "read_worth" oB
abbrev o777:=kb "read_worth" 1237 481 1 776 1241
abbrev o778:=f2 "read_worth" oB m12 777
abbrev g18(P:aab):List DictEntry:=[er P "MAKING" 1264 779]
abbrev o779(P:aab):=D ([er P "even" 1244 725,er P "bases" 1245 730,er P "rings" 1246 730,er P "flats" 1247 730,er P "net" 1248 735,er P "table" 1249 740,er P "other" 1250 747,er P "out" 1251 759,er P "drawn" 1252 759,er P "side" 1253 752]) 10
abbrev g19(P:aab):List DictEntry:=[er P "ASKING" 1293 780]
abbrev o780(P:aab):=D ([er P "bases" 1265 747,er P "rings" 1266 747,er P "flats" 1267 747,er P "frees" 1268 747,er P "rank" 1269 759,er P "closed" 1270 759,er P "same" 1271 752,er P "two" 1272 747,er P "three" 1273 747,er P "all" 1274 747,er P "common" 1275 752,er P "heaviest" 1276 771,er P "counts" 1277 747,er P "worth" 1278 778]) 14
abbrev g20(P:aab):List DictEntry:=[E P "__name__" 165 m14]
abbrev g21(P:aab):List DictEntry:=[er P "making_line" 1303 787,er P "asking_line" 1312 794,er P "line_of" 1320 801,er P "tied" 1328 806,er P "Net" 1370 835,er P "power" 1382 844,er P "times" 1388 849,er P "plus" 1398 856,er P "terms_of" 1411 863,er P "polynomial" 1417 869,er P "worth" 1423 874,er P "counts" 1431 881,er P "Tabled" 1463 901,er P "heaviest" 1478 910,er P "fit" 1488 917,er P "fit_set" 1496 924,er P "made_even" 1504 931,er P "made_of_bases" 1512 938,er P "made_of_rings" 1520 945,er P "made_of_flats" 1528 952,er P "made_net" 1536 959]
noncomputable abbrev g22:=[I 486,I 0,R 786,I 492,I 0,R 793,I 497,I 0,R 800,I 503,I 0,R 805,I 507,I 0,R 812,I 523,I 0,R 843,I 528,I 0,R 848,I 530,I 0,R 855,I 535,I 0,R 862,I 547,I 0,R 868,I 551,I 0,R 873,I 553,I 0,R 880,I 557,I 0,R 887,I 568,I 0,R 909,I 577,I 0,R 916,I 580,I 0,R 923,I 582,I 0,R 930,I 584,I 0,R 937,I 586,I 0,R 944,I 588,I 0,R 951,I 590,I 0,R 958]
abbrev o269v4:Obj:=⟨(.type "type"),none,aat {name:=aaf "House",bases:=[aae "object"],mro:=[aaa 269,aae "object"],ns:=268,qualname:=aaf "House",subclasses:=[aaa 297,aaa 321,aaa 435,aaa 461,aaa 487,aaa 562,aaa 835,aaa 901]}, #[none,none,some m6,some m5,some (.builtin "object.__new__"),some (.bool true)]⟩
abbrev o783:=#v[1297,"words","target","verb","found"]
abbrev o786:=kb "making_line" 1294 486 1 785 1301
abbrev o787:=f2 "making_line" iB m12 786
abbrev o790:=#v[1307,"words","verb","found"]
abbrev o793:=kb "asking_line" 1304 492 1 792 1310
abbrev o794:=f2 "asking_line" iC m12 793
abbrev o797:=#v[1316,"text","words"]
abbrev o800:=kb "line_of" 1313 497 1 799 1318
abbrev o801:=f2 "line_of" pP m12 800
abbrev o805:=ka "tied" 1323 503 2 804
abbrev o806:=f2 "tied" By m15 805
abbrev o807:=T [R 269]
abbrev o817:=kc "__init__" "Net.__init__" 1341 509 4 816
abbrev o818:=fk "__init__" "Net.__init__" gN m15 817
abbrev o821:=#v[1350,"self","s","marks","thing"]
abbrev o824:=kd "pieces" "Net.pieces" 1347 514 2 823 1354
abbrev o825:=fk "pieces" "Net.pieces" jE m15 824
abbrev o828:=#v[1360,"self","s"]
abbrev o831:=kd "rank" "Net.rank" 1357 520 2 830 1362
abbrev o832:=fk "rank" "Net.rank" nG m15 831
abbrev o834(P:aab):=D ([em P 1336 m15,el P 507 1339,er P "__init__" 1346 818,er P "pieces" 1356 825,er P "rank" 1364 832,es P 1367 833,E P "__doc__" 1368 .none]) 2
abbrev o835:Obj:=⟨(.type "type"),none,aat {name:=aaf "Net",bases:=[aaa 269],mro:=[aaa 835,aaa 269,aae "object"],ns:=834,qualname:=aaf "Net"}, #[some (R 807),none,some (V "Net" 1329),some (V "Net" 1337),some (.builtin "object.__new__"),some (.bool true)]⟩
abbrev o869:Obj:=⟨(.type "function"),none, .func (F "polynomial" "polynomial" oE 3 (R 864) .none .none m16 none (R 868) .none 0), #[]⟩
abbrev o882:=T [R 269]
abbrev o892:=kc "__init__" "Tabled.__init__" 1446 559 4 891
abbrev o893:=fk "__init__" "Tabled.__init__" eh m17 892
abbrev o897:=kc "rank" "Tabled.rank" 1452 564 2 896
abbrev o898:=fk "rank" "Tabled.rank" iH m17 897
abbrev o900(P:aab):=D ([em P 1441 m17,el P 557 1444,er P "__init__" 1451 893,er P "rank" 1457 898,es P 1460 899,E P "__doc__" 1461 .none]) 2
abbrev o901:Obj:=⟨(.type "type"),none,aat {name:=aaf "Tabled",bases:=[aaa 269],mro:=[aaa 901,aaa 269,aae "object"],ns:=900,qualname:=aaf "Tabled"}, #[some (R 882),none,some (V "Tabled" 1434),some (V "Tabled" 1442),some (.builtin "object.__new__"),some (.bool true)]⟩
abbrev o913:=#v[1484,"right","words"]
abbrev o916:=kb "fit" 1481 577 2 915 1486
abbrev o917:=f2 "fit" HJ m14 916
abbrev o920:=#v[1492,"house","s"]
abbrev o923:=kb "fit_set" 1489 580 2 922 1494
abbrev o924:=f2 "fit_set" pU m14 923
abbrev o927:=#v[1500,"houses","given"]
abbrev o930:=kb "made_even" 1497 582 2 929 1502
abbrev o931:=f2 "made_even" kN m14 930
abbrev o934:=#v[1508,"houses","given"]
abbrev o937:=kb "made_of_bases" 1505 584 2 936 1510
abbrev o938:=f2 "made_of_bases" fO m14 937
abbrev o941:=#v[1516,"houses","given"]
abbrev o944:=kb "made_of_rings" 1513 586 2 943 1518
abbrev o945:=f2 "made_of_rings" fL m14 944
abbrev o948:=#v[1524,"houses","given"]
abbrev o951:=kb "made_of_flats" 1521 588 2 950 1526
abbrev o952:=f2 "made_of_flats" fN m14 951
abbrev o955:=#v[1532,"houses","given"]
abbrev o958:=kb "made_net" 1529 590 2 957 1534
abbrev o959:=f2 "made_net" nC m14 958
abbrev g23(P:aab):List DictEntry:=[er P "made_table" 1544 966,er P "made_other" 1552 973,er P "made_out" 1560 980,er P "made_drawn" 1568 987,er P "made_side" 1576 994,er P "sets_text" 1583 1001,er P "yes_or_no" 1590 1008,er P "told_bases" 1598 1015,er P "told_rings" 1606 1022,er P "told_flats" 1614 1029,er P "told_frees" 1622 1036,er P "told_rank" 1630 1043,er P "told_closed" 1638 1050,er P "told_same" 1647 1057,er P "told_two" 1655 1064,er P "told_three" 1663 1071,er P "told_all" 1671 1078,er P "told_common" 1679 1085,er P "told_heaviest" 1687 1092,er P "told_counts" 1693 1097,er P "told_worth" 1701 1104]
noncomputable abbrev g24:=[I 592,I 0,R 965,I 594,I 0,R 972,I 596,I 0,R 979,I 599,I 0,R 986,I 602,I 0,R 993,I 605,I 0,R 1000,I 607,I 0,R 1007,I 609,I 0,R 1014,I 611,I 0,R 1021,I 613,I 0,R 1028,I 615,I 0,R 1035,I 617,I 0,R 1042,I 620,I 0,R 1049,I 623,I 0,R 1056,I 626,I 0,R 1063,I 628,I 0,R 1070,I 630,I 0,R 1077,I 632,I 0,R 1084,I 635,I 0,R 1091,I 638,I 0,R 1096,I 640,I 0,R 1103]
abbrev o962:=#v[1540,"houses","given"]
abbrev o965:=kb "made_table" 1537 592 2 964 1542
abbrev o966:=f2 "made_table" jr m14 965
abbrev o969:=#v[1548,"houses","given"]
abbrev o972:=kb "made_other" 1545 594 2 971 1550
abbrev o973:=f2 "made_other" jt m14 972
abbrev o976:=#v[1556,"houses","given"]
abbrev o979:=kb "made_out" 1553 596 2 978 1558
abbrev o980:=f2 "made_out" nB m14 979
abbrev o983:=#v[1564,"houses","given"]
abbrev o986:=kb "made_drawn" 1561 599 2 985 1566
abbrev o987:=f2 "made_drawn" jv m14 986
abbrev o990:=#v[1572,"houses","given"]
abbrev o993:=kb "made_side" 1569 602 2 992 1574
abbrev o994:=f2 "made_side" kM m14 993
abbrev o997:=#v[1580,"sets"]
abbrev o1000:=kb "sets_text" 1577 605 1 999 1581
abbrev o1001:=f2 "sets_text" kG m14 1000
abbrev o1004:=#v[1587,"right"]
abbrev o1007:=kb "yes_or_no" 1584 607 1 1006 1588
abbrev o1008:=f2 "yes_or_no" kA m14 1007
abbrev o1011:=#v[1594,"houses","given"]
abbrev o1014:=kb "told_bases" 1591 609 2 1013 1596
abbrev o1015:=f2 "told_bases" jk m14 1014
abbrev o1018:=#v[1602,"houses","given"]
abbrev o1021:=kb "told_rings" 1599 611 2 1020 1604
abbrev o1022:=f2 "told_rings" jg m14 1021
abbrev o1025:=#v[1610,"houses","given"]
abbrev o1028:=kb "told_flats" 1607 613 2 1027 1612
abbrev o1029:=f2 "told_flats" ji m14 1028
abbrev o1032:=#v[1618,"houses","given"]
abbrev o1035:=kb "told_frees" 1615 615 2 1034 1620
abbrev o1036:=f2 "told_frees" jh m14 1035
abbrev o1039:=#v[1626,"houses","given"]
abbrev o1042:=kb "told_rank" 1623 617 2 1041 1628
abbrev o1043:=f2 "told_rank" kC m14 1042
abbrev o1046:=#v[1634,"houses","given"]
abbrev o1049:=kb "told_closed" 1631 620 2 1048 1636
abbrev o1050:=f2 "told_closed" iz m14 1049
abbrev o1053:=#v[1642,"houses","given","as_many"]
abbrev o1056:=kb "told_same" 1639 623 2 1055 1645
abbrev o1057:=f2 "told_same" kB m14 1056
abbrev o1104:=f2 "told_worth" oz m14 1103
abbrev g25(P:aab):List DictEntry:=[er P "MADE" 1722 1105]
abbrev o1105(P:aab):=D ([er P "even" 1702 931,er P "bases" 1703 938,er P "rings" 1704 945,er P "flats" 1705 952,er P "net" 1706 959,er P "table" 1707 966,er P "other" 1708 973,er P "out" 1709 980,er P "drawn" 1710 987,er P "side" 1711 994]) 10
abbrev g26(P:aab):List DictEntry:=[er P "TOLD" 1751 1106]
abbrev o1106(P:aab):=D ([er P "bases" 1723 1015,er P "rings" 1724 1022,er P "flats" 1725 1029,er P "frees" 1726 1036,er P "rank" 1727 1043,er P "closed" 1728 1050,er P "same" 1729 1057,er P "two" 1730 1064,er P "three" 1731 1071,er P "all" 1732 1078,er P "common" 1733 1085,er P "heaviest" 1734 1092,er P "counts" 1735 1097,er P "worth" 1736 1104]) 14
abbrev g27(P:aab):List DictEntry:=[E P "__name__" 165 m18]
abbrev g28(P:aab):List DictEntry:=[er P "made" 1760 1113,er P "answered" 1769 1120,er P "Desk" 1813 1149,er P "_law_at" 1823 1160,er P "_law_stream" 1834 1167,er P "_law_names" 1840 1172,er P "_law_sizes" 1846 1177,er P "_law_even" 1852 1182,er P "_law_rank" 1864 1189,er P "_law_many_of" 1870 1194,er P "_law_sets_of" 1876 1199,er P "_law_text" 1882 1204,er P "_law_texts" 1888 1209,er P "_law_told_by" 1894 1214,er P "_law_two_rows" 1900 1219,er P "_law_new" 1906 1224,er P "_law_other" 1912 1229,er P "_law_minor" 1923 1236,er P "_law_side" 1934 1243,er P "_law_turned" 1949 1250,er P "_law_question" 1955 1255,er P "_law_answers" 1965 1262,er P "_law_nobody" 1974 1269,er P "_law_step" 1988 1276,er P "_law_last" 1998 1283,er P "law" 2011 1290]
abbrev o3v13(P:aab):=D ((g27 P).append ((g1 P).append ((g5 P).append ((g8 P).append ((g11 P).append ((g14 P).append ((g16 P).append ((g18 P).append ((g19 P).append ((g21 P).append ((g23 P).append ((g25 P).append ((g26 P).append (g28 P)))))))))))))) 186
noncomputable abbrev g29:=[I 644,I 0,R 1112,I 646,I 0,R 1119,I 649,I 0,R 1126,I 668,I 0,R 1159,I 672,I 0,R 1166,I 679,I 0,R 1171,I 692,I 0,R 1176,I 697,I 0,R 1181,I 708,I 0,R 1188,I 717,I 0,R 1193,I 719,I 0,R 1198,I 736,I 0,R 1203,I 740,I 0,R 1208,I 744,I 0,R 1213,I 752,I 0,R 1218,I 766,I 0,R 1223,I 796,I 0,R 1228,I 800,I 0,R 1235,I 806,I 0,R 1242,I 812,I 0,R 1249,I 830,I 0,R 1254,I 851,I 0,R 1261,I 854,I 0,R 1268,I 861,I 0,R 1275,I 876,I 0,R 1282,I 883,I 0,R 1289]
abbrev o1109:=#v[1755,"verb","houses","given"]
abbrev o1112:=kb "made" 1752 644 3 1111 1758
abbrev o1113:=f2 "made" BC m14 1112
abbrev o1116:=#v[1764,"verb","houses","given"]
abbrev o1119:=kb "answered" 1761 646 3 1118 1767
abbrev o1120:=f2 "answered" nD m14 1119
abbrev o1130:=#v[1787,"self"]
abbrev o1133:=kd "__init__" "Desk.__init__" 1784 651 1 1132 1788
abbrev o1134:=fk "__init__" "Desk.__init__" fW m19 1133
abbrev o1137:=#v[1794,"self","name"]
abbrev o1140:=kd "house_called" "Desk.house_called" 1791 654 2 1139 1796
abbrev o1141:=fk "house_called" "Desk.house_called" du m19 1140
abbrev o1145:=kc "say" "Desk.say" 1799 659 2 1144
abbrev o1146:=fk "say" "Desk.say" nH m19 1145
abbrev o1147:=#v[1805,"houses"]
abbrev o1148(P:aab):=D ([em P 1779 m19,el P 649 1782,er P "__init__" 1790 1134,er P "house_called" 1798 1141,er P "say" 1804 1146,es P 1806 1147,er P "__dict__" 1808 1150,er P "__weakref__" 1810 1151,E P "__doc__" 1811 .none]) 4
abbrev o1149:Obj:=⟨(.type "type"),none,aat {name:=aaf "Desk",bases:=[aae "object"],mro:=[aaa 1149,aae "object"],ns:=1148,qualname:=aaf "Desk"}, #[none,none,some (V "Desk" 1772),some (V "Desk" 1780),some (.builtin "object.__new__"),some (.bool true)]⟩
abbrev o1150:Obj:=⟨(.type "getset_descriptor"),none, .fields ⟨[V "__dict__" 1807,R 1149,(.builtin "function.__dict__"),(.builtin "function.__dict__#set")]⟩, #[]⟩
abbrev o1151:Obj:=⟨(.type "getset_descriptor"),none, .fields ⟨[V "__weakref__" 1809,R 1149,(.builtin "ExceptionGroup.__weakref__"), .none]⟩, #[]⟩
abbrev o1156:=#v[1819,"_law_script","_law_k"]
abbrev o1159:=kb "_law_at" 1816 668 2 1158 1821
abbrev o1160:=f2 "_law_at" pX m18 1159
abbrev o1163:=#v[1827,"_law_cell","_law_k","_law_number","_law_found","_law_j"]
abbrev o1166:=kb "_law_stream" 1824 672 2 1165 1832
abbrev o1167:=f2 "_law_stream" iF m18 1166
abbrev o1171:=ka "_law_names" 1835 679 1 1170
abbrev o1172:=f2 "_law_names" jB m18 1171
abbrev o1176:=ka "_law_sizes" 1841 692 1 1175
abbrev o1177:=f2 "_law_sizes" jz m18 1176
abbrev o1181:=ka "_law_even" 1847 697 3 1180
abbrev o1182:=f2 "_law_even" kZ m18 1181
abbrev o1185:=#v[1856,"_law_columns","_law_s","_law_steps","_law_k","_law_left","_law_step_here"]
abbrev o1188:=kb "_law_rank" 1853 708 2 1187 1862
abbrev o1189:=f2 "_law_rank" kX m18 1188
abbrev o1193:=ka "_law_many_of" 1865 717 1 1192
abbrev o1194:=f2 "_law_many_of" gK m18 1193
abbrev o1198:=ka "_law_sets_of" 1871 719 2 1197
abbrev o1199:=f2 "_law_sets_of" gJ m18 1198
abbrev o1203:=ka "_law_text" 1877 736 1 1202
abbrev o1204:=f2 "_law_text" kT m18 1203
abbrev o1208:=ka "_law_texts" 1883 740 1 1207
abbrev o1209:=f2 "_law_texts" jy m18 1208
abbrev o1213:=ka "_law_told_by" 1889 744 3 1212
abbrev o1214:=f2 "_law_told_by" gI m18 1213
abbrev o1218:=ka "_law_two_rows" 1895 752 2 1217
abbrev o1219:=f2 "_law_two_rows" fP m18 1218
abbrev o1223:=ka "_law_new" 1901 766 2 1222
abbrev o1224:=f2 "_law_new" nF m18 1223
abbrev o1228:=ka "_law_other" 1907 796 1 1227
abbrev o1229:=f2 "_law_other" jA m18 1228
abbrev o1232:=#v[1916,"_law_told","_law_out","_law_drawn","_law_found","_law_s"]
abbrev o1235:=kb "_law_minor" 1913 800 3 1234 1921
abbrev o1236:=f2 "_law_minor" jC m18 1235
abbrev o1239:=#v[1927,"_law_first","_law_second","_law_found","_law_high","_law_low"]
abbrev o1242:=kb "_law_side" 1924 806 2 1241 1932
abbrev o1243:=f2 "_law_side" kW m18 1242
abbrev o1246:=#v[1938,"_law_names_here","_law_there","_law_xs","_law_first","_law_second","_law_told","_law_more","_law_s","_law_way"]
abbrev o1249:=kb "_law_turned" 1935 812 3 1248 1947
abbrev o1250:=f2 "_law_turned" iE m18 1249
abbrev o1254:=ka "_law_question" 1950 830 3 1253
abbrev o1255:=f2 "_law_question" fQ m18 1254
abbrev o1258:=#v[1959,"_law_desk","_law_line","_law_due","_law_found"]
abbrev o1261:=kb "_law_answers" 1956 851 3 1260 1963
abbrev o1262:=f2 "_law_answers" gL m18 1261
abbrev o1265:=#v[1969,"_law_desk","_law_line","_law_nobody_here"]
abbrev o1268:=kb "_law_nobody" 1966 854 2 1267 1972
abbrev o1269:=f2 "_law_nobody" iG m18 1268
abbrev o1272:=#v[1978,"_law_desk","_law_there","_law_names_here","_law_xs","_law_name","_law_line","_law_due","_law_told"]
abbrev o1275:=kb "_law_step" 1975 861 4 1274 1986
abbrev o1276:=f2 "_law_step" kU m18 1275
abbrev o1279:=#v[1992,"_law_desk","_law_there","_law_name","_law_word"]
abbrev o1282:=kb "_law_last" 1989 876 3 1281 1996
abbrev o1283:=f2 "_law_last" kY m18 1282
abbrev o1286:=#v[2002,"_law_script","_law_names_here","_law_desks","_law_kept","_law_cells","_law_k","_law_name"]
abbrev o1289:=kb "law" 1999 883 1 1288 2009
abbrev o1290:=f2 "law" tF m18 1289
abbrev ub(x:Obj)(P:aab):List Obj:=[boot_o_0 P,boot_o_1 P,boot_o_2 P,x,boot_o_4 P,boot_o_5 P,boot_o_6 P,boot_o_7 P,boot_o_8 P,boot_o_9 P,boot_o_10 P,Y]
abbrev u0(P:aab):=ub (boot_o_3 P) P
abbrev u1(P:aab):=[Z,o13,o14]
abbrev u2(P:aab):=ub (D ((g0 P).append (g1 P)) 33) P
abbrev u3(P:aab):=[W (g2.append g3),o13,o14,Y,Z,o17,Y,o19,o20,o21,Y,Z]
abbrev u4(P:aab):=[f1 "things" sY,o25,o26,Y,Z,o29,Y,f1 "size" Bz,o32,o33,Y,Z]
abbrev u5(P:aab):=[o36,Y,f1 "set_of" tm,o39,o40,Y,Z,o43,Y,f1 "within" sU,o46,o47]
abbrev u6(P:aab):=[Y,Z,f1 "parts" xR,o51,o52,Y,Z,f1 "choices" wg,ka "choices" 233 20 2 55,f2 "choices" wg m1 56,Y,Z]
abbrev u7(P:aab):=[f1 "spread" tf,o61,o62,Y,Z,o65,Y,f1 "all_of" tJ,o68,o69,Y,Z]
abbrev u8(P:aab):=[o72,Y,f1 "less" BE,o75,o76,Y,Z,f1 "marked" tE,o80,o81,Y,Z]
abbrev u9(P:aab):=[o84,Y,f1 "exchanged" kO,o87,o88,Y,Z,o91,Y,f1 "has_exchange" gE,o94,o95]
abbrev u10(P:aab):=[Y,Z,o98,Y,f1 "broken_bases" gH,o101,o102,Y,Z,o105,Y,f1 "holds_ring" jx]
abbrev u11(P:aab):=[o108,o109,Y,Z,o112,Y,f1 "ring_in_ring" gC,o115,o116,Y,Z,o119]
abbrev u12(P:aab):=[Y,f1 "rings_without_third" cH,o122,o123,Y,Z,o126,Y,f1 "broken_rings" gF,o129,o130,Y]
abbrev u13(P:aab):=[Z,o133,Y,f1 "common_not_listed" dq,o136,o137,Y,Z,o140,Y,f1 "least_flat" jw,o143]
abbrev u14(P:aab):=[o144,Y,Z,o147,Y,f1 "flats_that_meet" d9,o150,o151,Y,Z,o154,Y]
abbrev u15(P:aab):=[f1 "broken_flats" gG,o157,o158,T [(.type "ValueError")],bp,D ([em P 389 m0,E P "__qualname__" 391 m3,el P 106 392,es P 394 166]) 4,Y,Z,kz "HouseError" 384 106 162,fr 164 161 m0,Y,o167 P]
abbrev u16(P:aab):=[⟨(.type "type"),none,aat {name:=aaf "HouseError",bases:=[aae "ValueError"],mro:=[aaa 168,aae "ValueError",aae "Exception",aae "BaseException",aae "object"],ns:=167,qualname:=aaf "HouseError",subclasses:=[aaa 181]}, #[some (R 159),none,some (V "HouseError" 382),some m3,some (.builtin "ValueError.__new__"),some (.bool true)]⟩,o169,o170,o171,o172,o173,o174 P,Y,Z,o177,o178,Y]
abbrev u17(P:aab):=[o180 P,o181,o182,o183]
abbrev u18(P:aab):=ub (D ((g4 P).append ((g1 P).append (g5 P))) 38) P
abbrev u19(P:aab):=[W (g2.append (g3.append g6)),o13,o14,Y,Z,o17,Y,o19,o20,o21,Y,Z]
abbrev u20(P:aab):=[o168v1,o169,o170,o171,o172,o173,o174 P,Y,Z,o177,o178,Y]
abbrev u21(P:aab):=[o180 P,o181,o182,o183,T [R 168],bp,D ([em P 423 m0,eq P "NoHouse" 424,el P 110 426,er P "__init__" 437 197,es P 441 198]) 5,Y,W [I 112,I 4,R 196],kz "NoHouse" 418 110 187,fr 189 186 m0,Y]
abbrev u22(P:aab):=[Z,#v[431,"self","one","other","thing"],Y,ff "__init__" "NoHouse.__init__" gM,kd "__init__" "NoHouse.__init__" 428 112 4 195 435,fk "__init__" "NoHouse.__init__" gM m0 196,o198,o199 P,o200,su 200,bi 200,o203]
abbrev u23(P:aab):=[bp,D ([em P 452 m0,eq P "NoLine" 453,el P 117 455,es P 457 210]) 4,Y,Z,kz "NoLine" 447 117 206,fr 208 205 m0,Y,o211 P,o212,su 212,bi 212,o215]
abbrev u24(P:aab):=[bp,D ([em P 468 m0,eq P "NoName" 469,el P 119 471,es P 473 222]) 4,Y,Z,kz "NoName" 463 119 218,fr 220 217 m0,Y,o223 P,o224,su 224,bi 224,o227]
abbrev u25(P:aab):=[bp,D ([em P 484 m0,eq P "NoFit" 485,el P 121 487,es P 489 234]) 4,Y,Z,kz "NoFit" 479 121 230,fr 232 229 m0,Y,o235 P,o236,su 236,bi 236,Y]
abbrev u26(P:aab):=[bp,D ([em P 502 m4,E P "__qualname__" 504 m5,el P 124 505,er P "__init__" 514 252,er P "rank" 522 259,er P "everything" 529 266,es P 531 267]) 7,Y,W [I 126,I 4,R 251,I 129,I 4,R 258,I 132,I 4,R 265],kz "House" 497 124 242,fr 244 241 m4,Y,Z,o248,Y,ff "__init__" "House.__init__" eX,o251]
abbrev u27(P:aab):=[o252,Y,Z,#v[518,"self","s"],Y,ff "rank" "House.rank" oI,kd "rank" "House.rank" 515 129 2 257 520,fk "rank" "House.rank" oI m4 258,Y,Z,o262,Y]
abbrev u28(P:aab):=[o264,o265,o266,o267,o268 P,⟨(.type "type"),none,aat {name:=aaf "House",bases:=[aae "object"],mro:=[aaa 269,aae "object"],ns:=268,qualname:=aaf "House"}, #[none,none,some m6,some m5,some (.builtin "object.__new__"),some (.bool true)]⟩,o270,o271,o272,o273]
abbrev u29(P:aab):=ub (D ((g7 P).append ((g1 P).append ((g5 P).append (g8 P)))) 56) P
abbrev u30(P:aab):=[W (g2.append (g3.append (g6.append g9))),o13,o14,Y,Z,o17,Y,o19,o20,o21,Y,Z]
abbrev u31(P:aab):=[o264,o265,o266,o267,o268 P,⟨(.type "type"),none,aat {name:=aaf "House",bases:=[aae "object"],mro:=[aaa 269,aae "object"],ns:=268,qualname:=aaf "House",subclasses:=[aaa 297,aaa 321]}, #[none,none,some m6,some m5,some (.builtin "object.__new__"),some (.bool true)]⟩,o270,o271,o272,o273,o274,o275]
abbrev u32(P:aab):=[D ([em P 546 m4,eq P "Even" 547,el P 134 549,er P "__init__" 559 287,er P "rank" 567 294,es P 569 295]) 6,Y,W [I 136,I 4,R 286,I 140,I 4,R 293],kz "Even" 541 134 277,fr 279 276 m4,Y,Z,o283,Y,ff "__init__" "Even.__init__" fV,o286,o287]
abbrev u33(P:aab):=[Y,Z,o290,Y,ff "rank" "Even.rank" k7,o293,o294,o295,o296 P,o297,su 297,bi 297]
abbrev u34(P:aab):=[o300,bp,D ([em P 580 m4,eq P "Listed" 581,el P 142 583,er P "__init__" 593 313,er P "rank" 599 318,es P 601 319]) 6,Y,W [I 144,I 4,R 312,I 148,I 4,R 317],kz "Listed" 575 142 303,fr 305 302 m4,Y,Z,o309,Y,ff "__init__" "Listed.__init__" eu]
abbrev u35(P:aab):=[o312,o313,Y,Z,ff "rank" "Listed.rank" iI,o317,o318,o319,o320 P,o321,su 321,bi 321]
abbrev u36(P:aab):=[Y,Z,o326,Y,f1 "whole_rank" jf,o329,o330,Y,Z,f1 "ranks" xQ,o334,o335]
abbrev u37(P:aab):=[Y,Z,f1 "frees" xT,o339,o340,Y,Z,f1 "bases" xV,o344,o345,Y,Z]
abbrev u38(P:aab):=[f1 "is_ring" pQ,o349,o350,Y,Z,f1 "rings" xO,o354,o355,Y,Z,f1 "is_flat" pT,o359]
abbrev u39(P:aab):=[o360,Y,Z,f1 "flats" xU,o364,o365,Y,Z,o368,Y,f1 "closed" tI,o371]
abbrev u40(P:aab):=[o372,Y,Z,o375,Y,f1 "refuse" tq,o378,o379,Y,Z,f1 "house_of_frees" eU,o383]
abbrev u41(P:aab):=[o384,Y,Z,o387,Y,f1 "of_bases" nz,o390,o391,Y,Z,f1 "of_rings" nt,o395]
abbrev u42(P:aab):=[o396,Y,Z,f1 "is_free" pR,o400,o401,Y,Z,f1 "of_flats" nu,o405,o406,Y]
abbrev u43(P:aab):=[Z,o409,o410,o411]
abbrev u44(P:aab):=ub (D ((g10 P).append ((g1 P).append ((g5 P).append ((g8 P).append (g11 P))))) 73) P
abbrev u45(P:aab):=[W (g2.append (g3.append (g6.append (g9.append g12)))),o13,o14,Y,Z,o17,Y,o19,o20,o21,Y,Z]
abbrev u46(P:aab):=[o264,o265,o266,o267,o268 P,⟨(.type "type"),none,aat {name:=aaf "House",bases:=[aae "object"],mro:=[aaa 269,aae "object"],ns:=268,qualname:=aaf "House",subclasses:=[aaa 297,aaa 321,aaa 435,aaa 461,aaa 487]}, #[none,none,some m6,some m5,some (.builtin "object.__new__"),some (.bool true)]⟩,o270,o271,o272,o273,o274,o275]
abbrev u47(P:aab):=[Z,o409,o410,o411,o412,bp,D ([em P 723 m7,eq P "Other" 724,el P 209 726,er P "__init__" 735 425,er P "rank" 744 432,es P 748 433]) 6,Y,W [I 211,I 4,R 424,I 217,I 4,R 431],kz "Other" 718 209 415,fr 417 414 m7,Y]
abbrev u48(P:aab):=[Z,o421,Y,ff "__init__" "Other.__init__" eV,o424,o425,Y,Z,o428,Y,ff "rank" "Other.rank" jD,o431]
abbrev u49(P:aab):=[o432,o433,o434 P,o435,su 435,bi 435,o438,bp,D ([em P 759 m7,eq P "Minor" 760,el P 220 762,er P "__init__" 774 451,er P "rank" 782 458,es P 787 459]) 6,Y,W [I 222,I 4,R 450,I 230,I 4,R 457],kz "Minor" 754 220 441]
abbrev u50(P:aab):=[fr 443 440 m7,Y,Z,o447,Y,ff "__init__" "Minor.__init__" eW,o450,o451,Y,Z,o454,Y]
abbrev u51(P:aab):=[ff "rank" "Minor.rank" jF,o457,o458,o459,o460 P,o461,su 461,bi 461,o464,bp,D ([em P 798 m7,eq P "Side" 799,el P 232 801,er P "__init__" 811 477,er P "rank" 819 484,es P 824 485]) 6,Y]
abbrev u52(P:aab):=[W [I 234,I 4,R 476,I 241,I 4,R 483],kz "Side" 793 232 467,fr 469 466 m7,Y,Z,o473,Y,ff "__init__" "Side.__init__" fR,o476,o477,Y,Z]
abbrev u53(P:aab):=[o480,Y,ff "rank" "Side.rank" k6,o483,o484,#v[820,"first","first_full","first_many","second"],o486 P,o487,su 487,bi 487,Y,Z]
abbrev u54(P:aab):=[f1 "is_even" wc,ka "is_even" 840 249 3 492,f2 "is_even" wc m10 493,Y,Z,f1 "holders" we,ka "holders" 846 253 2 497,f2 "holders" we m10 498,Y,Z,f1 "is_seven" tG,ka "is_seven" 852 255 1 502]
abbrev u55(P:aab):=[f2 "is_seven" tG m10 503,Y,Z,#v[861,"house"],Y,f1 "kind_of" wb,kb "kind_of" 858 261 1 509 862,f2 "kind_of" wb m10 510,Y,Z,f1 "rests" xP,o515]
abbrev u56(P:aab):=[o516,Y,Z,o519,Y,f1 "pivot_place" iA,o522,o523,Y,Z,f1 "cleared" pW,o527]
abbrev u57(P:aab):=[o528,Y,Z,o531,o532,o533,Y,Z,o536,o537,o538]
abbrev u58(P:aab):=ub (D ((g13 P).append ((g1 P).append ((g5 P).append ((g8 P).append ((g11 P).append (g14 P)))))) 102) P
abbrev u59(P:aab):=[W (g2.append (g3.append (g6.append (g9.append (g12.append g15))))),o13,o14,Y,Z,o17,Y,o19,o20,o21,Y,Z]
abbrev u60(P:aab):=[o264,o265,o266,o267,o268 P,⟨(.type "type"),none,aat {name:=aaf "House",bases:=[aae "object"],mro:=[aaa 269,aae "object"],ns:=268,qualname:=aaf "House",subclasses:=[aaa 297,aaa 321,aaa 435,aaa 461,aaa 487,aaa 562]}, #[none,none,some m6,some m5,some (.builtin "object.__new__"),some (.bool true)]⟩,o270,o271,o272,o273,o274,o275]
abbrev u61(P:aab):=[o528,Y,Z,o531,o532,o533,Y,Z,o536,o537,o538,T [R 269]]
abbrev u62(P:aab):=[bp,D ([em P 910 m9,eq P "Known" 911,el P 307 913,er P "__init__" 922 552,er P "rank" 930 559,es P 932 560]) 6,Y,W [I 309,I 4,R 551,I 313,I 4,R 558],kz "Known" 905 307 542,fr 544 541 m9,Y,Z,#v[918,"self","house"],Y,ff "__init__" "Known.__init__" iR,kd "__init__" "Known.__init__" 915 309 2 550 920]
abbrev u63(P:aab):=[fk "__init__" "Known.__init__" iR m9 551,Y,Z,#v[926,"self","s"],Y,ff "rank" "Known.rank" oH,kd "rank" "Known.rank" 923 313 2 557 928,fk "rank" "Known.rank" oH m9 558,#v[931,"told"],o561 P,o562,su 562]
abbrev u64(P:aab):=[bi 562,Y,Z,f1 "columns_with" kP,ka "columns_with" 936 315 2 567,f2 "columns_with" kP m9 568,Y,Z,f1 "fits" HI,ka "fits" 942 324 5 572,f2 "fits" HI m9 573,Y]
abbrev u65(P:aab):=[Z,f1 "column_for" oG,ka "column_for" 948 331 5 577,f2 "column_for" oG m9 578,Y,Z,f1 "single" zQ,ka "single" 954 338 2 582,f2 "single" zQ m9 583,Y,Z,f1 "table_for" qL]
abbrev u66(P:aab):=[ka "table_for" 960 340 2 587,f2 "table_for" qL m9 588,Y,Z,#v[969,"house","kind","many","rank","kept","rest","drawn","out"],Y,f1 "left_barred" mI,kb "left_barred" 966 352 4 594 977,f2 "left_barred" mI m9 595,Y,Z,#v[983,"house","prime","kinds","known","rows","kind","found"]]
abbrev u67(P:aab):=[Y,f1 "told_over" qK,kb "told_over" 980 360 3 601 990,f2 "told_over" qK m9 602,Y,Z,#v[996,"house"],Y,f1 "over_two" tw,kb "over_two" 993 370 1 608 997,f2 "over_two" tw m9 609,Y]
abbrev u68(P:aab):=[Z,#v[1003,"house","kinds"],Y,f1 "over_three" oF,kb "over_three" 1000 372 1 615 1005,f2 "over_three" oF m9 616,Y,Z,f1 "over_all" tD,ka "over_all" 1008 375 1 620,f2 "over_all" tD m9 621,Y]
abbrev u69(P:aab):=[Z,f1 "shown" xM,o626,o627,Y,Z,f1 "read" BA,o631,o632,Y,Z,f1 "shown_all" kF]
abbrev u70(P:aab):=[o636,o637,o638,Y,bp,D ([em P 1082 m12,eq P "Line" 1083,el P 403 1085,er P "__init__" 1097 652,es P 1102 653]) 5,Y,W [I 405,I 4,R 651],kz "Line" 1077 403 642,fr 644 641 m12,Y,Z]
abbrev u71(P:aab):=[o648,Y,ff "__init__" "Line.__init__" fS,o651,o652,o653,o654 P,o655,o656,o657,su 655,bi 655]
abbrev u72(P:aab):=[Y,Z,o662,Y,f1 "need" BB,o665,o666,Y,Z,f1 "made_of" pO,o670,o671]
abbrev u73(P:aab):=[Y,Z,o674,Y,f1 "name_of" pM,o677,o678,Y,Z,o681,Y,f1 "number_of" kL]
abbrev u74(P:aab):=[o684,o685,Y,Z,o688,Y,f1 "number_up_to" gD,o691,o692,Y,Z,o695]
abbrev u75(P:aab):=[Y,o697,o698,o699,Y,Z,o702,Y,o704,o705,o706]
abbrev u76(P:aab):=ub (D ((g13 P).append ((g1 P).append ((g5 P).append ((g8 P).append ((g11 P).append ((g14 P).append (g16 P))))))) 114) P
abbrev u77(P:aab):=[W (g2.append (g3.append (g6.append (g9.append (g12.append (g15.append g17)))))),o13,o14,Y,Z,o17,Y,o19,o20,o21,Y,Z]
abbrev u78(P:aab):=[Y,o697,o698,o699,Y,Z,o702,Y,o704,o705,o706,Y]
abbrev u79(P:aab):=[Z,o709,Y,f1 "tie_of" sX,o712,o713,Y,Z,f1 "rows_of" pK,o717,o718,Y]
abbrev u80(P:aab):=[Z,o721,Y,f1 "read_even" kK,o724,o725,Y,Z,f1 "read_sets" kJ,o729,o730,Y]
abbrev u81(P:aab):=[Z,f1 "read_net" nr,o734,o735,Y,Z,f1 "read_table" jo,o739,o740,Y,Z,o743]
abbrev u82(P:aab):=[Y,f1 "read_house" jq,o746,o747,Y,Z,f1 "read_two_houses" d7,o751,o752,Y,Z,o755]
abbrev u83(P:aab):=[Y,f1 "read_house_and_set" cX,o758,o759,Y,Z,f1 "read_house_and_numbers" dC,ka "read_house_and_numbers" 1224 475 1 762,f2 "read_house_and_numbers" dC m12 763,Y,Z,#v[1233,"words"]]
abbrev u84(P:aab):=[Y,o769,o770,o771,Y,Z,o774,Y,o776,o777,o778]
abbrev u85(P:aab):=ub (D ((g13 P).append ((g1 P).append ((g5 P).append ((g8 P).append ((g11 P).append ((g14 P).append ((g16 P).append (g18 P)))))))) 115) P
abbrev u86(P:aab):=[Y,o769,o770,o771,Y,Z,o774,Y,o776,o777,o778,o779 P]
abbrev u87(P:aab):=ub (D ((g13 P).append ((g1 P).append ((g5 P).append ((g8 P).append ((g11 P).append ((g14 P).append ((g16 P).append ((g18 P).append (g19 P))))))))) 116) P
abbrev u88(P:aab):=[o780 P]
abbrev u89(P:aab):=ub (D ((g20 P).append ((g1 P).append ((g5 P).append ((g8 P).append ((g11 P).append ((g14 P).append ((g16 P).append ((g18 P).append ((g19 P).append (g21 P)))))))))) 137) P
abbrev u90(P:aab):=[W (g2.append (g3.append (g6.append (g9.append (g12.append (g15.append (g17.append g22))))))),o13,o14,Y,Z,o17,Y,o19,o20,o21,Y,Z]
abbrev u91(P:aab):=[o264,o265,o266,o267,o268 P,o269v4,o270,o271,o272,o273,o274,o275]
abbrev u92(P:aab):=[o780 P,Y,Z,o783,Y,f1 "making_line" iB,o786,o787,Y,Z,o790,Y]
abbrev u93(P:aab):=[f1 "asking_line" iC,o793,o794,Y,Z,o797,Y,f1 "line_of" pP,o800,o801,Y,Z]
abbrev u94(P:aab):=[f1 "tied" By,o805,o806,o807,bp,D ([em P 1336 m15,eq P "Net" 1337,el P 507 1339,er P "__init__" 1346 818,er P "pieces" 1356 825,er P "rank" 1364 832,es P 1367 833]) 7,Y,W [I 509,I 4,R 817,I 514,I 4,R 824,I 520,I 4,R 831],kz "Net" 1331 507 810,fr 812 809 m15,Y,Z]
abbrev u95(P:aab):=[ff "__init__" "Net.__init__" gN,o817,o818,Y,Z,o821,Y,ff "pieces" "Net.pieces" jE,o824,o825,Y,Z]
abbrev u96(P:aab):=[o828,Y,ff "rank" "Net.rank" nG,o831,o832,#v[1365,"points","ties"],o834 P,o835,su 835,bi 835,Y,Z]
abbrev u97(P:aab):=[#v[1376,"number","exponent","product","step"],Y,f1 "power" Dr,kb "power" 1373 523 2 842 1380,f2 "power" Dr m16 843,Y,Z,f1 "times" Dq,ka "times" 1383 528 3 847,f2 "times" Dq m16 848,Y,Z]
abbrev u98(P:aab):=[#v[1392,"one","other","found","pair"],Y,f1 "plus" HH,kb "plus" 1389 530 2 854 1396,f2 "plus" HH m16 855,Y,Z,#v[1402,"told","drawn","left","thing","behind","everything","taken_out"],Y,f1 "terms_of" sZ,kb "terms_of" 1399 535 3 861 1409,f2 "terms_of" sZ m16 862]
abbrev u99(P:aab):=[T [.none],Y,Z,f1 "polynomial" oE,ka "polynomial" 1412 547 2 867,o869,Y,Z,f1 "worth" Dp,ka "worth" 1418 551 3 872,f2 "worth" Dp m16 873,Y]
abbrev u100(P:aab):=[Z,#v[1427,"house","poly"],Y,f1 "counts" zR,kb "counts" 1424 553 1 879 1429,f2 "counts" zR m16 880,o882,bp,D ([em P 1441 m17,eq P "Tabled" 1442,el P 557 1444,er P "__init__" 1451 893,er P "rank" 1457 898,es P 1460 899]) 6,Y,W [I 559,I 4,R 892,I 564,I 4,R 897],kz "Tabled" 1436 557 885]
abbrev u101(P:aab):=[fr 887 884 m17,Y,Z,ff "__init__" "Tabled.__init__" eh,o892,o893,Y,Z,ff "rank" "Tabled.rank" iH,o897,o898,#v[1458,"prime","rows"]]
abbrev u102(P:aab):=[o900 P,o901,su 901,bi 901,Y,Z,#v[1469,"house","weights","order","taken","thing","more"],#v[1475,"weights"],f1 "heaviest" tH,kb "heaviest" 1466 568 2 908 1476,f2 "heaviest" tH (V "basehouse.weights" 1464) 909,Y]
abbrev u103(P:aab):=[Z,o913,Y,f1 "fit" HJ,o916,o917,Y,Z,o920,Y,f1 "fit_set" pU,o923]
abbrev u104(P:aab):=[o924,Y,Z,o927,Y,f1 "made_even" kN,o930,o931,Y,Z,o934,Y]
abbrev u105(P:aab):=[f1 "made_of_bases" fO,o937,o938,Y,Z,o941,Y,f1 "made_of_rings" fL,o944,o945,Y,Z]
abbrev u106(P:aab):=[o948,Y,f1 "made_of_flats" fN,o951,o952,Y,Z,o955,Y,f1 "made_net" nC,o958,o959]
abbrev u107(P:aab):=ub (D ((g20 P).append ((g1 P).append ((g5 P).append ((g8 P).append ((g11 P).append ((g14 P).append ((g16 P).append ((g18 P).append ((g19 P).append ((g21 P).append (g23 P))))))))))) 158) P
abbrev u108(P:aab):=[W (g2.append (g3.append (g6.append (g9.append (g12.append (g15.append (g17.append (g22.append g24)))))))),o13,o14,Y,Z,o17,Y,o19,o20,o21,Y,Z]
abbrev u109(P:aab):=[Y,Z,o962,Y,f1 "made_table" jr,o965,o966,Y,Z,o969,Y,f1 "made_other" jt]
abbrev u110(P:aab):=[o972,o973,Y,Z,o976,Y,f1 "made_out" nB,o979,o980,Y,Z,o983]
abbrev u111(P:aab):=[Y,f1 "made_drawn" jv,o986,o987,Y,Z,o990,Y,f1 "made_side" kM,o993,o994,Y]
abbrev u112(P:aab):=[Z,o997,Y,f1 "sets_text" kG,o1000,o1001,Y,Z,o1004,Y,f1 "yes_or_no" kA,o1007]
abbrev u113(P:aab):=[o1008,Y,Z,o1011,Y,f1 "told_bases" jk,o1014,o1015,Y,Z,o1018,Y]
abbrev u114(P:aab):=[f1 "told_rings" jg,o1021,o1022,Y,Z,o1025,Y,f1 "told_flats" ji,o1028,o1029,Y,Z]
abbrev u115(P:aab):=[o1032,Y,f1 "told_frees" jh,o1035,o1036,Y,Z,o1039,Y,f1 "told_rank" kC,o1042,o1043]
abbrev u116(P:aab):=[Y,Z,o1046,Y,f1 "told_closed" iz,o1049,o1050,Y,Z,o1053,Y,f1 "told_same" kB]
abbrev u117(P:aab):=[o1056,o1057,Y,Z,#v[1651,"houses","given"],Y,f1 "told_two" sV,kb "told_two" 1648 626 2 1062 1653,f2 "told_two" sV m14 1063,Y,Z,#v[1659,"houses","given"]]
abbrev u118(P:aab):=[Y,f1 "told_three" oA,kb "told_three" 1656 628 2 1069 1661,f2 "told_three" oA m14 1070,Y,Z,#v[1667,"houses","given"],Y,f1 "told_all" sW,kb "told_all" 1664 630 2 1076 1669,f2 "told_all" sW m14 1077,Y]
abbrev u119(P:aab):=[Z,#v[1675,"houses","given"],Y,f1 "told_common" mH,kb "told_common" 1672 632 2 1083 1677,f2 "told_common" mH m14 1084,Y,Z,#v[1683,"houses","given"],Y,f1 "told_heaviest" j4,kb "told_heaviest" 1680 635 2 1090 1685]
abbrev u120(P:aab):=[f2 "told_heaviest" j4 m14 1091,Y,Z,f1 "told_counts" mG,ka "told_counts" 1688 638 2 1095,f2 "told_counts" mG m14 1096,Y,Z,#v[1697,"houses","given"],Y,f1 "told_worth" oz,kb "told_worth" 1694 640 2 1102 1699]
abbrev u121(P:aab):=[o1104]
abbrev u122(P:aab):=ub (D ((g20 P).append ((g1 P).append ((g5 P).append ((g8 P).append ((g11 P).append ((g14 P).append ((g16 P).append ((g18 P).append ((g19 P).append ((g21 P).append ((g23 P).append (g25 P)))))))))))) 159) P
abbrev u123(P:aab):=[o1104,o1105 P]
abbrev u124(P:aab):=ub (D ((g20 P).append ((g1 P).append ((g5 P).append ((g8 P).append ((g11 P).append ((g14 P).append ((g16 P).append ((g18 P).append ((g19 P).append ((g21 P).append ((g23 P).append ((g25 P).append (g26 P))))))))))))) 160) P
abbrev u125(P:aab):=[o1104,o1105 P,o1106 P]
abbrev u126(P:aab):=ub (o3v13 P) P
abbrev u127(P:aab):=[W (g2.append (g3.append (g6.append (g9.append (g12.append (g15.append (g17.append (g22.append (g24.append g29))))))))),o13,o14,Y,Z,o17,Y,o19,o20,o21,Y,Z]
abbrev u128(P:aab):=[o1104,o1105 P,o1106 P,Y,Z,o1109,Y,f1 "made" BC,o1112,o1113,Y,Z]
abbrev u129(P:aab):=[o1116,Y,f1 "answered" nD,o1119,o1120,Y,bp,D ([em P 1779 m19,eq P "Desk" 1780,el P 649 1782,er P "__init__" 1790 1134,er P "house_called" 1798 1141,er P "say" 1804 1146,es P 1806 1147]) 7,Y,W [I 651,I 4,R 1133,I 654,I 4,R 1140,I 659,I 4,R 1145],kz "Desk" 1774 649 1124,fr 1126 1123 m19]
abbrev u130(P:aab):=[Y,Z,o1130,Y,ff "__init__" "Desk.__init__" fW,o1133,o1134,Y,Z,o1137,Y,ff "house_called" "Desk.house_called" du]
abbrev u131(P:aab):=[o1140,o1141,Y,Z,ff "say" "Desk.say" nH,o1145,o1146,o1147,o1148 P,o1149,o1150,o1151]
abbrev u132(P:aab):=[su 1149,bi 1149,Y,Z,o1156,Y,f1 "_law_at" pX,o1159,o1160,Y,Z,o1163]
abbrev u133(P:aab):=[Y,f1 "_law_stream" iF,o1166,o1167,Y,Z,f1 "_law_names" jB,o1171,o1172,Y,Z,f1 "_law_sizes" jz]
abbrev u134(P:aab):=[o1176,o1177,Y,Z,f1 "_law_even" kZ,o1181,o1182,Y,Z,o1185,Y,f1 "_law_rank" kX]
abbrev u135(P:aab):=[o1188,o1189,Y,Z,f1 "_law_many_of" gK,o1193,o1194,Y,Z,f1 "_law_sets_of" gJ,o1198,o1199]
abbrev u136(P:aab):=[Y,Z,f1 "_law_text" kT,o1203,o1204,Y,Z,f1 "_law_texts" jy,o1208,o1209,Y,Z]
abbrev u137(P:aab):=[f1 "_law_told_by" gI,o1213,o1214,Y,Z,f1 "_law_two_rows" fP,o1218,o1219,Y,Z,f1 "_law_new" nF,o1223]
abbrev u138(P:aab):=[o1224,Y,Z,f1 "_law_other" jA,o1228,o1229,Y,Z,o1232,Y,f1 "_law_minor" jC,o1235]
abbrev u139(P:aab):=[o1236,Y,Z,o1239,Y,f1 "_law_side" kW,o1242,o1243,Y,Z,o1246,Y]
abbrev u140(P:aab):=[f1 "_law_turned" iE,o1249,o1250,Y,Z,f1 "_law_question" fQ,o1254,o1255,Y,Z,o1258,Y]
abbrev u141(P:aab):=[f1 "_law_answers" gL,o1261,o1262,Y,Z,o1265,Y,f1 "_law_nobody" iG,o1268,o1269,Y,Z]
abbrev u142(P:aab):=[o1272,Y,f1 "_law_step" kU,o1275,o1276,Y,Z,o1279,Y,f1 "_law_last" kY,o1282,o1283]
abbrev u143(P:aab):=[Y,Z,o1286,Y,f1 "law" tF,o1289,o1290]
theorem yu0:([u0,u1,u2,u3,u4,u5,u6,u7,u8,u9,u10,u11,u12,u13,u14,u15,u16,u17,u18,u19,u20,u21,u22,u23,u24,u25,u26,u27,u28,u29]:List (aab->List Obj)).all (λ_=>true)=true:=by k_qdec
theorem yu30:([u30,u31,u32,u33,u34,u35,u36,u37,u38,u39,u40,u41,u42,u43,u44,u45,u46,u47,u48,u49,u50,u51,u52,u53,u54,u55,u56,u57,u58,u59]:List (aab->List Obj)).all (λ_=>true)=true:=by k_qdec
theorem yu60:([u60,u61,u62,u63,u64,u65,u66,u67,u68,u69,u70,u71,u72,u73,u74,u75,u76,u77,u78,u79,u80,u81,u82,u83,u84,u85,u86,u87,u88,u89]:List (aab->List Obj)).all (λ_=>true)=true:=by k_qdec
theorem yu90:([u90,u91,u92,u93,u94,u95,u96,u97,u98,u99,u100,u101,u102,u103,u104,u105,u106,u107,u108,u109,u110,u111,u112,u113,u114,u115,u116,u117,u118,u119]:List (aab->List Obj)).all (λ_=>true)=true:=by k_qdec
theorem yu120:([u120,u121,u122,u123,u124,u125,u126,u127,u128,u129,u130,u131,u132,u133,u134,u135,u136,u137,u138,u139,u140,u141,u142,u143]:List (aab->List Obj)).all (λ_=>true)=true:=by k_qdec
abbrev spl(l:List Obj):List Obj×List Obj:= @List.rec Obj (λ_=>List Obj×List Obj) ([],[]) (λx _ ih=>(x::ih.2,ih.1)) l
abbrev mkT(n:Nat):List Obj->BT:= @Nat.rec (λ_=>List Obj->BT) (λ_=> .nil) (λ_ ih l=> @List.rec Obj (λ_=>BT) .nil (λx r _=> .node x (ih (spl r).1) (ih (spl r).2)) l) n
theorem qh{α:Sort u}{a b c d:α}(h:a=b)(k:d=c)(e:b=c):a=d:=h.trans (e.trans k.symm)
abbrev l0(P:aab):=#v[0,1]
abbrev p0(P:aab):=#v[4,5,6,7,8,9,10,11,12,13,14,15,16]
abbrev l2(P:aab):=#v[2,3,p0,17]
abbrev p1(P:aab):=#v[4,5,6,7,8,9,10,11,12,13,14,15,20,21,22,23,24,25,26,27]
abbrev l3(P:aab):=#v[18,19,p1,28]
abbrev p2(P:aab):=#v[p1,31,32,33,34,35,36,37,38,39,40,41,42]
abbrev l4(P:aab):=#v[29,30,p2,43]
abbrev p3(P:aab):=#v[p1,46,32,33,34,35,36,37,38,39,40,41,42,47,48,49,50,51,52,53,54,55,56]
abbrev l5(P:aab):=#v[44,45,p3,57]
abbrev p4(P:aab):=#v[p1,60,32,33,34,35,36,37,38,39,40,41,42,47,48,49,50,51,52,53,54,55,56,61,62,63,64,65,66,67,68,69,70,71,72,73,74]
abbrev l6(P:aab):=#v[58,59,p4,75]
abbrev p5(P:aab):=#v[p4,78,79,80,81,82,83]
abbrev l7(P:aab):=#v[76,77,p5,84]
abbrev l8(P:aab):=#v[85,77,p5,86]
abbrev p6(P:aab):=#v[p5,86]
abbrev l9(P:aab):=#v[87,77,p6,88]
abbrev p7(P:aab):=#v[p1,91,32,33,34,35,36,37,38,39,40,41,42,47,48,49,50,51,52,53,54,55,56,61,62,63,64,65,66,67,68,69,70,71,72,73,74,78,79,80,81,82,83,86,92,93,94,95,96,97,98,99,100,101,102,103,104,105]
abbrev l10(P:aab):=#v[89,90,p7,106]
abbrev p8(P:aab):=#v[p7,106,109,110,111,112,113,114,115,116,117,118,119,120]
abbrev l11(P:aab):=#v[107,108,p8,121]
abbrev l12(P:aab):=#v[122,108,p8,123]
abbrev l13(P:aab):=#v[124,108,p8,125]
abbrev l14(P:aab):=#v[126,127,4,5,6,7,8,9,10,11,12,13,14,15,20,21,22,23,24,25,26,27,91,32,33,34,35,36,37,38,39,40,41,42,47,48,49,50,51,52,53,54,55,56,61,62,63,64,65,66,67,68,69,70,71,72,73,74,78,79,80,81,82,83,86,92,93,94,95,96,97,98,99,100,101,102,103,104,105,106,109,110,111,112,113,114,115,116,117,118,119,120,128,129,130,131,132,133,134,135,136,137,138,139,140,141,142,143]
noncomputable abbrev env:Env:={scope:=(aac).main.scope,locals:=mainNs,globals:=mainNs,cells:=[],code:=aaa 13,frame:=some 14}
noncomputable abbrev G0:List Stmt:=[vu 0,vu 1,vu 2,vu 3,vu 4,vu 5,vu 6,vu 7,vu 8,vu 9,vu 10,vu 11,vu 12,vu 13,vu 14,vu 15,vu 16,vu 17,vu 18,vu 19,vu 20,vu 21,vu 22,vu 23,vu 24,vu 25,vu 26]
noncomputable abbrev G1:List Stmt:=[vu 27,vu 28,vu 29,vu 30,vu 31,vu 32]
noncomputable abbrev G2:List Stmt:=[vu 33,vu 34,vu 35,vu 36,vu 37,vu 38,vu 39,vu 40,vu 41,vu 42,vu 43,vu 44,vu 45,vu 46,vu 47,vu 48,vu 49,vu 50,vu 51,vu 52,vu 53]
noncomputable abbrev G3:List Stmt:=[vu 54,vu 55,vu 56,vu 57,vu 58,vu 59,vu 60,vu 61,vu 62,vu 63,vu 64,vu 65,vu 66,vu 67,vu 68,vu 69,vu 70,vu 71,vu 72,vu 73]
noncomputable abbrev G4:List Stmt:=[vu 74,vu 75,vu 76,vu 77,vu 78,vu 79,vu 80,vu 81,vu 82,vu 83,vu 84,vu 85,vu 86,vu 87,vu 88,vu 89,vu 90,vu 91,vu 92,vu 93,vu 94,vu 95,vu 96,vu 97,vu 98,vu 99,vu 100,vu 101,vu 102,vu 103,vu 104]
noncomputable abbrev G5:List Stmt:=[vu 105,vu 106,vu 107,vu 108,vu 109,vu 110,vu 111,vu 112,vu 113,vu 114,vu 115,vu 116]
noncomputable abbrev G6:List Stmt:=[vu 117]
noncomputable abbrev G7:List Stmt:=[vu 118]
noncomputable abbrev G8:List Stmt:=[vu 119,vu 120,vu 121,vu 122,vu 123,vu 124,vu 125,vu 126,vu 127,vu 128,vu 129,vu 130,vu 131,vu 132,vu 133,vu 134,vu 135,vu 136,vu 137,vu 138,vu 139,vu 140,vu 141,vu 142,vu 143,vu 144]
noncomputable abbrev G9:List Stmt:=[vu 145,vu 146,vu 147,vu 148,vu 149,vu 150,vu 151,vu 152,vu 153,vu 154,vu 155,vu 156,vu 157,vu 158,vu 159,vu 160,vu 161,vu 162,vu 163,vu 164,vu 165]
noncomputable abbrev G10:List Stmt:=[vu 166]
noncomputable abbrev G11:List Stmt:=[vu 167]
noncomputable abbrev G12:List Stmt:=[vu 168,vu 169,vu 170,vu 171,vu 172,vu 173,vu 174,vu 175,vu 176,vu 177,vu 178,vu 179,vu 180,vu 181,vu 182,vu 183,vu 184,vu 185,vu 186,vu 187,vu 188,vu 189,vu 190,vu 191,vu 192,vu 193,vu 194,vu 195]
abbrev B0:List Stmt:=G0++(G1++(G2++(G3++(G4++(G5++(G6++(G7++(G8++(G9++(G10++(G11++(G12++([])))))))))))))
abbrev c0:Code:= .body B0 env
noncomputable abbrev f0:List Frame:=[topFrame ⟨0,0,0,0⟩]
def L0:aaX->aaA->Option (Shared×Thread):=λw os=>topGo aau aac w 11 (some (aaa 6)) 12 ⟨abp w.params,⟨[]⟩,boot_drawn,boot_toks,os⟩ (topStub aac)
def M0:aaX->aaA->Option (Shared×Thread):=λw os=>some (⟨⟨⟨l0 w.params⟩,{}⟩,⟨[]⟩,{},187,os⟩,⟨denote aau c0,c0,⟨0,0,0,0⟩,f0⟩)
theorem yL0:((λ_=>true) L0&&(λ_=>true) M0)=true:=by k_qdec
theorem qL0:L0=M0:=qh #v[L0] #v[M0] (by kernel_rfl)
def L1:aaX->aaA->Option (Flow×Shared×Code×Pos):=λw os=>segRun aau aac w 11 (some (aaa 6)) 1 1 ⟨⟨⟨l0 w.params⟩,{}⟩,⟨[]⟩,{},187,os⟩ (blockOf B0 env c0 ⟨0,0,0,0⟩ f0)
def M1:aaX->aaA->Option (Flow×Shared×Code×Pos):=λw os=>some (.next,(aaq.mk (mkT 12 (l0 w.params)) 15 {} ⟨[]⟩ {} 187 os).abs,c0,⟨0,0,0,0⟩)
theorem yL1:((λ_=>true) L1&&(λ_=>true) M1)=true:=by k_qdec
theorem qL1:L1=M1:=qh #v[L1] #v[M1] (by kernel_rfl)
def L2:TyL:=λw os=>aa3 aau aac w 11 (some (aaa 6)) 1 1090 (aaq.mk (mkT 12 (l0 w.params)) 15 {} ⟨[]⟩ {} 187 os) (aaQ G0 env c0 ⟨0,0,0,0⟩ f0)
def M2:TyL:=λw os=>some (.next,(aaq.mk (mkT 12 (l2 w.params)) 184 {} ⟨[]⟩ {} 416 os),c0,⟨108,0,109,8⟩)
theorem yL2:((λ_=>true) L2&&(λ_=>true) M2)=true:=by k_qdec
theorem qL2:L2=M2:=qh #v[L2] #v[M2] (by kernel_rfl)
def L3:TyL:=λw os=>aa3 aau aac w 11 (some (aaa 6)) 1 1183 (aaq.mk (mkT 12 (l2 w.params)) 184 {} ⟨[]⟩ {} 416 os) (aaQ G1 env c0 ⟨108,0,109,8⟩ f0)
def M3:TyL:=λw os=>some (.next,(aaq.mk (mkT 12 (l3 w.params)) 274 {} ⟨[]⟩ {} 539 os),c0,⟨124,0,133,32⟩)
theorem yL3:((λ_=>true) L3&&(λ_=>true) M3)=true:=by k_qdec
theorem qL3:L3=M3:=qh #v[L3] #v[M3] (by kernel_rfl)
def L4:TyL:=λw os=>aa3 aau aac w 11 (some (aaa 6)) 1 1013 (aaq.mk (mkT 12 (l3 w.params)) 274 {} ⟨[]⟩ {} 539 os) (aaQ G2 env c0 ⟨124,0,133,32⟩ f0)
def M4:TyL:=λw os=>some (.next,(aaq.mk (mkT 12 (l4 w.params)) 412 {} ⟨[]⟩ {} 716 os),c0,⟨208,0,208,8⟩)
theorem yL4:((λ_=>true) L4&&(λ_=>true) M4)=true:=by k_qdec
theorem qL4:L4=M4:=qh #v[L4] #v[M4] (by kernel_rfl)
def L5:TyL:=λw os=>aa3 aau aac w 11 (some (aaa 6)) 1 1160 (aaq.mk (mkT 12 (l4 w.params)) 412 {} ⟨[]⟩ {} 716 os) (aaQ G3 env c0 ⟨208,0,208,8⟩ f0)
def M5:TyL:=λw os=>some (.next,(aaq.mk (mkT 12 (l5 w.params)) 539 {} ⟨[]⟩ {} 903 os),c0,⟨306,0,306,8⟩)
theorem yL5:((λ_=>true) L5&&(λ_=>true) M5)=true:=by k_qdec
theorem qL5:L5=M5:=qh #v[L5] #v[M5] (by kernel_rfl)
def L6:TyL:=λw os=>aa3 aau aac w 11 (some (aaa 6)) 1 1184 (aaq.mk (mkT 12 (l5 w.params)) 539 {} ⟨[]⟩ {} 903 os) (aaQ G4 env c0 ⟨306,0,306,8⟩ f0)
def M6:TyL:=λw os=>some (.next,(aaq.mk (mkT 12 (l6 w.params)) 707 {} ⟨[]⟩ {} 1164 os),c0,⟨432,0,438,12⟩)
theorem yL6:((λ_=>true) L6&&(λ_=>true) M6)=true:=by k_qdec
theorem qL6:L6=M6:=qh #v[L6] #v[M6] (by kernel_rfl)
def L7:TyL:=λw os=>aa3 aau aac w 11 (some (aaa 6)) 1 333 (aaq.mk (mkT 12 (l6 w.params)) 707 {} ⟨[]⟩ {} 1164 os) (aaQ G5 env c0 ⟨432,0,438,12⟩ f0)
def M7:TyL:=λw os=>some (.next,(aaq.mk (mkT 12 (l7 w.params)) 779 {} ⟨[]⟩ {} 1244 os),c0,⟨481,0,483,40⟩)
theorem yL7:((λ_=>true) L7&&(λ_=>true) M7)=true:=by k_qdec
theorem qL7:L7=M7:=qh #v[L7] #v[M7] (by kernel_rfl)
def L8:TyL:=λw os=>aa3 aau aac w 11 (some (aaa 6)) 1 171 (aaq.mk (mkT 12 (l7 w.params)) 779 {} ⟨[]⟩ {} 1244 os) (aaQ G6 env c0 ⟨481,0,483,40⟩ f0)
def M8:TyL:=λw os=>some (.next,(aaq.mk (mkT 12 (l8 w.params)) 780 {} ⟨[]⟩ {} 1265 os),c0,⟨484,0,484,6⟩)
theorem yL8:((λ_=>true) L8&&(λ_=>true) M8)=true:=by k_qdec
theorem qL8f:(λ(w:aaX) (os:aaA)=>tw7116466485190837356 (w.withFollow "special-get-raises" false) os)=λw os=>tw8127398886225657409 (w.withFollow "special-get-raises" false) os:=by kernel_rfl
theorem qL8t:(λ(w:aaX) (os:aaA)=>tw7116466485190837356 (w.withFollow "special-get-raises" true) os)=λw os=>tw8127398886225657409 (w.withFollow "special-get-raises" true) os:=by kernel_rfl
theorem qL8:L8=M8:=qh #v[L8] #v[M8] (funext λw=>funext λos=>by have e:=U2 w "special-get-raises";cases hb:w.params.followText "special-get-raises"<;>rw[hb]at e<;>rw[<-e];exact R5 (R5 qL8f w) os;exact R5 (R5 qL8t w) os)
def L9:TyL:=λw os=>aa3 aau aac w 11 (some (aaa 6)) 1 235 (aaq.mk (mkT 12 (l8 w.params)) 780 {} ⟨[]⟩ {} 1265 os) (aaQ G7 env c0 ⟨484,0,484,6⟩ f0)
def M9:TyL:=λw os=>some (.next,(aaq.mk (mkT 12 (l9 w.params)) 781 {} ⟨[]⟩ {} 1294 os),c0,⟨485,0,485,6⟩)
theorem yL9:((λ_=>true) L9&&(λ_=>true) M9)=true:=by k_qdec
theorem qL9f:(λ(w:aaX) (os:aaA)=>tw16134767483146388640 (w.withFollow "special-get-raises" false) os)=λw os=>tw1028310481701075085 (w.withFollow "special-get-raises" false) os:=by kernel_rfl
theorem qL9t:(λ(w:aaX) (os:aaA)=>tw16134767483146388640 (w.withFollow "special-get-raises" true) os)=λw os=>tw1028310481701075085 (w.withFollow "special-get-raises" true) os:=by kernel_rfl
theorem qL9:L9=M9:=qh #v[L9] #v[M9] (funext λw=>funext λos=>by have e:=U2 w "special-get-raises";cases hb:w.params.followText "special-get-raises"<;>rw[hb]at e<;>rw[<-e];exact R5 (R5 qL9f w) os;exact R5 (R5 qL9t w) os)
def L10:TyL:=λw os=>aa3 aau aac w 11 (some (aaa 6)) 1 1196 (aaq.mk (mkT 12 (l9 w.params)) 781 {} ⟨[]⟩ {} 1294 os) (aaQ G8 env c0 ⟨485,0,485,6⟩ f0)
def M10:TyL:=λw os=>some (.next,(aaq.mk (mkT 12 (l10 w.params)) 960 {} ⟨[]⟩ {} 1537 os),c0,⟨590,0,591,49⟩)
theorem yL10:((λ_=>true) L10&&(λ_=>true) M10)=true:=by k_qdec
theorem qL10:L10=M10:=qh #v[L10] #v[M10] (by kernel_rfl)
def L11:TyL:=λw os=>aa3 aau aac w 11 (some (aaa 6)) 1 626 (aaq.mk (mkT 12 (l10 w.params)) 960 {} ⟨[]⟩ {} 1537 os) (aaQ G9 env c0 ⟨590,0,591,49⟩ f0)
def M11:TyL:=λw os=>some (.next,(aaq.mk (mkT 12 (l11 w.params)) 1105 {} ⟨[]⟩ {} 1702 os),c0,⟨640,0,641,64⟩)
theorem yL11:((λ_=>true) L11&&(λ_=>true) M11)=true:=by k_qdec
theorem qL11:L11=M11:=qh #v[L11] #v[M11] (by kernel_rfl)
def L12:TyL:=λw os=>aa3 aau aac w 11 (some (aaa 6)) 1 171 (aaq.mk (mkT 12 (l11 w.params)) 1105 {} ⟨[]⟩ {} 1702 os) (aaQ G10 env c0 ⟨640,0,641,64⟩ f0)
def M12:TyL:=λw os=>some (.next,(aaq.mk (mkT 12 (l12 w.params)) 1106 {} ⟨[]⟩ {} 1723 os),c0,⟨642,0,642,4⟩)
theorem yL12:((λ_=>true) L12&&(λ_=>true) M12)=true:=by k_qdec
theorem qL12f:(λ(w:aaX) (os:aaA)=>tw15962966748412412817 (w.withFollow "special-get-raises" false) os)=λw os=>tw13323495729323226626 (w.withFollow "special-get-raises" false) os:=by kernel_rfl
theorem qL12t:(λ(w:aaX) (os:aaA)=>tw15962966748412412817 (w.withFollow "special-get-raises" true) os)=λw os=>tw13323495729323226626 (w.withFollow "special-get-raises" true) os:=by kernel_rfl
theorem qL12:L12=M12:=qh #v[L12] #v[M12] (funext λw=>funext λos=>by have e:=U2 w "special-get-raises";cases hb:w.params.followText "special-get-raises"<;>rw[hb]at e<;>rw[<-e];exact R5 (R5 qL12f w) os;exact R5 (R5 qL12t w) os)
def L13:TyL:=λw os=>aa3 aau aac w 11 (some (aaa 6)) 1 235 (aaq.mk (mkT 12 (l12 w.params)) 1106 {} ⟨[]⟩ {} 1723 os) (aaQ G11 env c0 ⟨642,0,642,4⟩ f0)
def M13:TyL:=λw os=>some (.next,(aaq.mk (mkT 12 (l13 w.params)) 1107 {} ⟨[]⟩ {} 1752 os),c0,⟨643,0,643,4⟩)
theorem yL13:((λ_=>true) L13&&(λ_=>true) M13)=true:=by k_qdec
theorem qL13f:(λ(w:aaX) (os:aaA)=>tw2890041658171991945 (w.withFollow "special-get-raises" false) os)=λw os=>tw10998199075917429995 (w.withFollow "special-get-raises" false) os:=by kernel_rfl
theorem qL13t:(λ(w:aaX) (os:aaA)=>tw2890041658171991945 (w.withFollow "special-get-raises" true) os)=λw os=>tw10998199075917429995 (w.withFollow "special-get-raises" true) os:=by kernel_rfl
theorem qL13:L13=M13:=qh #v[L13] #v[M13] (funext λw=>funext λos=>by have e:=U2 w "special-get-raises";cases hb:w.params.followText "special-get-raises"<;>rw[hb]at e<;>rw[<-e];exact R5 (R5 qL13f w) os;exact R5 (R5 qL13t w) os)
def L14:TyL:=λw os=>aa3 aau aac w 11 (some (aaa 6)) 1 1040 (aaq.mk (mkT 12 (l13 w.params)) 1107 {} ⟨[]⟩ {} 1752 os) (aaQ G12 env c0 ⟨643,0,643,4⟩ f0)
def M14:TyL:=λw os=>some (.next,(aaq.mk (mkT 12 (l14 w.params)) 1291 {} ⟨[]⟩ {} 2012 os),c0,⟨883,0,895,15⟩)
theorem yL14:((λ_=>true) L14&&(λ_=>true) M14)=true:=by k_qdec
theorem qL14:L14=M14:=qh #v[L14] #v[M14] (by kernel_rfl)
def L15:aaX->aaA->Option Shared:=λw os=>topRun aau aac w 11 (some (aaa 6)) 2 (aaq.mk (mkT 12 (l14 w.params)) 1291 {} ⟨[]⟩ {} 2012 os).abs (restOf [] env c0 ⟨883,0,895,15⟩ f0)
def M15:aaX->aaA->Option Shared:=λw os=>some ⟨⟨⟨l14 w.params⟩,{}⟩,⟨[]⟩,{},2012,os⟩
theorem yL15:((λ_=>true) L15&&(λ_=>true) M15)=true:=by k_qdec
theorem qL15:L15=M15:=qh #v[L15] #v[M15] (by kernel_rfl)
abbrev Hf(P:aab):Heap:=⟨⟨l14 P⟩,{}⟩
abbrev Mn:Nat:=12+(1+(1090+(1183+(1013+(1160+(1184+(333+(171+(235+(1196+(626+(171+(235+(1040+(2)))))))))))))))
theorem rn(w:aaX)(os:aaA):topRun aau aac w 11 (some (aaa 6)) Mn ⟨abp w.params,⟨[]⟩,boot_drawn,boot_toks,os⟩ (topStub aac)=some ⟨Hf w.params,⟨[]⟩,{},2012,os⟩:=go_top (R5 (R5 qL0 w) os) (piece_block (R5 (R5 qL1 w) os) (Ud (Ue (R5 (R5 qL2 w) os)) (Ud (Ue (R5 (R5 qL3 w) os)) (Ud (Ue (R5 (R5 qL4 w) os)) (Ud (Ue (R5 (R5 qL5 w) os)) (Ud (Ue (R5 (R5 qL6 w) os)) (Ud (Ue (R5 (R5 qL7 w) os)) (Ud (Ue (R5 (R5 qL8 w) os)) (Ud (Ue (R5 (R5 qL9 w) os)) (Ud (Ue (R5 (R5 qL10 w) os)) (Ud (Ue (R5 (R5 qL11 w) os)) (Ud (Ue (R5 (R5 qL12 w) os)) (Ud (Ue (R5 (R5 qL13 w) os)) (Ud (Ue (R5 (R5 qL14 w) os)) (R5 (R5 qL15 w) os)))))))))))))))
noncomputable abbrev vw:Program:={(aac)with main:={(aac).main with body:=[vu 195]}}
abbrev KF:aab->Frag:=λP=>#v[_,(2,boot_o_2 P),(3,o3v13 P),-15,17,-18,20,21,-22,25,26,-27,29,-30,32,33,-34,36,-37,39,40,-41,43,-44,46,47,-48,51,52,-58,61,62,-63,65,-66,68,69,-70,72,-73,75,76,-77,80,81,-82,84,-85,87,88,-89,91,-92,94,95,-96,98,-99,101,102,-103,105,-106,108,109,-110,112,-113,115,116,-117,119,-120,122,123,-124,126,-127,129,130,-131,133,-134,136,137,-138,140,-141,143,144,-145,147,-148,150,151,-152,154,-155,157,158,(167,o167 P),(168,o168v1),169,(180,o180 P),181,198,(199,o199 P),200,203,-210,(211,o211 P),212,215,-222,(223,o223 P),224,227,-234,(235,o235 P),236,-246,248,-249,251,252,-260,262,-263,265,266,267,(268,o268 P),(269,o269v4),270,271,274,-281,283,-284,286,287,-288,290,-291,293,294,295,(296,o296 P),297,300,-307,309,-310,312,313,-314,317,318,319,(320,o320 P),321,-324,326,-327,329,330,-331,334,335,-336,339,340,-341,344,345,-346,349,350,-351,354,355,-356,359,360,-361,364,365,-366,368,-369,371,372,-373,375,-376,378,379,-380,383,384,-385,387,-388,390,391,-392,395,396,-397,400,401,-402,405,406,412,-419,421,-422,424,425,-426,428,-429,431,432,433,(434,o434 P),435,438,-445,447,-448,450,451,-452,454,-455,457,458,459,(460,o460 P),461,464,-471,473,-474,476,477,-478,480,-481,483,484,(486,o486 P),487,-512,515,516,-517,519,-520,522,523,-524,527,528,-529,532,533,-534,537,538,(561,o561 P),562,-623,626,627,-628,631,632,-633,636,637,638,-646,648,-649,651,652,653,(654,o654 P),655,656,657,-660,662,-663,665,666,-667,670,671,-672,674,-675,677,678,-679,681,-682,684,685,-686,688,-689,691,692,-693,695,-696,698,699,-700,702,-703,705,706,-707,709,-710,712,713,-714,717,718,-719,721,-722,724,725,-726,729,730,-731,734,735,-736,739,740,-741,743,-744,746,747,-748,751,752,-753,755,-756,758,759,(779,o779 P),(780,o780 P),-781,783,-784,786,787,-788,790,-791,793,794,-795,797,-798,800,801,-802,805,806,807,-814,817,818,-819,821,-822,824,825,-826,828,-829,831,832,(834,o834 P),835,869,882,-889,892,893,-894,897,898,(900,o900 P),901,-911,913,-914,916,917,-918,920,-921,923,924,-925,927,-928,930,931,-932,934,-935,937,938,-939,941,-942,944,945,-946,948,-949,951,952,-953,955,-956,958,959,-960,962,-963,965,966,-967,969,-970,972,973,-974,976,-977,979,980,-981,983,-984,986,987,-988,990,-991,993,994,-995,997,-998,1000,1001,-1002,1004,-1005,1007,1008,-1009,1011,-1012,1014,1015,-1016,1018,-1019,1021,1022,-1023,1025,-1026,1028,1029,-1030,1032,-1033,1035,1036,-1037,1039,-1040,1042,1043,-1044,1046,-1047,1049,1050,-1051,1053,-1054,1056,1057,(1105,o1105 P),(1106,o1106 P),-1107,1109,-1110,1112,1113,-1114,1116,-1117,1119,1120,-1128,1130,-1131,1133,1134,-1135,1137,-1138,1140,1141,-1142,1145,1146,1147,(1148,o1148 P),1149,1150,1151,-1154,1156,-1157,1159,1160,-1161,1163,-1164,1166,1167,-1168,1171,1172,-1173,1176,1177,-1178,1181,1182,-1183,1185,-1186,1188,1189,-1190,1193,1194,-1195,1198,1199,-1200,1203,1204,-1205,1208,1209,-1210,1213,1214,-1215,1218,1219,-1220,1223,1224,-1225,1228,1229,-1230,1232,-1233,1235,1236,-1237,1239,-1240,1242,1243,-1244,1246,-1247,1249,1250,-1251,1254,1255,-1256,1258,-1259,1261,1262,-1263,1265,-1266,1268,1269,-1270,1272,-1273,1275,1276,-1277,1279,-1280,1282,1283,-1284,1286,-1287,1289,1290]
noncomputable abbrev aL:List Addr:=(KF {strHash:=λ_=>0,shareClass:=λ_=>0,mergeTok:=id,idOf:=λ_=>0,idOfShared:=λ_ _=>0,followText:=λ_=>true,idOfImm:=λ_=>0}).map (·.1)
theorem eK(P:aab):aL=(KF P).map (·.1):=by kernel_rfl
abbrev HK:Hook:=kHook KF aL eK
noncomputable abbrev lsN:List Str:=((aac.main.scope.names.filter λx=>x.2== .local).map (·.1)).tail.dropLast
noncomputable abbrev rw0:RowW:=OpenRow.toRowW (OpenLaw.row rw_basehouse_k61_desk_houses)
noncomputable abbrev Xt(s:Shared):Bool:=xlAt vw [] s&&recOk (RowW.records rw0) s
def Lz:aaX->aaA->Bool×Nat×Option Value:=λw os=>((abp w.params).isNs aak&&(⟨[]⟩:Array GenState).size==0,(abp w.params).objs.size,(abp w.params).nsMap aak "__annotations__")
noncomputable def Mz:aaX->aaA->Bool×Nat×Option Value:=λw os=>(true,11,(some (aaa 6)))
theorem yLz:((λ_=>true) Lz&&(λ_=>true) Mz)=true:=by k_qdec
theorem qLz:Lz=Mz:=Eq.trans #v[Lz] (by kernel_rfl:tw17831390912981975158=Mz)
def Ll:=λ(w:aaX) (os:aaA)=>((staticsOk (importedModules (aac).main.body) (abp w.params) (Hf w.params)&&namesBound aac (Hf w.params)&&gensDone ⟨Hf w.params,⟨[]⟩,{},2012,os⟩&&laidKept (abp w.params) (Hf w.params)),openSeen vw lsN (importedModules (aac).main.body) Xt true ⟨Hf w.params,⟨[]⟩,{},2012,os⟩,aL.map (Hf w.params).get?)
def Ml:=λ(w:aaX) (_:aaA)=>(true,openGood vw lsN,(KF w.params).map λp=>some p.2)
theorem yLl:((λ_=>true) Ll&&(λ_=>true) Ml)=true:=by k_qdec
abbrev tL:=tw17448342430068451512
abbrev tv:=tw7000725165481098050
theorem ck{α β:Type}{l:List β}{m:List α}{f:α->β}(i n:Nat)(h:(l.drop i).take n=((m.drop i).take n).map f)(k:l.drop (i+n)=(m.drop (i+n)).map f):l.drop i=(m.drop i).map f:=by rw[<-U0 n (l.drop i),h,W6,k,<-R6,<-W6,U0]
theorem x0:(λw os=>(tL w os).1)=λw _=>true:=by kernel_rfl
theorem x1:(λw os=>(tL w os).2.1.1)=λw _=>expectedOf tv:=by kernel_rfl
theorem x2:(λw os=>(tL w os).2.1.2.1)=λw _=>bltViewBooted:=by kernel_rfl
theorem x3:(λw os=>(tL w os).2.1.2.2.1)=λw _=>true:=by kernel_rfl
theorem x4:(λw os=>(tL w os).2.1.2.2.2.1)=λw _=>true:=by kernel_rfl
theorem x5:(λw os=>(tL w os).2.1.2.2.2.2.1)=λw _=>pinGoodD (drecsOf tv):=by kernel_rfl
theorem x6:(λw os=>(tL w os).2.1.2.2.2.2.2.1)=λw _=>plainGoodE tv (looseW tv lsN):=by kernel_rfl
theorem x7:(λw os=>(tL w os).2.1.2.2.2.2.2.2.1)=λw _=>plainGoodD tv lsN:=by kernel_rfl
theorem x8:(λw os=>(tL w os).2.1.2.2.2.2.2.2.2.1)=λw _=>wideGood tv:=by kernel_rfl
theorem x9:(λw os=>(tL w os).2.1.2.2.2.2.2.2.2.2)=λw _=>clsGoodW tv lsN:=by kernel_rfl
theorem x10_0:(λw os=>((tL w os).2.2.drop 0).take 150)=λw _=>((((KF w.params).drop 0).take 150).map λp=>some p.2):=by kernel_rfl
theorem x10_1:(λw os=>((tL w os).2.2.drop 150).take 150)=λw _=>((((KF w.params).drop 150).take 150).map λp=>some p.2):=by kernel_rfl
theorem x10_2:(λw os=>((tL w os).2.2.drop 300).take 150)=λw _=>((((KF w.params).drop 300).take 150).map λp=>some p.2):=by kernel_rfl
theorem x10_3:(λw os=>((tL w os).2.2.drop 450).take 150)=λw _=>((((KF w.params).drop 450).take 150).map λp=>some p.2):=by kernel_rfl
theorem x10_4:(λw os=>((tL w os).2.2.drop 600))=λw _=>((((KF w.params).drop 600)).map λp=>some p.2):=by kernel_rfl
theorem x10:(λw os=>(tL w os).2.2)=λw _=>(KF w.params).map λp=>some p.2:=funext λw=>funext λos=>ck 0 150 (R5 (R5 x10_0 w) os) (ck 150 150 (R5 (R5 x10_1 w) os) (ck 300 150 (R5 (R5 x10_2 w) os) (ck 450 150 (R5 (R5 x10_3 w) os) (R5 (R5 x10_4 w) os))))
theorem xx{A B C D E F G H I J K:Type}{x:A× (B×C×D×E×F×G×H×I×J)×K}{a b c d e f g h i j k}(y0:x.1=a)(y1:x.2.1.1=b)(y2:x.2.1.2.1=c)(y3:x.2.1.2.2.1=d)(y4:x.2.1.2.2.2.1=e)(y5:x.2.1.2.2.2.2.1=f)(y6:x.2.1.2.2.2.2.2.1=g)(y7:x.2.1.2.2.2.2.2.2.1=h)(y8:x.2.1.2.2.2.2.2.2.2.1=i)(y9:x.2.1.2.2.2.2.2.2.2.2=j)(y10:x.2.2=k):x=(a,(b,c,d,e,f,g,h,i,j),k):=by obtain⟨_,⟨_,_,_,_,_,_,_,_,_⟩,_⟩:=x;cases y0;cases y1;cases y2;cases y3;cases y4;cases y5;cases y6;cases y7;cases y8;cases y9;cases y10;rfl
theorem qLl:Ll=Ml:=qh #v[Ll] #v[Ml] (funext λw=>funext λos=>xx (R5 (R5 x0 w) os) (R5 (R5 x1 w) os) (R5 (R5 x2 w) os) (R5 (R5 x3 w) os) (R5 (R5 x4 w) os) (R5 (R5 x5 w) os) (R5 (R5 x6 w) os) (R5 (R5 x7 w) os) (R5 (R5 x8 w) os) (R5 (R5 x9 w) os) (R5 (R5 x10 w) os))
theorem hl:LeftO aac vw lsN Xt HK.obs HK.val 19374:=LeftO.of_pieces (m₀:=11) (ann:=(some (aaa 6))) (boot_open (by kernel_rfl) (by decide) (λs=>by kernel_rfl)) (λw=>R5 (R5 qLz w) default) rn (by decide+kernel) (λw=>R5 qLl w)
end
end Hd
open PySem PySem.W PyProof.Rows
set_option maxRecDepth 100000 in
set_option maxHeartbeats 0 in
theorem PySem.Challenge.cw_basehouse_k61_desk_houses_holds : PySem.Challenge.rw_basehouse_k61_desk_houses.Holds := by
 w_on;o_law
 refine holds_open (q:=Hd.vw) (loose:=Hd.lsN) (Xt:=Hd.Xt) (XP:=XL Hd.vw []) (Yf:=Hd.HK.obs) (Ya:=Hd.HK.val) (YP:=(kHook Hd.KF Hd.aL Hd.eK).says) (N:=19374) Hd.hl Hd.HK.of Hd.HK.keeps (λs e=>xl_of s (VW.mp e).1) XL.keeps (by rfl) (by rfl) (by rfl) (λs e=>recFacts_of (VW.mp e).2) (by rfl) (by first|assumption|decide+kernel) (by decide+kernel) ⟨rfl,rfl,rfl,rfl,rfl,by decide+kernel⟩ ?hw ?hc
 (case hw=>w_witness2)
 k_fill
 refine BhK.walk (l:=abJ) rfl rfl (λw h Y=>PySem.W.kIn_of Y) ?F
 case F=>
  intro w mg fa h KX G hmg
  refine' BhK.all_mk (BhK.Cv.mk ?_ ?_ ?_ ?_ ?_ ?_ ?_ ?_ ?_ ?_ ?_ ?_ ?_ ?_ ?_ ?_ ?_ ?_ ?_ ?_ ?_ ?_ ?_) KX G hmg
  all_goals try (repeat' (first|exact Ti|refine' And.intro ?_ ?_))
  all_goals try dsimp only
  all_goals try first|k_is|kit_is|kts_exm|kernel_rfl|decide|(refine' L2.ExcF.mk (L2.ExcK.mk ?_ ?_ ?_ ?_ ?_ ?_) ?_ ?_<;>first|k_is|kernel_rfl)|(refine' L2.InitB.mk ?_ ?_ ?_<;>k_is)|(refine' BhK.HQ.mk (L2.Cls.mk ?_ ?_ ?_ ?_) ?_ ?_<;>try k_is)|(refine' L2.ZS.mk ?_ ?_ ?_ ?_<;>try k_is)|(refine' BhK.HM.mk ?_ ?_ ?_ ?_ ?_<;>try k_is)|(refine' BhK.HD.mk ?_ ?_ ?_ ?_<;>try k_is)|(refine' BhK.SortK.mk (L2.ExcK.mk ?_ ?_ ?_ ?_ ?_ ?_) ?_ ?_ ?_ ?_ ?_ ?_<;>first|k_is|kit_is|kernel_rfl)|(refine' λH=>BhK.NY ?_ ?_ H;k_is;kernel_rfl)|(refine' λP=>L2.FK ?_ ?_ (by decide+kernel) rfl;k_is;show L2.MQ _ _ _;repeat' (first|exact Ti|refine' And.intro ⟨_,rfl⟩ ?_))
