import PyProof.Rows.All
import Wide.All
import OpenK.AllK
import Wide.FinOn
import Lean
import PyProof.EqAt
import PyProof.EqKinds
import PyProof.TupleCall
import PySem.Challenge.RW_fivecups_k66_whole_three_cups_and_five
open Array renaming length_toList->Br,getElem?_eq_getElem->Bt,toList_append->Ho,toList->JQ,getD->KD
open Bool renaming false_ne_true->Ac,and_eq_true->BE,eq_iff_iff->Eu,true_and->HG,false_eq_true->II,and_false->JG,or_false->JU,not_true->Jb
open Classical renaming propDecidable->EL
open False renaming elim->CU
open ForInStep renaming yield->DN
open Function renaming comp_def->Dc
open Int renaming emod_nonneg->B4,mul_emod->CV,toNat_of_nonneg->Ce,toNat_natCast->C3,mul_assoc->Dw,mul_one->FM,mul_add->FV,emod_lt_of_pos->Fy,add_emod->F7,pow_succ->F8,natCast_mul->Gm,emod_emod->HS,add_zero->Hk,mul_comm->Hl,zero_add->Hm,le_max_left->JM,natCast_add->JO,sub_zero->KA,le_refl->Km,mul_neg->Kt,add_mul->Ku,one_mul->Kv
open List renaming range->AE,mem_cons_self->AG,mem_cons_of_mem->AH,mem_singleton->AI,map_cons->AO,mem_cons->AR,getElem?_set_ne->AU,length_map->AV,replicate->Ad,size_toArray->Ae,getElem?_eq_some_iff->Af,getElem?_map->Ag,mem_append_right->Ai,getElem?_set_self->Aj,getD_eq_getElem?_getD->Ak,mem_map->Am,all_eq_true->Au,length_append->A4,map_append->A9,getElem?_append_left->BA,getElem?_eq_getElem->BD,mem_append->BF,nodup_cons->BG,map_nil->BN,map_congr_left->BP,lookup_cons->Bb,append_nil->Bm,map_map->Bn,not_mem_nil->Bp,mem_filter->Bs,mem_range->By,map->B5,sum_cons->B9,length_cons->CA,getElem?_append_right->CF,pairwise_cons->CG,getElem?_eq_none->CJ,getElem?_zip_eq_some->CL,mem_of_getElem?->CS,append_assoc->CT,idxOf_lt_length_iff->CW,length_eq_zero_iff->Cd,length_nil->Cr,length_eraseIdx_of_lt->DH,mem_of_getLast?->DJ,nodup_range->DP,any_eq_true->DQ,nil_sublist->DR,replicate_succ->DV,any_cons->DY,getElem?_replicate->De,flatMap_cons->Di,eraseIdx_eq_take_drop_succ->Do,mem_append_left->Dr,range'->Dt,dropLast_subset->Dv,zip_cons_cons->EH,pairwise_iff_getElem->EN,getLast?_eq_none_iff->EO,pairwise_map->EU,nodup_append->EV,all_cons->EW,length_take->Ef,ext_getElem->Eg,filter_cons->Ej,take_of_length_le->Ep,Nodup->Er,find?_cons->E3,dropLast_eq_take->E4,getElem?_reverse->E5,length_filter_le->E7,length->FH,nodup_nil->FJ,filterMap_cons->FX,length_pos_iff->FZ,getElem_of_mem->Fc,set_comm->Fh,findIdx?_eq_some_iff_getElem->Fv,filter_congr->F2,getElem_mem->GB,mem_eraseIdx_iff_getElem?->GD,countP_cons->GE,cons_append->GH,sublist_nil->GK,of_mem_zip->GQ,foldl_cons->GR,nil_append->GS,forIn_cons->GT,length_zip->GV,find?_some->GW,range_succ->GY,sum_append->GZ,drop_eq_getElem_cons->G5,length_erase_of_mem->HH,eq_of_mem_replicate->HK,toArray->HW,pairwise_lt_range->Ha,filter_eq_nil_iff->Hb,length_singleton->Hd,mem_of_mem_erase->Hg,getElem?_toArray->Hi,range_eq_range'->Hq,toList_toArray->H9,mem_filterMap->IB,zip_nil_right->IC,getElem_idxOf->IE,find?_eq_none->IJ,map_inj_left->IT,getElem?_set->IW,mapM_toArray->Ie,length_range->Ig,ext_getElem?->Ih,reverse_cons->Ii,length_drop->Ij,zipIdx_cons->Ik,drop_length->Il,all_toArray->Ip,mem_flatMap->Iu,mem_reverse->Iv,zipIdx_nil->JA,forIn_nil->JH,drop_zero->JK,any_map->Jp,foldl->Kh,all->LW
open List.Nodup renaming not_mem_erase->LX,sublist->LZ
open List.Pairwise renaming sublist->GJ,nil->J5,map->KG
open List.Perm renaming nodup_iff->Ez,length_eq->HJ,swap->Lh,append_left->Li
open Nat renaming le_refl->AL,lt_of_lt_of_le->AM,ne_of_lt->AZ,le_trans->Aa,le_add_right->Av,lt_irrefl->A8,ne_of_gt->BK,zero_le->BO,lt_succ_self->Cg,lt_or_ge->Cq,le_of_lt->Dj,lt_succ_of_lt->Dm,pow_le_pow_right->Dy,mul_le_mul_left->EA,zero_add->EF,le_of_eq->EG,lt_of_le_of_lt->EK,le_of_succ_le->EY,ble->Ex,le_of_ble_eq_true->FC,ble_eq_true_of_le->FE,le_succ->FO,not_lt->Fq,lt_trichotomy->F6,sub_zero->He,le_max_right->JD,min_eq_left->JL,le_max_left->JN,lt_trans->J7,add_zero->KE
open Ne renaming symm->Aw
open Option renaming bind_some->Ar,isSome_iff_exists->CQ,none_or->E6,mem_toList->Hv,getD_some->IG
open Option.some renaming inj->Az,injEq->A7
open Or renaming inr->C2,inl->Ds
open Prod renaming ext->LF
open PyProof.Rows renaming callWith_type1->An,slot_tuple_getitem->Bq,IntsAre->Bu,seqObj->B3,assignInOrder_cons->Cv,boot_tuple->Cz,boot_list->EI,kindOf->Ew,AllBare->FL,IsTup->FW,get?_update_seq->Fd,envOfC->Fo,boot_range->F5,Call_->F9,listUpdate_at->GF,assignInOrder_nil->Gb,envOfC->Gk,seqEpoch_at->HI,boot_reversed->Hz,subscriptTail_builtinR->IP,zipApart_new->IU,listItems_at->Ic,keyKind'->JC,entry_tuple_getitem->JF,args_tuple_getitem->JS,Subscript_->JT,keyLt'->JY,unpackItems_tuple->Jf,len_tuple->J4,callWith_builtin1->Kd,lt_int->Ke,entry_list_sort->Kj,boot_tuple->Kk,getItem_tuple->Kl,boot_dict->Kp,list_sort_plain->Kq,slicePart_none->Kx,slot_list_sort->K3,args_list_sort->K4,boot_zip->K5,SortKind->LA,tupleItemsOf_->LG,plain_sorted->Le,entry_sorted->Lf,args_sorted1->Lg
open PyProof.Rows.IsTup renaming new->KI
open PyProof.Rows.LSm renaming kept_iter->HR
open PyProof.Rows.SortSt renaming mk'->Jo
open PySem renaming wpAny_bind->AB,sizeLine->AD,wpAny_pure->AF,Value->AK,starEach->AQ,wpAny->AW,Shared->Ab,Program->Ah,wpAny_callSpecial?_slot->Al,mainGlobals->Ao,wpAny_field->Ap,wpAny_call_entry->As,World->A5,wpAny_setField_rec->A6,wpAny_newObj_type->BH,mem_of_lookup->BL,sizeLine_eq->BQ,wpAny_holding->BU,cellsFrom->BV,Around->BY,wpAny_mono->Bd,wpAny_seqItems->Be,wpAny_attempt->Bf,wpAny_isInstance->Bh,wpAny_specialOf->Bw,backTo->Bx,compareOp->B0,wpAny_truthy_bool->B7,sysModules->B8,bootBuiltins->CH,assignEach->CN,PyData->CP,IsPair->CZ,foldedSetIterable->Cb,wpAny_of_eq->Cc,wpAny_rule->Cf,binaryOp->Co,isSubtype_stop->Cp,Paired->Cu,wpAny_Call_Name_kw->Cw,wpAny_pyIter_tuple->Cy,wpAny_passesOwn->C5,FuncData->C6,wpAny_updateSeq->C7,behindInMarks->C8,attributeBase->C9,plainId_quiet->DC,codeAny->DM,call_meets->DW,wpAny_typeOf->Da,codeAny_builtin->Dg,typeLookup_type->Dh,pyNext->Dl,TriplesOk->Dz,builtinsNs->D3,swapsWith->D4,rawInt->D5,swapsWithSole->D7,swappedStores->D8,Keyword->D9,cLine->EC,sliceBounds->ED,codeAny_mono->ER,DictEntry->EZ,Scope->Ea,wpAny_bindName->Eb,wpAny_newTuple->Ed,getItem->Em,keywordEach->Eo,wpAny_standAt->Et,codeAmong->E8,wpAny_pyIter_zip->FB,closureFor->FQ,callType_new->FR,ItemsOf->FT,valueAt->FU,wpAny_execs_nil->FY,wpAny_ite_split->Fe,bindArgs->Fl,IsPart->Fp,wpAny_updateSeq_pair->Fs,wpAny_letGo->Ft,wpAny_pyIter_revIter->Fw,tupleKind->Fz,seqIndex?->F1,wpAny_onRaise->GA,wpAny_newList->GC,pyIter->GL,typeLookup->GM,tupleKind_room_in1->GN,BindsTo->Gc,backToKw->Ge,callerA->Gf,compEnvC->Gg,wpAny_pyIter_list->Gh,KeyKind->Gv,wpAny_eqBool_int->Gw,noFill_tuple_add->Gy,typeOf->Gz,pushCells->G0,entryFor_of_tree->G6,seqIndex_of->HC,IsZip->HE,wpAny_mkInt->HF,letOwnedTupleGo->HN,wpAny_loadPart'->HP,pushCells_keeps->HQ,entryFor->Hf,callType_codes->Hh,seq_tuple_add->Hs,call->Ht,wpAny_handled->Hu,signature?_of->Hx,PassesOwn->IA,atKey->IF,updateSeq->IH,isTrue->IK,concat_meets->IL,seqIndex_neg->IM,wpAny_Call_method_late->IQ,argsOk->IY,wpAny_notOrdered_dict->Io,bindL->Iw,bindC->Iy,Meets->Iz,wpAny_throw->I0,Reads->JB,wpAny_Name->JP,wpAny_call->JR,typeIs_int->JV,call_reversed_list->JZ,defaultsOf->Ja,setItem->Jd,standAt->Je,wpAny_sequenceKey->Jg,slot_list_getitem->Ji,wpAny_pyIter_enum->Jl,wpAny_pyIter_slot->Jm,argBest->Jn,wpAny_execs_cons->Jq,small_one->Jr,wpAny_forIn_list->J0,Arguments->J6,seqItems?->J8,wpAny_getItem_of->KB,recursionLimit->Kw,fitsIndex_both->Ky,NameKind->Kz,newFunctionEnv->K0,wpAny_setField->K1,ReadsAll->K6,IsEnum->K7,isSubtype_type->K8,entryFor_alias->K9,rangeSize_one->LB,intBits_le_64->LC,code_list_new->LY,call_range_1->La,call_range_2->Lb,call_meetsIn->Lj
open PySem.Around renaming under_plainId->Dq,frames_deeper->HU
open PySem.AutoListH renaming list___mul___list_int_3->Ld
open PySem.Builtin.Dict renaming showsAll->GO,updateFrom->Ko,dictSlotNone->Kr
open PySem.Builtin.List renaming listExtendWith->Bz,listLengthHint->Cj,listTooLong->C0,listSameRef->C4,listFitsIndex->Fk,listItems->GI,listUpdate->Ks
open PySem.Builtin.Range renaming rangeSize->CK,small->Ee
open PySem.Builtin.Slice renaming slicePlaces->Cs,sliceAdjust->Fj,slicePartIndex->J2,sliceApplied->J3
open PySem.Builtin.SmallTypes renaming nextOf->Aq,ownedTupleIsFree->Ba,ownedTupleHandOut->Ck,newRecord->Es
open PySem.Builtin.Tuple renaming tupleItemsOf->Fi,tupleExact->Fu,tupleCompareSizes->J1
open PySem.Calls renaming spliced_cons->Cm,spliced_nil->Ct,callWith_builtin->Df,evalArgs_plain->E9,Name_function_global->Ga,call_function_entry->Gp
open PySem.EqMixed renaming eq_bool_str->Js,eq_int_str->Jt,eq_str_bool->Ju,eq_str_int->Jv,ne_bool_str->Jw,ne_int_str->Jx,ne_str_bool->Jy,ne_str_int->Jz
open PySem.EqNone renaming eq_none_none->KJ,eq_none_bool->KM,eq_none_int->KN,eq_none_str->KO,eq_bool_none->KP,eq_int_none->KQ,eq_str_none->KR,ne_none_none->KS,ne_none_bool->KU,ne_none_int->KW,ne_none_str->KY,ne_bool_none->KZ,ne_int_none->Kb,ne_str_none->Kc
open PySem.F renaming slot_zip_next->Bc,slot_dict_keyiterator_next->Bl,args_zip_next_1->DB,plain_extend_loop->DG,slot_tuple_iterator_next->DU,entry_zip_next->DX,slot_enumerate_next->Du,args_object_init_2->D6,args_tuple_add_2->EJ,entry_tuple_add->ES,plainAttrs_list->ET,slot_tuple_add->Ec,slot_tuple_lt->Ek,slot_dict_get->El,slot_zip_getattribute->Ey,args_dict_keyiterator_next_1->FG,entry_dict_keyiterator_next->FK,plain_extend_loop->Fx,slot_dict_getitem->GU,args_list_init_2->Gi,args_tuple_lt_2->Gn,slot_list_count->Gq,args_dict_get_3->Gr,typeCall_list_1->Gs,entry_list_init->Gu,entry_tuple_lt->Gx,args_tuple_iterator_next_1->G4,entry_dict_get->G7,slot_dict_iter->G8,entry_tuple_iterator_next->HD,slot_list_pop->HL,type_list_pop->HM,called_list->HX,args_enumerate_next_1->Hn,entry_enumerate_next->Hw,typeCall_reversed_1->ID,slot_tuple_getitem->IZ,newCall_reversed_1->Ia,entry_reversed_new->Ib,entry_extend_loop->Ir,plain_list_iadd->JI,entry_list_pop->JW,slot_list_pop->Jj,slot_int_rmul->Jk
open PySem.Heap renaming get?_push_of_some->AC,lt_size->AJ,get?_push_size->AN,get?_update_other->BC,get?_update_self->BM,size_push->BW,SameBut->DK,size_update->Ei,ExtBut->FI
open PySem.Heap.DictOf renaming new->HV
open PySem.Heap.IsSliceOf renaming new->Jh
open PySem.Heap.IsTuple renaming push->Ki
open PySem.Heap.SameBut renaming update->Bo,refl->Kn
open PySem.IsL renaming update->Lc
open PySem.NameKind renaming free->Bg,cell->Bv
open PySem.Obj renaming mapSeq->Ay,data_mapFields->IR
open PySem.Paired renaming length->EM,snoc->JX
open PySem.PassesOwn renaming never->Dp
open PySem.PyData renaming canLayAll0->Ax,eqv->BI,canLay0->Bi,depthAll->Bk,eqvAll->B6,depth->CM,int->DZ,bool->HZ
open PySem.ReadsAll renaming cons->IV
open PySem.SeqAt renaming EqAt->Gd
open PySem.SeqAt.EqAt renaming int_str->G9,str_int->HA,int_int->HB,same->LH,none_bool->LI,none_int->LJ,none_str->LK,bool_none->LM,bool_bool->LN,bool_int->LO,bool_str->LP,int_none->LQ,int_bool->LR,str_none->LS,str_bool->LU,str_str->LV
open PySem.Str renaming ofString->F3,ofString_eq_toList->Hj
open PySem.Value renaming ref->BJ,int->BS,none->CB,type->CD,bool->Hr,isStrOf->JE,isInt->Jc,str->KH
open PySem.W renaming Frag->AY,keepIn->BZ,fnOf->Bj,tabIn->CO,codeIn->CY,codeHdIn->Ca,nsIn->Ci,cellsFrom_some->Dd,kas_sort->Dn,envX->Dx,OpenLaw->Eh,callWith_K->FN,methodObj->Ff,kla_obj->F4,noTabs->GP,mg_of->Gj,codeHd_of_K->HY,kitOne->IS,WalkO->Iq
open PySem.Walks renaming list->J9
open Std.Legacy.Range renaming forIn_eq_forIn_range'->JJ
open Sum renaming inl->EB,inr->Hc,elim->Lk
open True renaming intro->DD
set_option compiler.extract_closed false
local macro_rules | `(⋯) => `((by lia))
local macro_rules | `(∅) => `((by decide))
def sL(n:Nat)(h:n<=99:=by decide):n<=AD:=Nat.le_trans h (by decide)
local macro_rules | `(~~~[$xs,*]) => `(some (.l [$xs,*])) | `(~~~$x) => `(some (.v $x))
local macro_rules | `(⇑$x) => `(.a (.int $x))
local macro_rules | `(↥$x) => `(some (.nx $x))
local macro_rules | `(↥6) => `(by walk_at "s")
local macro_rules | `(↥1) => `(by simp)
local macro_rules | `(↥2) => `(by simp;lia)
local macro_rules | `(↥3) => `(by walk_at "x")
local macro_rules | `(↥4) => `(by decide +kernel)
local macro_rules | `(↥5) => `((λ_=>⟨rfl,by kernel_rfl⟩))
set_option Elab.async false
set_option linter.all false
set_option maxRecDepth 100000
namespace L2
open PySem PySem.Spec PyProof.Rows
abbrev vT:=Sum Int Str
def zG:vT->AK->Bool
 | .inl k,v=>Jc k v
 | .inr x,v=>JE x v
def AGK (w:A5):vT->Int
 | .inl k=>hashInt k
 | .inr x=>hashStr w x
theorem Mj:∀ {k v},zG k v=true->(∃ i t,k=EB i/\v=BS i t)\/(∃ x t,k=Hc x/\v=KH x t)
 | .inl i,v,h=>by
  obtain⟨t,e⟩:=Value.isInt_shape h;exact .inl ⟨i,t,rfl,e⟩
 | .inr x,v,h=>by
  obtain⟨t,e⟩:=Value.isStrOf_shape h;exact .inr ⟨x,t,rfl,e⟩
def YF i t:zG (.inl i) (.int i t)=true:=by simp[zG,Jc]
def lE x t:zG (.inr x) (.str x t)=true:=by simp[zG,JE]
def Z8 a b:decide ((EB a:vT)=EB b)=(a == b):=by
 by_cases e:a=b
 ·subst e;simp
 ·simp_all
def fm a b:decide ((Hc a:vT)=Hc b)=decide (a=b):=↥1
def fI a b:decide ((EB a:vT)=Hc b)=false:=rfl
def jF a b:decide ((Hc a:vT)=EB b)=false:=rfl
def ud (prog:Ah) (w:A5):Gv prog w vT where
 is:=zG
 hash:=AGK w
 inj:=λv a b ha hb=>by
  rcases Mj ha with ⟨i,t,rfl,rfl⟩ | ⟨x,t,rfl,rfl⟩
  ·rcases Mj hb with ⟨j,u,rfl,e⟩ | ⟨y,u,rfl,e⟩
   ·injection e with e1 _;rw[e1]
   ·exact nomatch e
  ·rcases Mj hb with ⟨j,u,rfl,e⟩ | ⟨y,u,rfl,e⟩
   ·exact nomatch e
   ·injection e with e1 _;rw[e1]
 byValue:=λk v h=>by
  rcases Mj h with ⟨i,t,rfl,rfl⟩ | ⟨x,t,rfl,rfl⟩ <;> rfl
 pyHash:=λhv h=>by
  rcases Mj hv with ⟨i,t,rfl,rfl⟩ | ⟨x,t,rfl,rfl⟩
  ·exact wpAny_pyHash_int h
  ·exact wpAny_pyHash_str h
 eqBool:=λhu hv h=>by
  rcases Mj hu with ⟨i,t,rfl,rfl⟩ | ⟨x,t,rfl,rfl⟩
  ·rcases Mj hv with ⟨j,u,rfl,rfl⟩ | ⟨y,u,rfl,rfl⟩
   ·rw[Z8]at h;exact Gw h
   ·rw[fI]at h;exact G9 i t y u _ _ _ _ h
  ·rcases Mj hv with ⟨j,u,rfl,rfl⟩ | ⟨y,u,rfl,rfl⟩
   ·rw[jF]at h;exact HA x t j u _ _ _ _ h
   ·rw[fm]at h;exact wpAny_eqBool_str h
 «strs»:=λk x t v h=>by
  rcases Mj h with ⟨i,u,rfl,e⟩ | ⟨y,u,rfl,e⟩
  ·exact nomatch e
  ·injection e with e1 _;subst e1;cases v <;> rfl
def P2 prog w i t:(ud prog w).is (.inl i) (.int i t)=true:=YF i t
def kB prog w x t:(ud prog w).is (.inr x) (.str x t)=true:=lE x t
inductive V where
 | non | bl (b:Bool) | int (i:Int) | str (x:Str) | byt (b:Array UInt8) | flt (b:UInt64) | ref (a:Addr) | ty (n:String)
 deriving DecidableEq
def RelV:V->AK->Prop
 | .non,u=>u=CB
 | .bl b,u=>u=Hr b
 | .int i,u=>∃ t,u=BS i t
 | .str x,u=>∃ t,u=KH x t
 | .byt b,u=>∃ t,u=Value.bytes b t
 | .flt b,u=>∃ t,u=Value.float b t
 | .ref a,u=>u=BJ a
 | .ty n,u=>u=CD n
abbrev uU:List V->List AK->Prop:=Cu RelV
theorem uU.length{us}(r:uU xs us):xs.length=us.length:=EM r
theorem uU.get:∀ {xs us} {i:Nat} {x},uU xs us->xs[i]?=some x->∃ u,us[i]?=some u/\RelV x u
 | _,_,_,_,.nil,e=>by simp at e
 | _,_,0,_,.cons r _,e=>by simp at e;subst e;exact⟨_,rfl,r⟩
 | _,_,i+1,x,.cons _ t,e=>by
  obtain⟨u,h1,h2⟩:=uU.get t ‹_›;exact⟨u,by simpa using h1,h2⟩
theorem uU.set{u}(r:RelV x u):∀ {xs us} i,uU xs us->uU (xs.set i x) (us.set i u)
 | _,_,_,.nil=>.nil
 | _,_,0,.cons _ t=>.cons r t
 | _,_,i+1,.cons q t=>.cons q (uU.set r i t)
theorem uU.append:∀ {xs ys us ws},uU xs us->uU ys ws->uU (xs++ys) (us++ws):=by
 intro _ _ _ _ h h';induction h with
 | nil=>exact h'
 | cons r _ ih=>exact .cons r ih
theorem uU.take:∀ {xs us} n,uU xs us->uU (xs.take n) (us.take n)
 | _,_,0,_ | _,_,_+1,.nil=>.nil
 | _,_,n+1,.cons r t=>.cons r (uU.take n t)
theorem uU.drop:∀ {xs us} n,uU xs us->uU (xs.drop n) (us.drop n)
 | _,_,0,r=>r
 | _,_,_+1,.nil=>.nil
 | _,_,n+1,.cons _ t=>uU.drop n t
def yR:Option V->Option AK->Prop
 | some v,some u=>RelV v u
 | none,none=>True
 | _,_=>False
def KV:List (κ×V)->List (κ×AK)->Prop:=Cu λp q=>p.1=q.1/\RelV p.2 q.2
def kV:vT->V
 | .inl i=>.int i
 | .inr x=>.str x
inductive HO where
 | lst (xs:List V)
 | tup (xs:List V)
 | dK (kvs:List (vT×V)) | dT (kvs:List (List vT×V))
 | set (S:Int->Bool) (n:Nat)
 | ins (C dx:Addr) (fs:List (Str×V))
 | own (x:Addr)
 | xd (fs:List (Str×V))
 | met (f x:Addr)
 | rng (lo hi:Int)
 | frz (o:Obj) (u:HO)
 | tbl (ps:Array AK)
 | tbq (q:Str) | cod (q:Str)
 | ext (φ:Heap->Prop)
abbrev Hp:=Addr->Option HO
def upd (H:Hp) (a:Addr) (o:HO):Hp:=λb=>if b=a then some o else H b
def Lq{a o}:upd H a o a=some o:=by unfold upd;rw[if_pos rfl]
def Ll{a b o}(h:b≠a):upd H a o b=H b:=by unfold upd;rw[if_neg h]
def oF{H:Hp}{a b o u}(h:H a=some o)(h':H b=some u)(d:o≠u):a≠b:=by
 intro e;subst e;rw[h]at h';exact d (Az h')
def Lp{H:Hp}{a b o}(h:H a=some o)(h':H b=none):a≠b:=by
 intro e;subst e;rw[h]at h';cases h'
def ye (h:Heap) (a:Addr) (items:Array AK):Prop:=∃ o,h.get? a=some o/\o.cls=.type "tuple"/\(∃ n,o.data=.seq items n)/\o.dict=none
def ye.tup{items}(x:ye h a items):FW h a items:=let ⟨o,e,c,d,_⟩:=x;⟨o,e,c,d⟩
def ye.lt{a items}(x:ye h a items):a < h.objs.size:=let ⟨_,e,_⟩:=x;AJ e
def ye.new(h:Heap) items:ye (h.push { cls:=.type "tuple",data:=.seq items }) h.objs.size items:=⟨_,AN _ rfl,rfl,⟨_,rfl⟩,rfl⟩
section
variable (P:Ah)(w:A5)
def uy (H:Hp) (h:Heap) (a:Addr):HO->Prop
 | .lst xs=>xs.length<=AD/\∃ (its:List AK) (n:Nat),uU xs its/\h.get? a=some { cls:=.type "list",data:=.seq its.toArray n }
 | .tup xs=>xs.length<=AD/\∃ its:List AK,uU xs its/\ye h a its.toArray
 | .dK kvs=>kvs.length<=AD/\(a == B8)=false/\∃ vs,KV kvs vs/\h.DictOf (ud P w) a vs
 | .dT kvs=>kvs.length<=AD/\(a == B8)=false/\∃ xs:List (List vT×Addr×AK),
   Cu (λ(p:List vT×V) (q:List vT×Addr×AK)=>p.1=q.1/\H q.2.1=some (.tup (p.1.map kV))/\RelV p.2 q.2.2) kvs xs /\
   ∃ o es ep,h.get? a=some o/\o.ExactDict/\o.data=.dict es ep/\es.toList=xs.map (entryOfKey (Fz (ud P w)))/\(xs.map (·.1)).Nodup
 | .set S n=>h.SetOf (intKind P w) a S n
 | .ins C dx fs=>H dx=some (.own a)/\fs.length<=1000/\dx≠a/\h.get? a=some (PySem.W.instObj C dx) /\
   ∃ mA,h.Ns1 dx mA/\(∀ f,yR (fs.lookup f) (mA f))/\PySem.Within mA (fs.map (·.1))
 | .own _=>∃ o,h.get? a=some o
 | .xd fs=>∃ mA,h.Ns1 a mA/\∀ f,yR (fs.lookup f) (mA f)
 | .rng lo hi=>∃ t u v,h.get? a=some { cls:=.type "range",data:=.fields #[.int lo t,.int hi u,.int 1 v] }
 | .frz o u=>h.get? a=some o/\uy H h a u
 | .tbl ps=>h.get? a=some { cls:=.none,data:=.fields ps }
 | .tbq q=>∃ ps:Array AK,h.get? a=some { cls:=.none,data:=.fields ps }/\Dz ps.toList/\∀ pos cv,E8 pos ps.toList=some cv->∃ c,cv=.ref c/\H c=some (.cod q)
 | .cod q=>∃ o vs t,h.get? a=some o/\o.data=.fields vs/\vs[1]?=some (.str q t)
 | .met f x=>h.get? a=some (Ff (.ref f) (.ref x))
 | .ext φ=>φ h/\(∃ o,h.get? a=some o)/\∀ h1 h2:Heap,φ h1->(∀ o,h1.get? a=some o->h2.get? a=some o)->φ h2
def wg (H:Hp) (h:Heap):Prop:=∀ a o,H a=some o->uy P w H h a o
end
section
variable {P:Ah}{w:A5}{H H':Hp}{h h':Heap}{a:Addr}{o:HO}
theorem uy.lt(x:uy P w H h a o):a < h.objs.size:=by
 cases o with
 | lst xs=>obtain⟨_,_,_,_,e⟩:=x;exact AJ e
 | tup xs=>obtain⟨_,_,_,p⟩:=x;exact p.lt
 | dK kvs | dT kvs=>obtain⟨_,_,_,_,o,_,_,e,_⟩:=x;exact AJ e
 | set S n=>obtain⟨o,_,_,_,e,_⟩:=x;exact AJ e
 | ins C dx fs | cod q=>obtain⟨_,_,_,e,_⟩:=x;exact AJ e
 | own y=>obtain⟨_,e⟩:=x;exact AJ e
 | xd fs=>obtain⟨_,⟨_,_,_,e,_⟩,_⟩:=x;exact AJ e
 | rng lo hi=>obtain⟨_,_,_,e⟩:=x;exact AJ e
 | frz ob u=>obtain⟨e,_⟩:=x;exact AJ e
 | tbl ps | met f y=>exact AJ (show h.get? a=some _ from x)
 | tbq q=>obtain⟨_,e,_⟩:=x;exact AJ e
 | ext φ=>obtain⟨_,⟨_,e⟩,_⟩:=x;exact AJ e
theorem Paired.mapP{F G}:∀ {l₁:List α} {l₂:List β},Cu F l₁ l₂->(∀ a b,F a b->G a b)->Cu G l₁ l₂:=by
 intro _ _ h k;induction h with
 | nil=>exact .nil
 | cons r _ ih=>exact .cons (k _ _ r) ih
inductive ImO where
 | t (xs:List V) | c (q:Str)
def ImO.ho:ImO->HO
 | .t xs=>.tup xs
 | .c q=>.cod q
theorem uy.stay(x:uy P w H h a o)(k:∀ b u,(b=a\/H b=some (.own a))->h.get? b=some u->h'.get? b=some u)
  (ho:∀ b,H b=some (.own a)->H' b=some (.own a)) (ht:∀ b (xs:ImO),H b=some xs.ho->H' b=some xs.ho):uy P w H' h' a o:=by
 induction o with
 | lst xs=>obtain⟨z,its,n,r,e⟩:=x;exact⟨z,its,n,r,k _ _ (.inl rfl) e⟩
 | tup xs=>obtain⟨z,its,r,ob,e,c⟩:=x;exact⟨z,its,r,ob,k _ _ (.inl rfl) e,c⟩
 | dK kvs=>obtain⟨z,y,vs,r,ob,es,ep,e,c⟩:=x;exact⟨z,y,vs,r,ob,es,ep,k _ _ (.inl rfl) e,c⟩
 | dT kvs =>
  obtain⟨z,y,xs,r,ob,es,ep,e,c⟩:=x;exact⟨z,y,xs,Paired.mapP r λp q z=>⟨z.1,ht _ (.t _) z.2.1,z.2.2⟩,ob,es,ep,k _ _ (.inl rfl) e,c⟩
 | set S n=>obtain⟨ob,es,ep,t,e,c⟩:=x;exact⟨ob,es,ep,t,k _ _ (.inl rfl) e,c⟩
 | ins C dx fs =>
  obtain⟨d,z,ne,e,mA,⟨od,es,ep,e2,c⟩,r⟩:=x;exact⟨ho _ d,z,ne,k _ _ (.inl rfl) e,mA,⟨od,es,ep,k _ _ (.inr d) e2,c⟩,r⟩
 | own y=>obtain⟨ob,e⟩:=x;exact⟨ob,k _ _ (.inl rfl) e⟩
 | xd fs=>obtain⟨mA,⟨od,es,ep,e,c⟩,r⟩:=x;exact⟨mA,⟨od,es,ep,k _ _ (.inl rfl) e,c⟩,r⟩
 | rng lo hi=>obtain⟨t,u,v,e⟩:=x;exact⟨t,u,v,k _ _ (.inl rfl) e⟩
 | frz ob u ih=>obtain⟨e,q⟩:=x;exact⟨k _ _ (.inl rfl) e,ih q⟩
 | tbq q =>
  obtain⟨ps,e,t,c⟩:=x;exact⟨ps,k a _ (.inl rfl) e,t,λpos cv z=>by obtain⟨c',z1,z2⟩:=c pos cv z;exact⟨c',z1,ht _ (.c q) z2⟩⟩
 | cod q=>obtain⟨o,vs,t,e,r⟩:=x;exact⟨o,vs,t,k a _ (.inl rfl) e,r⟩
 | tbl ps =>
  have e:h.get? a=some { cls:=.none,data:=.fields ps }:=x;show h'.get? a=some { cls:=.none,data:=.fields ps };exact k a _ (.inl rfl) e
 | met f y =>
  have e:h.get? a=some (Ff (.ref f) (.ref y)):=x;show h'.get? a=some (Ff (.ref f) (.ref y));exact k a _ (.inl rfl) e
 | ext φ=>obtain⟨p,⟨o,e⟩,st⟩:=x;exact⟨st _ _ p λo q=>k _ _ (.inl rfl) q,⟨o,k _ _ (.inl rfl) e⟩,st⟩
theorem wg.lt(x:wg P w H h)(e:H a=some o):a < h.objs.size:=(x a o e).lt
theorem wg.fresh(x:wg P w H h)(e:h.objs.size<=a):H a=none:=by
 cases q:H a with
 | none=>rfl
 | some u=>exact absurd (AM (x.lt q) e) (A8 _)
def wg.kept(x:wg P w H h)(k:∀ b u,h.get? b=some u->h'.get? b=some u):wg P w H h':=λa o e =>
 (x a o e).stay (λb u _ q=>k b u q) (λ_ q=>q) λ_ _ q=>q
def wg.laid(x:wg P w H h)(k:∀ b u,h.get? b=some u->h'.get? b=some u)(hp:h.objs.size<=a)(new:uy P w (upd H a o) h' a o):wg P w (upd H a o) h':=λb u e=>by
 have hn:=x.fresh hp;by_cases hb:b=a
 ·subst hb;rw[Lq]at e;cases e;exact new
 ·rw[Ll hb]at e;exact (x b u e).stay (λc v _ q=>k c v q) (λc q=>by rw[Ll (Lp q hn)];exact q) λc xs q=>by rw[Ll (Lp q hn)];exact q
end
def Rd (H:Hp) (a:Addr) (u:HO):Prop:=H a=some u\/∃ o,H a=some (.frz o u)
def Rd.ok{H h a u}(r:Rd H a u)(x:wg P w H h):uy P w H h a u:=by
 rcases r with r | ⟨o,r⟩
 ·exact x a u r
 ·obtain⟨_,q⟩:=x a _ r;exact q
def Mut:Option HO->Prop
 | some (.lst _)=>True
 | some (.dK _)=>True
 | some (.dT _)=>True
 | some (.set _ _)=>True
 | some (.ins _ _ _)=>True
 | some (.ext _)=>True
 | _=>False
section
variable {P:Ah}{w:A5}{H:Hp}{h h':Heap}{x e:Addr}{o':HO}
def wg.write(ok:wg P w H h)(mu:Mut (H x))(he:e=x\/H e=some (.own x))(k:∀ b u,b≠e->h.get? b=some u->h'.get? b=some u)(heo:∃ u,h'.get? e=some u)
  (new:uy P w (upd H x o') h' x o'):wg P w (upd H x o') h':=λb u q=>by
 have nown:∀ c y,H c=some (.own y)->c≠x:=λc y r z=>by subst z;rw[r]at mu;exact mu
 have ntup:∀ c (xs:ImO),H c=some xs.ho->c≠x:=λc xs r z=>by subst z;rw[r]at mu;cases xs <;> exact mu
 by_cases hb:b=x
 ·subst hb;rw[Lq]at q;cases q;exact new
 ·rw[Ll hb]at q;by_cases hbe:b=e
  ·have q':H b=some (.own x):=by
    rcases he with z | z
    ·exact absurd (hbe.trans z) hb
    ·rw[hbe];exact z
   rw[q]at q';cases q';obtain⟨v,hv⟩:=heo;exact⟨v,by rw[hbe];exact hv⟩
  ·refine (ok b u q).stay (λc v hc r=>k c v ?_ r) (λc r=>by rw[Ll (nown c b r)];exact r) λc xs r=>by rw[Ll (ntup c xs r)];exact r
   rcases hc with rfl | hc
   ·exact hbe
   ·rintro rfl;rcases he with z | z
    ·exact nown c b hc z
    ·rw[hc]at z;cases z;exact hb rfl
end
structure Un(fs ex:List Addr)(H H':Hp)(h h':Heap):Prop where
 keep:∀ b o,h.get? b=some o->H b=none->b∉fs->b∉ex->h'.get? b=some o
 slot:∀ b o,h.get? b=some o->H b=none->b∈fs->b∉ex->∃ sl,h'.get? b=some { o with slots:=sl }
 free:∀ b o,h.get? b=some o->H b=none->b∉ex->H' b=none
 there:∀ b o,h.get? b=some o->b∉ex->∃ o',h'.get? b=some o'
 tups:∀ b xs,H b=some (.tup xs)->H' b=some (.tup xs)
 frzs:∀ b o u,H b=some (.frz o u)->H' b=some (.frz o u)
 tbls:∀ b ps,H b=some (.tbl ps)->∃ more,H' b=some (.tbl (ps++more))
section
variable {fs fs' ex ex':List Addr}{H H1 H2:Hp}{h h1 h2 h':Heap}{a x e:Addr}{o:HO}
def Un.any(u:Un fs ex H H1 h h1){b ob}(q:h.get? b=some ob)(n:H b=none)(hx:b∉ex):∃ sl,h1.get? b=some { ob with slots:=sl }:=by
 by_cases hb:b∈fs
 ·exact u.slot b ob q n hb hx
 ·exact⟨ob.slots,u.keep b ob q n hb hx⟩
def Un.kept(k:∀ b u,h.get? b=some u->h'.get? b=some u):Un fs ex H H h h':=
 ⟨λb ob q _ _ _=>k b ob q,λb ob q _ _ _=>⟨ob.slots,k b ob q⟩,λ_ _ _ n _=>n,λb ob q _=>⟨ob,k b ob q⟩,λ_ _ q=>q,λ_ _ _ q=>q,λ_ ps q=>⟨#[],by rw[q];simp⟩⟩
def Un.refl:Un fs ex H H h h:=Un.kept λ_ _ q=>q
def Un.laid(k:∀ b u,h.get? b=some u->h'.get? b=some u)(hp:h.objs.size<=a)(hn:H a=none):Un fs ex H (upd H a o) h h' where
 keep:=λb u q _ _ _=>k b u q
 slot:=λb u q _ _ _=>⟨u.slots,k b u q⟩
 free:=λb u q n _=>by rw[Ll (AZ (AM (AJ q) hp))];exact n
 there:=λb u q _=>⟨u,k b u q⟩
 tups:=λb xs q=>by rw[Ll (Lp q hn)];exact q
 frzs:=λb u xs q=>by rw[Ll (Lp q hn)];exact q
 tbls:=λb ps q=>⟨#[],by rw[Ll (Lp q hn),q];simp⟩
def Un.write(mu:Mut (H x))(he:e=x\/H e=some (.own x))(k:∀ b u,b≠e->h.get? b=some u->h'.get? b=some u)(heo:∃ u,h'.get? e=some u):Un fs ex H (upd H x o) h h':=by
 have hx:∀ b,H b=none->b≠x:=λb n z=>by subst z;rw[n]at mu;exact mu
 have hb:∀ b,H b=none->b≠e:=λb n z=>by
  subst z;rcases he with r | r
  ·exact hx b n r
  ·rw[n]at r;cases r
 have hm:∀ b u,H b=some u->¬ Mut (some u)->b≠x:=λb u q nm z=>by subst z;rw[q]at mu;exact nm mu
 refine⟨λb u q n _ _=>k b u (hb b n) q,λb u q n _ _=>⟨u.slots,k b u (hb b n) q⟩,λb u q n _=>by rw[Ll (hx b n)];exact n,λb u q _=>?_,
  λb xs q=>by rw[Ll (hm b _ q λz=>z)];exact q,λb u xs q=>by rw[Ll (hm b _ q λz=>z)];exact q,λb ps q=>⟨#[],by rw[Ll (hm b _ q λz=>z),q];simp⟩⟩
 by_cases hbe:b=e
 ·subst hbe;exact heo
 ·exact⟨u,k b u hbe q⟩
end
def trk (h:Heap) (H:Hp):List Addr:=(AE h.objs.size).filter λa=>(H a).isSome
def z9 (h:Heap) (H:Hp):Heap:=PySem.W.hideAll h (trk h H)
def nq h H:(z9 h H).objs.size=h.objs.size:=PySem.W.hideAll_size _ _
def cz{H b o}(e:h.get? b=some o)(n:H b=none):(z9 h H).get? b=some o:=
 PySem.W.hideAll_get _ e λhm=>by
  have q:=(Bs.mp hm).2;rw[n]at q;simp at q
theorem Xa{b o}(e:(z9 h H).get? b=some o):h.get? b=some o/\H b=none:=by
 have e':=PySem.W.of_hideAll (trk h H) e;refine⟨e',?_⟩;cases q:H b with
 | none=>rfl
 | some x =>
  have hm:b∈trk h H:=Bs.mpr ⟨By.mpr (AJ e'),by simp[q]⟩;have z:(z9 h H).get? b=none:=PySem.W.hideAll_none (trk h H) hm;rw[z]at e;cases e
def ABZ (g h:Heap) (L:Addr):List (Addr×Obj):=(AE h.objs.size).filterMap λa=>if a=L\/(g.get? a).isSome=true then none else (h.get? a).map λo=>(a,o)
def rest (g h:Heap) (L d:Addr):List (Addr×Obj):=(ABZ g h L).filter λp=>decide (p.1≠d)
structure Mod(K:AY)(mg:Str->Option AK)(base:Heap):Prop where
 kin:K.In base
 glob:base.Ns Ao mg
 blt:∃ mb,base.Ns D3 mb/\∀ x:Str,x≠"__name__"->mb x=CH x
 nolimit:base.NoLimit
 bmod:∃ bm ob,mg "__builtins__"=some (.ref bm)/\bm≠D3/\base.get? bm=some ob/\ob.cls=.type "module"/\ob.dict=some D3/\ob.data=.plain
structure Cx where
 prog:Ah
 w:A5
 K:AY
 mg:Str->Option AK
 base:Heap
 A:BY
 N:List Str
 s₀:Ab
 H₀:Hp
 env:Env
 outer:List Env
 stack:List Env
 ex:List Addr
 fn:Str->Bool
 calm:Bool
 pn:List (Addr×Obj)
 xe:AK->Ab->Prop
def frs (l:List Env):List Addr:=l.filterMap (·.frame)
abbrev Cx.fs (X:Cx):List Addr:=frs X.outer
def Vis (sc:Ea) (x:Str):Prop:=sc.names.lookup x=some .local\/sc.names.lookup x=some .cell\/sc.names.lookup x=some .free
def Loc (sc:Ea) (x:Str):Prop:=sc.names.lookup x=some .local\/sc.names.lookup x=some .cell
def Look (env:Env) (h:Heap) (m:Str->Option AK) (x:Str) (u:AK):Prop:=
 (env.kindOf x=some .local/\m x=some u)\/((env.kindOf x=some .cell\/env.kindOf x=some .free)/\∃ c,env.cells.lookup x=some c/\h.IsCell c (some u))
structure Cx.Ok(X:Cx):Prop where
 mod:Mod X.K X.mg X.base
 kind:X.env.scope.kind=.function
 glob:X.env.globals=Ao
 blt:X.env.builtins=D3
 above:X.s₀.heap.objs.size<=X.env.locals
 inj:∀ x y c,X.env.cells.lookup x=some c->X.env.cells.lookup y=some c->x=y
 has:∀ x,(X.env.kindOf x=some .cell\/X.env.kindOf x=some .free)->∃ c,X.env.cells.lookup x=some c
 cab:∀ x c,X.fn x=true->X.env.cells.lookup x=some c->X.s₀.heap.objs.size<=c
 hd:X.calm=true->X.A.handled=none
 frames:X.A.frames=some X.stack
 stk:X.stack=X.outer\/(X.stack=X.env::X.outer/\X.env.frame=some X.env.locals)
 exf:∀ b∈X.ex,b≠X.env.locals/\∀ x c,X.env.cells.lookup x=some c->c≠b
 bs:∀ b o,X.base.get? b=some o->X.s₀.heap.get? b=some o/\X.H₀ b=none
 bsz:X.base.objs.size<=X.s₀.heap.objs.size
 noex:∀ b o,X.base.get? b=some o->b∉X.ex
 exfs:∀ b∈X.ex,b∉X.fs
 funs:X.s₀.heap.FunFrames X.base X.outer
 frf:∀ b∈X.fs,X.H₀ b=none
structure Inv(X:Cx)(pins:List (Addr×Obj))(σ:List (Option V))(H:Hp)(s:Ab):Prop where
 ok:X.Ok
 os:s.os=X.s₀.os
 bare:FL s.gens
 base:Un X.fs X.ex X.H₀ H X.s₀.heap s.heap
 loc:∃ m,s.heap.Ns X.env.locals m/\∀ (i:Nat) (x:Str) (v:V),X.N[i]?=some x->σ[i]?=some (some v)->Vis X.env.scope x->∃ u,RelV v u/\Look X.env s.heap m x u
 cell:∀ x c,X.env.cells.lookup x=some c->∃ v,s.heap.IsCell c v
 free:H X.env.locals=none
 freeC:∀ x c,X.env.cells.lookup x=some c->H c=none
 pin:∀ p∈X.pn++pins,s.heap.get? p.1=some p.2/\H p.1=none/\p.1≠X.env.locals/\p.1∉X.fs/\∀ v,p.2.data≠.cell v
 hok:wg X.prog X.w H s.heap
 len:σ.length=X.N.length
section
variable {X:Cx}{pins:List (Addr×Obj)}{σ:List (Option V)}{H H':Hp}{s:Ab}{h':Heap}
def Cx.Ok.nofr(ok:X.Ok){b o}(e:X.base.get? b=some o):b∉X.fs:=λhb=>by
 have:=(ok.funs.mem hb).1;lia
theorem Inv.bs(I:Inv X pins σ H s):∀ b o,X.base.get? b=some o->s.heap.get? b=some o/\H b=none:=λb o e =>
 ⟨I.base.keep b o (I.ok.bs b o e).1 (I.ok.bs b o e).2 (I.ok.nofr e) (I.ok.noex b o e),I.base.free b o (I.ok.bs b o e).1 (I.ok.bs b o e).2 (I.ok.noex b o e)⟩
def Inv.bk(I:Inv X pins σ H s):∀ b o,X.base.get? b=some o->s.heap.get? b=some o:=λb o e=>(I.bs b o e).1
theorem Inv.mod(I:Inv X pins σ H s):Mod X.K X.mg X.base:=I.ok.mod
def Inv.kIn(I:Inv X pins σ H s):X.K.In s.heap:=I.ok.mod.kin.keeps I.bk
def Inv.fr(I:Inv X pins σ H s):∃ m,Fr X.base X.env.locals s.heap m:=
 let ⟨m,hn,_⟩:=I.loc
 ⟨m,hn,I.bk,Aa I.ok.bsz I.ok.above⟩
theorem Inv.lt(I:Inv X pins σ H s):X.env.locals < s.heap.objs.size:=let ⟨_,hn,_⟩:=I.loc;hn.lt
def Inv.sz(I:Inv X pins σ H s):X.s₀.heap.objs.size<=s.heap.objs.size:=Aa I.ok.above (Dj I.lt)
def Inv.nofs(I:Inv X pins σ H s){a:Addr}(h:s.heap.objs.size<=a):a∉X.fs:=λhb=>by
 obtain⟨_,o,ho,_⟩:=I.ok.funs.mem hb;exact absurd (AM (AJ ho) (Aa I.sz h)) (A8 _)
def Inv.cne(I:Inv X pins σ H s):∀ x c,X.env.cells.lookup x=some c->c≠X.env.locals:=λx c e z=>by
 obtain⟨v,o,ho,hd⟩:=I.cell x c e;obtain⟨m,⟨o',es,ep,ho',hd',_⟩,_⟩:=I.loc;lia
theorem Inv.funs(I:Inv X pins σ H s):s.heap.FunFrames X.base X.outer:=by
 have all:∀ l,(∀ b∈frs l,b∈X.fs)->X.s₀.heap.FunFrames X.base l->s.heap.FunFrames X.base l:=by
  intro l;induction l with
  | nil=>intro _ _;trivial
  | cons env r ih =>
   intro hs hl;obtain⟨hk,⟨L,o,hf,hn,ho,hd⟩,hr⟩:=hl;have hL:=hs L (by unfold frs;rw[FX,hf];exact AG);obtain⟨sl,e⟩:=I.base.slot L o ho (I.ok.frf L hL) hL λz=>I.ok.exfs L z hL
   exact⟨hk,⟨L,_,hf,hn,e,hd⟩,ih (λb hb=>hs b (by unfold frs;rw[FX,hf];exact AH _ hb)) hr⟩
 exact all X.outer (λ_ hb=>hb) I.ok.funs
theorem Inv.stack(I:Inv X pins σ H s):s.heap.FunFrames X.base X.stack:=by
 rcases I.ok.stk with e | ⟨e,hf⟩
 ·rw[e];exact I.funs
 ·rw[e];have ⟨m,hn,_⟩:=I.loc;refine .cons (by rw[I.ok.kind];decide) hf hn (Heap.get?_none_of_le (Aa I.ok.bsz I.ok.above)) I.funs
def Inv.stkSub(I:Inv X pins σ H s):∀ b∈frs X.stack,b∈X.env.locals::X.fs:=λb hb=>by
 rcases I.ok.stk with e | ⟨e,hf⟩
 ·rw[e]at hb;exact AH _ hb
 ·rw[e]at hb;unfold frs at hb;rw[FX,hf]at hb;exact hb
def Inv.stkFree(I:Inv X pins σ H s):∀ b∈frs X.stack,H b=none:=λb hb=>by
 rcases AR.mp (I.stkSub b hb) with e | hb
 ·rw[e];exact I.free
 ·obtain⟨_,o,ho,_⟩:=I.ok.funs.mem hb;exact I.base.free b o ho (I.ok.frf b hb) λz=>I.ok.exfs b z hb
def Inv.step{d'}{ch:List Addr}(I:Inv X pins σ H s)
  (hch:∀ b∈ch,(b∈X.ex\/X.s₀.heap.objs.size<=b)/\b≠X.env.locals/\(∀ x c,X.env.cells.lookup x=some c->c≠b)/\∀ p∈X.pn++pins,p.1≠b)
  (keep:∀ b o,b≠X.env.locals->b∉X.fs->b∉ch->s.heap.get? b=some o->H b=none->h'.get? b=some o)
  (slot:∀ b o,b≠X.env.locals->b∈X.fs->b∉ch->s.heap.get? b=some o->H b=none->∃ sl,h'.get? b=some { o with slots:=sl }) (free:∀ b o,b∉ch->s.heap.get? b=some o->H b=none->H' b=none)
  (there:∀ b o,b∉ch->s.heap.get? b=some o->∃ o',h'.get? b=some o')
  (tups:∀ b xs,H b=some (.tup xs)->H' b=some (.tup xs)) (frzs:∀ b o u,H b=some (.frz o u)->H' b=some (.frz o u)) (tbls:∀ b ps,H b=some (.tbl ps)->∃ more,H' b=some (.tbl (ps++more)))
  (ns:∀ m,s.heap.Ns X.env.locals m->h'.Ns X.env.locals m) (hok:wg X.prog X.w H' h') (hg:FL g') :
  Inv X pins σ H' { s with heap:=h',gens:=g',drawn:=d',toks:=t' }:=by
 have neL:∀ b o,X.s₀.heap.get? b=some o->b≠X.env.locals:=λb o e=>AZ (AM (AJ e) I.ok.above)
 have neC:∀ b o,X.s₀.heap.get? b=some o->b∉X.ex->b∉ch:=λb o e hx hb=>by
  rcases (hch b hb).1 with z | z
  ·exact hx z
  ·exact absurd (AM (AJ e) z) (A8 _)
 have cellK:∀ x c,X.env.cells.lookup x=some c->∀ v,s.heap.IsCell c v->h'.IsCell c v:=λx c e v ⟨o,ho,hd⟩=>by
  have nch:=λz=>(hch c z).2.2.1 x c e rfl
  by_cases hc:c∈X.fs
  ·obtain⟨sl,q⟩:=slot c o (I.cne x c e) hc nch ho (I.freeC x c e);exact⟨_,q,hd⟩
  ·exact⟨o,keep c o (I.cne x c e) hc nch ho (I.freeC x c e),hd⟩
 refine⟨I.ok,I.os,hg,⟨λb o e n hb hx=>?_,λb o e n hb hx=>?_,λb o e n hx=>?_,λb o e hx=>?_,λb xs e=>tups b xs (I.base.tups b xs e),λb o xs e=>frzs b o xs (I.base.frzs b o xs e),λb ps e=>?_⟩,?_,λx c e=>?_,?_,λx c e=>?_,λp hp=>?_,hok,I.len⟩
 ·exact keep b o (neL b o e) hb (neC b o e hx) (I.base.keep b o e n hb hx) (I.base.free b o e n hx)
 ·obtain⟨sl,e1⟩:=I.base.slot b o e n hb hx;obtain⟨sl',e2⟩:=slot b _ (neL b o e) hb (neC b o e hx) e1 (I.base.free b o e n hx);exact⟨sl',e2⟩
 ·obtain⟨o',e1⟩:=I.base.there b o e hx;exact free b o' (neC b o e hx) e1 (I.base.free b o e n hx)
 ·obtain⟨o',e1⟩:=I.base.there b o e hx;exact there b o' (neC b o e hx) e1
 ·obtain⟨m1,e1⟩:=I.base.tbls b ps e;obtain⟨m2,e2⟩:=tbls b _ e1;exact⟨m1++m2,by rw[e2,Array.append_assoc]⟩
 ·have ⟨m,hn,hl⟩:=I.loc;refine⟨m,ns m hn,λi x v e1 e2 e3=>?_⟩;obtain⟨u,r,l⟩:=hl i x v e1 e2 e3;refine⟨u,r,?_⟩;rcases l with l | ⟨k,c,e,z⟩
  ·exact .inl l
  ·exact .inr ⟨k,c,e,cellK x c e _ z⟩
 ·obtain⟨v,z⟩:=I.cell x c e;exact⟨v,cellK x c e v z⟩
 ·obtain⟨m,⟨o,_,_,ho,_⟩,_⟩:=I.loc;exact free _ o (λz=>(hch _ z).2.1 rfl) ho I.free
 ·obtain⟨v,o,ho,hd⟩:=I.cell x c e;exact free c o (λz=>(hch c z).2.2.1 x c e rfl) ho (I.freeC x c e)
 ·obtain⟨e,n,ne,nf,d⟩:=I.pin p hp;have nch:=λz=>(hch p.1 z).2.2.2 p hp rfl
  exact⟨keep p.1 p.2 ne nf nch e n,free p.1 p.2 nch e n,ne,nf,d⟩
def Inv.un(I:Inv X pins σ H s)(u:Un X.fs [] H H' s.heap h')(hok:wg X.prog X.w H' h'):Inv X pins σ H' { s with heap:=h',toks:=t' }:=by
 obtain⟨m,⟨o,es,ep,ho,r⟩,_⟩:=id I.loc;obtain⟨sl,hL⟩:=u.any ho I.free ↥1;exact I.step (ch:=[]) (λ_ z=>nomatch z) (λb o _ hb _ e n=>u.keep b o e n hb ↥1) (λb o _ hb _ e n=>u.slot b o e n hb ↥1) (λb o _ e n=>u.free b o e n ↥1) (λb o _ e=>u.there b o e ↥1) u.tups u.frzs u.tbls (λm' hm=>by
  obtain⟨o',es',ep',ho',r'⟩:=hm;rw[ho]at ho';cases ho';exact⟨_,es',ep',hL,r'⟩) hok I.bare
def Inv.call{d' ch}(I:Inv X pins σ H s)(u:Un (frs X.stack) ch H H' s.heap h')(hok:wg X.prog X.w H' h')(hg:FL g')
  (hch:∀ b∈ch,(b∈X.ex\/X.s₀.heap.objs.size<=b)/\b≠X.env.locals/\(∀ x c,X.env.cells.lookup x=some c->c≠b)/\∀ p∈X.pn++pins,p.1≠b) :
  Inv X pins σ H' { s with heap:=h',gens:=g',drawn:=d',toks:=t' }:=by
 obtain⟨m,⟨o,es,ep,ho,r⟩,_⟩:=id I.loc;obtain⟨sl,hL⟩:=u.any ho I.free λz=>(hch _ z).2.1 rfl
 exact I.step hch (λb o hL hb hc e n=>u.keep b o e n (λz=>(AR.mp (I.stkSub b z)).elim hL hb) hc) (λb o _ _ hc e n=>u.any e n hc) (λb o hc e n=>u.free b o e n hc) (λb o hc e=>u.there b o e hc) u.tups u.frzs u.tbls (λm' hm=>by
  obtain⟨o',es',ep',ho',r'⟩:=hm;rw[ho]at ho';cases ho';exact⟨_,es',ep',hL,r'⟩) hok hg
def Inv.turned{it}(I:Inv X pins σ H s)(k:∀ b o,b≠it->s.heap.get? b=some o->h'.get? b=some o)(hn:H it=none)(hL:it≠X.env.locals)
  (h1:it∈X.ex\/X.s₀.heap.objs.size<=it) (h2:∀ x c,X.env.cells.lookup x=some c->c≠it) (h3:∀ p∈X.pn++pins,p.1≠it):Inv X pins σ H { s with heap:=h',toks:=t' }:=by
 have nit:∀ b u,H b=some u->b≠it:=λb u e z=>by rw[z,hn]at e;cases e
 refine I.step (ch:=[it]) (λb hb=>?_) (λb o _ _ hc e _=>k b o (λz=>hc (by simp[z])) e) (λb o _ _ hc e _=>⟨o.slots,k b o (λz=>hc (by simp[z])) e⟩) (λ_ _ _ _ n=>n)
  (λb o hc e=>⟨o,k b o (λz=>hc (by simp[z])) e⟩) (λ_ _ e=>e) (λ_ _ _ e=>e) (λb ps e=>⟨#[],by rw[e];simp⟩) (λm hm=>?_) (λb u e=>?_) I.bare
 ·have e:=by simpa using hb
  subst e;exact⟨h1,hL,h2,h3⟩
 ·obtain⟨o,es,ep,ho,r⟩:=hm;exact⟨o,es,ep,k _ o (Aw hL) ho,r⟩
 ·refine (I.hok b u e).stay (λc v hc q=>k c v ?_ q) (λ_ q=>q) λ_ _ q=>q
  rcases hc with z | z
  ·rw[z];exact nit b u e
  ·exact nit c _ z
def Inv.tok(I:Inv X pins σ H s) t:Inv X pins σ H { s with toks:=t }:=I.un Un.refl I.hok
theorem Inv.kept(I:Inv X pins σ H s)(k:∀ b u,s.heap.get? b=some u->h'.get? b=some u):Inv X pins σ H { s with heap:=h',toks:=t' }:=I.un (Un.kept k) (I.hok.kept k)
theorem Inv.laid{a:Addr}{o t'}(I:Inv X pins σ H s)(k:∀ b u,s.heap.get? b=some u->h'.get? b=some u)(hp:s.heap.objs.size<=a)(new:uy X.prog X.w (upd H a o) h' a o) :
  Inv X pins σ (upd H a o) { s with heap:=h',toks:=t' }:=I.un (Un.laid k hp (I.hok.fresh hp)) (I.hok.laid k hp new)
theorem Inv.write{t'}(I:Inv X pins σ H s)(mu:Mut (H x))(he:e=x\/H e=some (.own x))(k:∀ b u,b≠e->s.heap.get? b=some u->h'.get? b=some u)(heo:∃ u,h'.get? e=some u)
  (new:uy X.prog X.w (upd H x o) h' x o):Inv X pins σ (upd H x o) { s with heap:=h',toks:=t' }:=I.un (Un.write mu he k heo) (I.hok.write mu he k heo new)
def Inv.pins_of(I:Inv X pins σ H s)(h:∀ p∈pins',s.heap.get? p.1=some p.2/\H p.1=none/\p.1≠X.env.locals/\p.1∉X.fs/\∀ v,p.2.data≠.cell v):Inv X pins' σ H s:=
 ⟨I.ok,I.os,I.bare,I.base,I.loc,I.cell,I.free,I.freeC,λp hp=>(BF.mp hp).elim (λz=>I.pin p (Dr _ z)) (h p),I.hok,I.len⟩
def Vs{N:List Str}(hN:N.Nodup){i j:Nat}{x}(a:N[i]?=some x)(b:N[j]?=some x):i=j:=by
 obtain⟨h1,e1⟩:=Af.mp a;obtain⟨h2,e2⟩:=Af.mp b;exact (List.getElem_inj hN).mp (e1.trans e2.symm)
def bY{A E i x v u Q}(I:Inv X pins σ H s)(hN:X.N.Nodup)(hi:X.N[i]?=some x)(hx:Loc X.env.scope x)(r:RelV v u)
  (h:∀ s',Inv X pins (σ.set i (some v)) H s'->(∃ a,DK a s.heap s'.heap/\(a=X.env.locals\/X.env.cells.lookup x=some a))->Q () s') (hf:X.fn x=true\/X.env.scope.names.lookup x=some .local:=by first | exact .inl rfl | exact .inr rfl | assumption):AW M A (storeName X.env x u) Q E s:=by
 have ⟨m,hn,hl⟩:=id I.loc;have hcls:(X.env.scope.kind == .class || (X.env.scope.kind == .module && X.env.locals != X.env.globals))=false:=by rw[I.ok.kind];rfl
 have hiσ:i < σ.length:=by rw[I.len];exact (Af.mp hi).1
 have cne:=I.cne;have tracked:∀ {a:Addr} {h':Heap},(∃ o,s.heap.get? a=some o/\H a=none)->DK a s.heap h'->wg X.prog X.w H h':=λ{a h'} ha hs b ob e=>by
  obtain⟨_,_,hfree⟩:=ha;refine (I.hok b ob e).stay (λc w' hc q=>(hs.2 c ?_).trans q) (λ_ q=>q) λ_ _ q=>q
  rintro rfl;rcases hc with rfl | hc
  ·rw[hfree]at e;cases e
  ·rw[hfree]at hc;cases hc
 rcases hx with hk | hk
 ·refine wpAny_storeName_local hk hn (λh' hn' hs=>?_) hcls;obtain⟨oL,_,_,hoL,_⟩:=id hn;refine h _ ⟨I.ok,I.os,I.bare,⟨λb o e n hb hx=>?_,λb o e n hb hx=>?_,I.base.free,λb o e hx=>?_,I.base.tups,I.base.frzs,I.base.tbls⟩,⟨_,hn',λj y v' e1 e2 e3=>?_⟩,λy c e=>?_,I.free,I.freeC,λp hp=>?_,tracked ⟨oL,hoL,I.free⟩ hs,by simpa using I.len⟩ ⟨_,hs,.inl rfl⟩
  ·exact (hs.2 b (AZ (AM (AJ e) I.ok.above))).trans (I.base.keep b o e n hb hx)
  ·obtain⟨sl,e1⟩:=I.base.slot b o e n hb hx;exact⟨sl,(hs.2 b (AZ (AM (AJ e) I.ok.above))).trans e1⟩
  ·obtain⟨o',e1⟩:=I.base.there b o e hx;exact⟨o',(hs.2 b (AZ (AM (AJ e) I.ok.above))).trans e1⟩
  ·by_cases hj:j=i
   ·subst hj;rw[hi]at e1;cases e1;rw[Aj hiσ]at e2;cases e2;exact⟨u,r,.inl ⟨hk,by simp⟩⟩
   ·rw[AU (Aw hj)]at e2;obtain⟨u',r',q⟩:=hl j y v' e1 e2 e3;refine⟨u',r',?_⟩;rcases q with ⟨k,e⟩ | ⟨k,c,e,z⟩
    ·refine .inl ⟨k,?_⟩;have:y≠x:=λe=>hj (Vs hN e1 (e ▸ hi))
     simp[this,e]
    ·exact .inr ⟨k,c,e,z.sameBut hs (cne y c e)⟩
  ·obtain⟨w',z⟩:=I.cell y c e;exact⟨w',z.sameBut hs (cne y c e)⟩
  ·obtain⟨e,n,ne,nf,d⟩:=I.pin p hp;exact⟨(hs.2 p.1 ne).trans e,n,ne,nf,d⟩
 ·have hfn:X.fn x=true:=by
   rcases hf with z | z
   ·exact z
   ·rw[z]at hk;cases hk
  obtain⟨c,hc⟩:=I.ok.has x (.inl hk);obtain⟨w',z⟩:=I.cell x c hc;refine wpAny_storeName_cell I.ok.kind hk hc z (λh' hc' hs=>?_);have ⟨oc,hoc,hocd⟩:=id z;refine h { s with heap:=h' } ⟨I.ok,I.os,I.bare,⟨λb o e n hb hx=>?_,λb o e n hb hx=>?_,I.base.free,λb o e hx=>?_,I.base.tups,I.base.frzs,I.base.tbls⟩,⟨m,hn.sameBut hs (Aw (cne x c hc)),λj y v' e1 e2 e3=>?_⟩,λy c' e=>?_,I.free,I.freeC,λp hp=>?_,tracked ⟨oc,hoc,I.freeC x c hc⟩ hs,by simpa using I.len⟩ ⟨c,hs,.inr hc⟩
  ·exact (hs.2 b (AZ (AM (AJ e) (I.ok.cab x c hfn hc)))).trans (I.base.keep b o e n hb hx)
  ·obtain⟨sl,e1⟩:=I.base.slot b o e n hb hx;exact⟨sl,(hs.2 b (AZ (AM (AJ e) (I.ok.cab x c hfn hc)))).trans e1⟩
  ·obtain⟨o',e1⟩:=I.base.there b o e hx;exact⟨o',(hs.2 b (AZ (AM (AJ e) (I.ok.cab x c hfn hc)))).trans e1⟩
  ·by_cases hj:j=i
   ·subst hj;rw[hi]at e1;cases e1;rw[Aj hiσ]at e2;cases e2;exact⟨u,r,.inr ⟨.inl hk,c,hc,hc'⟩⟩
   ·rw[AU (Aw hj)]at e2;obtain⟨u',r',q⟩:=hl j y v' e1 e2 e3;refine⟨u',r',?_⟩;rcases q with q | ⟨k,c',e,z'⟩
    ·exact .inl q
    ·refine .inr ⟨k,c',e,z'.sameBut hs ?_⟩;rintro rfl;exact hj (Vs hN e1 (I.ok.inj _ _ _ e hc ▸ hi))
  ·by_cases hcc:c'=c
   ·subst hcc;exact⟨_,hc'⟩
   ·obtain⟨w2,z2⟩:=I.cell y c' e;exact⟨w2,z2.sameBut hs hcc⟩
  ·obtain⟨e,n,ne,nf,d⟩:=I.pin p hp;refine⟨(hs.2 p.1 ?_).trans e,n,ne,nf,d⟩;intro q;rw[q,hoc]at e;exact d w' (by rw[← (Az e)];exact hocd)
def M5{A E i x v u Q}(I:Inv X pins σ H s)(hN:X.N.Nodup)(hi:X.N[i]?=some x)(hx:Loc X.env.scope x)(r:RelV v u)
  (h:∀ s',Inv X pins (σ.set i (some v)) H s'->Q () s') (hf:X.fn x=true\/X.env.scope.names.lookup x=some .local:=by first | exact .inl rfl | exact .inr rfl | assumption):AW M A (storeName X.env x u) Q E s:=
 bY I hN hi hx r (λs' I' _=>h s' I') hf
def Inv.call'{ch}(I:Inv X pins σ H s)(ho:s'.os=s.os)(u:Un (frs X.stack) ch H H' s.heap s'.heap)(hok:wg X.prog X.w H' s'.heap)(hg:FL s'.gens)
  (hch:∀ b∈ch,(b∈X.ex\/X.s₀.heap.objs.size<=b)/\b≠X.env.locals/\(∀ x c,X.env.cells.lookup x=some c->c≠b)/\∀ p∈X.pn++pins,p.1≠b):Inv X pins σ H' s':=by
 obtain⟨h',g',d',t',o'⟩:=s';subst ho;exact I.call u hok hg hch
end
abbrev XK:=AK->Option Addr->Hp->Prop
abbrev St:=List (Option V)
abbrev VK:=V->Hp->Prop
abbrev TE:=St->Hp->VK->Prop
abbrev TT:=St->Hp->(Bool->Hp->Prop)->Prop
abbrev TA:=St->Hp->(List V->Hp->Prop)->Prop
structure xi where
 nx:St->Hp->Prop
 rt:VK
 bk:St->Hp->Prop:=λ_ _=>False
 ct:St->Hp->Prop:=λ_ _=>False
abbrev TS:=xi->St->Hp->Prop
def EP (X:Cx) (pins:List (Addr×Obj)) (σ:St) (Q:VK) (u:AK) (s':Ab):Prop:=∃ v H',Inv X pins σ H' s'/\RelV v u/\Q v H'
def TP (X:Cx) (pins:List (Addr×Obj)) (σ:St) (Q:Bool->Hp->Prop) (b:Bool) (s':Ab):Prop:=∃ H',Inv X pins σ H' s'/\Q b H'
def AP (X:Cx) (pins:List (Addr×Obj)) (σ:St) (Q:List V->Hp->Prop) (us:List AK) (s':Ab):Prop:=∃ vs H',Inv X pins σ H' s'/\uU vs us/\Q vs H'
def SP (X:Cx) (pins:List (Addr×Obj)) (D:xi) (f:Flow) (s':Ab):Prop:=
 match f with
 | .next=>∃ σ' H',Inv X pins σ' H' s'/\D.nx σ' H'
 | .brk=>∃ σ' H',Inv X pins σ' H' s'/\D.bk σ' H'
 | .cont=>∃ σ' H',Inv X pins σ' H' s'/\D.ct σ' H'
 | .ret u=>∃ v σ' H',Inv X pins σ' H' s'/\RelV v u/\D.rt v H'
def PE (X:Cx) (e:Expr) (t:TE):Prop:=
 ∀ pins s (σ:St) H Q,Inv X pins σ H s->t σ H Q->AW (model X.prog X.w) X.A (eval e X.env) (EP X pins σ Q) X.xe s
def PT (X:Cx) (e:Expr) (t:TT):Prop:=
 ∀ pins s (σ:St) H Q,Inv X pins σ H s->t σ H Q->AW (model X.prog X.w) X.A (IK e X.env (eval e X.env)) (TP X pins σ Q) X.xe s
def PW (X:Cx) (e:Expr) (t:TT):Prop:=
 ∀ whole pins s (σ:St) H Q,Inv X pins σ H s->t σ H Q->AW (model X.prog X.w) X.A (IK e X.env whole) (TP X pins σ Q) X.xe s
def PW.pt{e t}(h:PW X e t):PT X e t:=h _
def PA (X:Cx) (es:List Expr) (t:TA):Prop:=
 ∀ pos pins s (σ:St) H Q,Inv X pins σ H s->t σ H Q->AW (model X.prog X.w) X.A (spliced (Bx pos (AQ es X.env))) (AP X pins σ Q) X.xe s
def PS (X:Cx) (st:Stmt) (t:TS):Prop:=
 ∀ pins s (σ:St) H D,Inv X pins σ H s->t D σ H->AW (model X.prog X.w) X.A (exec st X.env) (SP X pins D) X.xe s
def PSs (X:Cx) (st:List Stmt) (t:TS):Prop:=
 ∀ pins s (σ:St) H D,Inv X pins σ H s->t D σ H->AW (model X.prog X.w) X.A (execs st X.env) (SP X pins D) X.xe s
def vB{Q Q' M A E s}(h:AW M A t Q E s)(hQ:∀ a s,Q a s->Q' a s):AW M A t Q' E s:=Bd h hQ λ_ _ x=>x
section
variable {X:Cx}
def bin{ta tb}(ha:PE X a ta)(hb:PE X b tb){pins s}{σ:St}{H}{R:V->V->Hp->Prop}(I:Inv X pins σ H s)(h:ta σ H λx H1=>tb σ H1 λy H2=>R x y H2)
  {α Q} {f:AK->AK->Sem α}
  (hf:∀ v u s2 x y H2,Inv X pins σ H2 s2->RelV x v->RelV y u->R x y H2->AW (model X.prog X.w) X.A (f v u) Q X.xe s2) :
  AW (model X.prog X.w) X.A (eval a X.env) (λv s₁=>AW (model X.prog X.w) X.A (eval b X.env) (λu s₂=>AW (model X.prog X.w) X.A (f v u) Q X.xe s₂) X.xe s₁) X.xe s:=by
 exact vB (ha pins s σ H _ I h) λv s1 ⟨x,H1,I1,r1,q1⟩=>vB (hb pins s1 σ H1 _ I1 q1) λu s2 ⟨y,H2,I2,r2,q2⟩=>hf v u s2 x y H2 I2 r1 r2 q2
def xJ (i:Nat):TE:=λσ H Q=>∃ v,σ[i]?=some (some v)/\Q v H
def tC (v:V):TE:=λ_ H Q=>Q v H
def OG{x pos}(hN:X.N[i]?=some x)(hv:Vis X.env.scope x)(hd:(x == ("__debug__":Str))=false:=by decide)(hcd:(x == ("__classdict__":Str))=false:=by decide):PE X (.Name x pos) (xJ i):=by
 intro pins s σ H Q I h;obtain⟨v,e,h⟩:=h;obtain⟨m,hn,hl⟩:=I.loc;obtain⟨u,r,l⟩:=hl i x v hN e hv;have fin:EP X pins σ Q u s:=⟨v,H,I,r,h⟩
 rcases l with ⟨hk,hm⟩ | ⟨hk,c,hc,hcell⟩
 ·exact JP (wpAny_loadName_local I.ok.kind hk hn hm fin) hd
 ·rcases hk with hk | hk
  ·exact JP (wpAny_loadName_cell I.ok.kind hk hc hcell fin) hd
  ·exact JP (wpAny_loadName_free I.ok.kind hk hc hcell fin hcd) hd
def dE{i j pos}:PE X (.Constant (.int i) j pos) (tC (.int i)):=λ_ _ _ H _ I h=>wpAny_Constant_int ⟨.int i,H,I.tok _,⟨_,rfl⟩,h⟩
def nR{b j pos}:PE X (.Constant (.bool b) j pos) (tC (.bl b)):=λ_ _ _ H _ I h=>Constant_bool ⟨.bl b,H,I,rfl,h⟩
def lq{j pos}:PE X (.Constant .none j pos) (tC .non):=λ_ _ _ H _ I h=>Constant_none ⟨.non,H,I,rfl,h⟩
def Wq{x j pos}:PE X (.Constant (.str x) j pos) (tC (.str x)):=λ_ _ _ H _ I h=>Calls.Constant_str ⟨.str x,H,I.tok _,⟨_,rfl⟩,h⟩
def Gl (X:Cx) (x:Str):Prop:=X.env.kindOf x=some .globalImplicit
def QW{pins s}{σ:St}{H x u pos Q}(I:Inv X pins σ H s)(hg:Gl X x)(hm:X.mg x=some u)(h:Q u s)
  (hd:(x == ("__debug__":Str))=false:=by decide):AW (model X.prog X.w) X.A (eval (.Name x pos) X.env) Q E s:=
 Ga I.ok.kind hg (Calls.loadGlobal_global (by rw[I.ok.glob];exact I.mod.glob.keeps I.bk) hm h) hd
def L3{E pins s}{σ:St}{H x u pos Q}(I:Inv X pins σ H s)(hg:Gl X x)(hm:X.mg x=none)(hv:CH x=some u)(h:Q u s)
  (hn:x≠"__name__":=by decide) (hd:(x == ("__debug__":Str))=false:=by decide):AW (model X.prog X.w) X.A (eval (.Name x pos) X.env) Q E s:=by
 obtain⟨mb,h1,h2⟩:=I.mod.blt;exact Ga I.ok.kind hg (Calls.loadGlobal_builtin (by rw[I.ok.glob];exact I.mod.glob.keeps I.bk) hm (by rw[I.ok.blt];exact h1.keeps I.bk) ((h2 x hn).trans hv) h) hd
def Pt{u pos}(hg:Gl X x)(hm:X.mg x=some u)(r:RelV v u)(hd:(x == ("__debug__":Str))=false:=by decide):PE X (.Name x pos) (tC v):=
 λ_ _ _ H _ I h=>QW I hg hm ⟨v,H,I,r,h⟩ hd
def YB{u pos}(hg:Gl X x)(hm:X.mg x=none)(hv:CH x=some u)(r:RelV v u)(hn:x≠"__name__":=by decide)(hd:(x == ("__debug__":Str))=false:=by decide):PE X (.Name x pos) (tC v):=
 λ_ _ _ H _ I h=>L3 I hg hm hv ⟨v,H,I,r,h⟩ hn hd
variable {a b:Expr}{ta tb:TE}{pos:Pos}
variable {tA tB':TT}{rest:List Expr}
def AFw (t u:TT):TT:=λσ H Q=>t σ H λc H1=>if c=true then u σ H1 Q else Q false H1
def tOr (t u:TT):TT:=λσ H Q=>t σ H λc H1=>if c=true then Q true H1 else u σ H1 Q
def AFG (t:TT):TT:=λσ H Q=>t σ H λc H1=>Q (!c) H1
theorem ak(ha:PT X a tA):PW X (.BoolOp .And [a] pos) tA:=by
 intro wh pins s σ H Q I h;refine isTrue_and (vB (ha pins s σ H Q I h) λc s1 e=>?_);cases c with
 | true=>exact isTrue_and_nil e
 | false=>exact e
theorem dO(ha:PT X a tA):PW X (.BoolOp .Or [a] pos) tA:=by
 intro wh pins s σ H Q I h;refine isTrue_or (vB (ha pins s σ H Q I h) λc s1 e=>?_);cases c with
 | false=>exact isTrue_or_nil e
 | true=>exact e
theorem gQ(ha:PT X a tA)(hb:PW X (.BoolOp .And (b::rest) pos) tB'):PW X (.BoolOp .And (a::b::rest) pos) (AFw tA tB'):=by
 intro wh pins s σ H Q I h;refine isTrue_and (vB (ha pins s σ H _ I h) λc s1 ⟨H1,I1,q1⟩=>?_);cases c with
 | true=>exact hb wh pins s1 σ H1 Q I1 q1
 | false=>exact⟨H1,I1,q1⟩
theorem eD(ha:PT X a tA)(hb:PW X (.BoolOp .Or (b::rest) pos) tB'):PW X (.BoolOp .Or (a::b::rest) pos) (tOr tA tB'):=by
 intro wh pins s σ H Q I h;refine isTrue_or (vB (ha pins s σ H _ I h) λc s1 ⟨H1,I1,q1⟩=>?_);cases c with
 | true=>exact⟨H1,I1,q1⟩
 | false=>exact hb wh pins s1 σ H1 Q I1 q1
def l4(ha:PT X a tA):PT X (.UnaryOp .Not a pos) (AFG tA):=λpins s σ H Q I h=>isTrue_not (ha pins s σ H (λc H1=>Q (!c) H1) I h)
def ACi (ta tb:TE):TE:=λσ H Q=>ta σ H λx H1=>∃ c,x=.bl c/\if c=true then tb σ H1 Q else Q (.bl false) H1
def AFr (ta tb:TE):TE:=λσ H Q=>ta σ H λx H1=>∃ c,x=.bl c/\if c=true then Q (.bl true) H1 else tb σ H1 Q
def ACu (ta:TE):TE:=λσ H Q=>ta σ H λx H1=>∃ c,x=.bl c/\Q (.bl (!c)) H1
def i6{op t}(h:PE X a t):PE X (.BoolOp op [a] pos) t:=λpins s σ H Q I hw=>BoolOp_one (h pins s σ H Q I hw)
theorem gC(ha:PE X a ta)(hb:PE X (.BoolOp .And (b::rest) pos) tb):PE X (.BoolOp .And (a::b::rest) pos) (ACi ta tb):=by
 intro pins s σ H Q I h;refine BoolOp_and (vB (ha pins s σ H _ I h) λv s1 ⟨x,H1,I1,r1,q1⟩=>?_);obtain⟨c,rfl,q1⟩:=q1;cases r1;refine B7 ?_;cases c with
 | true=>exact hb pins s1 σ H1 Q I1 q1
 | false=>exact⟨.bl false,H1,I1,rfl,q1⟩
theorem bG(ha:PE X a ta)(hb:PE X (.BoolOp .Or (b::rest) pos) tb):PE X (.BoolOp .Or (a::b::rest) pos) (AFr ta tb):=by
 intro pins s σ H Q I h;refine BoolOp_or (vB (ha pins s σ H _ I h) λv s1 ⟨x,H1,I1,r1,q1⟩=>?_);obtain⟨c,rfl,q1⟩:=q1;cases r1;refine B7 ?_;cases c with
 | false=>exact hb pins s1 σ H1 Q I1 q1
 | true=>exact⟨.bl true,H1,I1,rfl,q1⟩
def bV(ha:PE X a ta):PE X (.UnaryOp .Not a pos) (ACu ta):=by
 intro pins s σ H Q I h;refine UnaryOp_ (vB (ha pins s σ H _ I h) λv s1 ⟨x,H1,I1,r1,q1⟩=>?_);obtain⟨c,rfl,q1⟩:=q1;cases r1;exact not_of (B7 ⟨.bl (!c),H1,I1,rfl,q1⟩)
def tIf (t:TT) (ta tb:TE):TE:=λσ H Q=>t σ H λc H1=>if c=true then ta σ H1 Q else tb σ H1 Q
theorem eA(hc:PT X c tA)(ha:PE X a ta)(hb:PE X b tb):PE X (.IfExp c a b pos) (tIf tA ta tb):=by
 intro pins s σ H Q I h;refine wpAny_IfExp (vB (hc pins s σ H _ I h) λd s1 ⟨H1,I1,q1⟩=>?_);cases d with
 | true=>exact ha pins s1 σ H1 Q I1 q1
 | false=>exact hb pins s1 σ H1 Q I1 q1
end
def vz (K:AY) (H:Hp) (a:Addr) (xs:List V):Prop:=
 Rd H a (.lst xs) \/
  ∃ (o:Obj) (its:Array AK) (n:Nat),K.lookup a=some o/\o.cls=.type "list"/\o.dict=none/\o.data=.seq its n/\its.size<=AD/\uU xs its.toList
def wo (K:AY) (H:Hp) (a:Addr) (xs:List V):Prop:=
 Rd H a (.tup xs) \/
  ∃ (o:Obj) (its:Array AK) (n:Nat),K.lookup a=some o/\o.cls=.type "tuple"/\o.data=.seq its n/\its.size<=AD/\uU xs its.toList
def AGi:AK->Option V
 | .none=>some .non
 | .bool b=>some (.bl b)
 | .int i _=>some (.int i)
 | .str x _=>some (.str x)
 | .bytes b _=>some (.byt b)
 | .float b _=>some (.flt b)
 | .ref a=>some (.ref a)
 | .type n=>some (.ty n)
 | _=>none
theorem RelV.abs{u}(r:RelV x u):AGi u=some x:=by
 cases x with
 | non | bl _ | ref _ | ty _=>cases r;rfl
 | int _ | str _ | byt _ | flt _=>obtain⟨t,rfl⟩:=r;rfl
def RelV.inj{u}(r:RelV x u)(q:RelV y u):x=y:=Az (r.abs.symm.trans q.abs)
theorem uU.inj:∀ {xs ys us},uU xs us->uU ys us->xs=ys:=by
 intro _ ys _ h;induction h generalizing ys with
 | nil=>intro h;cases h;rfl
 | cons r _ ih=>intro h;cases h with
  | cons r' t'=>rw[r.inj r',ih t']
section
variable {X:Cx}{pins:List (Addr×Obj)}{σ:St}{H:Hp}{s:Ab}{a:Addr}{xs ys:List V}
def vz.of{K}(h:H a=some (.lst xs)):vz K H a xs:=.inl (.inl h)
def wo.of{K}(h:H a=some (.tup xs)):wo K H a xs:=.inl (.inl h)
def Inv.list(I:Inv X pins σ H s)(h:vz X.K H a xs):∃ its,uU xs its/\PlainL s.heap a its.toArray/\xs.length<=AD:=by
 rcases h with h | ⟨o,its,n,hk,hc,hd,hs,hz,r⟩
 ·obtain⟨z,its,n,r,e⟩:=h.ok I.hok;exact⟨its,r,⟨_,n,e,rfl,rfl,rfl⟩,z⟩
 ·refine⟨its.toList,r,⟨o,n,I.kIn a o hk,hc,hd,by simpa using hs⟩,?_⟩;have e:=r.length;simp at e;lia
def Inv.tuple(I:Inv X pins σ H s)(h:wo X.K H a xs):∃ its,uU xs its/\FW s.heap a its.toArray/\xs.length<=AD:=by
 rcases h with h | ⟨o,its,n,hk,hc,hs,hz,r⟩
 ·obtain⟨z,its,r,p⟩:=h.ok I.hok;exact⟨its,r,p.tup,z⟩
 ·refine⟨its.toList,r,⟨o,I.kIn a o hk,hc,n,by simpa using hs⟩,?_⟩;have e:=r.length;simp at e;lia
def Inv.list_inj(I:Inv X pins σ H s)(h:vz X.K H a xs)(h':vz X.K H a ys):xs=ys:=by
 obtain⟨its,r,⟨o,n,e,_,_,d⟩,_⟩:=I.list h;obtain⟨its',r',⟨o',n',e',_,_,d'⟩,_⟩:=I.list h';rw[e]at e';cases e';rw[d]at d';injection d' with d1 _;have:=by simpa using congrArg JQ d1
 subst this;exact r.inj r'
def Inv.tuple_inj(I:Inv X pins σ H s)(h:wo X.K H a xs)(h':wo X.K H a ys):xs=ys:=by
 obtain⟨its,r,⟨o,e,_,n,d⟩,_⟩:=I.tuple h;obtain⟨its',r',⟨o',e',_,n',d'⟩,_⟩:=I.tuple h';rw[e]at e';cases e';rw[d]at d';injection d' with d1 _;have:=by simpa using congrArg JQ d1
 subst this;exact r.inj r'
end
abbrev Cx.wish (X:Cx) (E:AK->Ab->Prop):Cx:={ X with xe:=E }
abbrev Cx.nox (X:Cx):Cx:=X.wish λ_ _=>False
theorem Cx.Ok.wish{X:Cx}(ok:X.Ok) E:(X.wish E).Ok:=
 ⟨ok.mod,ok.kind,ok.glob,ok.blt,ok.above,ok.inj,ok.has,ok.cab,ok.hd,ok.frames,ok.stk,ok.exf,ok.bs,ok.bsz,ok.noex,ok.exfs,ok.funs,ok.frf⟩
def Cx.Ok.unwish{X:Cx}{E}(ok:(X.wish E).Ok):X.Ok:=
 ⟨ok.mod,ok.kind,ok.glob,ok.blt,ok.above,ok.inj,ok.has,ok.cab,ok.hd,ok.frames,ok.stk,ok.exf,ok.bs,ok.bsz,ok.noex,ok.exfs,ok.funs,ok.frf⟩
section
variable {X:Cx}{pins:List (Addr×Obj)}{σ:St}{H:Hp}{s:Ab}{E:AK->Ab->Prop}
theorem Inv.wish(I:Inv X pins σ H s) E:Inv (X.wish E) pins σ H s:=⟨I.ok.wish E,I.os,I.bare,I.base,I.loc,I.cell,I.free,I.freeC,I.pin,I.hok,I.len⟩
theorem Inv.unwish(I:Inv (X.wish E) pins σ H s):Inv X pins σ H s:=⟨I.ok.unwish,I.os,I.bare,I.base,I.loc,I.cell,I.free,I.freeC,I.pin,I.hok,I.len⟩
theorem SP.unwish{f s'}(h:SP (X.wish E) pins D f s'):SP X pins D f s':=by
 cases f with
 | next | brk | cont=>obtain⟨σ',H',I,q⟩:=h;exact⟨σ',H',I.unwish,q⟩
 | ret u=>obtain⟨v,σ',H',I,r,q⟩:=h;exact⟨v,σ',H',I.unwish,r,q⟩
theorem PSs.nox{st t}(h:PSs X.nox st t):PSs X st t:=λpins s σ H D I hw =>
 Bd (h pins s σ H D (I.wish _) hw) (λ_ _ q=>q.unwish) λ_ _ z=>CU z
end
section
variable {X:Cx}{st:Stmt}{rest:List Stmt}{t u:TS}{e:Expr}{te:TE}{pos:Pos}
def ACa:TS:=λD σ H=>D.nx σ H
def AFY (t u:TS):TS:=λD σ H=>t { D with nx:=u D } σ H
def pO:PSs X [] ACa:=λ_ _ σ H _ I h=>FY ⟨σ,H,I,h⟩
theorem mm(h1:PS X st t)(h2:PSs X rest u):PSs X (st::rest) (AFY t u):=by
 intro pins s σ H D I h;refine Jq (vB (h1 pins s σ H { D with nx:=u D } I h) λf s1 q=>?_);cases f with
 | next =>
  obtain⟨σ',H',I',q⟩:=q;exact h2 pins s1 σ' H' D I' q
 | ret v | brk | cont=>exact q
theorem YU(h1:PS X st t):PSs X [st] t:=by
 intro pins s σ H D I h;refine Jq (vB (h1 pins s σ H D I h) λf s1 q=>?_);cases f with
 | next=>exact FY q
 | ret v | brk | cont=>exact q
def Inv.quiet{σ:St}{H s}(I:Inv X pins σ H s):interactive X.env=false:=by simp[interactive,I.ok.kind]
def ACk (te:TE):TS:=λD σ H=>te σ H λ_ H1=>D.nx σ H1
def iI(he:PE X e te)(hs:D4 e none pos.line X.env=pure false:=by rfl):PS X (.Expr e pos) (ACk te):=λpins s σ H D I h=>wpAny_Expr_any (vB (he pins s σ H _ I h) λv s1 ⟨x,H1,I1,r1,q1⟩=>⟨σ,H1,I1,q1⟩) I.quiet hs
def AFT (te:TE):TS:=λD σ H=>te σ H D.rt
def lu(he:PE X e te):PS X (.Return (some e) pos) (AFT te):=λpins s σ H D I h=>wpAny_Return_some (vB (he pins s σ H _ I h) λv s1 ⟨x,H1,I1,r1,q1⟩=>⟨x,σ,H1,I1,r1,q1⟩)
def AEw (c:TT) (t u:TS):TS:=λD σ H=>c σ H λb H1=>if b=true then t D σ H1 else u D σ H1
theorem oq{a b tc}(hc:PT X c tc)(ha:PSs X a t)(hb:PSs X b u):PS X (.If c a b pos) (AEw tc t u):=by
 intro pins s σ H D I h;refine wpAny_If (vB (hc pins s σ H _ I h) λd s1 ⟨H1,I1,q1⟩=>?_);cases d with
 | true=>exact ha pins s1 σ H1 D I1 q1
 | false=>exact hb pins s1 σ H1 D I1 q1
def AAl:TS:=λ_ _ _=>False
def cJ:PS X st AAl:=λ_ _ _ _ _ _ h=>h.elim
end
abbrev TG:=V->St->Hp->(St->Hp->Prop)->Prop
abbrev TGs:=List V->St->Hp->(St->Hp->Prop)->Prop
def PG (X:Cx) (target:Expr) (t:TG):Prop:=
 ∀ pins s (σ:St) H v u Q,Inv X pins σ H s->RelV v u->t v σ H Q ->
  AW (model X.prog X.w) X.A (assign target X.env u) (λ_ s'=>∃ σ' H',Inv X pins σ' H' s'/\Q σ' H') X.xe s
def PGs (X:Cx) (ts:List Expr) (t:TGs):Prop:=
 ∀ pins s (σ:St) H vs us Q,Inv X pins σ H s->uU vs us->t vs σ H Q ->
  AW (model X.prog X.w) X.A (assignInOrder ((CN ts X.env).map (·.2)) us) (λ_ s'=>∃ σ' H',Inv X pins σ' H' s'/\Q σ' H') X.xe s
abbrev AFo:=V->V->V->Hp->(Hp->Prop)->Prop
def AEz (X:Cx) (t:AFo):Prop:=
 ∀ pins s (σ:St) H o i v ov iv u Q,Inv X pins σ H s->RelV o ov->RelV i iv->RelV v u->t o i v H Q ->
  AW (model X.prog X.w) X.A (Jd ov iv u) (λ_ s'=>∃ H',Inv X pins σ H' s'/\Q H') X.xe s
section
variable {X:Cx}{pos:Pos}
def zM (i:Nat):TG:=λv σ H Q=>Q (σ.set i (some v)) H
def T7{x}(hN:X.N.Nodup)(hi:X.N[i]?=some x)(hx:Loc X.env.scope x)(hf:X.fn x=true\/X.env.scope.names.lookup x=some .local:=by first | exact .inl rfl | exact .inr rfl | assumption):PG X (.Name x pos) (zM i):=λpins s σ H v u Q I r h=>wpAny_assign_Name (M5 I hN hi hx r (λs' I'=>⟨_,H,I',h⟩) hf)
def AEr:TGs:=λvs σ H Q=>vs=[]/\Q σ H
def ACe (t:TG) (u:TGs):TGs:=λvs σ H Q=>∃ v r,vs=v::r/\t v σ H λσ' H'=>u r σ' H' Q
def fO:PGs X [] AEr:=by
 intro pins s σ H vs us Q I r h;obtain⟨e,h⟩:=h;exact Gb ⟨σ,H,I,h⟩
theorem bb{es t u}(h1:PG X e t)(h2:PGs X es u)
  (hs:(CN (e::es) X.env).map (·.2)=assign e X.env::(CN es X.env).map (·.2):=by rfl):PGs X (e::es) (ACe t u):=by
 intro pins s σ H vs us Q I r h;obtain⟨v,vr,rfl,h⟩:=h;cases r with
 | cons r rr =>
  rw[hs];exact Cv (vB (h1 pins s σ H _ _ _ I r h) λ_ s1 ⟨σ1,H1,I1,q1⟩=>h2 pins s1 σ1 H1 _ _ Q I1 rr q1)
def ADp (K:AY) (n:Nat) (t:TGs):TG:=λv σ H Q=>∃ a xs,v=.ref a/\wo K H a xs/\xs.length=n/\t xs σ H Q
def lY{k t n}(hc:X.calm=true)(h:PGs X es t)
  (hn:(CN es X.env).length=n:=by rfl) (hst:(CN es X.env).findIdx? (·.1)=none:=by rfl):PG X (.Tuple es k pos) (ADp X.K n t):=by
 intro pins s σ H v u Q I r hw;obtain⟨a,xs,rfl,hq,hl,hw⟩:=hw;cases r;obtain⟨its,rv,ht,hz⟩:=I.tuple hq;refine assign_Tuple_tuple (I.ok.hd hc) ht (by simp[hn,← hl,rv.length]) hst λh' hx=>?_
 exact h pins _ σ H xs _ Q (I.kept λb o e=>hx b o (AZ (AJ e)) e) ‹_› hw
def AFJ (to ti:TE) (t:AFo):TG:=λv σ H Q=>to σ H λo H1=>ti σ H1 λi H2=>t o i v H2 λH3=>Q σ H3
def m9{to ti t}(ho:PE X o to)(hi:PE X i ti)(hs:AEz X t)
  (ha:∀ v,assign (.Subscript o i pos) X.env v=(do
   let ov ← holding [v] (eval o X.env);let iv ← holding [v,ov] (eval i X.env)
   Je pos
   holding [v,ov,iv] (Jd ov iv v)
   release [v,ov,iv] []):=by intro _;rfl):PG X (.Subscript o i pos) (AFJ to ti t):=by
 intro pins s σ H v u Q I r h;rw[ha];exact AB (BU (vB (ho pins s σ H _ I h) λov s1 ⟨x,H1,I1,r1,q1⟩=>AB (BU (vB (hi pins s1 σ H1 _ I1 q1) λiv s2 ⟨y,H2,I2,r2,q2⟩=>AB (Et (AB (BU (vB (hs pins s2 σ H2 x y v ov iv u _ I2 r1 r2 r q2) λ_ s3 ⟨H3,I3,q3⟩=>wpAny_release ⟨σ,H3,I3,q3⟩))))))))
def ABe (te:TE) (g:TG):TS:=λD σ H=>te σ H λx H1=>g x σ H1 D.nx
def kC{tg e te g}(he:PE X e te)(hg:PG X tg g)(hs:D7 [tg] e pos.line X.env=pure false:=by rfl)(hw:D8 [tg] e X.env=pure none:=by rfl)
  (h1:(CN [tg] X.env).map (·.2)=[assign tg X.env]:=by rfl):PS X (.Assign [tg] e pos) (ABe te g):=by
 intro pins s σ H D I h;refine wpAny_Assign_stores (vB (he pins s σ H _ I h) λv s1 ⟨x,H1,I1,r1,q1⟩=>?_) hs hw;rw[h1];exact vB (hg pins s1 σ H1 x v _ I1 r1 q1) λ_ s2 q=>q
def Wp{x e te pos'}(hN:X.N.Nodup)(hi:X.N[i]?=some x)(hx:Loc X.env.scope x)(he:PE X e te)(hs:D4 e (some (.Name x pos')) pos.line X.env=pure false:=by rfl)(hf:X.fn x=true\/X.env.scope.names.lookup x=some .local:=by first | exact .inl rfl | exact .inr rfl | assumption) :
  PS X (.Assign [.Name x pos'] e pos) (ABe te (zM i)):=λpins s σ H D I h=>wpAny_Assign_Name (vB (he pins s σ H _ I h) λv s1 ⟨y,H1,I1,r1,q1⟩=>M5 I1 hN hi hx r1 (λs2 I2=>⟨_,H1,I2,q1⟩) hf) hs
def AFO (i j:Nat) (ta:TA):TS:=λD σ H=>ta σ H λvs H1=>∃ v w,vs=[v,w]/\D.nx ((σ.set i (some v)).set j (some w)) H1
def lH{x y a b ta px py pt kt k2 pt2}(hc:X.calm=true)(hN:X.N.Nodup)(hi:X.N[i]?=some x)(hj:X.N[j]?=some y)(hij:i≠j)
  (hx:X.env.scope.names.lookup x=some .local) (hy:X.env.scope.names.lookup y=some .local) (ha:PA X [a,b] ta)
  (hw:D8 [.Tuple [.Name x px,.Name y py] kt pt] (.Tuple [a,b] k2 pt2) X.env=pure (some [x,y]))
  (hs:D7 [.Tuple [.Name x px,.Name y py] kt pt] (.Tuple [a,b] k2 pt2) pos.line X.env=pure false:=by rfl) :
  PS X (.Assign [.Tuple [.Name x px,.Name y py] kt pt] (.Tuple [a,b] k2 pt2) pos) (AFO i j ta):=by
 intro pins s σ H D I h;refine AB (Et (AB (AF (AB (Tuple_ (vB (ha _ pins s σ H _ I h) λus s1 ⟨vs,H1,I1,r1,q1⟩=>?_))))));obtain⟨v,w,rfl,q1⟩:=q1;obtain⟨u1,u2,rfl,rv,rw'⟩:∃ u1 u2,us=[u1,u2]/\RelV v u1/\RelV w u2:=by
  cases r1 with
  | cons p q =>
   cases q with
   | cons p' q' =>
    cases q';exact⟨_,_,rfl,p,p'⟩
 refine BH ?_ (by show 2<=AD;decide);have I2:Inv X pins σ H1 { s1 with heap:=s1.heap.push { cls:=.type "tuple",data:=.seq [u1,u2].toArray } }:=I1.kept λb o e=>AC _ e
 rw[hw];refine AB (AF (AB (Cf (AB (Jf (items:=#[u1,u2]) (I.ok.hd hc) (KI s1.heap _) λh' hx'=>?_)))));refine AB (Cv (Eb (M5 (I2.kept λb o e=>hx' b o (AZ (AJ e)) e) hN hj (.inl hy) rw' (λs2 I4=>Cv (Eb (M5 I4 hN hi (.inl hx) rv (λs3 I5=>Gb (AF ?_)) (.inr hx)))) (.inr hy))));rw[Fh _ _ (Aw hij)]at I5;exact⟨_,H1,I5,q1⟩
end
section
variable {X:Cx}{pos:Pos}
def AAt (c:TT) (tb:TS):TS:=λD σ H=>∃ W:Nat->St->Hp->Prop,(∃ m,W m σ H)/\∀ m σ H,W m σ H ->
 c σ H λb H1=>if b=true then ∃ N,(∀ σ' H',N σ' H'->∃ m',m' < m/\W m' σ' H')/\tb { D with nx:=N,ct:=N,bk:=D.nx } σ H1 else D.nx σ H1
theorem pN{body tc tb}(hp:IA (model X.prog X.w) X.A X.env X.xe)(hc:PT X c tc)(hb:PSs X body tb):PS X (.While c body [] pos) (AAt tc tb):=by
 intro pins s σ H D I h;obtain⟨W,⟨m0,w0⟩,turn⟩:=h;refine wpAny_While (codeAny_whileLoop (λn s'=>∃ σ' H',Inv X pins σ' H' s'/\W n σ' H') ?_ m0 ⟨σ,H,I,w0⟩);rintro n s1 ⟨σ1,H1,I1,w1⟩;refine C5 hp (vB (hc pins s1 σ1 H1 _ I1 (turn n σ1 H1 w1)) λb s2 ⟨H2,I2,q2⟩=>?_);cases b with
 | true =>
  obtain⟨N,hN,q2⟩:=q2;refine C5 hp (vB (hb pins s2 σ1 H2 _ I2 q2) λf s3 q3=>?_);cases f with
  | next | cont =>
   obtain⟨σ3,H3,I3,n3⟩:=q3;obtain⟨m',hm,w3⟩:=hN σ3 H3 n3;exact⟨m',hm,σ3,H3,I3,w3⟩
  | brk | ret v=>exact q3
 | false =>
  exact FY ⟨σ1,H2,I2,q2⟩
end
structure It where
 go:Nat->Hp->Prop
 yld:Nat->Hp->V->Hp->Prop
 stop:Nat->Hp->Prop
def zx (X:Cx) (pins:List (Addr×Obj)) (H:Hp) (b:Addr):Prop:=
 H b=none/\b≠X.env.locals/\b∉X.fs/\(b∈X.ex\/X.s₀.heap.objs.size<=b)/\(∀ x c,X.env.cells.lookup x=some c->c≠b)/\∀ p∈X.pn++pins,p.1≠b
def Inv.fpOk{pins}{σ:St}{H H' s}{b:Addr}(I:Inv X pins σ H s)(hb:s.heap.objs.size<=b)(hn:H' b=none):zx X pins H' b:=by
 refine⟨hn,BK (AM I.lt hb),I.nofs hb,.inr (Aa I.sz hb),λx c e z=>?_,λp hp z=>?_⟩
 ·obtain⟨v,q⟩:=I.cell x c e;exact absurd (AM q.lt (by simp_all)) (A8 _)
 ·exact absurd (AM (AJ (I.pin p hp).1) (by simp_all)) (A8 _)
structure AAf(P:Ah)(w:A5)(K:AY)(tg:Expr)(J:It)(fp:List Addr)(it:Addr)(tn:Nat->Heap->Prop):Prop where
 mem:it∈fp
 obj:∀ i h,tn i h->∀ b∈fp,∃ o,h.get? b=some o/\∀ v,o.data≠.cell v
 keep:∀ i h h',tn i h->(∀ b∈fp,∀ o,h.get? b=some o->h'.get? b=some o)->tn i h'
 item:∀ (X:Cx),X.prog=P->X.w=w->X.K=K->X.calm=true->∀ (i:Nat) (pins:List (Addr×Obj)) (s:Ab) (σ:St) (H:Hp) (E:AK->Ab->Prop),Inv X pins σ H s->(∀ b∈fp,zx X pins H b)->tn i s.heap->J.go i H ->
  AW (model P w) X.A (Dl (.ref it)) (λr s1=>∃ u,r=some u /\
   AW (model P w) X.A (HN tg (.ref it) u) (λ_ s2=>∃ x H',Inv X pins σ H' s2/\RelV x u/\J.yld i H x H'/\tn (i+1) s2.heap/\∀ b∈fp,H' b=none) E s1) E s
 done:∀ (X:Cx),X.prog=P->X.w=w->X.K=K->X.calm=true->∀ (i:Nat) (pins:List (Addr×Obj)) (s:Ab) (σ:St) (H:Hp) (E:AK->Ab->Prop),Inv X pins σ H s->(∀ b∈fp,zx X pins H b)->tn i s.heap->J.stop i H ->
  AW (model P w) X.A (Dl (.ref it)) (λr s1=>r=none/\Inv X pins σ H s1) E s
 self:∀ (A:BY) (i:Nat) (s:Ab) (Q:AK->Ab->Prop) (E:AK->Ab->Prop),tn i s.heap->Q (.ref it) s->AW (model P w) A (GL (.ref it)) Q E s
abbrev TI:=St->Hp->(It->Hp->Prop)->Prop
def PIE (X:Cx) (pins:List (Addr×Obj)) (σ:St) (tg:Expr) (R:It->Hp->Prop) (itv:AK) (s2:Ab):Prop:=
 ∃ (it:Addr) (fp:List Addr) (tn:Nat->Heap->Prop) (J:It) (H':Hp),itv=.ref it/\Inv X pins σ H' s2/\AAf X.prog X.w X.K tg J fp it tn/\tn 0 s2.heap/\(∀ b∈fp,zx X pins H' b)/\R J H'
def PI (X:Cx) (tg iter:Expr) (wi:TI):Prop:=
 ∀ pins s (σ:St) H R,Inv X pins σ H s->wi σ H R ->
  AW (model X.prog X.w) X.A (eval iter X.env) (λv s1=>AW (model X.prog X.w) X.A (GL v) (PIE X pins σ tg R) X.xe s1) X.xe s
def OI{A E s tg it u o n vs Q}(ho:s.heap.get? it=some o)(hc:o.cls=.type n)(hd:o.data=.fields vs)
  (hn:["enumerate","zip","dict_itemiterator","dict_reverseitemiterator","odict_iterator","itertools.zip_longest","itertools.pairwise"].contains n=false) (hQ:Q () s):AW M A (HN tg (.ref it) u) Q E s:=by
 cases tg <;> first
  | exact AF hQ
  | (cases u <;> first
    | exact AF hQ
    | (
      refine AB (wpAny_load ho ?_);rw[hc,hd];show AW M A (if (["enumerate","zip","dict_itemiterator","dict_reverseitemiterator","odict_iterator","itertools.zip_longest","itertools.pairwise"].contains n && vs[0]? == some (D5 _))=true then _ else _) Q E s;rw[if_neg (by intro h;rw[hn]at h;cases h)];exact AF hQ))
def Itl (K:AY) (a:Addr):It:=
 ⟨λi H=>∃ xs x,vz K H a xs/\xs[i]?=some x,λi H x H'=>H'=H/\∀ xs,vz K H a xs->xs[i]?=some x,λi H=>∃ xs,vz K H a xs/\xs.length<=i⟩
def Itt (K:AY) (a:Addr):It:=
 ⟨λi H=>∃ xs x,wo K H a xs/\xs[i]?=some x,λi H x H'=>H'=H/\∀ xs,wo K H a xs->xs[i]?=some x,λi H=>∃ xs,wo K H a xs/\xs.length<=i⟩
def Itr (lo:Int) (n:Nat):It:=⟨λi _=>i < n,λi H x H'=>H'=H/\x=.int (lo+i),λi _=>n<=i⟩
def lI{K tg} a it:AAf P w K tg (Itl K a) [it] it (λi h=>h.IsListIter it a i) where
 mem:=by simp
 obj:=λi h st b hb=>by
  have e:=by simpa using hb
  subst e;obtain⟨o,e,c,d⟩:=st;exact⟨o,e,λv z=>by rw[d]at z;cases z⟩
 keep:=λi h h' st k=>st.at λo e=>k it ↥1 o e
 item:=by
  intro X hP hw hK hc i pins s σ H E I hf st hg;subst hP hw hK;obtain⟨xs,x,hq,hx⟩:=hg;obtain⟨its,rv,p,hz⟩:=I.list hq;obtain⟨u,hu,ru⟩:=rv.get hx;obtain⟨f0,f1,f2,f3,f4,f5⟩:=hf it ↥1;refine wpAny_pyNext_list_item st p.isList (by simpa using hu) λh' st' sb=>?_
  obtain⟨o,e,c,d⟩:=id st';exact⟨u,rfl,OI e c d ∅ ⟨x,H,(I.turned (λb o hb e=>(sb.2 b hb).trans e) f0 f1 f3 f4 f5),ru,⟨rfl,λys hy=>by rw[I.list_inj hy hq];exact hx⟩,st',λb hb=>(hf b hb).1⟩⟩
 done:=by
  intro X hP hw hK hc i pins s σ H E I hf st hg;subst hP hw hK;obtain⟨xs,hq,hx⟩:=hg;obtain⟨its,rv,p,hz⟩:=I.list hq;obtain⟨f0,f1,f2,f3,f4,f5⟩:=hf it ↥1;have hl:=rv.length;exact wpAny_pyNext_list_end (I.ok.hd hc) st p.isList ↥2 λh' eb=>⟨rfl,I.turned (eb) f0 f1 f3 f4 f5⟩
 self:=λ_ _ _ _ _ st h=>wpAny_pyIter_listiter st h
def Yb{K tg} a it:AAf P w K tg (Itt K a) [it] it (λi h=>h.IsTupleIter it a i) where
 mem:=by simp
 obj:=λi h st b hb=>by
  have e:=by simpa using hb
  subst e;obtain⟨o,e,c,d⟩:=st;exact⟨o,e,λv z=>by rw[d]at z;cases z⟩
 keep:=λi h h' st k=>st.at λo e=>k it ↥1 o e
 item:=by
  intro X hP hw hK hc i pins s σ H E I hf st hg;subst hP hw hK;obtain⟨xs,x,hq,hx⟩:=hg;obtain⟨its,rv,p,hz⟩:=I.tuple hq;obtain⟨u,hu,ru⟩:=rv.get hx;obtain⟨f0,f1,f2,f3,f4,f5⟩:=hf it ↥1;refine wpAny_pyNext_tuple_item st p (by simpa using hu) λh' st' sb=>?_
  obtain⟨o,e,c,d⟩:=id st';exact⟨u,rfl,OI e c d ∅ ⟨x,H,(I.turned (λb o hb e=>(sb.2 b hb).trans e) f0 f1 f3 f4 f5),ru,⟨rfl,λys hy=>by rw[I.tuple_inj hy hq];exact hx⟩,st',λb hb=>(hf b hb).1⟩⟩
 done:=by
  intro X hP hw hK hc i pins s σ H E I hf st hg;subst hP hw hK;obtain⟨xs,hq,hx⟩:=hg;obtain⟨its,rv,p,hz⟩:=I.tuple hq;obtain⟨f0,f1,f2,f3,f4,f5⟩:=hf it ↥1;have hl:=rv.length;exact wpAny_pyNext_tuple_end (I.ok.hd hc) st p ↥2 λh' eb=>⟨rfl,I.turned (eb) f0 f1 f3 f4 f5⟩
 self:=λ_ _ _ _ _ st h=>wpAny_pyIter_tupleiter st h
def nJ{K tg} it lo n:AAf P w K tg (Itr lo n) [it] it (λi h=>IsRangeIter h it (lo+i * 1) (n - i) 1) where
 mem:=by simp
 obj:=λi h st b hb=>by
  simp_all
 keep:=λi h h' st k=>k it ↥1 _ st
 item:=by
  intro X hP hw hK hc i pins s σ H E I hf st hg;obtain⟨f0,f1,f2,f3,f4,f5⟩:=hf it ↥1;refine (Walks.range (I.ok.hd hc) it lo 1 n).item i s _ _ hg st λv h' tk hv st' kk=>?_
  obtain⟨t,rfl⟩:=hv;have I1:Inv X pins σ H { s with heap:=h',toks:=tk }:=I.turned (λb o hb e=>kk b o (by simpa using hb) e) f0 f1 f3 f4 f5;refine⟨_,rfl,OI st' rfl rfl ∅ ⟨.int (lo+i),H,I1,⟨t,?_⟩,⟨rfl,rfl⟩,st',λb hb=>(hf b hb).1⟩⟩;rw[FM]
 done:=by
  intro X hP hw hK hc i pins s σ H E I hf st hg;obtain⟨f0,f1,f2,f3,f4,f5⟩:=hf it ↥1;exact wpAny_pyNext_range_end (I.ok.hd hc) st (by have:n<=i:=hg;lia) λh' eb=>⟨rfl,I.turned (eb) f0 f1 f3 f4 f5⟩
 self:=λ_ _ _ _ _ st h=>wpAny_pyIter_rangeiter st h
section
variable {X:Cx}{tg:Expr}
def Tn{σ:St}{H s R E lo hi t u v tk}(I:Inv X pins σ H s)(h1:-(2 ^ 62)<=lo)(h2:lo < 2 ^ 62)(h3:-(2 ^ 62)<=hi)(h4:hi < 2 ^ 62)
  (q:R (Itr lo (hi - lo).toNat) H):AW (model X.prog X.w) X.A (GL (.ref s.heap.objs.size)) (PIE X pins σ tg R) E { s with heap:=s.heap.push { cls:=.type "range",data:=.fields #[.int lo t,.int hi u,.int 1 v] },toks:=tk }:=by
 refine wpAny_pyIter_range (IsRange.new ..) (Jr h1 h2 h3 h4) ?_;have I1:Inv X pins σ H { s with heap:=s.heap.push { cls:=.type "range",data:=.fields #[.int lo t,.int hi u,.int 1 v] },toks:=tk }:=I.kept λb o e=>AC _ e
 refine⟨(s.heap.push { cls:=.type "range",data:=.fields #[.int lo t,.int hi u,.int 1 v] }).objs.size,[(s.heap.push { cls:=.type "range",data:=.fields #[.int lo t,.int hi u,.int 1 v] }).objs.size],_,_,H,rfl,
  I1.kept λb o e=>AC _ e,nJ _ lo (hi - lo).toNat,?_,λb hb=>?_,q⟩
 ·have e1:lo+(0:Nat) * 1=lo:=by simp
  have e2:((hi - lo).toNat) - (0:Nat)=CK lo hi 1:=by rw[LB];split <;> lia
  rw[e1,e2];exact AN _ rfl
 ·have e:b=(s.heap.push { cls:=.type "range",data:=.fields #[.int lo t,.int hi u,.int 1 v] }).objs.size:=by simpa using hb
  subst e;exact I1.fpOk (AL _) (I1.hok.fresh (AL _))
def ACl (ta:TA):TI:=λσ H R=>ta σ H λvs H1=>∃ j:Int,vs=[.int j]/\-(2 ^ 62)<=j/\j < 2 ^ 62/\R (Itr 0 j.toNat) H1
def ACh (ta:TA):TI:=λσ H R=>ta σ H λvs H1=>∃ i j:Int,vs=[.int i,.int j]/\(-(2 ^ 62)<=i/\i < 2 ^ 62/\-(2 ^ 62)<=j/\j < 2 ^ 62)/\R (Itr i (j - i).toNat) H1
theorem ZC{p pos}(hg:Gl X "range")(hm:X.mg "range"=none)(ha:PA X [a] ta)(hs:AQ [a] X.env=[(false,eval a X.env)]:=by rfl):PI X tg (.Call (.Name "range" p) [a] [] pos) (ACl ta):=by
 intro pins s σ H R I h;refine F9 (L3 I hg hm boot_range (An (vB (ha pos pins s σ H _ I h) λus s1 ⟨vs,H1,I1,r1,q1⟩=>?_) hs rfl));obtain⟨j,rfl,q1,q2,q⟩:=q1;cases r1 with
 | cons r rr =>
  cases rr;obtain⟨t,rfl⟩:=r;exact La (Tn I1 ⋯ ⋯ q1 q2 (by simp_all))
theorem eE{p pos}(hg:Gl X "range")(hm:X.mg "range"=none)(ha:PA X [a,b] ta)(hs:AQ [a,b] X.env=[(false,eval a X.env),(false,eval b X.env)]:=by rfl)(hs2:AQ [b] X.env=[(false,eval b X.env)]:=by rfl) :
  PI X tg (.Call (.Name "range" p) [a,b] [] pos) (ACh ta):=by
 intro pins s σ H R I h;refine F9 (L3 I hg hm boot_range (An (vB (ha pos pins s σ H _ I h) λus s1 ⟨vs,H1,I1,r1,q1⟩=>?_) (by simp_all) (by rw[hs2];rfl)));obtain⟨i,j,rfl,⟨q1,q2,q3,q4⟩,q⟩:=q1;cases r1 with
 | cons r rr =>
  cases rr with
  | cons r' rr =>
   cases rr;obtain⟨t,rfl⟩:=r;obtain⟨t',rfl⟩:=r';exact Lb (Tn I1 q1 q2 q3 q4 q)
def AEj (wi:TI) (g:TG) (tb:TS):TS:=λD σ H=>wi σ H λJ H1=>∃ W:Nat->Nat->St->Hp->Prop,(∃ m,W 0 m σ H1)/\∀ i m σ H,W i m σ H ->
 (J.stop i H/\D.nx σ H)\/(J.go i H/\∃ N,(∀ σ' H',N σ' H'->∃ m',m' < m/\W (i+1) m' σ' H')/\∀ x H',J.yld i H x H'->g x σ H' λσ2 H2=>tb { D with nx:=N,ct:=N,bk:=D.nx } σ2 H2)
def xg (fp:List Addr) (h:Heap):List (Addr×Obj):=fp.filterMap λb=>(h.get? b).map λo=>(b,o)
def Qi{b o}(hb:b∈fp)(e:h.get? b=some o):(b,o)∈xg fp h:=IB.mpr ⟨b,hb,by rw[e];rfl⟩
theorem jB{p}(hp:p∈xg fp h):p.1∈fp/\h.get? p.1=some p.2:=by
 obtain⟨b,hb,e⟩:=IB.mp hp;cases q:h.get? b with
 | none=>rw[q]at e;cases e
 | some o =>
  rw[q]at e;have e':=Az e;subst e';exact⟨hb,q⟩
def Inv.pinned{σ:St}{H s fp}(I:Inv X pins σ H s)(hf:∀ b∈fp,zx X pins H b)(ho:∀ b∈fp,∃ o,s.heap.get? b=some o/\∀ v,o.data≠.cell v):Inv X (pins++xg fp s.heap) σ H s:=
 I.pins_of λp hp=>(BF.mp hp).elim (λz=>I.pin p (Ai _ z)) λz=>by
  obtain⟨hb,e⟩:=jB z;obtain⟨f0,f1,f2,_⟩:=hf p.1 hb;obtain⟨o,e',d⟩:=ho p.1 hb;simp_all
def Inv.unpinned{σ:St}{H s}(I:Inv X (pins++pl) σ H s):Inv X pins σ H s:=I.pins_of λp hp=>I.pin p (Ai _ (Dr _ hp))
def YC{body wi g tb pos}(hp:IA (model X.prog X.w) X.A X.env X.xe)(hc:X.calm=true)(hi:PI X tg iter wi)(hg:PG X tg g)(hb:PSs X body tb)
  (hs:∀ x,Cb iter X.env x=pure x:=by intro _;rfl):PS X (.For tg iter body [] pos) (AEj wi g tb):=by
 intro pins s σ H D I h;refine wpAny_For (vB (hi pins s σ H _ I h) λv s1 h1=>vB h1 λitv s2 h2=>?_) hs;obtain⟨it,fp,tn,J,H2,rfl,I2,T,st2,f2,W,⟨m0,w0⟩,turn⟩:=h2;have stat:∀ {H':Hp},(∀ b∈fp,H' b=none)->∀ b∈fp,zx X pins H' b:=λhn b hb=>⟨hn b hb,(f2 b hb).2⟩
 refine codeAny_forLoop_any (λn s'=>∃ i σ' H',Inv X pins σ' H' s'/\tn i s'.heap/\(∀ b∈fp,H' b=none)/\W i n σ' H') ?_ m0 ⟨0,σ,H2,I2,st2,λb hb=>(f2 b hb).1,w0⟩;rintro n s3 ⟨i,σ3,H3,I3,st3,fr3,w3⟩;rcases turn i n σ3 H3 w3 with ⟨stop,qn⟩ | ⟨go,N,hN,step⟩
 ·refine C5 hp (vB (T.done X rfl rfl rfl hc i pins s3 σ3 H3 X.xe I3 (stat fr3) st3 stop) λr s4 ⟨hr,I4⟩=>?_);subst hr;exact FY ⟨σ3,H3,I4,qn⟩
 ·refine C5 hp (vB (T.item X rfl rfl rfl hc i pins s3 σ3 H3 X.xe I3 (stat fr3) st3 go) λr s4 ⟨u,hr,h4⟩=>?_);subst hr;refine C5 hp (vB h4 λ_ s5 ⟨x,H5,I5,r5,y5,st5,fr5⟩=>C5 hp (vB (hg _ s5 σ3 H5 x u _ (I5.pinned (stat fr5) (T.obj _ _ st5)) r5 (step x H5 y5)) λ_ s6 ⟨σ6,H6,I6,q6⟩=>C5 hp (vB (hb _ s6 σ6 H6 _ I6 q6) λf s7 q7=>?_)));have again:∀ {σ7:St} {H7:Hp},Inv X (pins++xg fp s5.heap) σ7 H7 s7->N σ7 H7->∃ m,m < n/\∃ i σ' H',Inv X pins σ' H' s7/\tn i s7.heap/\(∀ b∈fp,H' b=none)/\W i m σ' H':=λ{σ7 H7} I7 n7=>by
   obtain⟨m',hm,w7⟩:=hN σ7 H7 n7;refine⟨m',hm,i+1,σ7,H7,I7.unpinned,T.keep _ _ _ st5 λb hb o e=>(I7.pin (b,o) (Ai _ (Ai _ (Qi hb e)))).1,λb hb=>?_,w7⟩;obtain⟨o,e,d⟩:=T.obj _ _ st5 b hb;exact (I7.pin (b,o) (Ai _ (Ai _ (Qi hb e)))).2.1
  cases f with
  | next | cont=>obtain⟨σ7,H7,I7,n7⟩:=q7;exact again I7 n7
  | brk=>obtain⟨σ7,H7,I7,q7⟩:=q7;exact⟨σ7,H7,I7.unpinned,q7⟩
  | ret v=>obtain⟨x7,σ7,H7,I7,r7,q7⟩:=q7;exact⟨x7,σ7,H7,I7.unpinned,r7,q7⟩
end
abbrev R2:=V->V->Hp->VK->Prop
def w8 (X:Cx) (f:AK->AK->Sem AK) (r:R2):Prop:=
 ∀ pins s (σ:St) H x y v u Q,Inv X pins σ H s->RelV x v->RelV y u->r x y H Q ->
  AW (model X.prog X.w) X.A (f v u) (EP X pins σ Q) X.xe s
def UnR (X:Cx) (f:AK->Sem AK) (r:V->Hp->VK->Prop):Prop:=
 ∀ pins s (σ:St) H x v Q,Inv X pins σ H s->RelV x v->r x H Q ->
  AW (model X.prog X.w) X.A (f v) (EP X pins σ Q) X.xe s
def vF (X:Cx) (f:AK) (r:List V->Hp->VK->Prop):Prop:=
 ∀ pins s (σ:St) H xs us Q,Inv X pins σ H s->uU xs us->r xs H Q ->
  AW (model X.prog X.w) X.A (call f us) (EP X pins σ Q) X.xe s
def AHE (X:Cx) (r:V->Hp->(Bool->Hp->Prop)->Prop):Prop:=
 ∀ pins s (σ:St) H x v Q,Inv X pins σ H s->RelV x v->r x H Q ->
  AW (model X.prog X.w) X.A (truthy v) (TP X pins σ Q) X.xe s
def tOp (r:R2) (ta tb:TE):TE:=λσ H Q=>ta σ H λx H1=>tb σ H1 λy H2=>r x y H2 Q
def tUn (r:V->Hp->VK->Prop) (ta:TE):TE:=λσ H Q=>ta σ H λx H1=>r x H1 Q
def rI (C:Int->Int->Prop) (g:Int->Int->V):R2:=λx y H Q=>∃ i j,x=.int i/\y=.int j/\C i j/\Q (g i j) H
def rI0 (g:Int->Int->V):R2:=λx y H Q=>∃ i j,x=.int i/\y=.int j/\Q (g i j) H
def rU (g:Int->V):V->Hp->VK->Prop:=λx H Q=>∃ i,x=.int i/\Q (g i) H
section
variable {X:Cx}{a b c:Expr}{ta tb tc:TE}{pos:Pos}
def AEK(ha:PE X a ta)(hb:PE X b tb){pins s}{σ:St}{H}{R:V->V->Hp->Prop}(I:Inv X pins σ H s)
  (h:ta σ H λx H1=>tb σ H1 λy H2=>R x y H2) {Q} {f:AK->AK->Sem AK}
  (hf:∀ v u s2 x y H2,Inv X pins σ H2 s2->RelV x v->RelV y u->R x y H2->AW (model X.prog X.w) X.A (f v u) Q X.xe s2) :
  AW (model X.prog X.w) X.A (eval a X.env) (λv s₁=>AW (model X.prog X.w) X.A (eval b X.env) (λu s₂=>AW (model X.prog X.w) X.A (f v u) Q X.xe s₂) X.xe s₁) X.xe s:=vB (ha pins s σ H _ I h) λv s1 ⟨x,H1,I1,r1,q1⟩=>vB (hb pins s1 σ H1 _ I1 q1) λu s2 ⟨y,H2,I2,r2,q2⟩=>hf v u s2 x y H2 I2 r1 r2 q2
def eh(ho:w8 X (Co op) r)(ha:PE X a ta)(hb:PE X b tb):PE X (.BinOp a op b pos) (tOp r ta tb):=λpins s σ H Q I h=>wpAny_BinOp (AEK ha hb I h λv u s2 x y H2 I2 rx ry q=>ho pins s2 σ H2 x y v u Q I2 rx ry q)
def ay{r}(ho:UnR X (unaryOp op) r)(ha:PE X a ta):PE X (.UnaryOp op a pos) (tUn r ta):=λpins s σ H Q I h=>UnaryOp_ (vB (ha pins s σ H _ I h) λv s1 ⟨x,H1,I1,r1,q1⟩=>ho pins s1 σ H1 x v Q I1 r1 q1)
def opI{C}{g:Int->Int->Int}
  (rule:∀ i j t u s Q E,C i j->Q (.int (g i j) s.toks) { s with toks:=s.toks+1 }->AW (model X.prog X.w) X.A (f (.int i t) (.int j u)) Q E s) :
  w8 X f (rI C λi j=>.int (g i j)):=by
 intro pins s σ H x y v u Q I rx ry h;obtain⟨i,j,rfl,rfl,hc,q⟩:=h;obtain⟨t,rfl⟩:=rx;obtain⟨t',rfl⟩:=ry;exact rule i j t t' s _ _ hc ⟨.int (g i j),H,I.tok _,⟨_,rfl⟩,q⟩
def AFt{g:Int->Int->Int}
  (rule:∀ i j t u s Q E,Q (.int (g i j) s.toks) { s with toks:=s.toks+1 }->AW (model X.prog X.w) X.A (f (.int i t) (.int j u)) Q E s) :
  w8 X f (rI0 λi j=>.int (g i j)):=by
 intro pins s σ H x y v u Q I rx ry h;obtain⟨i,j,rfl,rfl,q⟩:=h;obtain⟨t,rfl⟩:=rx;obtain⟨t',rfl⟩:=ry;exact rule i j t t' s _ _ ⟨.int (g i j),H,I.tok _,⟨_,rfl⟩,q⟩
def ADq{g:Int->Int->Bool}
  (rule:∀ i j t u s Q E,Q (.bool (g i j)) s->AW (model X.prog X.w) X.A (f (.int i t) (.int j u)) Q E s) :
  w8 X f (rI0 λi j=>.bl (g i j)):=by
 intro pins s σ H x y v u Q I rx ry h;obtain⟨i,j,rfl,rfl,q⟩:=h;obtain⟨t,rfl⟩:=rx;obtain⟨t',rfl⟩:=ry;exact rule i j t t' s _ _ ⟨.bl (g i j),H,I,rfl,q⟩
def yA (i j:Int):Prop:=0 < j/\j < 1073741824
def ABt (i j:Int):Prop:=0<=j/\j<=1000000/\i.natAbs < 2 ^ 64
def vv (i j:Int):Prop:=(-(2 ^ 64) < i/\i < 2 ^ 64)\/(-(2 ^ 64) < j/\j < 2 ^ 64)
def vv.ok(h:vv i j):IntMulOk i j:=by
 rcases h with ⟨h1,h2⟩ | ⟨h1,h2⟩
 ·exact .of_left (LC h1 h2)
 ·exact .of_right (LC h1 h2)
def jE:w8 X (Co .Add) (rI0 λi j=>.int (i+j)):=AFt λ_ _ _ _ _ _ _ q=>add_int q
def ai:w8 X (Co .Sub) (rI0 λi j=>.int (i - j)):=AFt λ_ _ _ _ _ _ _ q=>sub_int q
def kL:w8 X (Co .Mult) (rI vv λi j=>.int (i * j)):=opI λ_ _ _ _ _ _ _ hc q=>mul_int q hc.ok
def mn:w8 X (Co .FloorDiv) (rI yA λi j=>.int (i / j)):=opI λi j _ _ _ _ _ hc q=>by
 have h1:=hc.1;have h2:=hc.2;exact floordiv_int ⋯ (by rw[Int.fdiv_eq_ediv_of_nonneg i ⋯];exact q) (.inl (PyProof.noPylong_small ⋯))
def bH:w8 X (Co .Mod) (rI (λ_ j=>0 < j) λi j=>.int (i % j)):=opI λi j _ _ _ _ _ hc q=>mod_int' ⋯ (by rw[Int.fmod_eq_emod_of_nonneg i ⋯];exact q)
def ng:w8 X (Co .Pow) (rI ABt λi j=>.int (i ^ j.toNat)):=opI λ_ _ _ _ _ _ _ hc q=>pow_int_small hc.1 hc.2.1 hc.2.2 q
def YK{g:Int->Int}
  (rule:∀ i t s Q E,Q (.int (g i) s.toks) { s with toks:=s.toks+1 }->AW (model X.prog X.w) X.A (f (.int i t)) Q E s) :
  UnR X f (rU λi=>.int (g i)):=by
 intro pins s σ H x v Q I rx h;obtain⟨i,rfl,q⟩:=h;obtain⟨t,rfl⟩:=rx;exact rule i t s _ _ ⟨.int (g i),H,I.tok _,⟨_,rfl⟩,q⟩
def oI:UnR X (unaryOp .USub) (rU λi=>.int (-i)):=YK λ_ _ _ _ _ q=>neg_int q
end
def ADv:V->V->Bool
 | .non,.non=>true | .non,.int _=>true | .int _,.non=>true | .non,.bl _=>true | .bl _,.non=>true | .non,.str _=>true | .str _,.non=>true
 | .int _,.int _=>true | .bl _,.bl _=>true | .str _,.str _=>true | .byt _,.byt _=>true
 | .int _,.str _=>true | .str _,.int _=>true | .bl _,.str _=>true | .str _,.bl _=>true
 | _,_=>false
def rEq:R2:=λx y H Q=>ADv x y=true/\Q (.bl (decide (x=y))) H
def rNe:R2:=λx y H Q=>ADv x y=true/\Q (.bl (!decide (x=y))) H
def VX:decide (V.int i=V.int j)=(i == j):=by
 rw[Eu];simp
def XM:decide (V.bl i=V.bl j)=(i == j):=by
 rw[Eu];simp
def WL:decide (V.str i=V.str j)=(i == j):=by
 rw[Eu];simp
def U6:decide (V.byt i=V.byt j)=(i.toList == j.toList):=by
 rw[Eu];cases i;cases j;simp
section
variable {X:Cx}{a b c:Expr}{ta tb tc:TE}{pos:Pos}
def Lo{σ:St}{H s Q k k'}(I:Inv X pins σ H s)(q:Q (.bl k) H)(e:k=k'):EP X pins σ Q (.bool k') s:=by
 subst e;exact⟨.bl k,H,I,rfl,q⟩
theorem cK:w8 X (B0 .Eq) rEq:=by
 intro pins s σ H x y v u Q I rx ry h;obtain⟨hs,q⟩:=h;cases x with
 | non =>
  cases rx;cases y with
  | non=>cases ry;exact KJ (Lo I q ↥1)
  | bl j=>cases ry;exact KM (Lo I q ↥1)
  | int j=>obtain⟨t',rfl⟩:=ry;exact KN (Lo I q ↥1)
  | str j=>obtain⟨t',rfl⟩:=ry;exact KO (Lo I q ↥1)
  | _=>exact absurd (show false=true from hs) Ac
 | bl i =>
  cases rx;cases y with
  | non=>cases ry;exact KP (Lo I q ↥1)
  | bl j=>cases ry;exact eq_bool (Lo I q XM)
  | str j=>obtain⟨t',rfl⟩:=ry;exact Js (Lo I q ↥1)
  | _=>exact absurd (show false=true from hs) Ac
 | int i =>
  obtain⟨t,rfl⟩:=rx;cases y with
  | non=>cases ry;exact KQ (Lo I q ↥1)
  | int j=>obtain⟨t',rfl⟩:=ry;exact eq_int (Lo I q VX)
  | str j=>obtain⟨t',rfl⟩:=ry;exact Jt (Lo I q ↥1)
  | _=>exact absurd (show false=true from hs) Ac
 | str i =>
  obtain⟨t,rfl⟩:=rx;cases y with
  | non=>cases ry;exact KR (Lo I q ↥1)
  | bl j=>cases ry;exact Ju (Lo I q ↥1)
  | int j=>obtain⟨t',rfl⟩:=ry;exact Jv (Lo I q ↥1)
  | str j=>obtain⟨t',rfl⟩:=ry;exact eq_str (Lo I q WL)
  | _=>exact absurd (show false=true from hs) Ac
 | byt i =>
  obtain⟨t,rfl⟩:=rx;cases y with
  | byt j=>obtain⟨t',rfl⟩:=ry;exact PySem.W.eq_bytes (Lo I q U6)
  | _=>exact absurd (show false=true from hs) Ac
 | _=>cases y <;> exact absurd (show false=true from hs) Ac
theorem Z6:w8 X (B0 .NotEq) rNe:=by
 intro pins s σ H x y v u Q I rx ry h;obtain⟨hs,q⟩:=h;cases x with
 | non =>
  cases rx;cases y with
  | non=>cases ry;exact KS (Lo I q ↥1)
  | bl j=>cases ry;exact KU (Lo I q ↥1)
  | int j=>obtain⟨t',rfl⟩:=ry;exact KW (Lo I q ↥1)
  | str j=>obtain⟨t',rfl⟩:=ry;exact KY (Lo I q ↥1)
  | _=>exact absurd (show false=true from hs) Ac
 | bl i =>
  cases rx;cases y with
  | non=>cases ry;exact KZ (Lo I q ↥1)
  | bl j=>cases ry;exact ne_bool (Lo I q (congrArg not XM))
  | str j=>obtain⟨t',rfl⟩:=ry;exact Jw (Lo I q ↥1)
  | _=>exact absurd (show false=true from hs) Ac
 | int i =>
  obtain⟨t,rfl⟩:=rx;cases y with
  | non=>cases ry;exact Kb (Lo I q ↥1)
  | int j=>obtain⟨t',rfl⟩:=ry;exact ne_int (Lo I q (congrArg not VX))
  | str j=>obtain⟨t',rfl⟩:=ry;exact Jx (Lo I q ↥1)
  | _=>exact absurd (show false=true from hs) Ac
 | str i =>
  obtain⟨t,rfl⟩:=rx;cases y with
  | non=>cases ry;exact Kc (Lo I q ↥1)
  | bl j=>cases ry;exact Jy (Lo I q ↥1)
  | int j=>obtain⟨t',rfl⟩:=ry;exact Jz (Lo I q ↥1)
  | str j=>obtain⟨t',rfl⟩:=ry;exact ne_str (Lo I q (congrArg not WL))
  | _=>exact absurd (show false=true from hs) Ac
 | byt i =>
  obtain⟨t,rfl⟩:=rx;cases y with
  | byt j=>obtain⟨t',rfl⟩:=ry;exact PySem.W.ne_bytes (Lo I q (congrArg not U6))
  | _=>exact absurd (show false=true from hs) Ac
 | _=>cases y <;> exact absurd (show false=true from hs) Ac
def Yg:w8 X (B0 .Lt) (rI0 λi j=>.bl (decide (i < j))):=ADq λ_ _ _ _ _ _ _ q=>lt_int q
def oE:w8 X (B0 .Gt) (rI0 λi j=>.bl (decide (j < i))):=ADq λ_ _ _ _ _ _ _ q=>gt_int q
def n9:w8 X (B0 .GtE) (rI0 λi j=>.bl (decide (j<=i))):=ADq λ_ _ _ _ _ _ _ q=>ge_int q
def lW:w8 X (B0 .IsNot) (λx y H Q=>y=.non/\Q (.bl (!decide (x=.non))) H):=by
 intro pins s σ H x y v u Q I rx ry h;obtain⟨rfl,q⟩:=h;cases ry;refine isnot_none_gen (Lo I q ?_);cases x <;> first
  | (cases rx;rfl)
  | (obtain⟨t,rfl⟩:=rx;rfl)
def w8.or(h:w8 X f r)(h':w8 X f r'):w8 X f (λx y H Q=>r x y H Q\/r' x y H Q):=by
 intro pins s σ H x y v u Q I rx ry q;rcases q with q | q
 ·exact h pins s σ H x y v u Q I rx ry q
 ·exact h' pins s σ H x y v u Q I rx ry q
def AAr b {op} (h:op≠.In:=by decide) (h2:op≠.NotIn:=by decide):C8 op b=false:=by
 have e1:(op == CmpOp.In)=false:=by cases op <;> first | rfl | exact absurd rfl h
 have e2:(op == CmpOp.NotIn)=false:=by cases op <;> first | rfl | exact absurd rfl h2
 cases b <;> simp[C8,e1,e2]
def iC(ho:w8 X (B0 op) r)(ha:PE X a ta)(hb:PE X b tb)(hm:C8 op b=false):PE X (.Compare a [op] [b] pos) (tOp r ta tb):=λpins s σ H Q I h=>wpAny_Compare1 (AEK ha hb I h λv u s2 x y H2 I2 rx ry q=>ho pins s2 σ H2 x y v u Q I2 rx ry q) hm
def ACd (t:TE):TT:=λσ H Q=>t σ H λx H'=>∃ k,x=.bl k/\Q k H'
def kT(ho:w8 X (B0 op) r)(ha:PE X a ta)(hb:PE X b tb)(hm:C8 op b=false):PT X (.Compare a [op] [b] pos) (ACd (tOp r ta tb)):=by
 intro pins s σ H Q I h;refine wpAny_isTrue_Compare1 (vB (ha pins s σ H _ I h) λv s1 ⟨x,H1,I1,r1,q1⟩=>vB (hb pins s1 σ H1 _ I1 q1) λu s2 ⟨y,H2,I2,r2,q2⟩ =>
  vB (ho pins s2 σ H2 x y v u _ I2 r1 r2 q2) λc s3 ⟨z,H3,I3,r3,k,e,q3⟩=>?_) hm
 subst e;cases r3;exact B7 ⟨H3,I3,q3⟩
def ADY (K:AY) (x:V) (H:Hp) (k:Bool):Prop:=
 match x with
 | .non=>k=false
 | .bl b=>k=b
 | .int i=>k=(i != 0)
 | .str y=>y.length<=AD/\k=((y.length:Int) != 0)
 | .byt y=>y.size<=AD/\k=((y.size:Int) != 0)
 | .ref p=>(∃ xs,vz K H p xs/\k=!xs.isEmpty)\/(∃ xs,wo K H p xs/\k=!xs.isEmpty)\/∃ kvs,H p=some (.dK kvs)/\k=!kvs.isEmpty
 | _=>False
def au{vs}(r:KV kvs vs):(!vs.isEmpty)=!kvs.isEmpty:=by
 cases r <;> rfl
def Ug{its}(r:uU xs its):(!its.toArray.isEmpty)=!xs.isEmpty:=by
 cases r <;> simp
def yC:AD < 2 ^ 63:=by rw[BQ];decide
theorem iX:AHE X (λx H Q=>∃ k,ADY X.K x H k/\Q k H):=by
 intro pins s σ H x v Q I rx h;obtain⟨k,e,q⟩:=h;have hl:=BQ;cases x with
 | non =>
  cases rx;have e':=e;subst e';exact truthy_none ⟨H,I,q⟩
 | bl b =>
  cases rx;have e':=e;subst e';exact B7 ⟨H,I,q⟩
 | int i =>
  obtain⟨t,rfl⟩:=rx;have e':=e;subst e';exact PySem.P.truthy_int ⟨H,I,q⟩
 | str y =>
  obtain⟨t,rfl⟩:=rx;obtain⟨hy,rfl⟩:y.length<=AD/\k=((y.length:Int) != 0):=e;exact PySem.P.truthy_str ⋯ ⟨H,I.tok _,q⟩
 | byt y =>
  obtain⟨t,rfl⟩:=rx;obtain⟨hy,rfl⟩:y.size<=AD/\k=((y.size:Int) != 0):=e;exact PySem.W.truthy_bytes ⋯ ⟨H,I.tok _,q⟩
 | ref p =>
  cases rx;have e':=e;rcases e' with ⟨xs,hx,e'⟩ | ⟨xs,hx,e'⟩ | ⟨kvs,hx,e'⟩
  ·subst e';obtain⟨its,r,pl,hz⟩:=I.list hx;have hlen:=r.length;exact wpAny_truthy_list pl.isList (by simp only[Ae];lia) ⟨H,I.tok _,by rw[Ug r];exact q⟩
  ·subst e';obtain⟨its,r,pl,hz⟩:=I.tuple hx;have hlen:=r.length;exact truthy_tuple pl (by simp only[Ae];lia) ⟨H,I.tok _,by rw[Ug r];exact q⟩
  ·subst e';obtain⟨hz,hS,vs,r,m⟩:kvs.length<=AD/\(p == B8)=false/\∃ vs,KV kvs vs/\s.heap.DictOf (ud X.prog X.w) p vs:=I.hok p _ hx;have hlen:=EM r;exact wpAny_truthy_dict hS m ⋯ ⟨H,I.tok _,by rw[au r];exact q⟩
 | _=>exact e.elim
def i4(ha:PE X a ta)(he:∀ whole,IK a X.env whole=(do let v ← whole;Je a.pos;holding [v] (truthy v))) :
  PT X a (λσ H Q=>ta σ H λx H'=>∃ k,ADY X.K x H' k/\Q k H'):=λpins s σ H Q I h=>isTrue_plain (vB (ha pins s σ H _ I h) λv s1 ⟨x,H1,I1,r1,q1⟩=>iX pins s1 σ H1 x v Q I1 r1 q1) (he _)
def bt:w8 X (Co .Add) (λx y H Q=>∃ i j,x=.str i/\y=.str j/\i.length+j.length<=AD/\Q (.str (i++j)) H):=by
 intro pins s σ H x y v u Q I rx ry h;obtain⟨i,j,rfl,rfl,hz,q⟩:=h;obtain⟨t,rfl⟩:=rx;obtain⟨t',rfl⟩:=ry;exact add_str (λt' tk=>⟨.str (i++j),H,I.tok _,⟨_,rfl⟩,q⟩) hz
theorem vals1{us}(r:uU [x] us):∃ u,us=[u]/\RelV x u:=by
 cases r with
 | cons r1 r2=>cases r2;exact⟨_,rfl,r1⟩
theorem vals2{us}(r:uU [x,y] us):∃ u w',us=[u,w']/\RelV x u/\RelV y w':=by
 cases r with
 | cons r1 r2 =>
  cases r2 with
  | cons r3 r4=>cases r4;exact⟨_,_,rfl,r1,r3⟩
def bU(hc:X.calm=true):vF X (.builtin "max") (λxs H Q=>∃ i j,xs=[.int i,.int j]/\Q (.int (if j > i then j else i)) H):=by
 intro pins s σ H xs us Q I r h;obtain⟨i,j,rfl,q⟩:=h;obtain⟨u,w',rfl,⟨t,rfl⟩,⟨t',rfl⟩⟩:=vals2 r;refine max_two_ints (I.ok.hd hc) λh' tk k=>⟨_,H,I.kept k,?_,q⟩
 by_cases hj:j > i
 ·rw[if_pos hj,if_pos hj];exact⟨_,rfl⟩
 ·rw[if_neg hj,if_neg hj];exact⟨_,rfl⟩
def fz(hc:X.calm=true):vF X (.builtin "min") (λxs H Q=>∃ i j,xs=[.int i,.int j]/\Q (.int (if j < i then j else i)) H):=by
 intro pins s σ H xs us Q I r h;obtain⟨i,j,rfl,q⟩:=h;obtain⟨u,w',rfl,⟨t,rfl⟩,⟨t',rfl⟩⟩:=vals2 r;refine min_two_ints (I.ok.hd hc) λh' tk k=>⟨_,H,I.kept k,?_,q⟩
 by_cases hj:j < i
 ·rw[if_pos hj,if_pos hj];exact⟨_,rfl⟩
 ·rw[if_neg hj,if_neg hj];exact⟨_,rfl⟩
def pD:vF X (.type "int") (λxs H Q=>(∃ i,xs=[.int i]/\Q (.int i) H)\/∃ k,xs=[.bl k]/\Q (.int (if k then 1 else 0)) H):=by
 intro pins s σ H xs us Q I r h;rcases h with ⟨i,rfl,q⟩ | ⟨k,rfl,q⟩
 ·obtain⟨u,rfl,t,rfl⟩:=vals1 r;exact call_int_int ⟨.int i,H,I,⟨_,rfl⟩,q⟩
 ·obtain⟨u,rfl,rfl⟩:=vals1 r;exact call_int_bool ⟨.int (if k then 1 else 0),H,I.tok _,⟨_,rfl⟩,q⟩
end
theorem yR.some_of{o}(r:yR (some v) o):∃ u,o=some u/\RelV v u:=by
 cases o with
 | none=>exact r.elim
 | some u=>exact⟨u,rfl,r⟩
structure vn(k:Nat)(A:BY):Prop where
 hd:A.handled=none
 dp:A.depth+3 * k+5 < Kw
 un:A.units+16 * k+200 < EC
 gd:A.guards=some []
def vn.mono{j k A}(r:vn k A)(h:j<=k):vn j A:=⟨r.hd,by have:=r.dp;lia,by have:=r.un;lia,r.gd⟩
theorem vn.deeper{A}(r:vn (k+1) A) env:vn k (A.deeper env):=
 ⟨r.hd,by have:=r.dp;show A.depth+1+3 * k+5 < _;lia,by have:=r.un;show A.units+3+16 * k+200 < _;lia,r.gd⟩
theorem vn.depth{A}(r:vn k A):A.depth < Kw:=by have:=r.dp;lia
def ADT:TA:=λ_ H Q=>Q [] H
def AAW (ta:TE) (tr:TA):TA:=λσ H Q=>ta σ H λx H1=>tr σ H1 λxs H2=>Q (x::xs) H2
section
variable {X:Cx}{e:Expr}{es:List Expr}{te:TE}{t:TA}{pos:Pos}
def O1:PA X [] ADT:=λ_ _ _ _ H Q I h=>Ct ⟨[],H,I,.nil,h⟩
def N4(ha:PE X e te)(hr:PA X es t)(hs:AQ (e::es) X.env=(false,eval e X.env)::AQ es X.env:=by rfl):PA X (e::es) (AAW te t):=by
 intro pos pins s σ H Q I h;rw[hs];show AW _ _ (spliced ((false,eval e X.env)::Bx pos (AQ es X.env))) _ _ s;exact Cm (vB (ha pins s σ H _ I h) λu s1 ⟨x,H1,I1,r1,q1⟩=>vB (hr pos pins s1 σ H1 _ I1 q1) λus s2 ⟨xs,H2,I2,r2,q2⟩=>⟨x::xs,H2,I2,.cons r1 r2,q2⟩)
def AFR (t:TA):TE:=λσ H Q=>t σ H λxs H1=>xs.length<=AD/\∀ p,H1 p=none->Q (.ref p) (upd H1 p (.tup xs))
def AGG (t:TA):TE:=λσ H Q=>t σ H λxs H1=>xs.length<=AD/\∀ p,H1 p=none->Q (.ref p) (upd H1 p (.lst xs))
def mO{x1}(h:PA X es t):PE X (.Tuple es x1 pos) (AFR t):=by
 intro pins s σ H Q I hq;refine wpAny_Tuple_spliced (vB (h pos pins s σ H _ I hq) λus s1 ⟨xs,H1,I1,r,z,q⟩=>⟨by rw[← r.length];exact z,⟨.ref s1.heap.objs.size,upd H1 s1.heap.objs.size (.tup xs),I1.laid (λb u e=>AC _ e) (AL _) ?_,rfl,q _ (I1.hok.fresh (AL _))⟩⟩);exact⟨z,us,r,⟨_,AN _ rfl,rfl,⟨_,rfl⟩,rfl⟩⟩
def kF(h:PA X es t):PE X (.List es pos) (AGG t):=by
 intro pins s σ H Q I hq;refine wpAny_List_spliced (vB (h pos pins s σ H _ I hq) λus s1 ⟨xs,H1,I1,r,z,q⟩=>⟨by rw[← r.length];exact z,⟨.ref s1.heap.objs.size,upd H1 s1.heap.objs.size (.lst xs),I1.laid (λb u e=>AC _ e) (AL _) ?_,rfl,q _ (I1.hok.fresh (AL _))⟩⟩);exact⟨z,us,0,r,AN _ rfl⟩
end
abbrev Sp:=List V->Hp->VK->XK->Prop
abbrev CXT:=List Env->Hp->Ab->XK->AK->Ab->Prop
structure ABv(P:Ah)(w:A5)(K:AY)(mg:Str->Option AK)(base:Heap)(A:BY)(outer:List Env)(s:Ab)(H:Hp):Prop where
 frames:A.frames=some outer
 mod:Mod K mg base
 bs:∀ b o,base.get? b=some o->s.heap.get? b=some o/\H b=none
 bsz:base.objs.size<=s.heap.objs.size
 funs:s.heap.FunFrames base outer
 frf:∀ b∈frs outer,H b=none
 hok:wg P w H s.heap
 bare:FL s.gens
def CE (outer:List Env) (P:Ah) (w:A5) (H:Hp) (s:Ab) (Q:VK) (u:AK) (s':Ab):Prop:=
 ∃ v H',s'.os=s.os/\FL s'.gens/\Un (frs outer) [] H H' s.heap s'.heap/\wg P w H' s'.heap/\RelV v u/\Q v H'
def CR (CX:CXT) (outer:List Env) (P:Ah) (w:A5) (H:Hp) (s:Ab) (Q:VK) (E:XK) (r:Result) (s':Ab):Prop:=
 match r with
 | .ok (.ret u)=>CE outer P w H s Q u s'
 | .ok _=>False
 | .error e=>CX outer H s E e s'
structure wM(P:Ah)(w:A5)(K:AY)(mg:Str->Option AK)(base:Heap)(CX:CXT)(k:Nat)(f:Addr)(fd:C6)(ps:List Str)(sp:Sp):Prop where
 len:∀ vs H Q E,sp vs H Q E->vs.length=ps.length
 run:∀ (A:BY) (outer:List Env) (s:Ab) (H:Hp) (args:Args) (us:List AK) (vs:List V) (Q:VK) (E:XK),vn k A->ABv P w K mg base A outer s H->Gc s fd args (ps.zip us)->uU vs us->sp vs H Q E ->
  DM (model P w) A (.call (.ref f) args) (CR CX outer P w H s Q E) s
theorem wM.mono{K mg base CX j k f fd ps sp}(F:wM P w K mg base CX j f fd ps sp)(h:j<=k) :
  wM P w K mg base CX k f fd ps sp:=⟨F.len,λA outer s H args us vs Q E hr=>F.run A outer s H args us vs Q E (hr.mono h)⟩
section
variable {X:Cx}{pins:List (Addr×Obj)}{σ:St}{H:Hp}{s s':Ab}
def Inv.env0(I:Inv X pins σ H s):ABv X.prog X.w X.K X.mg X.base X.A X.stack s H:=
 ⟨I.ok.frames,I.ok.mod,I.bs,Aa I.ok.bsz I.sz,I.stack,I.stkFree,I.hok,I.bare⟩
def Inv.after{u}(I:Inv X pins σ H s)(h:CE X.stack X.prog X.w H s Q u s'):EP X pins σ Q u s':=by
 obtain⟨v,H',os,bare,un,hok,r,q⟩:=h;obtain⟨hh,g,d,t,os'⟩:=s';obtain rfl:os'=s.os:=os;exact⟨v,H',I.call un hok bare (λb z=>absurd z ↥1),r,q⟩
end
def AAR (sp:Sp) (dvs:List V) (E:XK) (t:TA):TE:=λσ H Q=>t σ H λvs H1=>sp (vs++dvs) H1 Q E
def Binds (K:AY) (fd:C6) (ps:List Str) (ds:List AK):Prop:=
 ∀ s us,K.In s.heap->(us++ds).length=ps.length->Gc s fd ⟨us,[]⟩ (ps.zip (us++ds))
def Binds.all{K fd ps}(h:∀ us,us.length=ps.length->Fl fd ⟨us,[]⟩=pure (ps.zip us)):Binds K fd ps []:=λs us _ hl=>by
 rw[Bm]at hl ⊢;exact .of_eq (h us hl)
def AAI (CX:CXT) (X:Cx) (E:XK):Prop:=∀ pins (σ:St) H s e s',Inv X pins σ H s->CX X.stack H s E e s'->X.xe e s'
section
variable {X:Cx}{CX:CXT}{k:Nat}{f C:Addr}{fd:C6}{ps:List Str}{sp:Sp}{dvs:List V}{ds:List AK}{E:XK}{x m:Str}{p pos apos:Pos}{e o:Expr}{es:List Expr}{ta:TE}{t:TA}
theorem Rw{σ:St}{H s Q us vs}(F:wM X.prog X.w X.K X.mg X.base CX k f fd ps sp)(hr:vn k X.A)(hb:Binds X.K fd ps ds)(hd:uU dvs ds)(hx:AAI CX X E)
  (I:Inv X pins σ H s) (r:uU vs us) (h:sp (vs++dvs) H Q E):AW (model X.prog X.w) X.A (call (.ref f) us) (EP X pins σ Q) X.xe s:=by
 have r2:=r.append hd;have hl:(us++ds).length=ps.length:=by rw[← r2.length];exact F.len _ _ _ _ h
 refine JR (ER (F.run X.A X.stack s H ⟨us,[]⟩ (us++ds) (vs++dvs) Q E hr I.env0 (hb s us I.kIn hl) r2 h) λr s' hq=>?_);cases r with
 | error e=>exact hx pins σ H s e s' I hq
 | ok fl =>
  cases fl with
  | ret u=>exact I.after hq
  | next | brk | cont=>exact CU hq
def VL(F:wM X.prog X.w X.K X.mg X.base CX k f fd ps sp)(hr:vn k X.A)(hg:Gl X x)(hm:X.mg x=some (.ref f))(hk:BZ X.K (.ref f)=true)(hb:Binds X.K fd ps ds)(hd:uU dvs ds)(hx:AAI CX X E)
  (ha:PA X (e::es) t) (hdb:(x == ("__debug__":Str))=false:=by decide) (he:AQ (e::es) X.env=(false,eval e X.env)::AQ es X.env:=by rfl) (hpl:(Bx pos (AQ es X.env)).any (·.1)=false:=by rfl) :
  PE X (.Call (.Name x p) (e::es) [] pos) (AAR sp dvs E t):=by
 intro pins s σ H Q I h;exact Cw (QW I hg hm (FN I.ok.mod.kin hk (vB (ha pos pins s σ H _ I h) λus s1 ⟨vs,H1,I1,r,q⟩=>⟨I1.kIn,Rw F hr hb hd hx I1 r q⟩) he hpl) hdb)
structure Mk(K:AY)(C f:Addr):Prop where
 makes:PySem.W.makesIn K C=true
 init:PySem.W.findIn K (.ref C) "__init__"=some (some (.ref f))
 fn:PySem.W.isFn K (.ref f)=true
 kp:BZ K (.ref C)=true
end
structure uN(N P:List Str)(sc:Ea):Prop where
 kind:sc.kind=.function
 co:sc.isCoroutine=false
 gen:sc.isGenerator=false
 nd:N.Nodup
 pre:N.take P.length=P
 par:∀ x∈P,sc.names.lookup x=some .local\/sc.names.lookup x=some .cell
 nofree:∀ y∈sc.names,y.2≠.free
theorem R8{Ew x}:∀ {binds m},(∀ v,(x,v)∉binds)->Iw Ew binds m x=m x
 | [],_,_=>rfl
 | (n,v)::r,m,h=>by
  unfold Iw;rw[R8 λw hw=>h w (AH _ hw)];split
  ·have:x≠n:=by rintro rfl;exact h v AG
   simp[this]
  ·rfl
theorem XE{Ew x}:∀ {binds m},(∀ v,(x,v)∉binds)->Iy Ew binds m x=m x
 | [],_,_=>rfl
 | (n,v)::r,m,h=>by
  unfold Iy;rw[XE λw hw=>h w (AH _ hw)];split
  ·rfl
  ·have:x≠n:=by rintro rfl;exact h v AG
   simp[this]
theorem Wm{Ew x v}:∀ {P:List Str} {vs} {i:Nat} {m},P.Nodup->P[i]?=some x->vs[i]?=some v->Ew x=some .local ->
  Iw Ew (P.zip vs) m x=some v
 | [],_,_,_,_,h,_,_ | _::_,[],_,_,_,_,h,_=>by simp at h
 | p::P,w::vs,0,m,nd,h1,h2,hk=>by
  simp at h1 h2;subst h1;subst h2;show Iw Ew ((p,w)::P.zip vs) m p=_;unfold Iw;rw[R8 λv hv=>(BG.mp nd).1 (GQ hv).1,if_pos hk];simp
 | p::P,w::vs,i+1,m,nd,h1,h2,hk=>by
  unfold Iw;exact Wm (BG.mp nd).2 ‹_› ‹_› hk
theorem Ta{Ew x v}:∀ {P:List Str} {vs} {i:Nat} {m},P.Nodup->P[i]?=some x->vs[i]?=some v->Ew x≠some .local ->
  Iy Ew (P.zip vs) m x=some v
 | [],_,_,_,_,h,_,_ | _::_,[],_,_,_,_,h,_=>by simp at h
 | p::P,w::vs,0,m,nd,h1,h2,hk=>by
  simp at h1 h2;subst h1;subst h2;show Iy Ew ((p,w)::P.zip vs) m p=_;unfold Iy;rw[XE λv hv=>(BG.mp nd).1 (GQ hv).1,if_neg hk];simp
 | p::P,w::vs,i+1,m,nd,h1,h2,hk=>by
  unfold Iy;exact Ta (BG.mp nd).2 ‹_› ‹_› hk
def start (N:List Str) (vs:List V):St:=vs.map some++Ad (N.length - vs.length) none
def zw (CX:CXT) (P:Ah) (w:A5) (K:AY) (mg:Str->Option AK) (base:Heap) (N:List Str) (qual:Str) (scope:Ea) (f:Addr) (cd:AK) (A:BY) (outer:List Env) (s:Ab) (H:Hp) (E:XK):Cx where
 prog:=P
 w:=w
 K:=K
 mg:=mg
 base:=base
 A:=A.deeper (Fo qual scope s.heap.objs.size f cd)
 N:=N
 s₀:=s
 H₀:=H
 env:=Fo qual scope s.heap.objs.size f cd
 outer:=outer
 stack:=Fo qual scope s.heap.objs.size f cd::outer
 ex:=[]
 calm:=true
 fn:=λ_=>true
 pn:=[]
 xe:=λe s'=>AW (model P w) (A.deeper (Fo qual scope s.heap.objs.size f cd)) (leaving (Fo qual scope s.heap.objs.size f cd) e) (λ_ s''=>CX outer H s E e s'') (λe' s''=>CX outer H s E e' s'') s'
def Vg{sc:Ea}{n x}(h:sc.names.lookup x=some .cell):∃ c,(BV n sc.names []).lookup x=some c:=CQ.mp (Dd sc.names n [] (.inl h))
def jO{P w K mg base N ps qual scope f cd A outer s s1 H E us vs}
  (S:uN N ps scope) (hd:A.handled=none) (e0:ABv P w K mg base A outer s H) (hl:vs.length=ps.length) (r:uU vs us)
  (x:InCallC s s.heap.objs.size (Iw (Fo qual scope s.heap.objs.size f cd).kindOf (ps.zip us) λ_=>none) (BV (s.heap.objs.size+1) scope.names []) (Iy (Fo qual scope s.heap.objs.size f cd).kindOf (ps.zip us) λ_=>none) s1) :
  Inv (zw CX P w K mg base N qual scope f cd A outer s H E) [] (start N vs) H s1:=by
 have hpl:ps.length<=N.length:=by have:=congrArg FH S.pre;rw[Ef]at this;lia
 obtain⟨h1,tk,rfl,hk⟩:=x.done;have noA:∀ b,b∉(zw CX P w K mg base N qual scope f cd A outer s H E).ex:=λb z=>absurd (show b∈[] from z) ↥1
 refine⟨⟨e0.mod,S.kind,rfl,rfl,AL _,λy z c h1 h2=>?_,λy hy=>?_,λy c _ h=>?_,λ_=>hd,HU e0.frames,.inr ⟨rfl,rfl⟩,λb z=>absurd z (noA b),e0.bs,e0.bsz,λb _ _=>noA b,λb z=>absurd z (noA b),e0.funs,e0.frf⟩,
  rfl,e0.bare,Un.kept hk,⟨_,x.toInCall.ns,λi y v h1 h2 h3=>?_⟩,λy c h=>⟨_,x.cell y c h⟩,e0.hok.fresh (AL _),λy c h=>?_,λp hp=>absurd (show p∈[] from hp) ↥1,e0.hok.kept hk,?_⟩
 ·exact name_of_addr x.apart (BL h1) (BL h2)
 ·rcases hy with hy | hy
  ·exact Vg hy
  ·exact absurd rfl (S.nofree _ (BL hy))
 ·exact Dj (x.above y c (BL h))
 ·have hi:i < vs.length:=by
   unfold start at h2;by_cases hi:i < vs.length
   ·exact hi
   ·rw[CF (by simpa using hi)]at h2;rw[De]at h2;split at h2 <;> cases h2
  have ha:vs[i]?=some v:=by
   unfold start at h2;rw[BA (by simpa using hi),Ag]at h2;cases e:vs[i]? with
   | none=>rw[e]at h2;cases h2
   | some a=>rw[e]at h2;cases h2;rfl
  obtain⟨u,hu,rv⟩:=r.get ha;have hp:ps[i]?=some y:=by
   rw[← S.pre,List.getElem?_take_of_lt ⋯];exact h1
  have ndP:ps.Nodup:=by rw[← S.pre];exact S.nd.sublist (List.take_sublist _ _)
  refine⟨u,rv,?_⟩;rcases S.par y (CS hp) with k | k
  ·exact .inl ⟨k,Wm ndP hp hu k⟩
  ·obtain⟨c,e⟩:=Vg k;refine .inr ⟨.inl k,c,e,?_⟩;have q:=x.cell y c e;rw[Ta ndP hp hu (by show scope.names.lookup y≠_;rw[k];decide)]at q;exact q
 ·exact e0.hok.fresh (Dj (x.above y c (BL h)))
 ·unfold start;show _=N.length;rw[A4,AV,List.length_replicate];lia
theorem P9{P w K mg base k f name qual params body scope dV kV doc pm cdv ct oc an od}
  {osl N ps sp} (lk:K.lookup f=some ⟨oc,od,.func (Bj name qual params body scope dV kV doc pm an cdv ct),osl⟩) (hcd:CY K cdv qual=true) (S:uN N ps scope)
  (len:∀ vs H Q E,sp vs H Q E->vs.length=ps.length)
  (hbody:∀ A outer s H vs Q E,vn k (A.deeper (Fo qual scope s.heap.objs.size f cdv))->sp vs H Q E ->
   ∃ t,PSs (zw CX P w K mg base N qual scope f cdv A outer s H E) body t/\t { nx:=λ_ H'=>Q .non H',rt:=Q } (start N vs) H) :
  wM P w K mg base CX (k+1) f (Bj name qual params body scope dV kV doc pm an cdv ct) ps sp:=by
 refine⟨len,λA outer s H args us vs Q E hr e0 hb r hsp=>?_⟩;have KX:=e0.mod.kin.keeps λb o e=>(e0.bs b o e).1
 have hkind:∀ y∈ps.zip us,scope.names.lookup y.1=some .local\/(scope.names.lookup y.1=some .cell/\((BV (s.heap.objs.size+1) scope.names []).lookup y.1).isSome=true):=λ⟨n,v⟩ hy=>by
  rcases S.par n (GQ hy).1 with q | q
  ·exact .inl q
  ·exact .inr ⟨q,Dd _ _ _ (.inl q)⟩
 refine codeAny_call_function hr.depth (KX _ _ lk) rfl S.co S.gen rfl (PySem.W.codeRec_of KX hcd) (hb _ _ _ _ (wpAny_newFunctionEnv_cells S.kind hkind λenv he s1 x=>?_));subst he;refine⟨(e0.mod.nolimit.keeps λb o e=>(e0.bs b o e).1).keeps x.toInCall.keep,codeAny_func ?_⟩;obtain⟨t,ht,hq⟩:=hbody A outer s H vs Q E (hr.deeper _) hsp;have I:Inv (zw CX P w K mg base N qual scope f cdv A outer s H E) [] (start N vs) H s1:=jO S hr.hd e0 (len _ _ _ _ hsp) r x;refine Bd (ht [] s1 (start N vs) H _ I hq) (λfl s' hs=>?_) λe s' hs=>hs
 have fin:∀ {σ':St} {H':Hp} {v:V} {u:AK},Inv (zw CX P w K mg base N qual scope f cdv A outer s H E) [] σ' H' s'->RelV v u->Q v H'->CE outer P w H s Q u s':=
  λ{σ' H' v u} J rv q=>⟨v,H',J.os,J.bare,J.base,J.hok,rv,q⟩
 cases fl with
 | ret u =>
  obtain⟨v,σ',H',J,rv,q⟩:=hs;exact fin J rv q
 | next =>
  obtain⟨σ',H',J,q⟩:=hs;exact fin (v:=V.non) J rfl q
 | brk | cont =>
  obtain⟨_,_,_,q⟩:=hs;exact CU q
section
variable {X:Cx}{x:Str}{p pos:Pos}{e:Expr}{es:List Expr}{t:TA}{id T:String}{r:List V->Hp->VK->Prop}
def tCB (r:List V->Hp->VK->Prop) (t:TA):TE:=λσ H Q=>t σ H λvs H1=>r vs H1 Q
def nU(hc:vF X (.builtin id) r)(hg:Gl X x)(hm:X.mg x=none)(hv:CH x=some (.builtin id))(ha:PA X (e::es) t)(hn:x≠"__name__":=by decide)(hdb:(x == ("__debug__":Str))=false:=by decide)
  (he:AQ (e::es) X.env=(false,eval e X.env)::AQ es X.env:=by rfl) (hpl:(Bx pos (AQ es X.env)).any (·.1)=false:=by rfl):PE X (.Call (.Name x p) (e::es) [] pos) (tCB r t):=λpins s σ H Q I h=>Cw (L3 I hg hm hv (Kd (vB (ha pos pins s σ H _ I h) λus s1 ⟨vs,H1,I1,r1,q1⟩=>hc pins s1 σ H1 vs us Q I1 r1 q1) he hpl) hn hdb)
def N2(hc:vF X (.type T) r)(hg:Gl X x)(hm:X.mg x=none)(hv:CH x=some (.type T))(ha:PA X (e::es) t)(hn:x≠"__name__":=by decide)(hdb:(x == ("__debug__":Str))=false:=by decide)
  (he:AQ (e::es) X.env=(false,eval e X.env)::AQ es X.env:=by rfl) (hpl:(Bx pos (AQ es X.env)).any (·.1)=false:=by rfl):PE X (.Call (.Name x p) (e::es) [] pos) (tCB r t):=λpins s σ H Q I h=>Cw (L3 I hg hm hv (An (vB (ha pos pins s σ H _ I h) λus s1 ⟨vs,H1,I1,r1,q1⟩=>hc pins s1 σ H1 vs us Q I1 r1 q1) he hpl) hn hdb)
end
end L2
namespace HT
open PySem PyProof.Rows
def lexLt:List Int->List Int->Bool
 | [],[]=>false
 | [],_::_=>true
 | _::_,[]=>false
 | x::xs,y::ys=>if x=y then lexLt xs ys else decide (x < y)
def lexLt_cons x y xs ys:lexLt (x::xs) (y::ys)=if x=y then lexLt xs ys else decide (x < y):=rfl
def lexLt_nil_nil:lexLt [] []=false:=rfl
def lexLt_nil_cons y ys:lexLt [] (y::ys)=true:=rfl
def lexLt_cons_nil x xs:lexLt (x::xs) []=false:=rfl
def aG A s a t c u:∃ e,Gd A s (.int a t) (.int c u) e/\(e=true ↔ a=c):=
 ⟨(a == c),HB a t c u,by simp⟩
def Zh A s a t c u prog w E Q (h:Q (.bool (decide (a < c))) s) :
  AW (model prog w) A (richCompare .Lt (.int a t) (.int c u)) Q E s:=
 (Ke h)
section
open PySem.SeqAt
open PySem.AutoSeq1 (wpAny_loadPart')
open PySem.MeetsSeq PySem.MeetsSeq2 PySem.MeetsSeq3
def tuple_lt_ints(l b:Addr)(items items2:Array AK)(n n2:Nat)(dd dd2:Option Addr)(sl sl2:Array (Option AK))(ns ms:List Int)(hi:Bu items.toList ns)(hj:Bu items2.toList ms) :
  Iz (Builtin.«tuple.__lt__» ⟨[.ref l,.ref b],[]⟩)
   (λ_ R s=>s.heap.get? l=some { cls:=.type "tuple",dict:=dd,data:=.seq items n,slots:=sl }/\s.heap.get? b=some { cls:=.type "tuple",dict:=dd2,data:=.seq items2 n2,slots:=sl2 } /\
    R (.ok (.ret (.bool (lexLt ns ms)))) s):=
 .of_wp λprog w A R s h=>by
  obtain⟨hp,g,d,tk,os⟩:=s;obtain⟨hl,hb,h⟩:=h;have f2:=AutoSeq1.sub_tuple_tuple;have z1:items.size=ns.length:=by rw[← hi.length];simp
  have z2:items2.size=ms.length:=by rw[← hj.length];simp
  wp_walk using HP hl,HP hb,J0 _ (λrest b s'=>b.1=none/\s'=⟨hp,g,d,tk,os⟩/\∃ (vs ws:List AK) (ns' ms':List Int),rest=vs.zip ws /\
   Bu vs ns'/\Bu ws ms'/\ns'.length+items2.size=ms'.length+items.size/\R (.ok (.ret (.bool (lexLt ns' ms')))) ⟨hp,g,d,tk,os⟩) _
  case turn =>
   rintro ⟨y,x⟩ rest b s' ⟨hb',rfl,vs,ws,ns',ms',hz,hvi,hwi,hlen,hR⟩;cases hvi with
   | nil=>rw[List.zip_nil_left]at hz;cases hz
   | cons a t hvi' =>
    cases hwi with
    | nil=>rw[IC]at hz;cases hz
    | cons c u hwi' =>
     rw[EH]at hz;injection hz with hyx hrest;injection hyx with hy hx;subst hy hx;rw[lexLt_cons]at hR;simp only[CA]at hlen;obtain⟨e,he,hiff⟩:=aG A.in1 ⟨hp,g,d,tk,os⟩ a t c u;refine AB (he prog w _ _ ?_);cases e with
     | true =>
      rw[if_pos (hiff.mp rfl)]at hR
      wp_walk
      exact⟨rfl,rfl,_,_,_,_,hrest,hvi',hwi',by lia,hR⟩
     | false =>
      rw[if_neg (λq=>absurd (hiff.mpr q) Ac)]at hR;have hri:=Zh A.in1 ⟨hp,g,d,tk,os⟩ a t c u prog w
      wp_walk using hri
      exact⟨_,rfl,by simpa using hR⟩
  case fin =>
   rintro ⟨b1,b2⟩ s' ⟨hb',rfl,vs,ws,ns',ms',hz,hvi,hwi,hlen,hR⟩;simp only at hb';subst hb';have hv:lexLt ns' ms'=decide (items.size < items2.size):=by
    cases hvi with
    | nil =>
     cases hwi with
     | nil =>
      simp only[Cr]at hlen;rw[lexLt_nil_nil];exact (decide_eq_false ⋯).symm
     | cons c u hw =>
      simp only[Cr,CA]at hlen;rw[lexLt_nil_cons];exact (decide_eq_true ⋯).symm
    | cons a t hv =>
     cases hwi with
     | nil =>
      simp only[Cr,CA]at hlen;rw[lexLt_cons_nil];exact (decide_eq_false ⋯).symm
     | cons c u hw =>
      rw[EH]at hz;cases hz
   rw[hv]at hR
   wp_walk
   exact⟨_,rfl,by simpa [J1] using hR⟩
  case h =>
   exact⟨rfl,rfl,items.toList,items2.toList,ns,ms,rfl,hi,hj,by lia,h⟩
end
section
variable {prog:Ah}{w:A5}{A:BY}{E:AK->Ab->Prop}{s:Ab}
def lt_tupInts{items items2 ns ms Q}(hl:FW s.heap l items)(hb:FW s.heap b items2)(hi:Bu items.toList ns)(hj:Bu items2.toList ms)
  (hu:A.units < EC) (h:Q (.bool (lexLt ns ms)) s):AW (model prog w) A (B0 .Lt (.ref l) (.ref b)) Q E s:=by
 obtain⟨⟨cls,dd,data,sl⟩,ho,hc,n,hd⟩:=id hl;obtain⟨⟨cls2,dd2,data2,sl2⟩,ho2,hc2,n2,hd2⟩:=id hb;simp only at hc hd hc2 hd2;subst hc hd hc2 hd2;exact richCompare_meets_room (op:=.Lt) ⟨_,ho,rfl⟩ ⟨_,ho2,rfl⟩ Ek Gx (Gn _ _) (tuple_lt_ints l b items items2 n n2 dd dd2 sl sl2 ns ms hi hj)
  ⟨ho,ho2,show Hr (lexLt ns ms)≠Value.notImplemented/\Q (.bool (lexLt ns ms)) s from ⟨(λx=>nomatch x),h⟩⟩ hu
def cat_tup{vs ws Q}(ht:FW s.heap t vs.toArray)(hb:FW s.heap b ws.toArray)(hv:vs≠[])
  (h1:ws=[]->Q (.ref t) s) (h2:ws≠[]->Q (.ref s.heap.objs.size) { s with heap:=s.heap.push { cls:=.type "tuple",data:=.seq (vs++ws).toArray } })
  (hsz:vs.length+ws.length<=AD):AW (model prog w) A (Co .Add (.ref t) (.ref b)) Q E s:=by
 obtain⟨⟨cls,dd,data,sl⟩,ho,hc,n,hd⟩:=id ht;obtain⟨⟨cls2,dd2,data2,sl2⟩,ho2,hc2,n2,hd2⟩:=id hb;simp only at hc hd hc2 hd2;subst hc hd hc2 hd2;have e:vs.toArray++ws.toArray=(vs++ws).toArray:=by simp
 by_cases hw:ws=[]
 ·exact IL ⟨_,ho,rfl⟩ ⟨_,ho2,rfl⟩ Gy Hs Ec ES (EJ _ _)
   (tuple_addW1 t b vs.toArray ws.toArray n n2 dd dd2 sl sl2 (by simpa using hv) (by simp[hw])) ⟨ho,ho2,h1 hw⟩
 ·refine IL ⟨_,ho,rfl⟩ ⟨_,ho2,rfl⟩ Gy Hs Ec ES (EJ _ _)
   (tuple_addW2 t b vs.toArray ws.toArray n n2 dd dd2 sl sl2 (by simpa using hv) (by simpa using hw) ‹_›) ⟨ho,ho2,?_⟩
  rw[e];exact h2 hw
def sIx (n d:Nat):Option Int->Nat
 | none=>d
 | some v=>if v < 0 then (v+(n:Int)).toNat else min v.toNat n
def sIx_none n d:sIx n d none=d:=rfl
def sIx_nat(n d k:Nat):sIx n d (some k)=min k n:=rfl
def Vy(v:Int)(n d:Nat):(if v < 0 then max (v+n) 0 else min v n)=((sIx n d (some v):Nat):Int):=by
 show (if v < 0 then max (v+n) 0 else min v n)=((if v < 0 then (v+n).toNat else min v.toNat n));by_cases hv:v < 0
 ·simp_all
 ·simp[if_neg hv];lia
def aQ lo hi (n:Nat):Fj lo hi 1 n=((sIx n 0 lo:Int),(sIx n n hi:Int)):=by
 refine LF ?_ ?_
 ·cases lo with
  | none=>rfl
  | some v=>exact Vy v n 0
 ·cases hi with
  | none=>rfl
  | some v=>exact Vy v n n
def j6(i j:Nat):Cs i j 1=j - i:=by
 unfold Cs;simp;split <;> lia
theorem V1{o Q}(p:Fp v o)(h:Q o s):AW (model prog w) A (J2 v) Q E s:=by
 cases p with
 | none=>exact Kx h
 | int i t=>exact slicePart_int h
def sliceApplied_gen{vl vu lo hi}{n:Nat}{Q}(hs:s.heap.IsSliceOf sl vl vu .none)(pl:Fp vl lo)(pu:Fp vu hi)
  (h:Q (sIx n 0 lo,1,sIx n n hi - sIx n 0 lo) s):AW (model prog w) A (J3 (.ref sl) (pure n)) Q E s:=by
 obtain⟨os,hos,hcs,hds⟩:=id hs;refine AB (AB (Ap hos hds (x:=vl) rfl (AB (Ap hos hds (x:=vu) rfl (AB (Ap hos hds (x:=.none) rfl (AF (AB (Kx (AB (V1 pl (AB (V1 pu (AB (AF ?_)))))))))))))));show AW _ _ (match Fj lo hi 1 n with | (lo,hi)=>pure (lo,(1:Int),Cs lo hi 1)) _ _ s;rw[aQ lo hi n];show AW _ _ (pure ((sIx n 0 lo:Int),1,Cs (sIx n 0 lo) (sIx n n hi) 1)) _ _ s;rw[j6];exact AF h
def iG(xs:Array AK)(i k:Nat):((AE k).filterMap λ(m:Nat)=>xs[(i+(m:Int) * 1).toNat]?).toArray=((xs.toList.drop i).take k).toArray:=by
 have e:(λ(m:Nat)=>xs[((i:Int)+m * 1).toNat]?)=λm=>xs[i+m]?:=by
  funext m;have:((i:Int)+m * 1).toNat=i+m:=by lia
  rw[this]
 rw[e];have:=pick_run xs i k;rw[List.filterMap_map]at this;have e2:((λx=>xs[x]?) ∘ λx=>i+x)=λm=>xs[i+m]?:=rfl
 rw[e2]at this;rw[this]
def qY{items vl vu lo hi Q}(ht:FW s.heap t items)(hs:s.heap.IsSliceOf sl vl vu .none)(pl:Fp vl lo)(pu:Fp vu hi)
  (hw:¬ (sIx items.size 0 lo=0/\sIx items.size items.size hi=items.size))
  (h:Q (.ref s.heap.objs.size) { s with heap:=s.heap.push { cls:=.type "tuple",data:=.seq ((items.toList.drop (sIx items.size 0 lo)).take (sIx items.size items.size hi - sIx items.size 0 lo)).toArray } })
  (hsz:items.size<=AD):AW (model prog w) A (Em (.ref t) (.ref sl)) Q E s:=by
 have htake:=by
  show ((items.toList.drop (sIx items.size 0 lo)).take (sIx items.size items.size hi - sIx items.size 0 lo)).toArray.size<=AD;rw[Ae,Ef,Ij,Br];lia
 obtain⟨os,hos,hcs,hds⟩:=id hs;have hTs:s.TypeIs (.ref sl) "slice":=⟨os,hos,hcs⟩
 unfold Em
 try with_reducible refine BU ?_
 refine AB (Jg ht.typeIs ∅ (AB (Al ht.typeIs Bq
  (As Bq ht.typeIs JF ?_ (JS _ _)))))
 show AW _ _ (Fi (.ref t) >>= _) _ _ s;refine AB (LG ht (AB (Da hTs (AB (sliceApplied_gen hs pl pu ?_)))));have hno:¬ ((((sIx items.size 0 lo):Int) == 0 && (1:Int) == 1 && (sIx items.size items.size hi - sIx items.size 0 lo) == items.size)=true):=λq=>hw ⟨by lia,by lia⟩
 show AW _ _ (if (((sIx items.size 0 lo):Int) == 0 && 1 == 1 && (sIx items.size items.size hi - sIx items.size 0 lo) == items.size)=true then _ else _) _ _ s;rw[if_neg hno,iG]
 first
  | exact AB (BH (AF ⟨_,rfl,AF h⟩) htake)
  | exact AB (BH (AB (AF (AF ⟨_,rfl,AF h⟩))) htake)
  | exact AB (AB (BH (AF (AF ⟨_,rfl,AF h⟩)) htake))
  | exact AB (AB (BH (AF ⟨_,rfl,AF h⟩) htake))
end
end HT
namespace L2
open PySem PySem.Spec PyProof.Rows
abbrev TO:=St->Hp->(Option Int->Hp->Prop)->Prop
def PO (X:Cx) (e:Option Expr) (t:TO):Prop:=
 ∀ pins s (σ:St) H Q,Inv X pins σ H s->t σ H Q ->
  AW (model X.prog X.w) X.A (evalPart e X.env) (λu s'=>∃ o H',Inv X pins σ H' s'/\Fp u o/\Q o H') X.xe s
def AAP:TO:=λ_ H Q=>Q none H
def ACp (t:TE):TO:=λσ H Q=>t σ H λx H1=>∃ i,x=.int i/\Q (some i) H1
theorem Tz:∀ {us},uU (ns.map V.int) us->Bu us ns:=by
 induction ns with
 | nil=>intro us r;rw[BN]at r;cases r;exact .nil
 | cons n ns ih =>
  intro us r;cases r with
  | cons r1 r2 =>
   obtain⟨t,rfl⟩:=r1;exact .cons n t (ih r2)
section
variable {X:Cx}{e:Expr}{te:TE}{lo hi:Option Expr}{tl th:TO}{pos p2:Pos}
def mG:PO X none AAP:=λpins s σ H Q I h=>AF ⟨none,H,I,.none,h⟩
def dP(h:PE X e te):PO X (some e) (ACp te):=by
 intro pins s σ H Q I hw;refine vB (h pins s σ H _ I hw) λu s1 ⟨x,H1,I1,r1,q1⟩=>?_
 obtain⟨i,rfl,q⟩:=q1;obtain⟨t,rfl⟩:=r1;exact⟨some i,H1,I1,.int i t,q⟩
def SlR (X:Cx) (r:V->Option Int->Option Int->Hp->VK->Prop):Prop:=
 ∀ pins s (σ:St) H x v vl vu lo hi sl Q,Inv X pins σ H s->RelV x v->s.heap.IsSliceOf sl vl vu .none->Fp vl lo->Fp vu hi->r x lo hi H Q ->
  ∃ T id,GM (.type T) "__getitem__"=pure (some (.builtin id))/\s.TypeIs v T/\AW (model X.prog X.w) X.A (Em v (.ref sl)) (EP X pins σ Q) X.xe s
def SlR.or(h:SlR X r)(h':SlR X r'):SlR X (λx lo hi H Q=>r x lo hi H Q\/r' x lo hi H Q):=by
 intro pins s σ H x v vl vu lo hi sl Q I rx hs pl pu q;rcases q with q | q
 ·exact h pins s σ H x v vl vu lo hi sl Q I rx hs pl pu q
 ·exact h' pins s σ H x v vl vu lo hi sl Q I rx hs pl pu q
def tSl (r:V->Option Int->Option Int->Hp->VK->Prop) (te:TE) (tl th:TO):TE:=λσ H Q=>te σ H λx H1=>tl σ H1 λl H2=>th σ H2 λu H3=>r x l u H3 Q
def cF(hr:SlR X r)(he:PE X e te)(hl:PO X lo tl)(hu:PO X hi th):PE X (.Subscript e (.Slice lo hi none p2) pos) (tSl r te tl th):=by
 intro pins s σ H Q I h;refine JT (vB (he pins s σ H _ I h) λv s1 ⟨x,H1,I1,r1,q1⟩=>wpAny_Slice (vB (hl pins s1 σ H1 _ I1 q1) λvl s2 ⟨l,H2,I2,pl,q2⟩=>vB (hu pins s2 σ H2 _ I2 q2) λvu s3 ⟨u,H3,I3,pu,q3⟩=>AF ?_));have I4:Inv X pins σ H3 { s3 with heap:=s3.heap.push { cls:=.type "slice",data:=.fields #[vl,vu,.none] } }:=I3.kept λb ob q=>AC _ q
 obtain⟨T,id,hT,ht,hg⟩:=hr pins { s3 with heap:=s3.heap.push { cls:=.type "slice",data:=.fields #[vl,vu,.none] } } σ H3 x v vl vu l u s3.heap.objs.size Q I4 r1 (Jh ..) pl pu q3;exact tail_any ht hT hg rfl
def ABH (xs:List V) (lo hi:Option Int):List V:=(xs.drop (HT.sIx xs.length 0 lo)).take (HT.sIx xs.length xs.length hi - HT.sIx xs.length 0 lo)
def Uh xs lo hi:(ABH xs lo hi).length<=xs.length:=by
 unfold ABH;rw[Ef,Ij];lia
end
def ixN (n:Nat) (i:Int):Option Nat:=if 0<=i then (if i < n then some i.toNat else none) else if -(n:Int)<=i then some (i+n).toNat else none
def xn {α:Type} (xs:List α) (i:Int):Option α:=(ixN xs.length i).bind λj=>xs[j]?
def Q4{j}(h:ixN n i=some j):F1 i n=some j/\j < n/\-n<=i/\i < n:=by
 unfold ixN at h;by_cases h0:0<=i
 ·rw[if_pos h0]at h;by_cases h1:i < n
  ·rw[if_pos h1]at h;exact⟨by rw[HC h0 h1,(Az h)],by lia,by lia,h1⟩
  ·rw[if_neg h1]at h;cases h
 ·rw[if_neg h0]at h;by_cases h1:-n<=i
  ·rw[if_pos h1]at h;exact⟨by rw[IM ⋯ h1,(Az h)],by lia,h1,by lia⟩
  ·rw[if_neg h1]at h;cases h
theorem Pu{xs i}{v:α}(h:xn xs i=some v):∃ j,F1 i xs.length=some j/\xs[j]?=some v/\j < xs.length/\-(xs.length:Int)<=i/\i < xs.length:=by
 unfold xn at h;cases e:ixN xs.length i with
 | none=>rw[e]at h;cases h
 | some j =>
  rw[e]at h;obtain⟨h1,h2,h3,h4⟩:=Q4 e;exact⟨j,h1,h,h2,h3,h4⟩
def AAO (b:Expr):Prop:=∀ o i,subscripted b false o i=operate [o,i] (Em o i)
def IxR (X:Cx) (r:R2):Prop:=
 ∀ value slice pins s (σ:St) H x y v u Q,Inv X pins σ H s->RelV x v->RelV y u->r x y H Q ->
  subscripted slice false v u=operate [v,u] (Em v u)->AW (model X.prog X.w) X.A (subscriptTail value slice v u) (EP X pins σ Q) X.xe s
def MtR (X:Cx) (id:String) (r:V->List V->Hp->VK->Prop):Prop:=
 ∀ pins s (σ:St) H x xs v us Q,Inv X pins σ H s->RelV x v->uU xs us->r x xs H Q ->
  AW (model X.prog X.w) X.A (call (.builtin id) (v::us)) (EP X pins σ Q) X.xe s
section
variable {X:Cx}{a b:Expr}{ta tb:TE}{pos:Pos}
def IxR.or(h:IxR X r)(h':IxR X r'):IxR X (λx y H Q=>r x y H Q\/r' x y H Q):=by
 intro value slice pins s σ H x y v u Q I rx ry q hs;rcases q with q | q
 ·exact h value slice pins s σ H x y v u Q I rx ry q hs
 ·exact h' value slice pins s σ H x y v u Q I rx ry q hs
def ni(hr:IxR X r)(ha:PE X a ta)(hb:PE X b tb)(hs:AAO b):PE X (.Subscript a b pos) (tOp r ta tb):=λpins s σ H Q I h=>JT (AEK ha hb I h λv u s2 x y H2 I2 rx ry q=>hr a b pins s2 σ H2 x y v u Q I2 rx ry q (hs _ _))
def AEs (K:AY):R2:=λx y H Q=>∃ p xs i v,x=.ref p/\y=.int i/\vz K H p xs/\xn xs i=some v/\Q v H
def AGD (K:AY):R2:=λx y H Q=>∃ p xs i v,x=.ref p/\y=.int i/\wo K H p xs/\xn xs i=some v/\Q v H
def AFL:R2:=λx y H Q=>∃ z i c,x=.str z/\y=.int i/\z.length<=AD/\xn z.cps.toList i=some c/\Q (.str ⟨#[c]⟩) H
def hZ:IxR X (AEs X.K):=by
 intro value slice pins s σ H x y v u Q I rx ry h hs;obtain⟨p,xs,i,z,rfl,rfl,hq,he,q⟩:=h;cases rx;obtain⟨t,rfl⟩:=ry;obtain⟨its,r,pl,hz⟩:=I.list hq;obtain⟨j,h1,h2,h3,h4,h5⟩:=Pu he;obtain⟨w,ew,rw'⟩:=r.get h2;have hl:=r.length;have hn:=yC;have fin:EP X pins σ Q w s:=⟨z,H,I,rw',q⟩
 by_cases h0:0<=i
 ·have hj:=by
   rw[HC h0 h5]at h1;exact Az h1
  exact item_listR pl.isList h0 ⋯ (by rw[hj];simpa using ew) fin hs
 ·have hj:(i+(its.toArray.size)).toNat=j:=by
   rw[IM ⋯ h4]at h1;rw[Ae,← hl];exact Az h1
  exact IP pl.isList.typeIs Ji.lookup
   (wpAny_getItem_list_neg pl.isList ⋯ (by simp_all) ⋯ (by rw[hj];simpa using ew) ⟨rfl,fin⟩) hs
def nY:IxR X (AGD X.K):=by
 intro value slice pins s σ H x y v u Q I rx ry h hs;obtain⟨p,xs,i,z,rfl,rfl,hq,he,q⟩:=h;cases rx;obtain⟨t,rfl⟩:=ry;obtain⟨its,r,pl,hz⟩:=I.tuple hq;obtain⟨j,h1,h2,h3,h4,h5⟩:=Pu he;obtain⟨w,ew,rw'⟩:=r.get h2;have hn:=yC;have fin:EP X pins σ Q w s:=⟨z,H,I,rw',q⟩
 exact IP pl.typeIs slot_tuple_getitem.lookup
  (getItem_tuple pl ⋯ ⋯ (by rw[Ae,← r.length];exact h1) (by simpa using ew) ⟨rfl,fin⟩) hs
def cx:IxR X AFL:=by
 intro value slice pins s σ H x y v u Q I rx ry h hs;obtain⟨z,i,c,rfl,rfl,hz,he,q⟩:=h;obtain⟨t,rfl⟩:=rx;obtain⟨t',rfl⟩:=ry;obtain⟨j,h1,h2,h3,h4,h5⟩:=Pu he;have hl:z.cps.toList.length=z.length:=by simp[Str.length]
 rw[hl]at h1 h4 h5;have hn:=yC;exact tail_any (typeIs_str s z t) slot_str_getitem.lookup (getItem_str (by
  have e1:decide (i < -(2 ^ 63))=false:=decide_eq_false ⋯;have e2:decide (i ≥ 2 ^ 63)=false:=decide_eq_false ⋯;rw[e1,e2,JU]) (by rw[h1];simpa using h2) ⟨.str ⟨#[c]⟩,H,I.tok _,⟨_,rfl⟩,q⟩) hs
def rIx (K:AY):R2:=λx y H Q=>AEs K x y H Q\/AGD K x y H Q\/AFL x y H Q
def eO:IxR X (rIx X.K):=hZ.or (nY.or cx)
def mq(its:List AK) n j u:Ay (·.setIfInBounds j u) { cls:=.type "list",data:=.seq its.toArray n }={ cls:=.type "list",data:=.seq (its.set j u).toArray n }:=by
 simp[Ay]
theorem Inv.lst{σ:St}{H s p xs}(I:Inv X pins σ H s)(h:H p=some (.lst xs)) :
  ∃ (its:List AK) (n:Nat),uU xs its/\s.heap.get? p=some { cls:=.type "list",data:=.seq its.toArray n }/\xs.length<=AD:=by
 obtain⟨z,its,n,r,e⟩:=I.hok p _ h;exact⟨its,n,r,e,z⟩
def Inv.lstUpd{σ:St}{H s p xs ys}{its its':List AK}{n n' f}(I:Inv X pins σ H s)(h:H p=some (.lst xs))
  (ho:s.heap.get? p=some { cls:=.type "list",data:=.seq its.toArray n }) (hf:f { cls:=.type "list",data:=.seq its.toArray n }={ cls:=.type "list",data:=.seq its'.toArray n' }) (r:uU ys its') (hz:ys.length<=AD) t :
  Inv X pins σ (upd H p (.lst ys)) { s with heap:=s.heap.update p f,toks:=t }:=by
 have e:(s.heap.update p f).get? p=some { cls:=.type "list",data:=.seq its'.toArray n' }:=by
  rw[BM f ho (by rw[hf] <;> rfl),hf]
 refine I.write (by rw[h];trivial) (.inl rfl) (λb u hb q=>(BC _ _ (Aw hb)).trans q) ⟨_,e⟩ ?_;exact⟨hz,its',n',r,e⟩
def ACq:V->V->V->Hp->(Hp->Prop)->Prop:=λo i v H Q=>∃ p xs k j,o=.ref p/\i=.int k/\H p=some (.lst xs)/\ixN xs.length k=some j/\Q (upd H p (.lst (xs.set j v)))
def dH:AEz X ACq:=by
 intro pins s σ H o i v ov iv u Q I ro ri rv h;obtain⟨p,xs,k,j,rfl,rfl,hp,hj,q⟩:=h;cases ro;obtain⟨t,rfl⟩:=ri;obtain⟨its,n,r,ho,hz⟩:=I.lst hp;obtain⟨h1,h2,h3,h4⟩:=Q4 hj;have hl:=r.length;have hn:=yC;have I':Inv X pins σ (upd H p (.lst (xs.set j v))) { s with heap:=s.heap.update p (Ay (·.setIfInBounds j u)) }:=
  I.lstUpd hp ho (mq its n j u) (r.set rv j) (by rw[List.length_set];exact hz) s.toks
 by_cases h0:0<=k
 ·have hk:=by
   rw[HC h0 h4]at h1;exact Az h1
  exact PySem.W.ki_setAt ho h0 ⋯ (by simp_all) (by rw[hk];exact⟨_,I',q⟩)
 ·have hk:(k+(its.toArray.size)).toNat=j:=by
   rw[IM ⋯ h3]at h1;rw[Ae,← hl];exact Az h1
  exact PySem.W.ki_setBack ho ⋯ (by simp_all) ⋯ (by rw[hk];exact⟨_,I',q⟩)
def nA lo hi n:(ED lo hi none n).1=((HT.sIx n 0 lo:Nat):Int)/\(ED lo hi none n).2.1=((HT.sIx n n hi:Nat):Int)/\(ED lo hi none n).2.2=1:=by
 refine⟨?_,?_,rfl⟩
 ·cases lo with
  | none=>simp[ED,HT.sIx]
  | some i =>
   simp[ED,HT.sIx,if_true];by_cases h:i < 0
   ·simp only[h,if_true] <;> lia
   ·simp only[h,if_false] <;> lia
 ·cases hi with
  | none=>simp[ED,HT.sIx]
  | some i =>
   simp[ED,HT.sIx,if_true];by_cases h:i < 0
   ·simp only[h,if_true] <;> lia
   ·simp only[h,if_false] <;> lia
def ZR(its:List AK) lo hi:slicePick its.toArray lo hi none=((its.drop (HT.sIx its.length 0 lo)).take (HT.sIx its.length its.length hi - HT.sIx its.length 0 lo)).toArray:=by
 obtain⟨h1,h2,h3⟩:=nA lo hi its.toArray.size;unfold slicePick;rw[h1,h2,h3];simp only[sliceRange_one,pick_run] <;> rfl
def AFk (K:AY):V->Option Int->Option Int->Hp->VK->Prop:=λx lo hi H Q=>∃ a xs,x=.ref a/\vz K H a xs/\∀ p,H p=none->Q (.ref p) (upd H p (.lst (ABH xs lo hi)))
def eu:SlR X (AFk X.K):=by
 intro pins s σ H x v vl vu lo hi sl Q I rx hs pl pu h;obtain⟨a,xs,rfl,hx,q⟩:=h;cases rx;obtain⟨its,r,ht,hz⟩:=I.list hx;have hlen:=r.length;refine⟨"list",_,Ji.lookup,ht.isList.typeIs,wpAny_getItem_list_slice ht.isList hs pl pu .none ↥1 ?_ (by simp_all)⟩;rw[ZR,← hlen];refine⟨.ref s.heap.objs.size,_,I.laid (λb ob q=>AC _ q) (AL _) ?_,rfl,q _ (I.hok.fresh (AL _))⟩;exact⟨Aa (Uh xs lo hi) hz,_,0,(r.drop (HT.sIx xs.length 0 lo)).take (HT.sIx xs.length xs.length hi - HT.sIx xs.length 0 lo),AN _ rfl⟩
def vI:V->Bool
 | .non=>true
 | .bl _=>true
 | .int _=>true
 | .str _=>true
 | _=>false
def yY:V->V->Bool
 | .non,.non=>true
 | .bl a,.bl b=>a == b
 | .bl a,.int b=>(if a then 1 else 0) == b
 | .int a,.bl b=>a == (if b then 1 else 0)
 | .int a,.int b=>a == b
 | .str a,.str b=>a == b
 | _,_=>false
theorem kS{s y x u v}(ry:RelV y u)(rx:RelV x v)(fy:vI y=true)(fx:vI x=true):Gd A s u v (yY y x):=by
 cases y with
 | non =>
  cases ry;cases x with
  | non=>cases rx;exact LH _
  | bl b=>cases rx;exact LI b
  | int b=>obtain⟨t,rfl⟩:=rx;exact LJ b t
  | str b=>obtain⟨t,rfl⟩:=rx;exact LK b t
  | _=>exact absurd (show false=true from fx) Ac
 | bl a =>
  cases ry;cases x with
  | non=>cases rx;exact LM a
  | bl b=>cases rx;exact LN a b
  | int b=>obtain⟨t,rfl⟩:=rx;exact LO a b t
  | str b=>obtain⟨t,rfl⟩:=rx;exact LP a b t
  | _=>exact absurd (show false=true from fx) Ac
 | int a =>
  obtain⟨t',rfl⟩:=ry;cases x with
  | non=>cases rx;exact LQ a t'
  | bl b=>cases rx;exact LR a t' b
  | int b=>obtain⟨t,rfl⟩:=rx;exact HB a t' b t
  | str b=>obtain⟨t,rfl⟩:=rx;exact G9 a t' b t
  | _=>exact absurd (show false=true from fx) Ac
 | str a =>
  obtain⟨t',rfl⟩:=ry;cases x with
  | non=>cases rx;exact LS a t'
  | bl b=>cases rx;exact LU a t' b
  | int b=>obtain⟨t,rfl⟩:=rx;exact HA a t' b t
  | str b=>obtain⟨t,rfl⟩:=rx;exact LV a t' b t
  | _=>exact absurd (show false=true from fx) Ac
 | _=>exact absurd (show false=true from fy) Ac
def eqU (x:V) (u:AK):Bool:=match u with
 | .none=>yY .non x
 | .bool b=>yY (.bl b) x
 | .int i _=>yY (.int i) x
 | .str z _=>yY (.str z) x
 | _=>false
theorem Q1{x y u}(r:RelV y u)(f:vI y=true):eqU x u=yY y x:=by
 cases y with
 | non | bl b=>cases r;rfl
 | int i | str z=>obtain⟨t,rfl⟩:=r;rfl
 | _=>exact absurd f Ac
theorem Pp:∀ {xs us},uU xs us->xs.all vI=true->us.any (eqU x)=xs.any λy=>yY y x
 | _,_,.nil,_=>rfl
 | y::xs,u::us,.cons r t,f=>by
  rw[EW,BE]at f;rw[DY,DY,Q1 r f.1,Pp t f.2]
theorem Oz{s x v}(rx:RelV x v)(fx:vI x=true):∀ {xs us},uU xs us->xs.all vI=true->∀ u∈us,Gd A s u v (eqU x u)
 | _,_,.nil,_=>λu hu=>by cases hu
 | y::xs,u::us,.cons r t,f=>λu' hu=>by
  rw[EW,BE]at f;rcases AR.mp hu with rfl | hu
  ·rw[Q1 r f.1];exact kS r rx f.1 fx
  ·exact Oz rx fx t f.2 u' hu
def inV (x:V) (xs:List V):Bool:=xs.any λy=>yY y x
def rIn (K:AY) (neg:Bool):R2:=λx y H Q=>∃ p xs,y=.ref p/\(vz K H p xs\/wo K H p xs)/\vI x=true/\xs.all vI=true/\Q (.bl (if neg then !inV x xs else inV x xs)) H
def nB:w8 X (B0 .In) (rIn X.K false):=by
 intro pins s σ H x y v u Q I rx ry h;obtain⟨p,xs,rfl,hq,fx,fs,q⟩:=h;cases ry;rcases hq with hq | hq
 ·obtain⟨its,r,pl,hz⟩:=I.list hq;refine SeqAt.in_listAt (eqU x) pl.isList (λw hw=>Oz rx fx r fs w (by simp_all)) ⟨.bl _,H,I,rfl,?_⟩;rw[show its.toArray.any (eqU x)=its.any (eqU x) by simp,Pp r fs];exact q
 ·obtain⟨its,r,pl,hz⟩:=I.tuple hq;refine SeqAt.in_tupleAt (eqU x) pl (λw hw=>Oz rx fx r fs w (by simp_all)) ⟨.bl _,H,I,rfl,?_⟩;rw[show its.toArray.any (eqU x)=its.any (eqU x) by simp,Pp r fs];exact q
def Yo:vF X (.builtin "len") (λxs H Q=>∃ p ys,xs=[.ref p]/\(vz X.K H p ys\/wo X.K H p ys)/\Q (.int ys.length) H):=by
 intro pins s σ H xs us Q I r h;obtain⟨p,ys,rfl,hq,q⟩:=h;obtain⟨u,rfl,rfl⟩:=vals1 r;have hn:=yC;rcases hq with hq | hq
 ·obtain⟨its,r',pl,hz⟩:=I.list hq;have hlen:=r'.length;exact Calls.call_len_list pl.isList (by simp only[Ae] <;> lia) ⟨.int ys.length,H,I.tok _,⟨s.toks+1,by rw[Ae,hlen]⟩,q⟩
 ·obtain⟨its,r',pl,hz⟩:=I.tuple hq;have hlen:=r'.length;exact J4 pl (by simp only[Ae] <;> lia) ⟨.int ys.length,H,I.tok _,⟨s.toks+1,by rw[Ae,hlen]⟩,q⟩
def ah:vF X (.builtin "len") (λxs H Q=>∃ z,xs=[.str z]/\z.length<=AD/\Q (.int z.length) H):=by
 intro pins s σ H xs us Q I r h;obtain⟨z,rfl,hz,q⟩:=h;obtain⟨u,rfl,t,rfl⟩:=vals1 r;have hn:=yC;exact len_str ⋯ ⟨.int z.length,H,I.tok _,⟨_,rfl⟩,q⟩
def vF.or{r r'}(h:vF X f r)(h':vF X f r'):vF X f (λxs H Q=>r xs H Q\/r' xs H Q):=by
 intro pins s σ H xs us Q I rs q;rcases q with q | q
 ·exact h pins s σ H xs us Q I rs q
 ·exact h' pins s σ H xs us Q I rs q
def j8:vF X (.type "tuple") (λxs H Q=>∃ p ys,xs=[.ref p]/\((vz X.K H p ys/\∀ l,H l=none->Q (.ref l) (upd H l (.tup ys)))\/(wo X.K H p ys/\Q (.ref p) H))):=by
 intro pins s σ H xs us Q I r h;obtain⟨p,ys,rfl,h⟩:=h;obtain⟨u,rfl,rfl⟩:=vals1 r;rcases h with ⟨hq,q⟩ | ⟨hq,q⟩
 ·obtain⟨its,r',pl,hz⟩:=I.list hq;have hlen:=r'.length;refine call_tuple_list pl.isList (λh' kp=>?_) (by simp_all);have I1:=I.kept (t':=s.toks) kp;have I2:Inv X pins σ (upd H h'.objs.size (.tup ys)) { s with heap:=h'.push { cls:=.type "tuple",data:=.seq its.toArray } }:=
   I1.laid (λb o e=>AC _ e) (AL _) ⟨hz,its,r',ye.new _ _⟩
  exact⟨.ref h'.objs.size,_,I2,rfl,q _ (I1.hok.fresh (AL _))⟩
 ·obtain⟨its,r',pl,hz⟩:=I.tuple hq;exact call_tuple_same pl ⟨.ref p,H,I,rfl,q⟩
def tyV (K:AY) (T:String) (x:V) (H:Hp):Prop:=match x with
 | .str _=>T="str"
 | .int _=>T="int"
 | .ref p=>(T="list"/\∃ xs,vz K H p xs)\/(T="tuple"/\∃ o,K.lookup p=some o/\o.cls=.type "tuple"/\o.dict=none) \/
   (T="dict"/\((∃ kvs,H p=some (.dK kvs))\/∃ kvs,H p=some (.dT kvs)))\/(T="set"/\∃ S n,H p=some (.set S n))
 | _=>False
theorem Wt{σ:St}{H s T x v}(I:Inv X pins σ H s)(r:RelV x v)(ty:tyV X.K T x H) :
  s.TypeIs v T/\∀ a,v=.ref a->∃ ob,s.heap.get? a=some ob/\ob.dict=none:=by
 cases x with
 | str z =>
  obtain⟨t,rfl⟩:=r;cases (show T="str" from ty);exact⟨typeIs_str s z t,λ_ e=>nomatch e⟩
 | int i =>
  obtain⟨t,rfl⟩:=r;cases (show T="int" from ty);exact⟨JV s i t,λ_ e=>nomatch e⟩
 | ref p =>
  cases r;rcases ty with ⟨rfl,xs,hq⟩ | ⟨rfl,o,hk,hc,hd⟩ | ⟨rfl,hk⟩ | ⟨rfl,S,n,hk⟩
  ·obtain⟨its,_,pl,_⟩:=I.list hq;refine⟨pl.isList.typeIs,λa e=>?_⟩;cases e;obtain⟨o,n,e,c,hd,_⟩:=pl;exact⟨o,e,hd⟩
  ·refine⟨⟨o,I.kIn p o hk,hc⟩,λa e=>?_⟩;cases e;exact⟨o,I.kIn _ o hk,hd⟩
  ·have z:∃ o,s.heap.get? p=some o/\o.ExactDict:=by
    rcases hk with ⟨kvs,hk⟩ | ⟨kvs,hk⟩
    iterate 2
     ·obtain⟨_,_,_,_,o,_,_,e,ex,_⟩:=I.hok p _ hk;exact⟨o,e,ex⟩
   obtain⟨o,e,ex⟩:=z;refine⟨⟨o,e,ex.1⟩,λa e2=>?_⟩;cases e2;exact⟨o,e,ex.2.1⟩
  ·obtain⟨o,_,_,_,e,ex,_⟩:=I.hok p _ hk;refine⟨⟨o,e,ex.1⟩,λa e2=>?_⟩;cases e2;exact⟨o,e,ex.2.1⟩
 | _=>exact CU ty
def ADn (K:AY) (T:String) (r:V->List V->Hp->VK->Prop) (to:TE):TE:=λσ H Q=>to σ H λx H1=>tyV K T x H1/\r x [] H1 Q
def tBM (K:AY) (T:String) (r:V->List V->Hp->VK->Prop) (to:TE) (t:TA):TE:=λσ H Q=>to σ H λx H1=>tyV K T x H1/\t σ H1 λxs H2=>r x xs H2 Q
variable {o e:Expr}{es:List Expr}{to:TE}{t:TA}{name:Str}{apos cpos:Pos}{T id:String}{r:V->List V->Hp->VK->Prop}
def Zz(pa:PlainAttrs T)(slot:Slot T name id)(hty:Gz (.builtin id)=pure (.type "method_descriptor"))(hm:MtR X id r)(ho:PE X o to)
  (hbase:C9 o name X.env (eval o X.env)=eval o X.env:=by rfl) (hline:(apos.endLine == cpos.line)=true:=by rfl):PE X (.Call (.Attribute o name apos) [] [] cpos) (ADn X.K T r to):=by
 intro pins s σ H Q I h;refine wpAny_Call_method0_late hbase hline (vB (ho pins s σ H _ I h) λv s1 ⟨x,H1,I1,r1,ty,q1⟩=>?_);obtain⟨h1,h2⟩:=Wt I1 r1 ty;exact⟨T,id,pa,slot,hty,h1,h2,Df rfl (PySem.evalArgs_none (hm pins s1 σ H1 x [] v [] Q I1 r1 .nil q1))⟩
def U2(pa:PlainAttrs T)(slot:Slot T name id)(hty:Gz (.builtin id)=pure (.type "method_descriptor"))(hm:MtR X id r)(ho:PE X o to)(ha:PA X (e::es) t)
  (hbase:C9 o name X.env (eval o X.env)=eval o X.env:=by rfl)
  (hfew:((Bx cpos (AQ (e::es) X.env)).all (λx=>!x.1) && (Ge cpos (Eo [] X.env)).all (λx=>x.1.isSome)
   && decide ((e::es).length+([]:List D9).length+(if ([]:List D9).isEmpty then 0 else 1) < 30))=true:=by rfl)
  (hline:(apos.endLine == cpos.line)=true:=by rfl) (hs:AQ (e::es) X.env=(false,eval e X.env)::AQ es X.env:=by rfl) (hplain:(Bx cpos (AQ es X.env)).any (·.1)=false:=by rfl) :
  PE X (.Call (.Attribute o name apos) (e::es) [] cpos) (tBM X.K T r to t):=by
 intro pins s σ H Q I h;refine IQ hbase hfew hline rfl (vB (ho pins s σ H _ I h) λv s1 ⟨x,H1,I1,r1,ty,q1⟩=>?_);obtain⟨h1,h2⟩:=Wt I1 r1 ty;refine⟨T,id,pa,slot,hty,h1,h2,?_⟩;have hA:=ha cpos pins s1 σ H1 _ I1 q1;rw[hs]at hA ⊢;exact Df ‹_› (E9 (vB hA λus s2 ⟨vs,H2,I2,r2,q2⟩=>hm pins s2 σ H2 x vs v us Q I2 r1 r2 q2))
end
def MtM (X:Cx) (id:String) (r:V->List V->Hp->VK->Prop):Prop:=
 ∀ pins s (σ:St) H x xs v us Q,Inv X pins σ H s->RelV x v->uU xs us->r x xs H Q ->
  AW (model X.prog X.w) X.A (call (.builtin id) (v::us)) (EP X pins σ Q) X.xe s
theorem uU.one:∀ {x us},uU [x] us->∃ u,us=[u]/\RelV x u:=by
 intro _ _ h;cases h with
 | cons r h=>cases h;exact⟨_,rfl,r⟩
theorem uU.zero:∀ {us},uU [] us->us=[]
 | _,.nil=>rfl
theorem uU.dropLast{us}(h:uU xs us):uU xs.dropLast us.dropLast:=by
 induction h with
 | nil=>exact .nil
 | cons r t ih =>
  cases t with
  | nil=>exact .nil
  | cons q t'=>exact .cons r ih
theorem uU.eraseIdx:∀ {xs us} i,uU xs us->uU (xs.eraseIdx i) (us.eraseIdx i)
 | _,_,_,.nil=>.nil
 | _,_,0,.cons _ t=>t
 | _,_,i+1,.cons r t=>.cons r (uU.eraseIdx i t)
theorem uU.rep{us}(h:uU xs us):∀ k,uU (Ad k xs).flatten (Ad k us).flatten
 | 0=>.nil
 | k+1=>uU.append h (uU.rep h k)
theorem Tf{α:Type}:∀ (l:List α) i,(l.eraseIdx i).length<=l.length
 | [],_=>AL _
 | _::_,0=>FO _
 | _::r,i+1=>Nat.succ_le_succ (Tf r i)
theorem VO(its:List AK):∀ k acc,
  Kh (λx1 x2=>x1++x2) acc.toArray (Ad k its.toArray)=(acc++(Ad k its).flatten).toArray
 | 0,acc=>by simp
 | k+1,acc=>by
  have e:acc.toArray++its.toArray=(acc++its).toArray:=by simp
  have e2:(acc++its)++(Ad k its).flatten=acc++(Ad (k+1) its).flatten:=by
   rw[DV,List.flatten_cons,CT]
  rw[← e2,← VO its k (acc++its),← e,DV,GR]
section
variable {X:Cx}{pins:List (Addr×Obj)}{σ:St}{H:Hp}{s:Ab}{l b:Addr}{xs ys zs:List V}
def Inv.lset{its its':List AK}{n f t'}(I:Inv X pins σ H s)(hH:H l=some (.lst xs))
  (e:s.heap.get? l=some { cls:=.type "list",data:=.seq its.toArray n }) (hf:f its.toArray=its'.toArray) (hv:uU ys its') (hz:ys.length<=AD) :
  Inv X pins σ (upd H l (.lst ys)) { s with heap:=s.heap.update l (Ay f),toks:=t' }:=by
 have q:=Lc e f;rw[hf]at q;refine I.write (by rw[hH];exact trivial) (.inl rfl) (λb' u hb hu=>(BC s.heap (Ay f) (Aw hb)).trans hu) ⟨_,q⟩ ?_;exact⟨hz,its',_,hv,q⟩
def Inv.lnew(I:Inv X pins σ H s)(hv:uU ys its)(hz:ys.length<=AD) :
  Inv X pins σ (upd H s.heap.objs.size (.lst ys)) { s with heap:=s.heap.push { cls:=.type "list",data:=.seq its.toArray },toks:=t' }:=
 I.laid (λ_ _ q=>AC _ q) (AL _) ⟨hz,its,0,hv,AN _ rfl⟩
theorem Inv.fresh(I:Inv X pins σ H s):H s.heap.objs.size=none:=I.hok.fresh (AL _)
def Inv.lstM(I:Inv X pins σ H s)(hH:H l=some (.lst xs)):xs.length<=AD/\∃ (its:List AK) (n:Nat),uU xs its/\xs.length=its.length/\s.heap.get? l=some { cls:=.type "list",data:=.seq its.toArray n }:=by
 obtain⟨z,its,n,r,e⟩:=I.hok l _ hH;exact⟨z,its,n,r,r.length,e⟩
def AAB(h:n<=AD):C0 n=false:=decide_eq_false ⋯
end
section
variable {X:Cx}
def AAN:V->List V->Hp->VK->Prop:=λx vs H Q=>∃ l xs y,x=.ref l/\vs=[y]/\H l=some (.lst xs)/\xs.length < AD/\Q .non (upd H l (.lst (xs++[y])))
def Yc:MtM X "list.append" AAN:=by
 intro pins s σ H x vs v us Q I rx rv h;obtain⟨l,xs,y,rfl,rfl,hH,hz,q⟩:=h;cases rx;obtain⟨u,rfl,ru⟩:=rv.one;obtain⟨z,its,n,r,hl,e⟩:=I.lstM hH;refine DW F.slot_list_append ⟨_,e,rfl⟩ F.entry_list_append (F.args_list_append_2 _ _) (PySem.list_append l its.toArray n u (by simp_all)) ⟨e,⟨.non,_,I.lset hH e ↥1 (r.append (.cons ru .nil)) ?_,rfl,q⟩⟩;rw[A4,Hd];lia
def AAL:V->List V->Hp->VK->Prop:=λx vs H Q=>∃ l b xs zs,x=.ref l/\vs=[.ref b]/\H l=some (.lst xs)/\H b=some (.lst zs)/\xs.length+zs.length<=AD/\Q .non (upd H l (.lst (xs++zs)))
def gE:MtM X "list.extend" AAL:=by
 intro pins s σ H x vs v us Q I rx rv h;obtain⟨l,b,xs,zs,rfl,rfl,hH,hB,hz,q⟩:=h;cases rx;obtain⟨u,rfl,rfl⟩:=rv.one;obtain⟨z,its,n,r,hl,e⟩:=I.lstM hH;obtain⟨z2,its2,n2,r2,hl2,e2⟩:=I.lstM hB;have hsz:its.toArray.size+its2.toArray.size<=AD:=by rw[Ae,Ae];lia
 have hlong:¬ (!its.toArray.isEmpty && C0 (its.toArray.size+its2.toArray.size))=true:=by
  rw[AAB hsz,JG];exact Ac
 refine DW F.slot_list_extend ⟨_,e,rfl⟩ F.entry_list_extend (F.args_list_extend_2 _ _)
  (AutoSeq1.list_extend_list_list_0 l its.toArray n b its2.toArray n2 hlong ⋯ ⋯) ⟨e,e2,?_⟩
 refine⟨.non,_,I.lset hH e ↥1 (r.append r2) ?_,rfl,q⟩;rw[A4];lia
def AGA:V->List V->Hp->VK->Prop:=λx vs H Q=>∃ l xs y,x=.ref l/\vs=[]/\H l=some (.lst xs)/\xs[xs.length - 1]?=some y/\Q y (upd H l (.lst xs.dropLast))
def mW:MtM X "list.pop" AGA:=by
 intro pins s σ H x vs v us Q I rx rv h;obtain⟨l,xs,y,rfl,rfl,hH,hy,q⟩:=h;cases rx;have hus:=rv.zero;subst hus;obtain⟨z,its,n,r,hl,e⟩:=I.lstM hH;obtain⟨u,hu,ru⟩:=r.get hy;have hy':its.toArray[its.toArray.size - 1]?=some u:=by
  simp_all
 refine DW Jj ⟨_,e,rfl⟩ JW (F.args_list_pop_1 _) (MeetsSeq.list_pop_last l its.toArray n u hy' (by simp_all)) ⟨e,⟨y,_,I.lset hH e ?_ r.dropLast ?_,ru,q⟩⟩
 ·simp_all
 ·rw[List.length_dropLast];lia
def AAm:V->List V->Hp->VK->Prop:=λx vs H Q=>∃ l xs i k y,x=.ref l/\vs=[.int i]/\H l=some (.lst xs)/\-(2 ^ 63)<=i/\i < 2 ^ 63/\F1 i xs.length=some k/\xs[k]?=some y/\Q y (upd H l (.lst (xs.eraseIdx k)))
def oK:MtM X "list.pop" AAm:=by
 intro pins s σ H x vs v us Q I rx rv h;obtain⟨l,xs,i,k,y,rfl,rfl,hH,h1,h2,hk,hy,q⟩:=h;cases rx;obtain⟨u,rfl,ru⟩:=rv.one;obtain⟨t,rfl⟩:=ru;obtain⟨z,its,n,r,hl,e⟩:=I.lstM hH;obtain⟨w,hw,rw'⟩:=r.get hy;refine DW Jj ⟨_,e,rfl⟩ JW (F.args_list_pop_2 _ _)
  (MeetsSeq.list_pop_at l its.toArray n i t k w (Ky h1 h2) (by simp_all) (by simp_all) (by simp_all)) ⟨e,?_⟩
 refine⟨y,_,I.lset hH e ?_ (r.eraseIdx k) ?_,rw',q⟩
 ·simp_all
 ·have:=Tf xs k;lia
def AEH:R2:=λx y H Q=>∃ l b xs zs,x=.ref l/\y=.ref b/\H l=some (.lst xs)/\H b=some (.lst zs)/\xs.length+zs.length<=AD/\∀ p,H p=none->Q (.ref p) (upd H p (.lst (xs++zs)))
def mY:w8 X (Co .Add) AEH:=by
 intro pins s σ H x y v u Q I rx ry h;obtain⟨l,b,xs,zs,rfl,rfl,hH,hB,hz,q⟩:=h;cases rx;cases ry;obtain⟨z,its,n,r,hl,e⟩:=I.lstM hH;obtain⟨z2,its2,n2,r2,hl2,e2⟩:=I.lstM hB;refine PySem.P.add_list e e2 ?_ (by simp_all);have ea:its.toArray++its2.toArray=(its++its2).toArray:=by simp
 rw[ea];exact⟨.ref _,_,I.lnew (r.append r2) (by rw[A4];lia),rfl,q _ I.fresh⟩
def AEJ:R2:=λx y H Q=>∃ l k xs,x=.ref l/\y=.int k/\H l=some (.lst xs)/\-(2 ^ 63)<=k/\k < 2 ^ 63/\xs.length * k.toNat<=AD /\
 ∀ p,H p=none->Q (.ref p) (upd H p (.lst (Ad k.toNat xs).flatten))
def oQ{α:Type}(xs:List α) k:(Ad k xs).flatten.length=k * xs.length:=↥1
def gu:w8 X (Co .Mult) AEJ:=by
 intro pins s σ H x y v u Q I rx ry h;obtain⟨l,k,xs,rfl,rfl,hH,h1,h2,hz,q⟩:=h;cases rx;obtain⟨t,rfl⟩:=ry;obtain⟨z,its,n,r,hl,e⟩:=I.lstM hH;have hlen:its.toArray.size * k.toNat<=AD:=by rw[Ae,← hl];exact hz
 have hcap:¬ its.toArray.size * k.toNat > (2 ^ 63 - 1) / 8:=by
  have:AD<=(2 ^ 63 - 1) / 8:=by decide
  lia
 have hfit:¬ (!Builtin.List.listFitsIndex k)=true:=by
  rw[Ky h1 h2];exact Ac
 have hlong:¬ C0 (its.toArray.size * k.toNat)=true:=by
  rw[AAB hlen];exact Ac
 have hnew:Kh (λx1 x2=>x1++x2) #[] (Ad (if its.toArray.isEmpty=true then 0 else k.toNat) its.toArray)=(Ad k.toNat its).flatten.toArray:=by
  have f0:=λm=>by
   have:=VO its m [];rw[GS]at this;exact this
  rw[f0];cases its with
  | nil=>simp
  | cons a r'=>rw[if_neg ↥1]
 refine wpAny_binaryOp_repeat_ref ∅ ⟨_,e,rfl⟩ (λs'=>JV s' k t) noFill_list_mul F.fills_int_mul Jk repeat_list F.slot_int_index.lookup
  (DW Jk (JV s k t) F.entry_int_rmul (F.args_int_rmul_2 _ _) (int___rmul___int_list k t l its.toArray n)
   ⟨e,rfl,⟨_,e,rfl⟩,DW F.slot_list_mul ⟨_,e,rfl⟩ F.entry_list_mul (F.args_list_mul_2 _ _) (Ld l its.toArray n k t hfit hcap hlong) ⟨e,?_⟩⟩)
 rw[hnew];exact⟨.ref _,_,I.lnew (r.rep k.toNat) (by rw[oQ,Nat.mul_comm];exact hz),rfl,q _ I.fresh⟩
end
end L2
namespace Att
open PySem PySem.W PySem.Calls PyProof.Rows
theorem dw:∀ ns vs,WellAll P h vs (ns.map WData.int)->Bu vs ns:=by
 intro ns;induction ns with
 | nil =>
  intro vs w;cases w;exact .nil
 | cons n ns ih =>
  intro vs w;cases w with
  | cons a b =>
   cases a;exact .cons _ _ (ih _ b)
theorem n8{l:OpenLaw}{n}(hn:l.most=some n){P h args vals}
  (hpre:l.row.toRowW.claim.pre args=true) (hwl:WellAll P h vals args) :
  ∃ a vs ns,vals=[BJ a]/\args=[WData.list (ns.map WData.int)]/\h.get? a=some { cls:=.type "list",data:=.seq vs.toArray }/\Bu vs ns/\ns.length<=n:=by
 have hsh:WShape.hasAll [] args [.list .int]=true:=(pre_splitW hpre).1;have hc:l.pre.holds [] { args:=args }=true:=(pre_splitW hpre).2;obtain⟨d,r,rfl,h1,h2⟩:=hasAllW_cons hsh;obtain rfl:=hasAllW_nil h2;obtain⟨xs,rfl,h3⟩:=hasW_list h1;obtain⟨ns,rfl⟩:=items_int h3;have hlen:ns.length<=n:=by
  unfold OpenLaw.pre at hc;have h4:=by
   have h4:=(holds_andW hc).1;rw[hn]at h4;exact h4
  have h5:=condW_of h4 (w_not (w_lt w_lit (w_len_list (w_arg rfl))))
  first
   | (rw[decide_eq_true q']at h5;exact absurd h5 ∅)
   | (simp at h5;lia)
 cases hwl with
 | cons w1 w2 =>
  cases w2;cases w1 with
  | list ho hall=>exact⟨_,_,ns,rfl,rfl,ho,dw ns _ hall,hlen⟩
def ck(l:OpenLaw) args:l.row.toRowW.claim.post args (.bool true) args=true:=
 postW_of
  (show WShape.has [] (.bool true) .bool=true by first | rfl | decide | simp)
  (w_eq_bool (w_res rfl) w_lit) rfl
def AAA{l:OpenLaw}{n q loose XP YP d}
  (hn:l.most=some n) (hdf:d.params.defaults=[])
  (call:∀ w s₀ s₁ mg mb fa o pm cd doc a vs ns,
   Ground q loose [] XP w s₀ mg mb s₁.heap->YP w s₁.heap ->
   s₁.heap.get? fa=some o->o.data=.func (docDef d.name d.params d.body d.scope pm cd doc)->s₁.heap.CodeRec cd d.name->mg d.name=some (.ref fa) ->
   s₁.heap.get? a=some { cls:=.type "list",data:=.seq vs.toArray }->Bu vs ns->ns.length<=n->s₁.gens=#[] ->
   DM (model l.prog w) Gf (.call (.ref fa) ⟨[.ref a],[]⟩) (λr s'=>r=.ok (.ret (.bool true))/\OldK s₁.heap s'.heap/\s'.os=s₁.os/\FL s'.gens) s₁) :
  WalkO q loose XP YP l.row.toRowW d [] (λf vs=>Ht f vs):=by
 intro w s₀ s₁ mg mb G Y fa o pm cd doc dV kV ho hd hcd hD hmg hg args vals as hpre hlay hrd hwl hlo;obtain rfl:dV=.none:=Dflts.none hD hdf;obtain rfl:kV=.none:=Dflts.noKw hD;obtain⟨a,vs,ns,rfl,rfl,hobj,hints,hlen⟩:=n8 hn hpre hwl;refine enter_call (ER (call w s₀ s₁ mg mb fa o pm cd doc a vs ns G Y ho (fd_plain hd) hcd hmg hobj hints hlen hg) λr s' hq=>?_);obtain⟨rfl,h2,h3,h4⟩:=hq;exact⟨.inl ⟨.bool true,.bool true,[],rfl,λ_=>rfl,.bool true,ck l _,λ_=>⟨J5,λ_ hm=>(nomatch hm)⟩⟩,h2,h3,h4⟩
end Att
namespace L2
open PySem PySem.Spec PyProof.Rows
theorem Tc:∀ {vs ns},Bu vs ns->uU (ns.map V.int) vs
 | _,_,.nil=>.nil
 | _,_,.cons n t h=>.cons ⟨t,rfl⟩ (Tc h)
def vL (s:Stmt):J6:=match s with
 | .FunctionDef _ a _ _ _ _ _ _ _ _=>a
 | _=>{ posonlyargs:=[],args:=[],vararg:=none,kwonlyargs:=[],kw_defaults:=[],kwarg:=none,defaults:=[] }
def uq (s:Stmt):List Stmt:=match s with
 | .FunctionDef _ _ b _ _ _ _ _ _ _=>b
 | _=>[]
def uK (s:Stmt):Ea:=match s with
 | .FunctionDef _ _ _ _ _ _ sc _ _ _=>sc
 | _=>{ kind:=.function,names:=[],isGenerator:=false,isCoroutine:=false }
abbrev yd:CXT:=λ_ _ _ _ _ _=>False
abbrev E0:XK:=λ_ _ _=>False
def zy:AAI yd X E0:=λ_ _ _ _ _ _ _ h=>h.elim
structure Fun(K:AY)(x qual:Str)(st:Stmt)(f:Addr)(fd:C6):Prop where
 ex:∃ (oc:AK) (od:Option Addr) (kV doc pm:AK) (an:Option Addr) (cdv ct:AK) (osl:Array (Option AK)),
  fd=Bj x qual (vL st) (uq st) (uK st) .none kV doc pm an cdv ct/\K.lookup f=some ⟨oc,od,.func fd,osl⟩/\CY K cdv qual=true
 kp:BZ K (.ref f)=true
section
variable {P:Ah}{w:A5}{K:AY}{mg:Str->Option AK}{base:Heap}
def Fun.ok{st f fd N ps k sp}(F:Fun K x qual st f fd)(S:uN N ps (uK st))(len:∀ vs H Q E,sp vs H Q E->vs.length=ps.length)
  (hbody:∀ cdv A outer s H vs Q E,vn k (A.deeper (Fo qual (uK st) s.heap.objs.size f cdv))->sp vs H Q E ->
   ∃ t,PSs (zw yd P w K mg base N qual (uK st) f cdv A outer s H E).nox (uq st) t/\t { nx:=λ_ H'=>Q .non H',rt:=Q } (start N vs) H):wM P w K mg base yd (k+1) f fd ps sp:=by
 obtain⟨oc,od,kV,doc,pm,an,cdv,ct,osl,rfl,lk,hcd⟩:=F.ex;refine P9 lk hcd S len λA outer s H vs Q E hr hsp=>?_
 obtain⟨t,h,q⟩:=hbody cdv A outer s H vs Q E hr hsp;exact⟨t,h.nox,q⟩
def Fun.binds{st f fd ps}(F:Fun K x qual st f fd)
  (h:∀ kV doc pm an cdv ct us,us.length=ps.length->Fl (Bj x qual (vL st) (uq st) (uK st) .none kV doc pm an cdv ct) ⟨us,[]⟩=pure (ps.zip us)):Binds K fd ps []:=by
 obtain⟨oc,od,kV,doc,pm,an,cdv,ct,osl,rfl,lk,hcd⟩:=F.ex;exact .all (h kV doc pm an cdv ct)
def XR{st f oc od an osl kV doc pm cdv ct}(l:K.lookup f=some ⟨oc,od,.func (Bj x qual (vL st) (uq st) (uK st) .none kV doc pm an cdv ct),osl⟩)
  (c:CY K cdv qual=true) (k:BZ K (.ref f)=true):Fun K x qual st f (Bj x qual (vL st) (uq st) (uK st) .none kV doc pm an cdv ct):=⟨⟨oc,od,kV,doc,pm,an,cdv,ct,osl,rfl,l,c⟩,k⟩
end
section
variable {X:Cx}
def pv(i:Nat){x:Str}{pos:Pos}(hN:X.N[i]?=some x:=by rfl)(hv:Vis X.env.scope x:=by first | exact Ds rfl | exact C2 (Ds rfl) | exact C2 (C2 rfl))(hd:(x == ("__debug__":Str))=false:=by decide)
  (hcd:(x == ("__classdict__":Str))=false:=by decide):PE X (.Name x pos) (xJ i):=OG hN hv hd hcd
end
def yJ (H H':Hp):Prop:=∀ b o,H b=some o->H' b=some o
def yJ.refl H:yJ H H:=λ_ _ h=>h
end L2
set_option maxHeartbeats 4000000
namespace L2
open PySem PySem.Spec PyProof.Rows
def vQ (cells:List (Str×Addr)):List (Str×Kz)->List (Str×Addr)->List (Str×Addr)
 | [],acc=>acc
 | (n,k)::r,acc=>if k == .free then vQ cells r ((n,(cells.lookup n).getD 0)::acc) else vQ cells r acc
def eR(h:∀ x∈scope.names,x.2=.free->∃ c,env.cells.lookup x.1=some c):FQ scope env=pure (vQ env.cells scope.names []):=by
 have go:∀ names acc,(∀ x∈names,x.2=.free->∃ c,env.cells.lookup x.1=some c) ->
   (forIn names acc λx cs=>if (x.2 == Bg)=true then (do let c ← cellOf env x.1;pure (DN ((x.1,c)::cs))) else (pure (DN cs)))=(pure (vQ env.cells names acc):Sem _):=by
  intro names;induction names with
  | nil=>intro acc _;rfl
  | cons x r ih =>
   intro acc hx;obtain⟨n,k⟩:=x;rw[GT];have hr:=λacc=>ih acc λy hy=>hx y (AH _ hy)
   unfold vQ;by_cases hk:(k == Bg)=true
   ·obtain⟨c,hc⟩:=hx (n,k) AG (by simpa using hk);have hc':=hc;have e:cellOf env n=pure c:=by unfold cellOf;rw[hc']
    simp only[hk,e,hc'];exact hr _
   ·simp only[hk];exact hr _
 unfold FQ;have:=go scope.names [] h;simp only[bind_pure];exact this
theorem OE:∀ names acc,(vQ cells names acc).lookup x=some c->((x,Bg)∈names/\c=(cells.lookup x).getD 0)\/acc.lookup x=some c
 | [],acc,h=>.inr h
 | (n,k)::r,acc,h=>by
  unfold vQ at h;by_cases hk:(k == Bg)=true
  ·rw[if_pos hk]at h;have hk':=by simpa using hk
   subst hk';rcases OE r _ h with ⟨a,b⟩ | h'
   ·exact .inl ⟨AH _ a,b⟩
   ·clear h;rw[Bb]at h';cases e:x == n with
    | true =>
         rw[e]at h';have q:=by simpa using e
         subst q;exact .inl ⟨AG,(Az h').symm⟩
    | false=>rw[e]at h';exact .inr h'
  ·rw[if_neg hk]at h;rcases OE r _ h with ⟨a,b⟩ | h
   ·exact .inl ⟨AH _ a,b⟩
   ·exact .inr h
theorem Of:∀ names acc,((x,Bg)∈names\/(acc.lookup x).isSome=true)->((vQ cells names acc).lookup x).isSome=true
 | [],acc,h=>h.elim (λz=>nomatch z) id
 | (n,k)::r,acc,h=>by
  unfold vQ;by_cases hk:(k == Bg)=true
  ·rw[if_pos hk];refine Of r _ ?_;by_cases e:x=n
   ·subst e;exact .inr ↥1
   ·rcases h with h | h
    ·rcases AR.mp h with h | h
     ·cases h;exact absurd rfl e
     ·exact .inl h
    ·refine .inr ?_;rw[Bb];have:(x == n)=false:=by simpa using e
     rw[this];exact h
  ·rw[if_neg hk];refine Of r _ ?_;rcases h with h | h
   ·rcases AR.mp h with h | h
    ·cases h;exact absurd rfl hk
    ·exact .inl h
   ·exact .inr h
theorem Nm:∀ names n acc,(BV n names acc).lookup x=some c->(n<=c/\(x,Bv)∈names)\/acc.lookup x=some c
 | [],_,acc,h=>.inr h
 | (y,k)::r,n,acc,h=>by
  unfold BV at h;by_cases hk:(k == Bv)=true
  ·rw[if_pos hk]at h;have hk':=by simpa using hk
   subst hk';rcases Nm r _ _ h with ⟨a,b⟩ | h'
   ·exact .inl ⟨by lia,AH _ b⟩
   ·clear h;rw[Bb]at h';cases e:x == y with
    | true =>
         rw[e]at h';have q:=by simpa using e
         simp_all
    | false=>rw[e]at h';exact .inr h'
  ·rw[if_neg hk]at h;rcases Nm r _ _ h with ⟨a,b⟩ | h
   ·exact .inl ⟨a,AH _ b⟩
   ·exact .inr h
theorem RQ:∀ names n acc,(x,c)∈BV n names acc->n<=c\/(x,c)∈acc
 | [],_,acc,h=>.inr h
 | (y,k)::r,n,acc,h=>by
  unfold BV at h;by_cases hk:(k == Bv)=true
  ·rw[if_pos hk]at h;rcases RQ r _ _ h with a | h
   ·exact .inl ⋯
   ·rcases AR.mp h with h | h
    ·lia
    ·exact .inr h
  ·rw[if_neg hk]at h;exact RQ r _ _ h
theorem RH:∀ names (n:Nat) (acc:List (Str×Addr)),(∀ p∈acc,p.2 < n)->n<=c->(x,c)∈BV n names acc->(y,c)∈BV n names acc->x=y
 | [],n,acc,ha,hc,h1,_=>by have q:c < n:=ha _ h1;exact absurd (AM q hc) (A8 _)
 | (z,k)::r,n,acc,ha,hc,h1,h2=>by
  unfold BV at h1 h2;by_cases hk:(k == Bv)=true
  ·rw[if_pos hk]at h1 h2;have ha':∀ p∈(z,n)::acc,p.2 < n+1:=λp hp=>by
    rcases AR.mp hp with h | h
    ·subst h;exact Cg _
    ·exact Dm (ha p h)
   by_cases hcn:n+1<=c
   ·exact RH r _ _ ha' hcn h1 h2
   ·have hcn':=Nat.le_antisymm (Fq.mp hcn) hc;subst hcn';have g:∀ w,(w,c)∈BV (c+1) r ((z,c)::acc)->w=z:=λw hw=>by
     rcases RQ r _ _ hw with a | a
     ·exact absurd a (Nat.not_succ_le_self _)
     ·rcases AR.mp a with a | a
      ·cases a;rfl
      ·have:=ha _ a;exact absurd this (A8 _)
    rw[g x h1,g y h2]
  ·rw[if_neg hk]at h1 h2;exact RH r _ _ ha hc h1 h2
theorem Qg:∀ names h acc,(∀ p∈acc,∃ v,h.IsCell p.2 v)->(x,c)∈BV h.objs.size names acc->∃ v,(G0 h names).IsCell c v
 | [],_,acc,ha,hm=>ha _ hm
 | (z,k)::r,h,acc,ha,hm=>by
  unfold BV at hm;unfold G0;by_cases hk:(k == Bv)=true
  ·rw[if_pos hk]at hm ⊢;refine Qg r (h.push { cls:=.type "cell",data:=.cell none }) ((z,h.objs.size)::acc) (λp hp=>?_) (by rw[BW];exact hm);rcases AR.mp hp with e | e
   ·subst e;exact⟨none,_,AN _ rfl,rfl⟩
   ·obtain⟨v,q⟩:=ha p e;exact⟨v,q.keeps λb o e=>AC _ e⟩
  ·rw[if_neg hk]at hm ⊢;exact Qg r h acc ha hm
def lB
  (hQ:Q (newEnv scope s.heap.objs.size globals (BV (s.heap.objs.size+1) scope.names cl) qual none .none (some env) D3) { s with heap:=G0 (s.heap.push { cls:=.type "dict",data:=.dict #[] }) scope.names }) :
  AW M A (K0 scope globals cl [] qual none .none (some env)) Q E s:=by
 simp only[K0,Option.isSome_some,if_true];refine AB (wpAny_alloc (AB (wpAny_layCells _ (λname kind cells=>by cases hkc:kind == Bv <;> simp) _ _ _ _ ?_)));rw[show ({ s with heap:=s.heap.push { cls:=.type "dict",data:=.dict #[] } }:Ab).heap.objs.size=s.heap.objs.size+1 from BW ..];exact AB (AF (AF hQ))
def zW (N N':List Str) (ix:List (Option Nat)) (outer names:List (Str×Kz)):Bool:=
 decide (N'.length=ix.length) && ((N'.zip ix).all λp=>match p.2 with | none=>true | some j=>decide (N[j]?=some p.1) && names.contains (p.1,Bg)) &&
 (names.all λp=>(p.2 != .free || outer.lookup p.1 == some .cell || outer.lookup p.1 == some .free) && (p.2 != .local || names.lookup p.1 == some .local) && (p.2 != .cell || names.lookup p.1 == some .cell) && (p.2 != .free || names.lookup p.1 == some .free))
def frm (ix:List (Option Nat)) (σ:St):St:=ix.map λo=>o.bind λj=>(σ[j]?).join
def cxC (X:Cx) (N:List Str) (scope:Ea) (C:Addr) (cs:List (Str×Addr)) (s:Ab) (H:Hp) (ex:List Addr):Cx where
 prog:=X.prog
 w:=X.w
 K:=X.K
 mg:=X.mg
 base:=X.base
 A:=X.A
 N:=N
 s₀:=s
 H₀:=H
 env:=Gg scope cs C X.env
 outer:=X.stack
 stack:=X.stack
 ex:=ex
 fn:=λx=>scope.names.lookup x == some .cell
 calm:=X.calm
 pn:=[]
 xe:=λ_ _=>False
structure wI(X:Cx)(N':List Str)(ix:List (Option Nat))(scope:Ea):Prop where
 kind:scope.kind=.function
 ok:zW X.N N' ix X.env.scope.names scope.names=true
section
variable {X:Cx}{N':List Str}{ix:List (Option Nat)}{scope:Ea}
def wI.len(S:wI X N' ix scope):N'.length=ix.length:=by
 have h:=S.ok;unfold zW at h;simp only[BE,decide_eq_true_eq]at h;exact h.1.1
def wI.name(S:wI X N' ix scope)(hp:p∈scope.names) :
  (p.2=.free->X.env.scope.names.lookup p.1=some .cell\/X.env.scope.names.lookup p.1=some .free)/\(p.2=.local->scope.names.lookup p.1=some .local)/\(p.2=.cell->scope.names.lookup p.1=some .cell)/\(p.2=.free->scope.names.lookup p.1=some .free):=by
 have h:=S.ok;unfold zW at h;simp only[BE]at h;have q:=Au.mp h.2 p hp;simp at q;obtain⟨⟨⟨a,b⟩,c⟩,d⟩:=q;refine⟨λe=>?_,λe=>?_,λe=>?_,λe=>?_⟩
 ·rcases a with (a | a) | a
  ·exact absurd e a
  ·exact .inl a
  ·exact .inr a
 ·exact b.resolve_left λz=>z e
 ·exact c.resolve_left λz=>z e
 ·exact d.resolve_left λz=>z e
theorem wI.at(S:wI X N' ix scope){i j:Nat}{x}(h1:N'[i]?=some x)(h2:ix[i]?=some (some j)):X.N[j]?=some x/\(x,Bg)∈scope.names:=by
 have h:=S.ok;unfold zW at h;simp only[BE]at h;have hz:=by
  have:(N'.zip ix)[i]?=some (x,some j):=by rw[CL];exact⟨h1,h2⟩
  exact CS this
 have q:=Au.mp h.1.2 _ hz;simp at q;exact q
theorem fM{i:Nat}{v}(h:(frm ix σ)[i]?=some (some v)):∃ j,ix[i]?=some (some j)/\σ[j]?=some (some v):=by
 unfold frm at h;rw[Ag]at h;cases e:ix[i]? with
 | none=>rw[e]at h;cases h
 | some o =>
  rw[e]at h;cases o with
  | none=>cases h
  | some j =>
   have h':(σ[j]?).join=some v:=Az h;refine⟨j,rfl,?_⟩;cases e2:σ[j]? with
   | none=>rw[e2]at h';cases h'
   | some w=>rw[e2]at h';rw[show w=some v from h']
theorem UB{env:Env}:∀ (names:List (Str×Kz)) x,
  (names.map λ(n,k)=>if (k == Bg && env.scope.kind == .function && env.kindOf n == some .cell) then (n,Bv) else (n,k)).lookup x =
   match names.lookup x with
   | some .free=>if (env.scope.kind == .function && env.kindOf x == some .cell) then some Bv else some .free
   | o=>o
 | [],_=>rfl
 | (n,k)::r,x=>by
  rw[AO];cases hx:x == n with
  | true =>
   have e:=by simpa using hx
   subst e;cases k <;> by_cases hc:(env.scope.kind == .function && env.kindOf x == some .cell)=true <;> simp[ hc] <;> simp_all
  | false =>
   simp only[Bb,hx];rw[← (UB r x)];split <;> simp only[Bb,hx]
theorem ACg x:(Gg scope cs C X.env).kindOf x =
   match scope.names.lookup x with
   | some .free=>if (X.env.scope.kind == .function && X.env.kindOf x == some .cell) then some Bv else some .free
   | o=>o:=UB scope.names x
end
def pC{N' ix scope}(S:wI X N' ix scope){pins}{σ:St}{H s fp}{D:Addr}{o:Obj}
  (I:Inv X pins σ H s) (hf:∀ b∈fp,zx X pins H b) (ho:∀ b∈fp,∃ o,s.heap.get? b=some o) (hc:X.calm=true) {h3:Heap} {C:Addr} (hk3:∀ b u,s.heap.get? b=some u->h3.get? b=some u) (hC:C=h3.objs.size) (hs3:s.heap.objs.size<=h3.objs.size) {h4}
  (h4e:h4=G0 (h3.push { cls:=.type "dict",data:=.dict #[] }) scope.names) {t4} :
  Inv (cxC X N' scope C (BV (C+1) scope.names (vQ X.env.cells scope.names [])) s H fp) [] (frm ix σ) H { s with heap:=h4,toks:=t4 }:=by
 have hsz:s.heap.objs.size<=C:=by rw[hC];exact hs3
 have hk4:∀ b u,h3.get? b=some u->h4.get? b=some u:=λb u e=>by rw[h4e];exact HQ _ _ b u (AC _ e)
 have hk:=λb u e=>hk4 b u (hk3 b u e)
 have hpC:(h3.push { cls:=.type "dict",data:=.dict #[] }).objs.size=C+1:=by rw[hC,BW]
 have clo:∀ x c,(vQ X.env.cells scope.names []).lookup x=some c->X.env.cells.lookup x=some c:=λx c h=>by
  rcases OE scope.names [] h with ⟨hm,e⟩ | h
  ·obtain⟨c',hc'⟩:=I.ok.has x ((S.name hm).1 rfl);rw[hc']at e ⊢;rw[e];rfl
  ·cases h
 have cloM:=by
  have go:∀ names acc,(∀ q∈names,q∈scope.names)->(∀ p∈acc,∃ x,(x,Bg)∈scope.names/\p.1=x/\X.env.cells.lookup x=some p.2) ->
    ∀ p∈vQ X.env.cells names acc,∃ x,(x,Bg)∈scope.names/\p.1=x/\X.env.cells.lookup x=some p.2:=by
   intro names;induction names with
   | nil=>intro acc _ ha;exact ha
   | cons q r ih =>
    intro acc hn ha;obtain⟨n,k⟩:=q;unfold vQ;by_cases hkf:(k == Bg)=true
    ·have e:=by simpa using hkf
     subst e;refine ih _ (λq hq=>hn q (AH _ hq)) λp hp=>?_
     rcases AR.mp hp with e | hp
     ·subst e;have hm:=hn (n,.free) AG;obtain⟨c',hc'⟩:=I.ok.has n ((S.name hm).1 rfl);refine⟨n,hm,rfl,?_⟩;rw[hc'];rfl
     ·exact ha p hp
    ·rw[if_neg hkf];exact ih _ (λq hq=>hn q (AH _ hq)) ha
  exact go scope.names [] (λ_ h=>h) λp hp=>nomatch hp
 have cellLt:∀ x c,X.env.cells.lookup x=some c->c < s.heap.objs.size:=λx c h=>by
  obtain⟨v,q⟩:=I.cell x c h;exact q.lt
 have split:∀ x c,(BV (C+1) scope.names (vQ X.env.cells scope.names [])).lookup x=some c->(C+1<=c/\(x,Bv)∈scope.names)\/X.env.cells.lookup x=some c:=λx c h=>by
  rcases Nm scope.names _ _ h with h | h
  ·exact .inl h
  ·exact .inr (clo x c h)
 have cells4:∀ x c,(BV (C+1) scope.names (vQ X.env.cells scope.names [])).lookup x=some c->∃ v,h4.IsCell c v:=λx c h=>by
  rw[h4e];refine Qg scope.names _ (vQ X.env.cells scope.names []) (λp hp=>?_) (by rw[hpC];exact BL h);obtain⟨y,_,_,e⟩:=cloM p hp;obtain⟨v,q⟩:=I.cell y p.2 e;exact⟨v,q.keeps λb u e=>AC _ (hk3 b u e)⟩
 have bLt:∀ b∈fp,b < s.heap.objs.size:=λb hb=>by obtain⟨u,e⟩:=ho b hb;exact AJ e
 have nfree:∀ b,s.heap.objs.size<=b->H b=none:=λb hb=>I.hok.fresh hb
 refine⟨⟨I.ok.mod,?_,I.ok.glob,I.ok.blt,hsz,λx y c h1 h2=>?_,λx hx=>?_,λx c hx h=>?_,λh=>I.ok.hd hc,I.ok.frames,.inl rfl,λb hb=>⟨?_,λx c h=>?_⟩,I.bs,Aa I.ok.bsz I.sz,λb u e hb=>?_,λb hb hz=>?_,I.stack,I.stkFree⟩,
  rfl,I.bare,Un.kept hk,⟨λ_=>none,?_,λi x v h1 h2 h3=>?_⟩,cells4,?_,λx c h=>?_,λp hp=>absurd (show p∈[] from hp) ↥1,I.hok.kept hk,?_⟩
 ·exact S.kind
 ·-- injective
  rcases split x c h1 with ⟨a,_⟩ | a
  ·exact RH scope.names (C+1) _ (λp hp=>by obtain⟨y,_,_,e⟩:=cloM p hp;exact Dm (AM (cellLt y _ e) hsz)) a (BL h1) (BL h2)
  ·rcases split y c h2 with ⟨b,_⟩ | b
   ·exact absurd (AM (cellLt x c a) (Aa hsz (EY b))) (A8 _)
   ·exact I.ok.inj x y c a b
 ·-- has
  have hx':(Gg scope (BV (C+1) scope.names (vQ X.env.cells scope.names [])) C X.env).kindOf x=some .cell\/(Gg scope (BV (C+1) scope.names (vQ X.env.cells scope.names [])) C X.env).kindOf x=some .free:=hx;rw[ACg]at hx';have key:scope.names.lookup x=some .cell\/scope.names.lookup x=some .free:=by
   cases e:scope.names.lookup x with
   | none=>rw[e]at hx';rcases hx' with z | z <;> cases z
   | some k =>
    rw[e]at hx';cases k <;> first | exact .inl rfl | exact .inr rfl | (rcases hx' with z | z <;> cases z)
  refine CQ.mp (Dd scope.names _ _ ?_);rcases key with k | k
  ·exact .inl k
  ·exact .inr (Of scope.names [] (.inl (BL k)))
 ·-- own cells are new
  have hx':(scope.names.lookup x == some Bv)=true:=hx;have hx'':=by simpa using hx'
  rcases Nm scope.names _ _ h with ⟨a,_⟩ | a
  ·exact Aa hsz (EY a)
  ·rcases OE scope.names [] a with ⟨hm,_⟩ | z
   ·have:=(S.name hm).2.2.2 rfl;rw[hx'']at this;cases this
   ·cases z
 ·exact AZ (AM (bLt b hb) hsz)
 ·rcases split x c h with ⟨a,_⟩ | a
  ·exact BK (AM (bLt b hb) (Aa hsz (EY a)))
  ·exact (hf b hb).2.2.2.2.1 x c a
 ·rcases (hf b hb).2.2.2.1 with z | z
  ·exact I.ok.noex b u e z
  ·exact absurd (AM (AJ e) (Aa I.ok.bsz z)) (A8 _)
 ·rcases AR.mp (I.stkSub b hz) with e | e
  ·exact (hf b hb).2.1 e
  ·exact (hf b hb).2.2.1 e
 ·-- the block's names
  rw[h4e];rw[hC];exact (Heap.Ns.new h3 (.type "dict")).keeps (HQ _ _)
 ·obtain⟨j,e1,e2⟩:=fM h2;obtain⟨hn,hm⟩:=S.at h1 e1;have hkx:=(S.name hm).2.2.2 rfl;have hox:=(S.name hm).1 rfl;obtain⟨m,hns,hl⟩:=I.loc;have vis:Vis X.env.scope x:=by rcases hox with z | z;exact .inr (.inl z);exact .inr (.inr z)
  obtain⟨u,r,l⟩:=hl j x v hn e2 vis;refine⟨u,r,.inr ⟨?_,?_⟩⟩
  ·show (Gg scope _ C X.env).kindOf x=some .cell\/(Gg scope _ C X.env).kindOf x=some .free;rw[ACg,hkx];dsimp only;split
   ·exact .inl rfl
   ·exact .inr rfl
  ·rcases l with ⟨k,_⟩ | ⟨_,c,hc',hcell⟩
   ·have k':X.env.scope.names.lookup x=some .local:=k;rcases hox with z | z <;> rw[z]at k' <;> cases k'
   ·have hs:((BV (C+1) scope.names (vQ X.env.cells scope.names [])).lookup x).isSome=true:=Dd scope.names _ _ (.inr (Of scope.names [] (.inl hm)));obtain⟨c',e'⟩:=CQ.mp hs;have:c'=c:=by
     rcases split x c' e' with ⟨_,q⟩ | q
     ·have:=(S.name q).2.2.1 rfl;rw[show scope.names.lookup x=some .free from hkx]at this;cases this
     ·rw[hc']at q;exact (Az q).symm
    subst this;exact⟨c',e',hcell.keeps hk⟩
 ·exact nfree C hsz
 ·rcases split x c h with ⟨a,_⟩ | a
  ·exact nfree c (Aa hsz (EY a))
  ·exact I.freeC x c a
 ·show (frm ix σ).length=N'.length;unfold frm;rw[AV,S.len]
theorem kP(I:Nat->Ab->Prop)
  (turn:∀ n s,I n s->AW (model prog w) A (Dl it) (λr s₁=>match r with
   | none=>R (.ok .next) s₁
   | some v=>AW (model prog w) A (HN target it v) (λ_ s₁'=>AW (model prog w) A (assign target env v) (λ_ s₂ =>
     AW (model prog w) A (forIn ifs true λc r=>if r=true then do let ok ← IK c env (eval c env);pure (DN ok) else pure (DN r)) (λok s₃ =>
      if ok=true then AW (model prog w) A (eval elt env) (λx s₄ =>
       AW (model prog w) A (call (.builtin "list.append") [acc,x]) (λ_ s₅=>∃ m,m < n/\I m s₅) (λ_ _=>False) s₄) (λ_ _=>False) s₃
      else ∃ m,m < n/\I m s₃) (λ_ _=>False) s₂) (λ_ _=>False) s₁') (λ_ _=>False) s₁) (λ_ _=>False) s)
  n (h:I n s) :
  DM (model prog w) A (.compLoop (.ListComp elt [⟨target,iter,ifs,0⟩] scope pos) 0 it acc env) R s:=by
 refine codeAny_loop rfl I (λn s hI=>?_) n h;show AW _ A ((compTurn (.ListComp elt [⟨target,iter,ifs,0⟩] scope pos) 0 it acc env).onRaise (λx=>do noteFrame x env;theTreesLotGoes x)) _ _ s;refine wpAny_noted ?_;rw[compTurn_list];refine AB (Et (AB (Bd (turn n s hI) (λr s₁ h₁=>?_) λ_ _ h'=>h'.elim)));cases r with
 | none=>exact AF h₁
 | some v =>
  refine AB (Bd h₁ (λ_ s₁' h₁'=>AB (Bd h₁' (λ_ s₂ h₂=>AB (Bd h₂ (λok s₃ h₃=>?_) λ_ _ h'=>h'.elim)) λ_ _ h'=>h'.elim)) λ_ _ h'=>h'.elim);cases ok with
  | false=>exact AF ⟨rfl,h₃⟩
  | true =>
   exact AB (AB (Bd h₃ (λx s₄ h₄=>AB (Bd h₄ (λ_ s₅ h₅=>AF (AF ⟨rfl,h₅⟩)) λ_ _ h'=>h'.elim)) λ_ _ h'=>h'.elim))
def PTs (X:Cx) (ifs:List Expr) (t:TT):Prop:=
 ∀ pins s (σ:St) H Q,Inv X pins σ H s->t σ H Q ->
  AW (model X.prog X.w) X.A (forIn ifs true λc r=>if r=true then do let ok ← IK c X.env (eval c X.env);pure (DN ok) else pure (DN r)) (TP X pins σ Q) X.xe s
def AGm:TT:=λ_ H Q=>Q true H
def g9:PTs X [] AGm:=λ_ _ _ H _ I h=>wpAny_tests_nil ⟨H,I,h⟩
def aR(h:PT X c t):PTs X [c] t:=λpins s σ H Q I hw=>wpAny_tests_one (h pins s σ H Q I hw)
def ACw (J:It) (ix:List (Option Nat)) (g:TG) (tc:TT) (te:TE) (σ:St) (H1:Hp) (Q:VK):Prop:=∃ W:Nat->Nat->List V->St->Hp->Prop,(∃ m,W 0 m [] (frm ix σ) H1) /\
 ∀ i m ys σ' H',W i m ys σ' H' ->
  (J.stop i H'/\ys.length<=AD/\∀ D,H' D=none->Q (.ref D) (upd H' D (.lst ys))) \/
  (J.go i H'/\ys.length < AD/\∃ N:List V->St->Hp->Prop,(∀ ys' σ2 H2,N ys' σ2 H2->∃ m',m' < m/\W (i+1) m' ys' σ2 H2) /\
   ∀ x H2,J.yld i H' x H2->g x σ' H2 λσ2 H3=>tc σ2 H3 λb H4=>if b=true then te σ2 H4 λv H5=>N (ys++[v]) σ2 H5 else N ys σ2 H4)
def AAb (wi:TI) (ix:List (Option Nat)) (g:TG) (tc:TT) (te:TE):TE:=λσ H Q=>wi σ H λJ H1=>ACw J ix g tc te σ H1 Q
def wg.adopt(x:wg P w H h)(hn:H a=none)(new:uy P w (upd H a o) h a o):wg P w (upd H a o) h:=λb u e=>by
 by_cases hb:b=a
 ·subst hb;rw[Lq]at e;cases e;exact new
 ·rw[Ll hb]at e;exact (x b u e).stay (λc v _ q=>q) (λc q=>by rw[Ll (Lp q hn)];exact q) λc xs q=>by rw[Ll (Lp q hn)];exact q
section
variable {X:Cx}{N':List Str}{ix:List (Option Nat)}{scope:Ea}{elt tg iter:Expr}{ifs:List Expr}{pos:Pos}{wi:TI}{g:TG}{tc:TT}{te:TE}
def T6(S:wI X N' ix scope)(hc:X.calm=true)(hi:PI X tg iter wi)
  (hg:∀ C cs s H ex,PG (cxC X N' scope C cs s H ex) tg g) (ht:∀ C cs s H ex,PTs (cxC X N' scope C cs s H ex) ifs tc) (he:∀ C cs s H ex,PE (cxC X N' scope C cs s H ex) elt te) (I:Inv X pins σ H s) (hw:AAb wi ix g tc te σ H Q)
  (fin:∀ D C o H' s',Inv X (pins++[(C,o)]) σ H' s'->(∃ m,s'.heap.Ns C m)->(X.s₀.heap.objs.size<=C)->(∀ x c,X.env.cells.lookup x=some c->c≠C)->(∀ p∈X.pn++pins,p.1≠C)->Q (.ref D) H'->compPost (model X.prog X.w) X.A X.xe use QQ (.ref D) C (.ok .next) s')
  (hs:∀ x,Cb iter X.env x=pure x:=by intro _;rfl) :
  AW (model X.prog X.w) X.A (comprehension (.ListComp elt [⟨tg,iter,ifs,0⟩] scope pos) scope X.env (firstIterPos [⟨tg,iter,ifs,0⟩] pos) (newList []) false (eval iter X.env) use) QQ X.xe s:=by
 refine wpAny_comprehension_free rfl hs (eR λx hx hk=>I.ok.has x.1 ((S.name hx).1 hk)) S.kind (λx hx hl=>(S.name hx).2.1 hl) ?_;refine vB (hi pins s σ H _ I hw) λv s1 h1=>vB h1 λitv s2 h2=>?_
 obtain⟨it,fp,tn,J,H2,rfl,I2,T,st2,f2,W,⟨m0,w0⟩,turn⟩:=h2;refine BH (lB ?_);generalize hH3:s2.heap.push { cls:=.type "list",dict:=none,data:=.seq ([]).toArray }=h3;have hD3:h3.get? s2.heap.objs.size=some { cls:=.type "list",dict:=none,data:=.seq ([]).toArray }:=by rw[← hH3];exact AN _ rfl
 have hk3:∀ b u,s2.heap.get? b=some u->h3.get? b=some u:=λb u e=>by rw[← hH3];exact AC _ e
 have hz3:h3.objs.size=s2.heap.objs.size+1:=by rw[← hH3,BW]
 have ho2:∀ b∈fp,∃ o,s2.heap.get? b=some o:=λb hb=>by obtain⟨o,e,_⟩:=T.obj _ _ st2 b hb;exact⟨o,e⟩
 generalize hD:s2.heap.objs.size=D at hD3 hz3 ⊢;generalize hC:h3.objs.size=C at hz3 ⊢;generalize h4e:G0 (h3.push { cls:=.type "dict",data:=.dict #[] }) scope.names=h4;have hk4:∀ b u,h3.get? b=some u->h4.get? b=some u:=λb u e=>by rw[← h4e];exact HQ _ _ b u (AC _ e)
 have I4:Inv (cxC X N' scope C (BV (C+1) scope.names (vQ X.env.cells scope.names [])) s2 H2 fp) [] (frm ix σ) H2 { s2 with heap:=h4,toks:=s2.toks }:=
  pC (D:=D) (o:={ cls:=.none,data:=.dict #[] }) S I2 f2 ho2 hc hk3 hC.symm (by simp_all) h4e.symm
 have hcellD:∀ x c,(BV (C+1) scope.names (vQ X.env.cells scope.names [])).lookup x=some c->c≠D:=λx c h z=>by
  rcases Nm scope.names _ _ h with ⟨a,_⟩ | a
  ·rw[z,hz3]at a;lia
  ·rcases OE scope.names [] a with ⟨hm,e⟩ | a
   ·obtain⟨c',hc'⟩:=I2.ok.has x ((S.name hm).1 rfl);rw[hc']at e;obtain⟨v,q⟩:=I2.cell x c' hc';have e':c=c':=e;rw[← e',z,← hD]at q;exact absurd q.lt (A8 _)
   ·cases a
 have hDC:D≠C:=by rw[hz3];exact AZ (Cg _)
 have hDfp:D∉fp:=λhb=>by obtain⟨o,e⟩:=ho2 D hb;exact absurd (hD ▸ AJ e) (A8 _)
 generalize hX':cxC X N' scope C (BV (C+1) scope.names (vQ X.env.cells scope.names [])) s2 H2 fp=X' at I4;have hfpX:∀ {H':Hp} {oD:Obj},(∀ b∈fp,H' b=none)->∀ b∈fp,zx X' [(D,oD)] H' b:=λ{H' oD} hn b hb=>by
  rw[← hX'];refine⟨hn b hb,λz=>?_,λz=>?_,.inl hb,λx c h z=>?_,λp hp=>?_⟩
  rotate_right
  ·have hp':p∈[(D,oD)]:=hp;have e:=by simpa using hp'
   exact λz=>hDfp (by simp_all)
  ·obtain⟨o,e⟩:=ho2 b hb;have z':b=C:=z;have q:=AJ e;rw[z',hz3,hD]at q;exact absurd (J7 (Cg D) q) (A8 _)
  ·have z':=z;rcases AR.mp (I2.stkSub b z') with e | e
   ·exact (f2 b hb).2.1 e
   ·exact (f2 b hb).2.2.1 e
  ·rw[← hX']at I4;exact (I4.ok.exf b hb).2 x c h z
 have HDnone:=I2.hok.fresh (by rw[hD];exact AL _);have key:∀ s',s'={ s2 with heap:=h4,toks:=s2.toks } ->
   DM (model X.prog X.w) X.A (.compLoop (.ListComp elt [⟨tg,iter,ifs,0⟩] scope pos) 0 (.ref it) (.ref D) X'.env) (compPost (model X.prog X.w) X.A X.xe use QQ (.ref D) C) s':=by
  rintro s' rfl;refine kP (λn s'=>∃ i ys σ' H' its,Inv X' [] σ' H' s'/\tn i s'.heap/\(∀ b∈fp,H' b=none)/\H' D=none/\s'.heap.PlainList D its/\uU ys its.toList/\W i n ys σ' H') ?_ m0
   ⟨0,[],frm ix σ,H2,#[],I4,T.keep _ _ _ st2 λb hb o e=>hk4 b o (hk3 b o e),λb hb=>(f2 b hb).1,HDnone,⟨_,hk4 _ _ hD3⟩,.nil,w0⟩
  rintro n s3 ⟨i,ys,σ3,H3,its,I3,st3,fr3,hD3n,hpl,hv,w3⟩;have hc':X'.calm=true:=by rw[← hX'];exact hc
  have xe':∀ e s,X'.xe e s->False:=by rw[← hX'];exact λ_ _ z=>z
  have pr:X'.prog=X.prog:=by rw[← hX'];rfl
  have pw:X'.w=X.w:=by rw[← hX'];rfl
  have pK:X'.K=X.K:=by rw[← hX'];rfl
  have pA:X'.A=X.A:=by rw[← hX'];rfl
  have p0:X'.s₀=s2:=by rw[← hX'];rfl
  have pH:X'.H₀=H2:=by rw[← hX'];rfl
  have px:X'.ex=fp:=by rw[← hX'];rfl
  have pf:X'.fs=frs X.stack:=by rw[← hX'];rfl
  have pL:X'.env.locals=C:=by rw[← hX'];rfl
  have pn0:X'.pn=[]:=by rw[← hX'];rfl
  have pcs:X'.env.cells=BV (C+1) scope.names (vQ X.env.cells scope.names []):=by rw[← hX'];rfl
  obtain⟨nD,hoD⟩:=id hpl;have Dfs:D∉X'.fs:=λz=>by
   rw[pf]at z;rcases AR.mp (I2.stkSub D z) with e | e
   ·have q:=I2.lt;rw[← e,hD]at q;exact A8 _ q
   ·exact I2.nofs (by rw[hD];exact AL _) e
  have I3':Inv X' [(D,_)] σ3 H3 s3:=I3.pins_of λp hp=>by
   have e:=AI.mp hp;subst e;exact⟨hoD,hD3n,by rw[pL];exact hDC,Dfs,λv z=>by cases z⟩
  have hg':=hX' ▸ hg _ _ _ _ _;have ht':=hX' ▸ ht _ _ _ _ _;have he':=hX' ▸ he _ _ _ _ _;have hsizes:=hv.length.symm;rcases turn i n ys σ3 H3 w3 with ⟨stop,hlen,qn⟩ | ⟨go,hlt,N,hN,step⟩
  ·-- the end
   have T':=T.done X' pr pw pK hc' i _ s3 σ3 H3 (λ_ _=>False) I3' (hfpX fr3) st3 stop;rw[pA]at T';refine vB T' λr s4 ⟨hr,I5⟩=>?_
   subst hr;obtain⟨gD,nDn,_,_,_⟩:=I5.pin (D,_) (Ai _ (AI.mpr rfl));have gD':=gD;obtain⟨m,hns,_⟩:=I5.loc;rw[pL]at hns;obtain⟨oC,es,ep,hoC,hdC,_⟩:=id hns;have ub:Un (frs X.stack) fp H2 H3 s2.heap s4.heap:=by
    have q:=I5.base;rw[px,pH,p0]at q;rw[← pf];exact q
   have bLt:∀ b u,s2.heap.get? b=some u->b≠D:=λb u e z=>by have q:=AJ e;rw[z,hD]at q;exact A8 _ q
   have u':Un (frs X.stack) fp H2 (upd H3 D (.lst ys)) s2.heap s4.heap:=
    ⟨ub.keep,ub.slot,λb o e n hx=>by rw[Ll (bLt b o e)];exact ub.free b o e n hx,ub.there,λb xs e=>by rw[Ll (Lp (ub.tups b xs e) hD3n)];exact ub.tups b xs e,
     λb o u e=>by rw[Ll (Lp (ub.frzs b o u e) hD3n)];exact ub.frzs b o u e,λb ps e=>by obtain⟨more,q⟩:=ub.tbls b ps e;exact⟨more,by rw[Ll (Lp q hD3n)];exact q⟩⟩
   have hok':wg X.prog X.w (upd H3 D (.lst ys)) s4.heap:=by
    have q:=I5.hok;rw[pr,pw]at q;exact q.adopt hD3n ⟨hlen,its.toList,nD,hv,by simpa using gD'⟩
   have os':=by have q:=I5.os;rw[p0]at q;exact q
   have Iend:=I2.call' os' u' hok' I5.bare λb hb=>⟨(f2 b hb).2.2.2.1,(f2 b hb).2.1,(f2 b hb).2.2.2.2.1,(f2 b hb).2.2.2.2.2⟩
   have hsC:s2.heap.objs.size<=C:=by rw[hz3,hD];exact FO _
   have freeC:upd H3 D (.lst ys) C=none:=by rw[Ll (Aw hDC)];have q:=I5.free;rw[pL]at q;exact q
   have Iend':=Iend.pins_of λp hp=>by
    rcases BF.mp hp with hp | hp
    ·exact Iend.pin p (Ai _ hp)
    ·have e:p=(C,oC):=AI.mp hp;subst e;exact⟨hoC,freeC,BK (AM I2.lt hsC),I2.nofs hsC,λv z=>by rw[show oC.data=Data.cell v from z]at hdC;cases hdC⟩
   exact fin D C oC _ s4 Iend' ⟨m,hns⟩ (Aa I2.sz hsC) (λx c h z=>by obtain⟨v,q⟩:=I2.cell x c h;exact absurd (AM q.lt hsC) (by rw[z];exact A8 _))
    (λp hp z=>by have q:=AJ (I2.pin p hp).1;exact absurd (AM q hsC) (by rw[z];exact A8 _)) (qn D hD3n)
  ·have T':=T.item X' pr pw pK hc' i _ s3 σ3 H3 (λ_ _=>False) I3' (hfpX fr3) st3 go;rw[pA]at T';refine vB T' λr s4 ⟨u,hr,h4'⟩=>?_
   subst hr;refine vB h4' λ_ s5 ⟨x,H5,I5,r5,y5,st5,fr5⟩=>?_
   have I5':=I5.pinned (hfpX fr5) (T.obj _ _ st5);have A1:=hg' _ s5 σ3 H5 x u _ I5' r5 (step x H5 y5);rw[pr,pw,pA]at A1;refine Bd A1 (λ_ s6 ⟨σ6,H6,I6,q6⟩=>?_) xe';have A2:=ht' _ s6 σ6 H6 _ I6 q6;rw[pr,pw,pA]at A2;refine Bd A2 (λb s7 ⟨H7,I7,q7⟩=>?_) xe';have pinD:∀ {σ':St} {H':Hp} {s':Ab},Inv X' ([(D,{ cls:=.type "list",data:=.seq its nD })]++xg fp s5.heap) σ' H' s'->s'.heap.get? D=some { cls:=.type "list",data:=.seq its nD }/\H' D=none/\(∀ b∈fp,∀ o,s5.heap.get? b=some o->s'.heap.get? b=some o/\H' b=none):=λ{σ' H' s'} J=>by
    obtain⟨a1,a2,_⟩:=J.pin (D,_) (Ai _ (Dr _ (AI.mpr rfl)));refine⟨a1,a2,λb hb o e=>?_⟩;obtain⟨b1,b2,_⟩:=J.pin (b,o) (Ai _ (Ai _ (Qi hb e)));exact⟨b1,b2⟩
   have frOf:∀ {σ':St} {H':Hp} {s':Ab},Inv X' ([(D,{ cls:=.type "list",data:=.seq its nD })]++xg fp s5.heap) σ' H' s'->∀ b∈fp,H' b=none:=λ{σ' H' s'} J b hb=>by
    obtain⟨o,e,_⟩:=T.obj _ _ st5 b hb;exact ((pinD J).2.2 b hb o e).2
   have bare:∀ {σ':St} {H':Hp} {s':Ab},Inv X' ([(D,{ cls:=.type "list",data:=.seq its nD })]++xg fp s5.heap) σ' H' s'->Inv X' [] σ' H' s':=λ{σ' H' s'} J=>J.pins_of λp hp=>nomatch hp
   cases b with
   | false =>
    obtain⟨m',hm,w'⟩:=hN ys σ6 H7 q7;exact⟨m',hm,i+1,ys,σ6,H7,its,bare I7,T.keep _ _ _ st5 λb hb o e=>((pinD I7).2.2 b hb o e).1,frOf I7,(pinD I7).2.1,⟨nD,(pinD I7).1⟩,hv,w'⟩
   | true =>
    have A3:=he' _ s7 σ6 H7 _ I7 q7;rw[pr,pw,pA]at A3;refine Bd A3 (λv s8 ⟨x8,H8,I8,r8,q8⟩=>wpAny_list_append_plain (items:=its) ⟨nD,(pinD I8).1⟩ (λh9 hl9 hs9=>?_) (by
     have:its.size=its.toList.length:=by simp
     rw[this,hsizes];exact Dj hlt)) xe'
    obtain⟨m',hm,w'⟩:=hN (ys++[x8]) σ6 H8 q8;have I9:=(bare I8).turned (t':=s8.toks) (λb o hb e=>(hs9.2 b hb).trans e) (pinD I8).2.1 (by rw[pL];exact hDC) (.inr (by rw[p0,hD];exact AL _)) (by rw[pcs];exact hcellD) (λp hp=>by rw[pn0]at hp;exact nomatch hp);refine⟨m',hm,i+1,ys++[x8],σ6,H8,its.push v,I9,T.keep _ _ _ st5 λb hb o e=>(hs9.2 b λz=>hDfp (z ▸ hb)).trans ((pinD I8).2.2 b hb o e).1,frOf I8,(pinD I8).2.1,hl9,?_,w'⟩;rw[Array.toList_push];exact hv.append (.cons r8 .nil)
 rw[← hX']at key;exact codeAny_compStart_list (key _ rfl) (T.self _ 0 _ _ _ (T.keep _ _ _ st2 λb hb o e=>hk4 b o (hk3 b o e)) (key _ rfl))
def iQ(S:wI X N' ix scope)(hc:X.calm=true)(hi:PI X tg iter wi)
  (hg:∀ C cs s H ex,PG (cxC X N' scope C cs s H ex) tg g) (ht:∀ C cs s H ex,PTs (cxC X N' scope C cs s H ex) ifs tc) (he:∀ C cs s H ex,PE (cxC X N' scope C cs s H ex) elt te)
  (hs:∀ x,Cb iter X.env x=pure x:=by intro _;rfl):PE X (.ListComp elt [⟨tg,iter,ifs,0⟩] scope pos) (AAb wi ix g tc te):=by
 intro pins s σ H Q I h;refine T6 S hc hi hg ht he I h (λD C o H' s' I' hns h1 h2 h3 q=>?_) hs;obtain⟨m,hns⟩:=hns;refine⟨m,hns,λh' hs'=>⟨.ref D,H',?_,rfl,q⟩⟩;obtain⟨a1,a2,a3,a4,_⟩:=I'.pin (C,o) (Ai _ (Ai _ (AI.mpr rfl)));exact I'.unpinned.turned (λb u hb e=>(hs'.2 b hb).trans e) a2 a3 (.inr h1) h2 h3
def kr(hN:X.N.Nodup)(hi':X.N[i]?=some x)(hx:Loc X.env.scope x)(S:wI X N' ix scope)(hc:X.calm=true)(hi:PI X tg iter wi)
  (hg:∀ C cs s H ex,PG (cxC X N' scope C cs s H ex) tg g) (ht:∀ C cs s H ex,PTs (cxC X N' scope C cs s H ex) ifs tc) (he:∀ C cs s H ex,PE (cxC X N' scope C cs s H ex) elt te)
  (hsw:D4 (.ListComp elt [⟨tg,iter,ifs,0⟩] scope pos) (some (.Name x pos')) spos.line X.env=pure true:=by rfl)
  (hf:X.fn x=true\/X.env.scope.names.lookup x=some .local:=by first | exact .inl rfl | exact .inr rfl | assumption)
  (hs:∀ x,Cb iter X.env x=pure x:=by intro _;rfl):PS X (.Assign [.Name x pos'] (.ListComp elt [⟨tg,iter,ifs,0⟩] scope pos) spos) (ABe (AAb wi ix g tc te) (zM i)):=by
 intro pins s σ H D I h;rw[exec_Assign_Name_used _ _ _ _ hsw];refine AB (Et (AB (AB (vB (T6 S hc hi hg ht he I h (λE C o H' s' I' hns h1 h2 h3 q=>?_) hs) λ_ s' q=>AF (AF q)))));obtain⟨m,hns⟩:=hns;refine vB ((T7 hN hi' hx hf) _ s' σ H' (.ref E) (.ref E) _ I' rfl q) λ_ s2 ⟨σ2,H2,I2,q2⟩=>?_
 obtain⟨a1,_⟩:=I'.pin (C,o) (Ai _ (Ai _ (AI.mpr rfl)));obtain⟨b1,b2,b3,b4,_⟩:=I2.pin (C,o) (Ai _ (Ai _ (AI.mpr rfl)));refine⟨m,?_,λh' hs'=>⟨σ2,H2,I2.unpinned.turned (λb u hb e=>(hs'.2 b hb).trans e) b2 b3 (.inr h1) h2 h3,q2⟩⟩;obtain⟨oC,es,ep,hoC,r⟩:=hns;have e:=Az (hoC.symm.trans a1);subst e;exact⟨oC,es,ep,b1,r⟩
end
structure wQ(prog:Ah)(w:A5)(it l:Addr)(xs:Array AK)(St:Nat->Heap->Prop):Prop where
 keep:∀ k h h',St k h->(∀ o,h.get? it=some o->h'.get? it=some o)->(∀ o,h.get? l=some o->h'.get? l=some o)->St k h'
 live:∀ k h,St k h->∃ o,h.get? it=some o/\∀ v,o.data≠.cell v
 item:∀ (A:BY) (k:Nat) (s:Ab) (x:AK) (Q:AK->Ab->Prop) (E:AK->Ab->Prop),St k s.heap->xs[k]?=some x ->
  (∀ h',St (k+1) h'->DK it s.heap h'->Q x { s with heap:=h' })->AW (model prog w) A (Aq (.ref it)) Q E s
 fini:∀ (A:BY) (k:Nat) (s:Ab) (Q:AK->Ab->Prop) (E:AK->Ab->Prop),A.handled=none->St k s.heap->xs[k]?=none ->
  (∀ h' e,FI it s.heap h'->(∃ o,h'.get? e=some o/\o.cls=.type "StopIteration")->E (.ref e) { s with heap:=h' })->AW (model prog w) A (Aq (.ref it)) Q E s
section
variable {prog:Ah}{w:A5}{A:BY}{E:AK->Ab->Prop}{s:Ab}
def Mr it l xs (hne:l≠it):wQ prog w it l xs (λk h=>h.IsListIter it l k/\h.IsList l xs) where
 keep:=λk h h' st k1 k2=>⟨st.1.at k1,st.2.at k2⟩
 live:=λk h st=>by obtain⟨⟨o,e,_,d⟩,_⟩:=st;exact⟨o,e,λv z=>by rw[d]at z;cases z⟩
 item:=λA k s x Q E st hx hQ=>wpAny_nextOf_list_item st.1 st.2 hx λh' st' sb=>hQ h' ⟨st',st.2.extBut sb.extBut hne⟩ sb
 fini:=λA k s Q E hh st hx hE=>wpAny_nextOf_list_end hh st.1 st.2 hx hE
def j9(hit:s.heap.IsTupleIter it t i)(ht:s.heap.IsTuple t items)(hx:items[i]?=some x)
  (hQ:∀ h',h'.IsTupleIter it t (i+1)->DK it s.heap h'->Q x { s with heap:=h' }):AW (model prog w) A (Aq (.ref it)) Q E s:=by
 obtain⟨oi,hoi,hci,hdi⟩:=id hit;obtain⟨ot,hot,_,nt,hdt⟩:=ht;unfold Aq;refine AB (Al hit.typeIs DU (As DU hit.typeIs HD ?_ (G4 _)));show AW _ _ (field (.ref it) 0 >>= _) _ _ s;refine AB (Ap hoi hdi (x:=.ref t) rfl ?_);show AW _ _ (field (.ref it) 1 >>= _) _ _ s;refine AB (Ap hoi hdi (x:=.int i 0) rfl ?_);show AW _ _ (J8 (.ref t) >>= _) _ _ s;refine AB (Be hot hdt ?_);simp[ hx];refine AB (K1 hoi hdi ↥1 (AF ⟨x,rfl,AF (hQ _ ⟨_,BM _ hoi (Obj.isFreed_of_fields (IR hdi _)),(Obj.cls_mapFields ..).trans hci,by rw[IR hdi];simp[D5]⟩ (Bo ..))⟩))
def oV(hh:A.handled=none)(hit:s.heap.IsTupleIter it t i)(ht:s.heap.IsTuple t items)(hx:items[i]?=none)
  (hE:∀ h' e,FI it s.heap h'->(∃ o,h'.get? e=some o/\o.cls=.type "StopIteration")->E (.ref e) { s with heap:=h' }):AW (model prog w) A (Aq (.ref it)) Q E s:=by
 obtain⟨oi,hoi,hci,hdi⟩:=id hit;obtain⟨ot,hot,_,nt,hdt⟩:=ht;unfold Aq;refine AB (Al hit.typeIs DU (As DU hit.typeIs HD ?_ (G4 _)));show AW _ _ (field (.ref it) 0 >>= _) _ _ s;refine AB (Ap hoi hdi (x:=.ref t) rfl ?_);show AW _ _ (field (.ref it) 1 >>= _) _ _ s;refine AB (Ap hoi hdi (x:=.int i 0) rfl ?_);show AW _ _ (J8 (.ref t) >>= _) _ _ s;refine AB (Be hot hdt ?_);simp[ hx];refine AB (Cf (AB (K1 hoi hdi ↥1 ?_)));show AW _ _ (newExc (.type "StopIteration") [] >>= _) _ _ _;refine AB ?_;simp[newExc];refine AB (BH ?_ (by size_fits));refine AB (Cc (a:=CB) rfl ?_);refine BH ?_ (by size_fits);simp only[raiseNew];refine AB (Hu ?_);(first | rw[show A.in1.handled=none from hh] | rw[hh]);refine AB (AF (I0 ?_));exact hE _ _ (((Bo ..).extBut.push _).push _) ⟨_,AN _ rfl,rfl⟩
def Mv it l xs (hne:l≠it):wQ prog w it l xs (λk h=>h.IsTupleIter it l k/\h.IsTuple l xs) where
 keep:=λk h h' st k1 k2=>⟨let ⟨o,e,r⟩:=st.1;⟨o,k1 o e,r⟩,let ⟨o,e,r⟩:=st.2;⟨o,k2 o e,r⟩⟩
 live:=λk h st=>by obtain⟨⟨o,e,_,d⟩,_⟩:=st;exact⟨o,e,λv z=>by rw[d]at z;cases z⟩
 item:=λA k s x Q E st hx hQ=>j9 st.1 st.2 hx λh' st' sb=>hQ h' ⟨st',st.2.extBut sb.extBut hne⟩ sb
 fini:=λA k s Q E hh st hx hE=>oV hh st.1 st.2 hx hE
structure zk(z TI TO i1 i2 l1 l2:Addr):Prop where
 a:ZipApart z TI TO i1 i2 l1 l2
 l1TI:l1≠TI
 l2TI:l2≠TI
structure ZSt(z TI TO i1 i2:Addr)(S1 S2:Nat->Heap->Prop)(k:Nat)(f0:AK)(h:Heap):Prop where
 z:HE h z TI TO f0
 ti:CZ h TI (.ref i1) (.ref i2)
 to:∃ a b,CZ h TO a b
 s1:S1 k h
 s2:S2 k h
variable {z TI TO i1 i2 l1 l2:Addr}{S1 S2:Nat->Heap->Prop}{xs ys:Array AK}{k:Nat}
def QP{Q:AK->Ab->Prop}(D:zk z TI TO i1 i2 l1 l2)(D1:wQ prog w i1 l1 xs S1)(D2:wQ prog w i2 l2 ys S2)(st:ZSt z TI TO i1 i2 S1 S2 k .none s.heap)(hx:xs[k]?=some x)(hy:ys[k]?=some y)
  (hQ:∀ h',ZSt z TI TO i1 i2 S1 S2 (k+1) (D5 s.heap.objs.size) h'->CZ h' s.heap.objs.size x y ->
   (∀ c o,c≠z->c≠TO->c≠i1->c≠i2->s.heap.get? c=some o->h'.get? c=some o)->Q (.ref s.heap.objs.size) { s with heap:=h' }) :
  AW (model prog w) A (Builtin.«zip.__next__» ⟨[.ref z],[]⟩) (λfin s'=>∃ v,fin=.done (.ret v)/\Q v s') E s:=by
 obtain⟨hz,hTI,⟨a,b,hTO⟩,st1,st2⟩:=st;obtain⟨⟨TIz,TOz,i1z,i2z,TITO,TIi1,TIi2,TOi1,TOi2,i12,l1z,l1TO,l1i1,l1i2,l2z,l2TO,l2i1,l2i2⟩,_,_⟩:=D;show AW _ _ (field (.ref z) 2 >>= _) _ _ _;refine AB (Ap hz rfl (x:=.bool false) rfl ?_);show AW _ _ (field (.ref z) 3 >>= _) _ _ _;refine AB (Ap hz rfl (x:=.ref TI) rfl (AB (Be hTI rfl ?_)));show AW _ _ (Ba (.ref z) >>= _) _ _ _;refine AB ?_;unfold Ba;refine AB (Ap hz rfl (x:=.none) rfl (AF (AB (Cf (AB (Ap hz rfl (x:=.ref TO) rfl (AB (A6 hz ↥1 λh1 z1 b1=>?_))))))));simp only[if_true];refine AB ?_;simp only[Ik,JA,GT,JH];refine AB (AB (GA ?_));show AW _ _ (Aq (.ref i1) >>= _) _ _ _;refine AB (D1.item _ k _ x _ _ (D1.keep _ _ _ st1 (λo e=>b1.extBut _ _ i1z e) λo e=>b1.extBut _ _ l1z e) hx λh2 t1 b2=>AF ?_);have o2:=b2.extBut _ _ TOi1 (b1.extBut _ _ TOz hTO);refine AB (Be o2 rfl (AB (Fs o2 λh3 o3 b3=>?_)));have o3':CZ h3 TO x b:=o3;refine AB (Ft (AF (AB (AB (GA ?_)))));show AW _ _ (Aq (.ref i2) >>= _) _ _ _;refine AB (D2.item _ k _ y _ _ (D2.keep _ _ _ st2 (λo e=>b3.extBut _ _ TOi2.symm (b2.extBut _ _ i12.symm (b1.extBut _ _ i2z e))) λo e=>b3.extBut _ _ l2TO (b2.extBut _ _ l2i1 (b1.extBut _ _ l2z e))) hy λh4 t2 b4=>AF ?_);have o4:=b4.extBut _ _ TOi2 o3';refine AB (Be o4 rfl (AB (Fs o4 λh5 o5 b5=>?_)));have o5':CZ h5 TO x y:=o5;refine AB (Ft (AF (AF (AB (Be o5' rfl (AB (Ed ?_)))))));have hsz:h5.objs.size=s.heap.objs.size:=by rw[b5.1,b4.1,b3.1,b2.1,b1.1]
 have z5:=b5.extBut _ _ TOz.symm (b4.extBut _ _ i2z.symm (b3.extBut _ _ TOz.symm (b2.extBut _ _ i1z.symm z1)));have k5:∀ c o,c≠z->c≠TO->c≠i1->c≠i2->s.heap.get? c=some o->h5.get? c=some o:=λc o c1 c2 c3 c4 e=>b5.extBut _ _ c2 (b4.extBut _ _ c4 (b3.extBut _ _ c2 (b2.extBut _ _ c3 (b1.extBut _ _ c1 e))))
 have t1':=D1.keep _ _ _ t1 (λo e=>b5.extBut _ _ TOi1.symm (b4.extBut _ _ i12 (b3.extBut _ _ TOi1.symm e))) λo e=>b5.extBut _ _ l1TO (b4.extBut _ _ l1i2 (b3.extBut _ _ l1TO e))
 have t2':=D2.keep _ _ _ t2 (λo e=>b5.extBut _ _ TOi2.symm e) λo e=>b5.extBut _ _ l2TO e
 have hzlt:=AJ z5;show AW _ _ (Ck (.ref z) (.ref h5.objs.size) >>= _) _ _ _;refine AB ?_;unfold Ck;have z6:HE (h5.push { cls:=.type "tuple",data:=.seq #[x,y] }) z TI TO .ellipsis:=AC _ z5;refine AB (A6 z6 ↥1 λh7 z7 b7=>?_);have z7':HE h7 z TI TO (D5 h5.objs.size):=z7;refine A6 z7' ↥1 λh8 z8 b8=>?_
 have z8':HE h8 z TI TO (D5 h5.objs.size):=z8;have up:∀ c o,c≠z->h5.get? c=some o->h8.get? c=some o:=λc o c1 e=>b8.extBut _ _ c1 (b7.extBut _ _ c1 (AC _ e))
 have p8:=b8.extBut _ _ (BK hzlt) (b7.extBut _ _ (BK hzlt) (AN _ rfl));rw[hsz]at z8' p8;refine AF ⟨_,rfl,?_⟩;rw[hsz];have uu:=λc o c1 c2 c3 c4 e=>up c o c1 (k5 c o c1 c2 c3 c4 e)
 exact hQ h8 ⟨z8',uu _ _ TIz TITO TIi1 TIi2 hTI,⟨x,y,up _ _ TOz o5'⟩,D1.keep _ _ _ t1' (λo e=>up _ o i1z e) (λo e=>up _ o l1z e),D2.keep _ _ _ t2' (λo e=>up _ o i2z e) (λo e=>up _ o l2z e)⟩ p8 uu
theorem RV(hh:A.handled=none)(D:zk z TI TO i1 i2 l1 l2)(D1:wQ prog w i1 l1 xs S1)(D2:wQ prog w i2 l2 ys S2)(st:ZSt z TI TO i1 i2 S1 S2 k .none s.heap)(hend:xs[k]?=none\/ys[k]?=none)
  (hE:∀ h' e,(∀ c o,c≠z->c≠TO->c≠i1->c≠i2->s.heap.get? c=some o->h'.get? c=some o)->(∃ o,h'.get? e=some o/\o.cls=.type "StopIteration")->E (.ref e) { s with heap:=h' }) :
  AW (model prog w) A (Builtin.«zip.__next__» ⟨[.ref z],[]⟩) Q E s:=by
 obtain⟨hz,hTI,⟨a,b,hTO⟩,st1,st2⟩:=st;obtain⟨⟨TIz,TOz,i1z,i2z,TITO,TIi1,TIi2,TOi1,TOi2,i12,l1z,l1TO,l1i1,l1i2,l2z,l2TO,l2i1,l2i2⟩,_,_⟩:=D;show AW _ _ (field (.ref z) 2 >>= _) _ _ _;refine AB (Ap hz rfl (x:=.bool false) rfl ?_);show AW _ _ (field (.ref z) 3 >>= _) _ _ _;refine AB (Ap hz rfl (x:=.ref TI) rfl (AB (Be hTI rfl ?_)));show AW _ _ (Ba (.ref z) >>= _) _ _ _;refine AB ?_;unfold Ba;refine AB (Ap hz rfl (x:=.none) rfl (AF (AB (Cf (AB (Ap hz rfl (x:=.ref TO) rfl (AB (A6 hz ↥1 λh1 z1 b1=>?_))))))));simp only[if_true];have z1':HE h1 z TI TO .ellipsis:=z1;refine AB ?_;simp only[Ik,JA,GT,JH];refine AB (AB (GA ?_));show AW _ _ (Aq (.ref i1) >>= _) _ _ _;have s1':=D1.keep _ _ _ st1 (λo e=>b1.extBut _ _ i1z e) λo e=>b1.extBut _ _ l1z e
 cases hx:xs[k]? with
 | none =>
  refine AB (D1.fini _ k _ _ _ hh s1' hx λh2 e b2 he=>?_);obtain⟨oe,hoe,hce⟩:=he;have z2:=b2 _ _ i1z.symm z1';have ez:e≠z:=λq=>by subst q;rw[z2]at hoe;cases hoe;simp at hce
  exact A6 z2 ↥1 λh3 _ b3=>hE h3 e (λc o c1 _ c3 _ q=>b3.extBut _ _ c1 (b2 _ _ c3 (b1.extBut _ _ c1 q))) ⟨oe,b3.extBut _ _ ez hoe,hce⟩
 | some x =>
  have hy:ys[k]?=none:=by rcases hend with q | q;(rw[hx]at q;cases q);exact q
  refine AB (D1.item _ k _ x _ _ s1' hx λh2 t1 b2=>AF ?_);have o2:=b2.extBut _ _ TOi1 (b1.extBut _ _ TOz hTO);refine AB (Be o2 rfl (AB (Fs o2 λh3 o3 b3=>?_)));refine AB (Ft (AF (AB (AB (GA ?_)))));show AW _ _ (Aq (.ref i2) >>= _) _ _ _;refine AB (D2.fini _ k _ _ _ hh (D2.keep _ _ _ st2 (λo e=>b3.extBut _ _ TOi2.symm (b2.extBut _ _ i12.symm (b1.extBut _ _ i2z e))) λo e=>b3.extBut _ _ l2TO (b2.extBut _ _ l2i1 (b1.extBut _ _ l2z e))) hy λh4 e b4 he=>?_);obtain⟨oe,hoe,hce⟩:=he;have z4:=b4 _ _ i2z.symm (b3.extBut _ _ TOz.symm (b2.extBut _ _ i1z.symm z1'));have ez:e≠z:=λq=>by subst q;rw[z4]at hoe;cases hoe;simp at hce
  exact A6 z4 ↥1 λh5 _ b5=>hE h5 e (λc o c1 c2 c3 c4 q=>b5.extBut _ _ c1 (b4 _ _ c4 (b3.extBut _ _ c2 (b2.extBut _ _ c3 (b1.extBut _ _ c1 q))))) ⟨oe,b5.extBut _ _ ez hoe,hce⟩
end
def Sq (b:Bool) (K:AY) (H:Hp) (a:Addr) (xs:List V):Prop:=if b then wo K H a xs else vz K H a xs
def SIt (b:Bool) (it l:Addr) (k:Nat) (h:Heap):Prop:=if b then h.IsTupleIter it l k else h.IsListIter it l k
def SOb (b:Bool) (l:Addr) (its:Array AK) (h:Heap):Prop:=if b then h.IsTuple l its else h.IsList l its
theorem SIt.keep(st:SIt b it l k h)(e:∀ o,h.get? it=some o->h'.get? it=some o):SIt b it l k h':=by
 cases b with
 | false=>exact st.at e
 | true=>obtain⟨o,q,r⟩:=st;exact⟨o,e o q,r⟩
theorem SIt.live(st:SIt b it l k h):∃ o,h.get? it=some o/\∀ v,o.data≠.cell v:=by
 cases b with
 | false | true=>obtain⟨o,q,_,d⟩:=st;exact⟨o,q,λv z=>by rw[d]at z;cases z⟩
theorem NR b it l xs (hne:l≠it):wQ prog w it l xs (λk h=>SIt b it l k h/\SOb b l xs h):=by
 cases b with
 | false=>exact Mr it l xs hne
 | true=>exact Mv it l xs hne
section
variable {X:Cx}{pins:List (Addr×Obj)}{σ:St}{H:Hp}{s:Ab}
theorem Inv.sq(I:Inv X pins σ H s)(h:Sq b X.K H a xs):∃ its,uU xs its/\SOb b a its.toArray s.heap/\xs.length<=AD:=by
 cases b with
 | false=>obtain⟨its,r,p,z⟩:=I.list h;exact⟨its,r,p.isList,z⟩
 | true=>obtain⟨its,r,p,z⟩:=I.tuple h;exact⟨its,r,p,z⟩
theorem Inv.sq_inj(I:Inv X pins σ H s)(h:Sq b X.K H a xs)(h':Sq b X.K H a ys):xs=ys:=by
 cases b with
 | false=>exact I.list_inj h h'
 | true=>exact I.tuple_inj h h'
end
def Itz (b:Bool) (K:AY) (a1 a2:Addr):It:=
 ⟨λi H=>∃ xs ys x y,Sq b K H a1 xs/\Sq b K H a2 ys/\xs[i]?=some x/\ys[i]?=some y,
  λi H v H'=>∃ T x y,v=.ref T/\H T=none/\H'=upd H T (.tup [x,y])/\(∀ xs,Sq b K H a1 xs->xs[i]?=some x)/\∀ ys,Sq b K H a2 ys->ys[i]?=some y,
  λi H=>∃ xs ys,Sq b K H a1 xs/\Sq b K H a2 ys/\(xs.length<=i\/ys.length<=i)⟩
structure ZTn(b:Bool)(z TI TO i1 i2 a1 a2:Addr)(k:Nat)(h:Heap):Prop where
 z:HE h z TI TO .none
 ti:CZ h TI (.ref i1) (.ref i2)
 to:∃ a b,CZ h TO a b
 s1:SIt b i1 a1 k h
 s2:SIt b i2 a2 k h
def i8{P:Ah}{w:A5}{K:AY}{elts:List Expr}{x1:Nat}{tp:Pos}(b:Bool){z TI TO i1 i2 a1 a2:Addr}(D:zk z TI TO i1 i2 a1 a2) :
  AAf P w K (.Tuple elts x1 tp) (Itz b K a1 a2) [z,TI,TO,i1,i2] z (ZTn b z TI TO i1 i2 a1 a2) where
 mem:=by simp
 obj:=λi h st c hc=>by
  simp only[AR,Bp,or_false]at hc;rcases hc with e | e | e | e | e
  ·exact⟨_,e ▸ st.z,λv z=>by cases z⟩
  ·exact⟨_,e ▸ st.ti,λv z=>by cases z⟩
  ·obtain⟨a,b,q⟩:=st.to;exact⟨_,e ▸ q,λv z=>by cases z⟩
  ·obtain⟨o,q,d⟩:=st.s1.live;exact⟨o,e ▸ q,d⟩
  ·obtain⟨o,q,d⟩:=st.s2.live;exact⟨o,e ▸ q,d⟩
 keep:=λi h h' st k=>⟨k z ↥1 _ st.z,k TI ↥1 _ st.ti,(let ⟨a,b,q⟩:=st.to;⟨a,b,k TO ↥1 _ q⟩),st.s1.keep λo e=>k i1 ↥1 o e,st.s2.keep λo e=>k i2 ↥1 o e⟩
 item:=by
  intro X hP hw hK hc i pins s σ H E I hf st hg;subst hP hw hK;obtain⟨xs,ys,x,y,h1,h2,hx,hy⟩:=hg;obtain⟨its1,v1,o1,z1⟩:=I.sq h1;obtain⟨its2,v2,o2,z2⟩:=I.sq h2;obtain⟨u1,e1,r1⟩:=v1.get hx;obtain⟨u2,e2,r2⟩:=v2.get hy;have hT:s.TypeIs (.ref z) "zip":=⟨_,st.z,rfl⟩
  have nH:∀ c∈[z,TI,TO,i1,i2],H c=none:=λc hc=>(hf c hc).1
  unfold Dl;refine AB (Bf (Al (name:=F3 "__next__") hT Bc (As Bc hT DX
   (QP D (NR b i1 a1 its1.toArray D.a.l1i1) (NR b i2 a2 its2.toArray D.a.l2i2) ⟨st.z,st.ti,st.to,⟨st.s1,o1⟩,⟨st.s2,o2⟩⟩ (by simpa using e1) (by simpa using e2) λh' st' hp hk=>AF ?_) (DB _))))
  refine⟨_,rfl,?_⟩;have fT:H s.heap.objs.size=none:=I.hok.fresh (AL _);have hk':∀ c o,c∉[z,TO,i1,i2]->s.heap.get? c=some o->h'.get? c=some o:=λc o hc e=>by
   simp only[AR,Bp,or_false,not_or]at hc;exact hk c o hc.1 hc.2.1 hc.2.2.1 hc.2.2.2 e
  have sub:∀ c∈[z,TO,i1,i2],c∈[z,TI,TO,i1,i2]:=λc hc=>by
   simp only[AR,Bp,or_false]at hc ⊢;rcases hc with e | e | e | e <;> simp[e]
  have trk:∀ c u,H c=some u->c∉[z,TO,i1,i2]:=λc u e hc=>by rw[nH c (sub c hc)]at e;cases e
  have nT:∀ c o,s.heap.get? c=some o->c≠s.heap.objs.size:=λc o e=>AZ (AJ e)
  have hok1:wg X.prog X.w H h':=λc u e=>(I.hok c u e).stay (λd v hd q=>hk' d v (by
   rcases hd with rfl | hd
   ·exact trk d u e
   ·exact trk d _ hd) q) (λ_ q=>q) λ_ _ q=>q
  have I1:Inv X pins σ (upd H s.heap.objs.size (.tup [x,y])) { s with heap:=h',toks:=s.toks }:=by
   refine I.step (g':=s.gens) (d':=s.drawn) (t':=s.toks) (ch:=[z,TO,i1,i2]) (λc hc=>?_) (λc o _ _ hc e _=>hk' c o hc e) (λc o _ _ hc e _=>⟨o.slots,hk' c o hc e⟩)
    (λc o _ e n=>by rw[Ll (nT c o e)];exact n) (λc o hc e=>⟨o,hk' c o hc e⟩) (λc xs e=>by rw[Ll (Lp e fT)];exact e) (λc o u e=>by rw[Ll (Lp e fT)];exact e)
    (λc ps e=>⟨#[],by rw[Ll (Lp e fT),e];simp⟩) (λm hm=>?_) (hok1.adopt fT ⟨by show 2<=AD;decide,[u1,u2],.cons r1 (.cons r2 .nil),_,hp,rfl,⟨0,rfl⟩,rfl⟩) I.bare
   ·obtain⟨_,f1,f2,f3,f4,f5⟩:=hf c (sub c hc);exact⟨f3,f1,f4,f5⟩
   ·obtain⟨o,es,ep,ho,r⟩:=hm;exact⟨o,es,ep,hk' _ o (λhc=>(hf _ (sub _ hc)).2.1 rfl) ho,r⟩
  refine wpAny_letOwnedTupleGo_zip st'.z λh9 hz2 hs2=>?_
  obtain⟨_,f1,f2,f3,f4,f5⟩:=hf z ↥1;have nz:upd H s.heap.objs.size (.tup [x,y]) z=none:=by rw[Ll (nT z _ st.z)];exact nH z ↥1
  have I2:Inv X pins σ (upd H s.heap.objs.size (.tup [x,y])) { s with heap:=h9,toks:=s.toks }:=by
   have q:=I1.turned (h':=h9) (t':=s.toks) (it:=z) (λc o hc e=>(hs2.2 c hc).trans e) nz f1 f3 f4 f5;exact q
  refine⟨.ref s.heap.objs.size,_,I2,rfl,⟨s.heap.objs.size,x,y,rfl,fT,rfl,λxs' q=>by rw[I.sq_inj q h1];exact hx,λys' q=>by rw[I.sq_inj q h2];exact hy⟩,?_,λc hc=>?_⟩
  ·have up:∀ c o,c≠z->h'.get? c=some o->h9.get? c=some o:=λc o hc e=>(hs2.2 c hc).trans e
   exact⟨hz2,up _ _ D.a.TIz st'.ti,(let ⟨a,b,q⟩:=st'.to;⟨a,b,up _ _ D.a.TOz q⟩),st'.s1.1.keep λo e=>up _ o D.a.i1z e,st'.s2.1.keep λo e=>up _ o D.a.i2z e⟩
  ·obtain⟨o,e,_⟩:∃ o,s.heap.get? c=some o/\True:=by
    simp only[AR,Bp,or_false]at hc;rcases hc with e | e | e | e | e
    ·exact⟨_,e ▸ st.z,trivial⟩
    ·exact⟨_,e ▸ st.ti,trivial⟩
    ·obtain⟨a,b,q⟩:=st.to;exact⟨_,e ▸ q,trivial⟩
    ·obtain⟨o,q,d⟩:=st.s1.live;exact⟨o,e ▸ q,trivial⟩
    ·obtain⟨o,q,d⟩:=st.s2.live;exact⟨o,e ▸ q,trivial⟩
   rw[Ll (nT c o e)];exact nH c hc
 done:=by
  intro X hP hw hK hc i pins s σ H E I hf st hg;subst hP hw hK;obtain⟨xs,ys,h1,h2,hl⟩:=hg;obtain⟨its1,v1,o1,z1⟩:=I.sq h1;obtain⟨its2,v2,o2,z2⟩:=I.sq h2;have l1:=v1.length;have l2:=v2.length;have hT:s.TypeIs (.ref z) "zip":=⟨_,st.z,rfl⟩
  unfold Dl;refine AB (Bf (Al (name:=F3 "__next__") hT Bc (As Bc hT DX
   (RV (I.ok.hd hc) D (NR b i1 a1 its1.toArray D.a.l1i1) (NR b i2 a2 its2.toArray D.a.l2i2) ⟨st.z,st.ti,st.to,⟨st.s1,o1⟩,⟨st.s2,o2⟩⟩
    (hl.imp (λq=>by simp;lia) λq=>by simp;lia) λh' e hk he=>?_) (DB _))))
  obtain⟨o,ho,hcl⟩:=he;refine AB (Bh (T:="StopIteration") (b:=true) ⟨o,ho,hcl⟩ Cp (AF ⟨rfl,?_⟩));have hk':∀ c o,c∉[z,TO,i1,i2]->s.heap.get? c=some o->h'.get? c=some o:=λc o hc e=>by
   simp only[AR,Bp,or_false,not_or]at hc;exact hk c o hc.1 hc.2.1 hc.2.2.1 hc.2.2.2 e
  have sub:∀ c∈[z,TO,i1,i2],c∈[z,TI,TO,i1,i2]:=λc hc=>by
   simp only[AR,Bp,or_false]at hc ⊢;rcases hc with e | e | e | e <;> simp[e]
  have trk:∀ c u,H c=some u->c∉[z,TO,i1,i2]:=λc u e hc=>by rw[(hf c (sub c hc)).1]at e;cases e
  refine I.step (g':=s.gens) (d':=s.drawn) (t':=s.toks) (ch:=[z,TO,i1,i2]) (λc hc=>?_) (λc o _ _ hc e _=>hk' c o hc e) (λc o _ _ hc e _=>⟨o.slots,hk' c o hc e⟩)
   (λc o _ e n=>n) (λc o hc e=>⟨o,hk' c o hc e⟩) (λc xs e=>e) (λc o u e=>e) (λc ps e=>⟨#[],by rw[e];simp⟩) (λm hm=>?_) (λc u e=>(I.hok c u e).stay (λd v hd q=>hk' d v (by
    rcases hd with rfl | hd
    ·exact trk d u e
    ·exact trk d _ hd) q) (λ_ q=>q) λ_ _ q=>q) I.bare
  ·obtain⟨_,f1,f2,f3,f4,f5⟩:=hf c (sub c hc);exact⟨f3,f1,f4,f5⟩
  ·obtain⟨o,es,ep,ho,r⟩:=hm;exact⟨o,es,ep,hk' _ o (λhc=>(hf _ (sub _ hc)).2.1 rfl) ho,r⟩
 self:=λ_ _ _ _ _ st h=>FB st.z h
section
variable {prog:Ah}{w:A5}{A:BY}{E:AK->Ab->Prop}{s:Ab}
abbrev QB (h:Heap) (l1:Addr):Heap:=h.push { cls:=.type "tuple_iterator",data:=.fields #[.ref l1,.int 0 0] }
abbrev Pv (h:Heap) (l1 l2:Addr):Heap:=(QB h l1).push { cls:=.type "tuple_iterator",data:=.fields #[.ref l2,.int 0 0] }
abbrev Q9 (h:Heap) (l1 l2:Addr):Heap:=(Pv h l1 l2).push { cls:=.type "tuple",data:=.seq #[.ref h.objs.size,.ref (QB h l1).objs.size] }
abbrev Nn (h:Heap) (l1 l2:Addr):Heap:=(Q9 h l1 l2).push { cls:=.type "tuple",data:=.seq #[.none,.none] }
abbrev Ri (h:Heap) (l1 l2:Addr):Heap:=(Nn h l1 l2).push { cls:=.type "zip",data:=.fields #[.none,.bool false,.bool false,.ref (Pv h l1 l2).objs.size,.ref (Q9 h l1 l2).objs.size] }
def Y0 l1 l2 xs ys :
  Iz (Builtin.«zip.__new__» ⟨[.type "zip",.ref l1,.ref l2],[]⟩) (λ_ R s=>s.heap.IsTuple l1 xs/\s.heap.IsTuple l2 ys/\R (.ok (.ret (.ref (Nn s.heap l1 l2).objs.size))) { s with heap:=Ri s.heap l1 l2 }):=
 .of_wp λprog w A R s h=>by
  obtain⟨hp,g,d,tk,os⟩:=s;obtain⟨hl1,hl2,h⟩:=h;have sub0:=sub_zip;have T1:=hl1;have T2:Heap.IsTuple (Shared.heap ⟨hp.push { cls:=.type "tuple_iterator",data:=.fields #[.ref l1,.int 0 0] },g,d,tk,os⟩) l2 ys:=Ki hl2 _
  wp_walk using Cy T1,Cy T2
  exact⟨_,rfl,h⟩
def Rl(hl1:s.heap.IsTuple l1 xs)(hl2:s.heap.IsTuple l2 ys)
  (h:∀ h',ZTn true (s.heap.objs.size+4) (s.heap.objs.size+2) (s.heap.objs.size+3) s.heap.objs.size (s.heap.objs.size+1) l1 l2 0 h'->(∀ c o,s.heap.get? c=some o->h'.get? c=some o)->Q (.ref (s.heap.objs.size+4)) { s with heap:=h' }) :
  AW (model prog w) A (call (.type "zip") [.ref l1,.ref l2]) Q E s:=by
 refine FR F.called_zip ∅ (F.typeCall_zip_2 _ _) (F.newCall_zip_2 _ _) (λobj=>F.args_object_init_3 obj _ _) F.entry_zip_new (Y0 l1 l2 xs ys) ⟨hl1,hl2,?_⟩;have z1:(QB s.heap l1).objs.size=s.heap.objs.size+1:=BW ..;have z2:(Pv s.heap l1 l2).objs.size=s.heap.objs.size+2:=by rw[BW,z1]
 have z3:(Q9 s.heap l1 l2).objs.size=s.heap.objs.size+3:=by rw[BW,z2]
 have z4:(Nn s.heap l1 l2).objs.size=s.heap.objs.size+4:=by rw[BW,z3]
 have up:∀ c o,(Nn s.heap l1 l2).get? c=some o->(Ri s.heap l1 l2).get? c=some o:=λc o e=>AC _ e
 have g5:(Ri s.heap l1 l2).get? (Nn s.heap l1 l2).objs.size=some _:=AN _ rfl;have g4:=up _ _ (AN _ rfl);have g3:=up _ _ (AC _ (AN _ rfl));have g2:=up _ _ (AC _ (AC _ (AN _ rfl)));rw[z2,z3,z4]at g5;rw[z1,z2]at g3;rw[z3]at g4;rw[z1]at g2;rw[z4];exact⟨⟨_,g5,rfl⟩,h _ ⟨g5,g3,⟨_,_,g4⟩,⟨_,(up _ _ (AC _ (AC _ (AC _ (AN _ rfl))))),rfl,rfl⟩,⟨_,g2,rfl,rfl⟩⟩ λc o x=>up _ _ (AC _ (AC _ (AC _ (AC _ x))))⟩
end
open AutoSeq1 (wpAny_loadPart')
def yu (lo:Int) (n:Nat):List V:=(AE n).map λ(i:Nat)=>V.int (lo+(i:Int))
def Qc lo n:(yu lo n).length=n:=by simp[yu]
theorem VJ{lo n acc}(h:FT (λi v=>∃ t,v=.int (lo+i * 1) t) acc n):uU (yu lo n) acc.toList:=by
 obtain⟨hn,hi⟩:=h;have key:∀ xs us,xs.length=us.length->(∀ (i:Nat) x u,xs[i]?=some x->us[i]?=some u->RelV x u)->uU xs us:=by
  intro xs;induction xs with
  | nil=>intro us hl _;cases us with
   | nil=>exact .nil
   | cons _ _=>cases hl
  | cons x xs ih=>intro us hl hr;cases us with
   | nil=>cases hl
   | cons u us=>exact .cons (hr 0 x u rfl rfl) (ih us (by simpa using hl) λi y v e1 e2=>hr (i+1) y v ‹_› ‹_›)
 refine key _ _ (by rw[Qc];simp[hn]) λi x u e1 e2=>?_
 unfold yu at e1;rw[Ag]at e1;cases e3:(AE n)[i]? with
 | none=>rw[e3]at e1;cases e1
 | some j =>
  rw[e3]at e1;have hj:j=i/\i < n:=by
   obtain⟨h1,h2⟩:=Af.mp e3;rw[List.getElem_range]at h2;exact⟨h2.symm,by simpa using h1⟩
  obtain⟨rfl,hjn⟩:=hj;have e1':=(Az e1).symm;subst e1';obtain⟨t,ht⟩:=hi j u (by simpa using e2);exact⟨t,by rw[ht];simp⟩
section
variable {prog:Ah}{w:A5}{A:BY}{E:AK->Ab->Prop}{s:Ab}
theorem kA{r a b c t u v}{n:Nat}(hh:A.handled=none)(hr:IsRange s.heap r a b c t u v)(hsmall:Ee a b c=true)(hn:CK a b c=n)(hlen:n<=2 ^ 24)
  (hQ:∀ h' tk acc,(∀ b o,s.heap.get? b=some o->h'.get? b=some o)->FT (λi v=>∃ t,v=.int (a+i * c) t) acc n->Q acc.toList { s with heap:=h',toks:=tk }) :
  AW (model prog w) A (collect (.ref r)) Q E s:=by
 refine AB (wpAny_runValue (Dg F.entry_proto_collect ?_));rw[Dq F.plain_proto_collect _];refine AB (BH (AF ⟨DC JI _,Dg F.entry_list_iadd ?_⟩));rw[Dq JI _];have hS:(s.heap.push { cls:=.type "list",data:=.seq [].toArray }).get? s.heap.objs.size=some { cls:=.type "list",data:=.seq [].toArray }:=AN _ rfl;have hr2:IsRange (s.heap.push { cls:=.type "list",data:=.seq [].toArray }) r a b c t u v:=AC _ hr;let RR:Result->Ab->Prop:=λr s'=>match r with
  | .ok (.ret v)=>v=.ref s.heap.objs.size/\∃ h' tk acc c',s'={ s with heap:=h',toks:=tk }/\(∀ b o,s.heap.get? b=some o->h'.get? b=some o)/\h'.get? s.heap.objs.size=some { cls:=.type "list",dict:=none,data:=.seq acc c',slots:=#[] }/\FT (λi v=>∃ t,v=.int (a+i * c) t) acc n
  | _=>False
 have go:∀ v s',RR (.ok (.ret v)) s'->AW (model prog w) A (match v with | .ref a=>(do match (← load a).data with | .seq xs _=>pure xs.toList | _=>unsupported "internal:collect") | _=>unsupported "internal:collect") Q E s':=λv s' hR=>by
  obtain⟨rfl,h',tk,acc,c',rfl,hk,hS',hacc⟩:=hR;exact AB (wpAny_load hS' (AF (hQ h' tk acc hk hacc)))
 have base:=wpAny_extend_range (prog:=prog) (w:=w) (R:=RR) (s:={ s with heap:=s.heap.push { cls:=.type "list",data:=.seq [].toArray } }) hh hr2 hsmall hn hlen _ (.ref s.heap.objs.size) _ hS λh' tk acc' c' hk hS' hacc =>
  ⟨rfl,h',tk,acc',c',rfl,λb o e=>hk b o (AZ (AJ e)) (AC _ e),hS',hacc⟩
 refine Bd base (λfin s' h=>?_) (λe s' h=>CU h);cases fin with
 | done f=>cases f with
  | ret v=>exact go v s' h
  | next | brk | cont=>exact CU h
 | again c' =>
  refine⟨h.1,ER h.2 λr s'' hr=>?_⟩;cases r with
  | error e=>exact CU hr
  | ok f=>cases f with
   | ret v=>exact go v s'' hr
   | next | brk | cont=>exact CU hr
def bN(r:Addr){a b c:Int}{t u v:Tok}{n:Nat}(hsmall:Ee a b c=true)(hn:CK a b c=n)(hlen:n<=2 ^ 24) :
  Iz (Builtin.«tuple.__new__» ⟨[.type "tuple",.ref r],[]⟩) (λA R s=>A.handled=none/\s.heap.get? r=some { cls:=.type "range",data:=.fields #[.int a t,.int b u,.int c v] }/\∀ (h':Heap) (tk:Nat) (acc:Array AK),(∀ b o,s.heap.get? b=some o->h'.get? b=some o) ->
   FT (λi v=>∃ t,v=.int (a+i * c) t) acc n->R (.ok (.ret (.ref h'.objs.size))) { s with heap:=h'.push { cls:=.type "tuple",data:=.seq acc },toks:=tk }):=
 .of_wp λprog w A R s h=>by
  obtain⟨hh,hr,h⟩:=h;have s1:=sub_tuple_self;have s2:=init_tuple_lookup;have s3:=madeHere_tuple;have hT:s.TypeIs (.ref r) "range":=⟨_,hr,rfl⟩
  have hh1:A.in1.handled=none:=hh;have hr':=hr
  wp_walk using Da hT,kA hh1 hr' hsmall hn hlen
  intro h' tk acc hk hacc;show AW _ _ (Fu acc.toList.toArray >>= λv=>ret v) _ _ _;unfold Fu;refine AB (BH ?_ (show acc.toList.toArray.size<=AD by simp only[Array.toArray_toList];rw[hacc.1,BQ];omega));refine AF ⟨_,rfl,?_⟩;exact h h' tk acc hk hacc
def Y9{r a b c t u v}{n:Nat}(hh:A.handled=none)(hr:s.heap.get? r=some { cls:=.type "range",data:=.fields #[.int a t,.int b u,.int c v] })(hsmall:Ee a b c=true)
  (hn:CK a b c=n) (hlen:n<=2 ^ 24)
  (h:∀ (h':Heap) tk acc,(∀ b o,s.heap.get? b=some o->h'.get? b=some o)->FT (λi v=>∃ t,v=.int (a+i * c) t) acc n->Q (.ref h'.objs.size) { s with heap:=h'.push { cls:=.type "tuple",data:=.seq acc },toks:=tk }) :
  AW (model prog w) A (call (.type "tuple") [.ref r]) Q E s:=
 FR F.called_tuple ∅ (F.typeCall_tuple_1 _) (F.newCall_tuple_1 _) (λobj=>D6 obj _) F.entry_tuple_new (bN r hsmall hn hlen) ⟨hh,hr,λh' tk acc hk hacc=>⟨⟨_,AN _ rfl,rfl⟩,h h' tk acc hk hacc⟩⟩
end
section
variable {X:Cx}
def Xf:vF X (.type "range") (λxs H Q=>∃ j,xs=[.int j]/\∀ p,H p=none->Q (.ref p) (upd H p (.rng 0 j))):=by
 intro pins s σ H xs us Q I r h;obtain⟨j,rfl,q⟩:=h;obtain⟨u,rfl,t,rfl⟩:=vals1 r;refine La ⟨.ref s.heap.objs.size,_,I.laid (λb o e=>AC _ e) (AL _) (show uy X.prog X.w _ _ _ (.rng 0 j) from ⟨_,_,_,AN _ rfl⟩),rfl,q _ (I.hok.fresh (AL _))⟩
def fN:vF X (.type "range") (λxs H Q=>∃ i j,xs=[.int i,.int j]/\∀ p,H p=none->Q (.ref p) (upd H p (.rng i j))):=by
 intro pins s σ H xs us Q I r h;obtain⟨i,j,rfl,q⟩:=h;obtain⟨u,u',rfl,⟨t,rfl⟩,⟨t',rfl⟩⟩:=vals2 r;refine Lb ⟨.ref s.heap.objs.size,_,I.laid (λb o e=>AC _ e) (AL _) (show uy X.prog X.w _ _ _ (.rng i j) from ⟨_,_,_,AN _ rfl⟩),rfl,q _ (I.hok.fresh (AL _))⟩
def rsz{lo hi}:CK lo hi 1=(((hi - lo).toNat:Nat):Int):=by rw[LB];split <;> omega
def lG(hc:X.calm=true):vF X (.type "list") (λxs H Q=>∃ p lo hi,xs=[.ref p]/\H p=some (.rng lo hi)/\(-(2 ^ 62)<=lo/\lo < 2 ^ 62/\-(2 ^ 62)<=hi/\hi < 2 ^ 62)/\(hi - lo).toNat<=2 ^ 24/\∀ l,H l=none->Q (.ref l) (upd H l (.lst (yu lo (hi - lo).toNat)))):=by
 intro pins s σ H xs us Q I r h;obtain⟨p,lo,hi,rfl,hp,⟨b1,b2,b3,b4⟩,hl,q⟩:=h;obtain⟨u,rfl,rfl⟩:=vals1 r;obtain⟨t,t',t'',ho⟩:=(I.hok p _ hp)
 exact call_list_range (I.ok.hd hc) ho (Jr b1 b2 b3 b4) rsz hl λh' tk acc c' hk e hacc=>⟨.ref s.heap.objs.size,_,I.laid hk (AL _) (show uy X.prog X.w _ h' _ (.lst _) from ⟨by rw[Qc,BQ];omega,acc.toList,c',VJ hacc,by simpa using e⟩),rfl,q _ (I.hok.fresh (AL _))⟩
def bW(hc:X.calm=true):vF X (.type "tuple") (λxs H Q=>∃ p lo hi,xs=[.ref p]/\H p=some (.rng lo hi)/\(-(2 ^ 62)<=lo/\lo < 2 ^ 62/\-(2 ^ 62)<=hi/\hi < 2 ^ 62)/\(hi - lo).toNat<=2 ^ 24/\∀ l,H l=none->Q (.ref l) (upd H l (.tup (yu lo (hi - lo).toNat)))):=by
 intro pins s σ H xs us Q I r h;obtain⟨p,lo,hi,rfl,hp,⟨b1,b2,b3,b4⟩,hl,q⟩:=h;obtain⟨u,rfl,rfl⟩:=vals1 r;obtain⟨t,t',t'',ho⟩:=(I.hok p _ hp)
 refine Y9 (I.ok.hd hc) ho (Jr b1 b2 b3 b4) rsz hl λh' tk acc hk hacc=>?_
 have I1:Inv X pins σ H { s with heap:=h',toks:=tk }:=I.kept hk;exact⟨.ref h'.objs.size,_,I1.laid (λb o e=>AC _ e) (AL _) (show uy X.prog X.w _ _ _ (.tup _) from ⟨by rw[Qc,BQ];omega,acc.toList,VJ hacc,by simpa using ye.new h' acc⟩),rfl,q _ (I1.hok.fresh (AL _))⟩
theorem jv:∀ {us},uU (bs.map V.bl) us->LSm.BoolsAre us bs:=by
 induction bs with
 | nil=>intro us h;cases h;exact .nil
 | cons b bs ih=>intro us h;cases h with
  | cons r t=>cases r;exact .cons b (ih t)
def eJ(hc:X.calm=true):vF X (.builtin "all") (λxs H Q=>∃ (p:Addr) (bs:List Bool),xs=[.ref p]/\vz X.K H p (bs.map V.bl)/\Q (.bl (bs.all id)) H):=by
 intro pins s σ H xs us Q I r h;obtain⟨p,bs,rfl,hq,q⟩:=h;obtain⟨u,rfl,rfl⟩:=vals1 r;obtain⟨its,rv,pl,hz⟩:=I.list hq;have hb:=jv rv;have hl:=pl.isList;have hlt:p < s.heap.objs.size:=by obtain⟨_,e,_⟩:=hl;exact AJ e
 refine call_all_walk (Gh hl ⟨s.heap.objs.size,[s.heap.objs.size,p],[s.heap.objs.size],its.toArray.size,_,_,λi=>(bs[i]?).getD true,rfl,J9 (A:=X.A.in1) (I.ok.hd hc) _ p (AZ hlt) its.toArray,⟨⟨_,AN _ rfl,rfl,rfl⟩,hl.push _⟩,λi v s' Q' E' hP hQ=>?_,λh' tk hk=>?_⟩)
 ·obtain⟨b,e,rfl⟩:=hb.get i v (by simpa using hP);simp[e]at hQ;exact B7 hQ
 ·have e:((AE its.toArray.size).all λi=>(bs[i]?).getD true)=bs.all id:=by rw[Ae,hb.length];exact LSm.range_all bs
  rw[e];exact⟨.bl (bs.all id),H,I.kept (HR hk),rfl,q⟩
end
def fV t items n dd sl x (e:AK->Bool) (j:Nat) hj (hit:e items[j]=true) (hno:∀ m hm,m < j->e items[m]=false) :
  Iz (Builtin.«tuple.index» ⟨[.ref t,x],[]⟩) (λA R s=>s.heap.get? t=some { cls:=.type "tuple",dict:=dd,data:=.seq items n,slots:=sl }/\(∀ y,y∈items->Gd A.in1 s y x (e y))/\R (.ok (.ret (.int j s.toks))) { s with toks:=s.toks+1 }):=
 .of_wp λprog w A R s h=>by
  obtain⟨hp,g,d,tk,os⟩:=s;obtain⟨hl,he,h⟩:=h
  wp_walk using HP hl
  show AW _ _ (forIn [:min items.size items.size] (none,()) _) _ _ _;rw[JJ];refine J0 _ (λrest b s'=>b=(none,())/\s'=⟨hp,g,d,tk,os⟩/\∃ i,i<=j/\rest=Dt i (items.size - i) 1) _ ?_ ?_ _ _ ?_
  ·rintro i rest b s' ⟨rfl,rfl,k,hk,hr⟩;have hlt:k < items.size:=by lia
   obtain⟨m,hm⟩:∃ m,items.size - k=m+1:=⟨items.size - k - 1,by lia⟩
   rw[hm]at hr;injection hr with h1 h2;subst h1;have hi:items[i]?=some items[i]:=by simp
   simp only[hi];refine AB (he items[i] (Array.getElem_mem hlt) prog w _ _ ?_);by_cases hij:i=j
   ·subst hij;rw[hit];refine AB ?_;exact AB (HF (AF (AF (AF ⟨_,rfl,h⟩))))
   ·rw[hno i hlt ⋯];exact AF ⟨rfl,rfl,i+1,by lia,by rw[h2];congr 1;lia⟩
  ·rintro b s' ⟨rfl,rfl,k,hk,hr⟩;have q:items.size - k=0:=by have q:=congrArg FH hr;simp at q;lia
   lia
  ·refine⟨rfl,rfl,0,BO _,?_⟩;simp
section
variable {X:Cx}
def xS (K:AY):V->List V->Hp->VK->Prop:=λx vs H Q=>∃ t xs y j,x=.ref t/\vs=[y]/\wo K H t xs/\vI y=true/\xs.all vI=true/\(xs.findIdx? λz=>yY z y)=some j/\Q (.int j) H
def lg:MtM X "tuple.index" (xS X.K):=by
 intro pins s σ H x vs v us Q I rx rv h;obtain⟨t,xs,y,j,rfl,rfl,hq,fy,fx,hj,q⟩:=h;cases rx;obtain⟨u,rfl,ru⟩:=rv.one;obtain⟨its,r,⟨⟨cls,dd,data,sl⟩,ho,hc,n,hd⟩,hz⟩:=I.tuple hq;simp only at hc hd;subst hc hd;have hlen:=r.length;obtain⟨hjl,hjt,hjn⟩:=Fv.mp hj;have hiU:∀ m (hm:m < its.length),eqU y its[m]=yY (xs[m]'⋯) y:=λm hm=>by
  have e1:xs[m]?=some (xs[m]'⋯):=by simp
  obtain⟨u',hu',ru'⟩:=r.get e1;have e2:=by rw[BD hm]at hu';exact Az hu'
  rw[e2];exact Q1 ru' (Au.mp fx _ (GB _))
 refine DW F.slot_tuple_index ⟨_,ho,rfl⟩ F.entry_tuple_index (F.args_tuple_index_2 _ _)
  (fV t its.toArray n dd sl u (eqU y) j ↥2 (by simp_all) (λm hm hmj=>by
   show eqU y its[m]=false;rw[hiU m ‹_›];exact Bool.eq_false_iff.mpr (hjn m hmj))) ⟨ho,?_,?_⟩
 ·intro z hzm;exact Oz ru fy r fx z (by simp_all)
 ·exact⟨.int j,H,I.tok _,⟨_,rfl⟩,q⟩
end
section
variable {X:Cx}
theorem yJ.upd(h:H p=none):yJ H (upd H p o):=λb u e=>by rw[Ll (Lp e h)];exact e
end
def aJ(hg:Gl X x)(hm:X.mg x=none)(hv:CH x=some (.type T))(hn:x≠"__name__":=by decide)(hd:(x == ("__debug__":Str))=false:=by decide):PE X (.Name x pos) (tC (.ty T)):=YB hg hm hv rfl hn hd
def bI K (hK:X.K=K) (hc:X.calm=true) (h:PGs X es t) (hn:(CN es X.env).length=n:=by rfl) (hst:(CN es X.env).findIdx? (·.1)=none:=by rfl):PG X (.Tuple es k pos) (ADp K n t):=by
 subst hK;exact lY hc h hn hst
section
variable {prog:Ah}{w:A5}{A:BY}{E:AK->Ab->Prop}{s:Ab}
def lC(hT:T="list"\/T="tuple")(ho:s.heap.get? it=some o)(hc:o.cls=.type T)(hd:o.data=.seq vs.toArray n)(hI:Bu vs ns)(h64:vs.length < 64)
  (h:∀ (h1 h':Heap) out e ns',(∀ b o,s.heap.get? b=some o->h1.get? b=some o)->(∀ b o,h1.get? b=some o->h'.get? b=some o)->h'.get? h1.objs.size=some (B3 "list" out e)->Bu out.toList ns'->ns'.Perm ns->ns'.Pairwise (·<=·)->Q (.ref h1.objs.size) { s with heap:=h' }) :
  AW (model prog w) A (call (.builtin "sorted") [.ref it]) Q E s:=by
 refine Gp kind_sorted Le Lf (Lg _) ?_;unfold Builtin.«sorted»;refine AB (AF ?_);refine AB (wpAny_collect_seq it hT ho hc hd (λh1 hk1=>AB (GC ?_)) (by rw[Ae,BQ];lia));have hoL:(h1.push (B3 "list" vs.toArray 0)).get? h1.objs.size=some (B3 "list" vs.toArray 0):=AN _ rfl;refine AB (BU (As K3 ⟨_,hoL,rfl⟩ Kj (list_sort_tree hoL hI h64 λout ns' a1 a2 a3=>⟨_,rfl,?_⟩) (K4 _)));obtain⟨e,he⟩:=sortedHeap_at hoL;refine AF ⟨_,rfl,h h1 _ out e ns' hk1 (λb ob q=>?_) he a1 a2 a3⟩;have hlt:=AJ q;rw[sortedHeap_old (AZ hlt) (by rw[size_push'];exact Dm hlt)];exact AC _ q
end
theorem U7:∀ {us ns},Bu us ns->uU (ns.map V.int) us
 | _,_,.nil=>.nil
 | _,_,.cons _ t r=>.cons ⟨t,rfl⟩ (U7 r)
section
variable {X:Cx}
def nL:vF X (.builtin "sorted") (λxs H Q=>∃ (p:Addr) (ns:List Int),xs=[.ref p]/\(vz X.K H p (ns.map V.int)\/wo X.K H p (ns.map V.int))/\ns.length < 64/\∀ l (ns':List Int),H l=none->ns'.Perm ns->ns'.Pairwise (·<=·)->Q (.ref l) (upd H l (.lst (ns'.map V.int)))):=by
 intro pins s σ H xs us Q I r h;obtain⟨p,ns,rfl,hq,hl,q⟩:=h;obtain⟨u,rfl,rfl⟩:=vals1 r;have go:∀ T o its n,(T="list"\/T="tuple")->s.heap.get? p=some o->o.cls=.type T->o.data=.seq its.toArray n->uU (ns.map V.int) its->AW (model X.prog X.w) X.A (call (.builtin "sorted") [.ref p]) (EP X pins σ Q) X.xe s:=λT o its n hT ho hc hd rv=>by
  have hlen:=rv.length;rw[AV]at hlen;refine lC hT ho hc hd (Tz rv) ⋯ λh1 h' out e ns' k1 k2 he hI hp hs=>?_
  have I1:=I.kept (t':=s.toks) k1;have hl':ns'.length < 64:=by rw[hp.length_eq];exact hl
  exact⟨.ref h1.objs.size,_,I1.laid k2 (AL _) (show uy X.prog X.w _ h' _ (.lst _) from ⟨by rw[AV,BQ];lia,out.toList,e,U7 hI,by simpa using he⟩),rfl,q _ ns' (I1.hok.fresh (AL _)) hp hs⟩
 rcases hq with hq | hq
 ·obtain⟨its,rv,⟨o,n,e,c,_,d⟩,_⟩:=I.list hq;exact go "list" o its n (.inl rfl) e c d rv
 ·obtain⟨its,rv,⟨o,e,c,n,d⟩,_⟩:=I.tuple hq;exact go "tuple" o its n (.inr rfl) e c d rv
end
section
variable {prog:Ah}{w:A5}{A:BY}{E:AK->Ab->Prop}{s:Ab}
def iR{items vl vu lo hi Q}(ht:FW s.heap t items)(hs:s.heap.IsSliceOf sl vl vu .none)(pl:Fp vl lo)(pu:Fp vu hi)
  (hw:HT.sIx items.size 0 lo=0/\HT.sIx items.size items.size hi=items.size) (h:Q (.ref t) s):AW (model prog w) A (Em (.ref t) (.ref sl)) Q E s:=by
 obtain⟨os,hos,hcs,hds⟩:=id hs;have hTs:s.TypeIs (.ref sl) "slice":=⟨os,hos,hcs⟩
 unfold Em;try with_reducible refine BU ?_
 refine AB (Jg ht.typeIs ∅ ?_);refine AB (Al ht.typeIs Bq (As Bq ht.typeIs JF ?_ (JS _ _)));show AW _ _ (Fi (.ref t) >>= _) _ _ s;refine AB (LG ht ?_);refine AB (Da hTs ?_);rw[if_pos ∅];refine AB (HT.sliceApplied_gen hs pl pu ?_);have hyes:((((HT.sIx items.size 0 lo):Int) == 0 && (1:Int) == 1 && (HT.sIx items.size items.size hi - HT.sIx items.size 0 lo) == items.size)=true):=by
  rw[hw.1,hw.2];simp
 show AW _ _ (if (((HT.sIx items.size 0 lo):Int) == 0 && 1 == 1 && (HT.sIx items.size items.size hi - HT.sIx items.size 0 lo) == items.size)=true then _ else _) _ _ s;rw[if_pos hyes];exact AB (AB (Da ht.typeIs (AF (AB (Cf (AF ⟨_,rfl,AF h⟩))))))
end
end L2
namespace D
open PySem L2
abbrev Fg:=AY
structure zj where
 params:J6
 body:Expr
 scope:Ea
 qual:Str
 x:Str
inductive T where
 | a (v:V)
 | t (xs:List T)
 | l (xs:List T)
 | f (n:Str)
 | x (c:Str) (fs:List (Str×V))
 | m (L:zj) (ts:List T)
abbrev Dk:=Sum (List (vT×T)) (List (List vT×T))
inductive G where
 | v (t:T)
 | l (xs:List T)
 | r (xs:List T)
 | k (xs:List T)
 | d (kvs:Dk)
 | e (kvs:Dk)
noncomputable def v9:G->Bool
 | .l _=>true
 | .d _=>true
 | _=>false
inductive S where
 | v (t:T)
 | l (xs:List T)
 | s (i:Nat)
 | d (kvs:Dk)
abbrev En:=List (Option G)
abbrev DE:=En->Option (S×En)
abbrev DT:=En->Option (Bool×En)
abbrev DA:=En->Option (List S×En)
inductive O where
 | nx (g:En) | rt (s:S) (g:En) | bk (g:En) | ct (g:En)
abbrev DS:=En->Option O
noncomputable def cOk:List V->Bool
 | .int _::_=>true
 | .ref _::_=>true
 | [.str x]=>decide (x="yes") || decide (x="no")
 | _=>false
def KT (K:Fg) (a:Addr) (xs:List V):Prop:=∃ (o:Obj) (its:Array AK) (n:Nat),K.lookup a=some o/\o.cls=.type "tuple"/\o.dict=none/\o.data=.seq its n/\its.size<=AD/\uU xs its.toList/\cOk xs=true
def Tp (K:Fg) (H:Hp) (p:Addr) (vs:List V):Prop:=H p=some (.tup vs)\/KT K p vs
def Tp.sq(h:Tp K H p vs):wo K H p vs:=by
 rcases h with h | ⟨o,its,n,a,b,c,d,e,f,_⟩
 ·exact wo.of h
 ·exact .inr ⟨o,its,n,a,b,d,e,f⟩
def Tp.of(h:H p=some (.tup vs)):Tp K H p vs:=.inl h
def KL (K:Fg) (a:Addr) (xs:List V):Prop:=∃ (o:Obj) (its:Array AK) (n:Nat),K.lookup a=some o/\o.cls=.type "list"/\o.dict=none/\o.data=.seq its n/\its.size<=AD/\uU xs its.toList
def KF (K:Fg) (H:Hp) (p:Addr) (vs:List V):Prop:=(∃ o,H p=some (.frz o (.lst vs)))\/KL K p vs
def XOk (K:Fg) (H:Hp) (p:Addr) (c:Str) (fs:List (Str×V)):Prop:=∃ (C:Addr) (d:Option Addr),Ci K Ao c=some (some (.ref C)) /\
 H p=some (.ext λh=>∃ o,h.get? p=some o/\o.cls=.ref C/\o.dict=d/\PySem.W.notCls o=true)/\((d=none/\fs=[])\/∃ dx,d=some dx/\H dx=some (.xd fs))
def FOk (K:Fg) (v:V) (n:Str):Prop:=∃ p,v=.ref p/\Ci K Ao n=some (some (.ref p))
noncomputable def xr (L:zj) (f c c':Addr):Heap->Prop:=λh=>∃ pm ct,h.get? f=some (F4 "<lambda>" L.qual L.params L.body L.scope [(L.x,c)] pm c' ct)
noncomputable def wK (c:Addr) (v:V) (o:Obj):Heap->Prop:=λh=>h.get? c=some o/\∃ u,RelV v u/\o.data=.cell (some u)
def LOk (H:Hp) (f:Addr) (L:zj) (vs:List V):Prop:=∃ (c c':Addr) (v:V) (o:Obj),vs=[v]/\H f=some (.ext (xr L f c c'))/\H c=some (.ext (wK c v o))/\H c'=some (.cod L.qual)
mutual
noncomputable def Im (K:Fg) (H:Hp):V->T->Prop
 | v,.a u=>v=u
 | v,.t ts=>∃ p vs,v=.ref p/\Tp K H p vs/\uh K H vs ts
 | v,.l ts=>∃ p vs,v=.ref p/\KF K H p vs/\uh K H vs ts
 | v,.f n=>FOk K v n
 | v,.x c fs=>∃ p,v=.ref p/\XOk K H p c fs
 | v,.m L ts=>∃ p vs,v=.ref p/\LOk H p L vs/\uh K H vs ts
noncomputable def uh (K:Fg) (H:Hp):List V->List T->Prop
 | vs,[]=>vs=[]
 | vs,t::ts=>∃ v r,vs=v::r/\Im K H v t/\uh K H r ts
end
structure W where
 L:List Addr
 R:Addr->Prop
structure Fr where
 H0:Hp
 fx:List Addr
 pins:List (Nat×Addr)
def vG (L:List Addr) (H H':Hp):Prop:=∀ b o,H b=some o->b∉L->H' b=some o
noncomputable def Mu:HO->Prop
 | .lst _=>True
 | .dK _=>True
 | .dT _=>True
 | _=>False
def LL (L:List Addr) (H:Hp):Prop:=∀ p∈L,∃ o,H p=some o/\Mu o
def vG.refl:vG L H H:=λ_ _ h _=>h
def vG.trans(a:vG L H H1)(b:vG L H1 H2):vG L H H2:=λc o h n=>b c o (a c o h n) n
def vG.wide(a:vG L' H H')(h:∀ p∈L',p∈L):vG L H H':=λc o e n=>a c o e λz=>n (h c z)
def vG.new(h:H p=none):vG L H (upd H p o):=λb u e _=>by rw[Ll (Lp e h)];exact e
def vG.of_same(h:yJ H H'):vG L H H':=λb u e _=>h b u e
def Nb(e:vG L H H')(hL:LL L H)(h:Tp K H p vs):Tp K H' p vs:=by
 rcases h with h | h
 ·refine .inl (e _ _ h λz=>?_);obtain⟨o,q,m⟩:=hL p z;rw[h]at q;cases q;exact m
 ·exact .inr h
def LOk.evo(e:vG L H H')(hL:LL L H)(h:LOk H f M vs):LOk H' f M vs:=by
 obtain⟨c,c',v,o,h0,h1,h2,h3⟩:=h;have n:∀ {b o},H b=some o->¬ Mu o->b∉L:=λ{b o} q m z=>by
  obtain⟨u,q',m'⟩:=hL b z;lia
 exact⟨c,c',v,o,h0,e _ _ h1 (n h1 id),e _ _ h2 (n h2 id),e _ _ h3 (n h3 id)⟩
def xI (K:Fg) (H:Hp):Prop:=∀ c P,CO K "is_so"=some (c,P)->H P=some (.tbq "is_so.<locals>.<lambda>")
def xI.evo(e:vG L H H')(hL:LL L H)(h:xI K H):xI K H':=λc P z=>e _ _ (h c P z) λm=>by
 obtain⟨o,q,mu⟩:=hL P m;rw[h c P z]at q;cases q;exact mu
def KF.evo(e:vG L H H')(hL:LL L H)(h:KF K H p vs):KF K H' p vs:=by
 rcases h with ⟨o,h⟩ | h
 ·refine .inl ⟨o,e _ _ h λz=>?_⟩;obtain⟨o,q,m⟩:=hL p z;rw[h]at q;cases q;exact m
 ·exact .inr h
def XOk.evo(e:vG L H H')(hL:LL L H)(h:XOk K H p c fs):XOk K H' p c fs:=by
 obtain⟨C,d,h1,h2,h3⟩:=h;refine⟨C,d,h1,e _ _ h2 λz=>?_,h3.imp id λ⟨dx,a,b⟩=>⟨dx,a,e _ _ b λz=>?_⟩⟩
 ·obtain⟨o,q,m⟩:=hL p z;rw[h2]at q;cases q;exact m
 ·obtain⟨o,q,m⟩:=hL dx z;rw[b]at q;cases q;exact m
mutual
theorem Im.evo(e:vG L H H')(hL:LL L H):∀ {v t},Im K H v t->Im K H' v t
 | _,.a _,h=>h
 | _,.t _,h=>by
  obtain⟨p,vs,rfl,hs,hi⟩:=h;exact⟨p,vs,rfl,Nb e hL hs,uh.evo e hL hi⟩
 | _,.l _,h=>by
  obtain⟨p,vs,rfl,hs,hi⟩:=h;exact⟨p,vs,rfl,hs.evo e hL,uh.evo e hL hi⟩
 | _,.f _,h=>by
  unfold Im at h ⊢;exact h
 | _,.x _ _,h=>by
  obtain⟨p,rfl,hs⟩:=h;exact⟨p,rfl,hs.evo e hL⟩
 | _,.m _ _,h=>by
  obtain⟨p,vs,rfl,hs,hi⟩:=h;exact⟨p,vs,rfl,hs.evo e hL,uh.evo e hL hi⟩
theorem uh.evo(e:vG L H H')(hL:LL L H):∀ {vs:List V} {ts:List T},uh K H vs ts->uh K H' vs ts
 | _,[],h=>h
 | _,_::_,h=>by
  unfold uh at h ⊢;obtain⟨v,r,rfl,h1,h2⟩:=h;exact⟨v,r,rfl,Im.evo e hL h1,uh.evo e hL h2⟩
end
section
variable {K:Fg}{H H':Hp}
def uh.nil:uh K H [] []:=rfl
def uh.cons(h:Im K H v t)(hs:uh K H vs ts):uh K H (v::vs) (t::ts):=by unfold uh;exact⟨v,vs,rfl,h,hs⟩
def uh.inv(h:uh K H vs (t::ts)):∃ v r,vs=v::r/\Im K H v t/\uh K H r ts:=by unfold uh at h;exact h
def uh.inv0(h:uh K H vs []):vs=[]:=by unfold uh at h;exact h
theorem uh.len:∀ {vs ts},uh K H vs ts->vs.length=ts.length
 | _,[],h=>by rw[h.inv0];rfl
 | _,_::_,h=>by obtain⟨v,r,rfl,_,h2⟩:=h.inv;simp[h2.len]
theorem uh.app:∀ {vs us ts ss},uh K H vs ts->uh K H us ss->uh K H (vs++us) (ts++ss)
 | _,_,[],_,h,h'=>by rw[h.inv0];exact h'
 | _,_,_::_,_,h,h'=>by obtain⟨v,r,rfl,h1,h2⟩:=h.inv;exact .cons h1 (h2.app h')
def uh.one(h:Im K H v t):uh K H [v] [t]:=.cons h .nil
theorem uh.get:∀ {vs ts} {i:Nat} {t},uh K H vs ts->ts[i]?=some t->∃ v,vs[i]?=some v/\Im K H v t
 | _,[],_,_,_,e=>by simp at e
 | _,_::_,0,_,h,e=>by obtain⟨v,r,rfl,h1,h2⟩:=h.inv;simp at e;subst e;exact⟨v,rfl,h1⟩
 | _,_::_,i+1,_,h,e=>by obtain⟨v,r,rfl,h1,h2⟩:=h.inv;simpa using h2.get ‹_›
theorem uh.take:∀ n {vs ts},uh K H vs ts->uh K H (vs.take n) (ts.take n)
 | 0,_,_,_=>by simp;exact .nil
 | _+1,_,[],h=>by rw[h.inv0];exact .nil
 | n+1,_,_::_,h=>by obtain⟨v,r,rfl,h1,h2⟩:=h.inv;exact .cons h1 (h2.take n)
theorem uh.drop:∀ n {vs ts},uh K H vs ts->uh K H (vs.drop n) (ts.drop n)
 | 0,_,_,h=>h
 | _+1,_,[],h=>by rw[h.inv0];exact .nil
 | n+1,_,_::_,h=>by obtain⟨v,r,rfl,h1,h2⟩:=h.inv;exact h2.drop n
theorem uh.set:∀ {vs ts} i {v t},uh K H vs ts->Im K H v t->uh K H (vs.set i v) (ts.set i t)
 | _,[],_,_,_,h,_=>by rw[h.inv0];exact .nil
 | _,_::_,0,_,_,h,h'=>by obtain⟨v,r,rfl,h1,h2⟩:=h.inv;exact .cons h' h2
 | _,_::_,i+1,_,_,h,h'=>by obtain⟨v,r,rfl,h1,h2⟩:=h.inv;exact .cons h1 (h2.set i h')
theorem uh.erase:∀ {vs ts} i,uh K H vs ts->uh K H (vs.eraseIdx i) (ts.eraseIdx i)
 | _,[],_,h=>by rw[h.inv0];exact .nil
 | _,_::_,0,h=>by obtain⟨v,r,rfl,h1,h2⟩:=h.inv;exact h2
 | _,_::_,i+1,h=>by obtain⟨v,r,rfl,h1,h2⟩:=h.inv;exact .cons h1 (h2.erase i)
theorem uh.rev:∀ {vs ts},uh K H vs ts->uh K H vs.reverse ts.reverse
 | _,[],h=>by rw[h.inv0];exact .nil
 | _,_::_,h=>by obtain⟨v,r,rfl,h1,h2⟩:=h.inv;simp;exact h2.rev.app (.one h1)
theorem uh.atoms:∀ vs,uh K H vs (vs.map T.a)
 | []=>.nil
 | v::r=>.cons rfl (uh.atoms r)
theorem uh.of_atoms:∀ {vs us},uh K H vs (us.map T.a)->vs=us
 | _,[],h=>h.inv0
 | _,_::_,h=>by obtain⟨v,r,rfl,h1,h2⟩:=h.inv;unfold Im at h1;rw[h1,uh.of_atoms h2]
def Im.atom:Im K H v (.a v):=rfl
theorem Im.tup(h:H p=some (.tup vs))(hs:uh K H vs ts):Im K H (.ref p) (.t ts):=by unfold Im;exact⟨p,vs,rfl,Tp.of h,hs⟩
def Im.inv(h:Im K H v (.t ts)):∃ p vs,v=.ref p/\Tp K H p vs/\uh K H vs ts:=by unfold Im at h;exact h
def Im.invl(h:Im K H v (.l ts)):∃ p vs,v=.ref p/\KF K H p vs/\uh K H vs ts:=by unfold Im at h;exact h
def Im.fn(h:FOk K v n):Im K H v (.f n):=by unfold Im;exact h
def Im.invf(h:Im K H v (.f n)):FOk K v n:=by unfold Im at h;exact h
def Im.invx(h:Im K H v (.x c fs)):∃ p,v=.ref p/\XOk K H p c fs:=by unfold Im at h;exact h
def Im.lam(h:LOk H p L vs)(hs:uh K H vs ts):Im K H (.ref p) (.m L ts):=by unfold Im;exact⟨p,vs,rfl,h,hs⟩
def Im.invm(h:Im K H v (.m L ts)):∃ p vs,v=.ref p/\LOk H p L vs/\uh K H vs ts:=by unfold Im at h;exact h
def Im.inva(h:Im K H v (.a u)):v=u:=by unfold Im at h;exact h
end
def KF.sq(h:KF K H p vs):vz K H p vs:=by
 rcases h with h | h
 ·exact .inl (.inr h)
 ·exact .inr h
def KF.of(h:vz K H p vs)(n:∀ us,H p≠some (.lst us)):KF K H p vs:=by
 rcases h with (h | h) | h
 ·exact absurd h (n vs)
 ·exact .inl h
 ·exact .inr h
noncomputable def yM (K:Fg) (H:Hp):HO->Dk->Prop
 | .dK l,.inl kvs=>Cu (λa b=>a.1=b.1/\Im K H a.2 b.2) l kvs
 | .dT l,.inr kvs=>Cu (λa b=>a.1=b.1/\Im K H a.2 b.2) l kvs
 | _,_=>False
def yM.mu(h:yM K H o kvs):Mu o:=by
 unfold yM at h;split at h
 ·trivial
 ·trivial
 ·exact h.elim
theorem yM.evo(e:vG L H H')(hL:LL L H)(h:yM K H o kvs):yM K H' o kvs:=by
 unfold yM at h ⊢;split at h
 iterate 2
  ·exact Paired.mapP h λ_ _ z=>⟨z.1,z.2.evo e hL⟩
 ·exact h.elim
noncomputable def GOk (K:Fg) (w:W) (H:Hp) (v:V):G->Prop
 | .v t=>Im K H v t
 | .l xs=>∃ p vs,v=.ref p/\p∈w.L/\H p=some (.lst vs)/\uh K H vs xs
 | .r xs=>∃ p vs,v=.ref p/\uh K H vs xs/\H p=some (.lst vs)/\p∉w.L/\w.R p
 | .k xs=>∃ p vs,v=.ref p/\uh K H vs xs/\KF K H p vs
 | .d kvs=>∃ p o,v=.ref p/\p∈w.L/\H p=some o/\yM K H o kvs
 | .e kvs=>∃ p o,v=.ref p/\yM K H o kvs/\H p=some o/\p∉w.L/\w.R p
theorem GOk.own(m:v9 g=true)(h:GOk K w H v g):∃ p,v=.ref p/\p∈w.L:=by
 cases g with
 | l xs | d xs=>obtain⟨p,vs,e,m,_⟩:=h;exact⟨p,e,m⟩
 | v _ | r _ | k _ | e _=>cases m
def Ow (C:Fr) (p:Addr):Prop:=p∈C.fx\/C.H0 p=none
structure ui(K:Fg)(C:Fr)(w:W)(Γ:En)(σ:St)(H:Hp):Prop where
 len:σ.length=Γ.length
 val:∀ (i:Nat) g,Γ[i]?=some (some g)->∃ v,σ[i]?=some (some v)/\GOk K w H v g
 apart:∀ (i j:Nat) p g g',v9 g=true->v9 g'=true->Γ[i]?=some (some g)->Γ[j]?=some (some g')->σ[i]?=some (some (.ref p))->σ[j]?=some (some (.ref p))->i=j
 lst:LL w.L H
 own:∀ p∈w.L,Ow C p
 ra:∀ p,w.R p->∃ o,H p=some o
 rl:∀ p,w.R p->p∉w.L
 frame:∀ b o,C.H0 b=some o->b∉C.fx->H b=some o
 tab:xI K H
 pin:∀ q∈C.pins,σ[q.1]?=some (some (.ref q.2))/\∃ xs,Γ[q.1]?=some (some (.l xs))
noncomputable def vJ (K:Fg) (C:Fr) (w:W) (σ:St) (H:Hp) (v:V):S->Prop
 | .v t=>Im K H v t
 | .l xs=>∃ p vs,v=.ref p/\p∉w.L/\¬ w.R p/\Ow C p/\H p=some (.lst vs)/\uh K H vs xs
 | .s i=>σ[i]?=some (some v)
 | .d kvs=>∃ p o,v=.ref p/\p∉w.L/\¬ w.R p/\Ow C p/\H p=some o/\yM K H o kvs
section
variable {K:Fg}{C:Fr}{w:W}{Γ Γ':En}{σ:St}{H H':Hp}
theorem GOk.evo(e:vG w.L H H')(hL:LL w.L H)(hl:v9 g=false)(h:GOk K w H v g):GOk K w H' v g:=by
 cases g with
 | v t=>exact Im.evo e hL h
 | l xs | d xs=>cases hl
 | e kvs =>
  obtain⟨p,o,rfl,hi,h⟩:=h;exact⟨p,o,rfl,hi.evo e hL,e _ _ h.1 h.2.1,h.2⟩
 | r xs =>
  obtain⟨p,vs,rfl,hi,h⟩:=h;exact⟨p,vs,rfl,hi.evo e hL,e _ _ h.1 h.2.1,h.2⟩
 | k xs =>
  obtain⟨p,vs,rfl,hi,h⟩:=h;exact⟨p,vs,rfl,hi.evo e hL,h.evo e hL⟩
theorem vJ.evo(e:vG w.L H H')(hL:LL w.L H)(h:vJ K C w σ H v s):vJ K C w σ H' v s:=by
 cases s with
 | v t=>exact Im.evo e hL h
 | l xs =>
  obtain⟨p,vs,rfl,n1,n2,o,h1,h2⟩:=h;exact⟨p,vs,rfl,n1,n2,o,e _ _ h1 n1,h2.evo e hL⟩
 | s i=>exact h
 | d kvs =>
  obtain⟨p,o,rfl,n1,n2,ow,h1,h2⟩:=h;exact⟨p,o,rfl,n1,n2,ow,e _ _ h1 n1,h2.evo e hL⟩
def vJ.atom:vJ K C w σ H v (.v (.a v)):=rfl
theorem vJ.inva(h:vJ K C w σ H v (.v (.a u))):v=u:=by
 have h':Im K H v (.a u):=h;exact h'.inva
def vJ.invt(h:vJ K C w σ H v (.v (.t ts))):∃ p vs,v=.ref p/\Tp K H p vs/\uh K H vs ts:=h.inv
def ui.evo0(r:ui K C w Γ σ H)(e:∀ b o,H b=some o->H' b=some o):ui K C w Γ σ H' where
 len:=r.len
 val:=λi g h=>by
  obtain⟨v,e1,e2⟩:=r.val i g h;refine⟨v,e1,?_⟩;cases g with
  | l xs =>
   obtain⟨p,vs,rfl,hp,h1,h2⟩:=e2;exact⟨p,vs,rfl,hp,e _ _ h1,h2.evo (λb o h _=>e b o h) r.lst⟩
  | d xs =>
   obtain⟨p,o,rfl,hp,h1,h2⟩:=e2;exact⟨p,o,rfl,hp,e _ _ h1,h2.evo (λb o h _=>e b o h) r.lst⟩
  | v t | r xs | k xs | e xs=>exact GOk.evo (λb o h _=>e b o h) r.lst rfl e2
 apart:=r.apart
 lst:=λp hp=>by obtain⟨o,h,m⟩:=r.lst p hp;exact⟨o,e _ _ h,m⟩
 own:=r.own
 ra:=λp hp=>by obtain⟨o,h⟩:=r.ra p hp;exact⟨o,e _ _ h⟩
 rl:=r.rl
 frame:=λb o h n=>e _ _ (r.frame b o h n)
 tab:=λc P z=>e _ _ (r.tab c P z)
 pin:=r.pin
def ui.same(r:ui K C w Γ σ H)(e:yJ H H'):ui K C w Γ σ H':=r.evo0 e
def ui.new(r:ui K C w Γ σ H)(h:H p=none):ui K C w Γ σ (upd H p o):=r.evo0 λb u e=>by rw[Ll (Lp e h)];exact e
def ui.fresh(r:ui K C w Γ σ H)(h:H p=none):p∉w.L/\¬ w.R p/\Ow C p:=by
 refine⟨λz=>?_,λz=>?_,?_⟩
 ·obtain⟨vs,e,_⟩:=r.lst p z;rw[h]at e;cases e
 ·obtain⟨o,e⟩:=r.ra p z;rw[h]at e;cases e
 ·by_cases q:p∈C.fx
  ·exact .inl q
  ·refine .inr ?_;cases e:C.H0 p with
   | none=>rfl
   | some o=>rw[r.frame p o e q]at h;cases h
def ui.newl(r:ui K C w Γ σ H)(h:H p=none)(hi:uh K H vs ts):vJ K C w σ (upd H p (.lst vs)) (.ref p) (.l ts):=by
 obtain⟨a,b,c⟩:=r.fresh h;exact⟨p,vs,rfl,a,b,c,Lq,hi.evo (vG.new h) r.lst⟩
def ui.newt(r:ui K C w Γ σ H)(h:H p=none)(hi:uh K H vs ts):vJ K C w σ (upd H p (.tup vs)) (.ref p) (.v (.t ts)):=Im.tup Lq (hi.evo (vG.new h) r.lst)
def ui.put3(r:ui K C w Γ σ H)(m0:v9 g0=true)(m1:v9 g1=true)(hpin:∀ xs,g0=.l xs->∃ ys,g1=.l ys)(hi:Γ[i]?=some (some g0))(hp:σ[i]?=some (some (.ref p)))(ev1:vG [p] H H')(hp':H' p=some ob)(mb:Mu ob)(hq:p∈w.L)(hu:GOk K w H' (.ref p) g1) :
  ui K C w (Γ.set i (some g1)) σ H'/\vG w.L H H':=by
 have hiΓ:=(Af.mp hi).1;have ev:=ev1.wide λq hq'=>AI.mp hq' ▸ hq
 have ne:∀ {c:Addr} {o:HO},c≠p->H c=some o->H' c=some o:=λn e=>ev1 _ _ e λz=>n (AI.mp z)
 refine⟨⟨by simpa using r.len,λj g h=>?_,λj k c g g' mg mg' h1 h2 h3 h4=>?_,λc hc=>?_,r.own,λc hc=>?_,r.rl,λb o h n=>?_,r.tab.evo ev r.lst,λc hc=>?_⟩,ev⟩
 ·by_cases hj:j=i
  ·subst hj;rw[Aj hiΓ]at h;cases h;exact⟨_,hp,hu⟩
  ·rw[AU (Aw hj)]at h;obtain⟨v,e1,e2⟩:=r.val j g h;refine⟨v,e1,?_⟩;cases g with
   | l zs | d zs =>
    obtain⟨c,vs',rfl,hc,h1,h2⟩:=e2;have:c≠p:=λz=>hj (r.apart j i p _ _ rfl m0 h hi (z ▸ e1) hp)
    exact⟨c,vs',rfl,hc,ne this h1,h2.evo ev r.lst⟩
   | v t | r zs | k zs | e zs=>exact GOk.evo ev r.lst rfl e2
 ·have back:∀ (m:Nat) g,v9 g=true->(Γ.set i (some g1))[m]?=some (some g)->∃ g',v9 g'=true/\Γ[m]?=some (some g'):=λm g mg h=>by
   by_cases hm:m=i
   ·subst hm;exact⟨g0,m0,hi⟩
   ·rw[AU (Aw hm)]at h;exact⟨g,mg,h⟩
  obtain⟨z1,y1,g1⟩:=back j g mg h1;obtain⟨z2,y2,g2⟩:=back k g' mg' h2;exact r.apart j k c z1 z2 y1 y2 g1 g2 h3 h4
 ·by_cases hcp:c=p
  ·subst hcp;exact⟨ob,hp',mb⟩
  ·obtain⟨o,e,m⟩:=r.lst c hc;exact⟨o,ne hcp e,m⟩
 ·have:c≠p:=λz=>r.rl c hc (z ▸ hq)
  obtain⟨o,e⟩:=r.ra c hc;exact⟨o,ne this e⟩
 ·by_cases hb:b=p
  ·subst hb;rcases r.own b hq with z | z
   ·exact absurd z n
   ·rw[z]at h;cases h
  ·exact ne hb (r.frame b o h n)
 ·obtain⟨h1,zs,h2⟩:=r.pin c hc;refine⟨h1,?_⟩;by_cases hm:c.1=i
  ·rw[hm,hi]at h2;cases h2;obtain⟨ys,e⟩:=hpin zs rfl;exact⟨ys,by rw[hm,Aj hiΓ,e]⟩
  ·exact⟨zs,by rw[AU (Aw hm)];exact h2⟩
def ui.put2(r:ui K C w Γ σ H)(hi:Γ[i]?=some (some (.l xs)))(hp:σ[i]?=some (some (.ref p)))(ev1:vG [p] H H')(hp':H' p=some (.lst us))(hu:uh K H' us ys) :
  ui K C w (Γ.set i (some (.l ys))) σ H'/\vG w.L H H':=by
 obtain⟨v,e1,q,vs,rfl,hq,hv,_⟩:=r.val i _ hi;rw[hp]at e1;cases e1;exact r.put3 rfl rfl (λ_ _=>⟨ys,rfl⟩) hi hp ev1 hp' trivial hq ⟨p,us,rfl,hq,hp',hu⟩
def ui.putD(r:ui K C w Γ σ H)(hi:Γ[i]?=some (some (.d kvs)))(hp:σ[i]?=some (some (.ref p)))(hu:yM K H ob kvs') :
  ui K C w (Γ.set i (some (.d kvs'))) σ (upd H p ob)/\vG w.L H (upd H p ob):=by
 obtain⟨v,e1,q,vs,rfl,hq,hv,_⟩:=r.val i _ hi;rw[hp]at e1;cases e1;have ev1:vG [p] H (upd H p ob):=λb o e n=>by rw[Ll (λz=>n (AI.mpr z))];exact e
 have hu':=hu.evo (ev1.wide λq hq'=>AI.mp hq' ▸ hq) r.lst;exact r.put3 rfl rfl (λ_ e=>by cases e) hi hp ev1 Lq hu'.mu hq ⟨p,ob,rfl,hq,Lq,hu'⟩
def ui.put(r:ui K C w Γ σ H)(hi:Γ[i]?=some (some (.l xs)))(hp:σ[i]?=some (some (.ref p)))(hu:uh K H us ys) :
  ui K C w (Γ.set i (some (.l ys))) σ (upd H p (.lst us))/\vG w.L H (upd H p (.lst us)):=by
 obtain⟨v,e1,q,vs,rfl,hq,hv,_⟩:=r.val i _ hi;rw[hp]at e1;cases e1;have ev1:vG [p] H (upd H p (.lst us)):=λb o e n=>by rw[Ll (λz=>n (AI.mpr z))];exact e
 exact r.put2 hi hp ev1 Lq (hu.evo (ev1.wide λq hq'=>AI.mp hq' ▸ hq) r.lst)
def ui.temp(r:ui K C w Γ σ H)(n1:p∉w.L)(n2:¬ w.R p)(ow:Ow C p)(hl:∃ o,H p=some o/\Mu o)(ev1:vG [p] H H'):ui K C w Γ σ H':=by
 have ne:∀ {c:Addr} {o:HO},c≠p->H c=some o->H' c=some o:=λn e=>ev1 _ _ e λz=>n (AI.mp z)
 have hL:LL [p] H:=λq hq=>by rw[AI.mp hq];exact hl
 refine⟨r.len,λj g h=>?_,r.apart,λc hc=>?_,r.own,λc hc=>?_,r.rl,λb o h n=>?_,r.tab.evo ev1 hL,r.pin⟩
 ·obtain⟨v,e1,e2⟩:=r.val j g h;refine⟨v,e1,?_⟩;cases g with
  | v t=>exact Im.evo ev1 hL e2
  | l zs | d zs =>
   obtain⟨c,vs',rfl,hc,h1,h2⟩:=e2;exact⟨c,vs',rfl,hc,ne (λz=>n1 (z ▸ hc)) h1,h2.evo ev1 hL⟩
  | r zs | e zs =>
   obtain⟨c,vs',rfl,h1,h2⟩:=e2;exact⟨c,vs',rfl,h1.evo ev1 hL,ne (λz=>n2 (z ▸ h2.2.2)) h2.1,h2.2⟩
  | k zs =>
   obtain⟨c,vs',rfl,h1,h2⟩:=e2;exact⟨c,vs',rfl,h1.evo ev1 hL,h2.evo ev1 hL⟩
 ·obtain⟨o,e,m⟩:=r.lst c hc;exact⟨o,ne (λz=>n1 (z ▸ hc)) e,m⟩
 ·obtain⟨o,e⟩:=r.ra c hc;exact⟨o,ne (λz=>n2 (z ▸ hc)) e⟩
 ·by_cases hb:b=p
  ·subst hb;rcases ow with z | z
   ·exact absurd z n
   ·rw[z]at h;cases h
  ·exact ne hb (r.frame b o h n)
def ui.setv(r:ui K C w Γ σ H)(hg:v9 g=false)(h:GOk K w H v g)(hn:∀ q∈C.pins,q.1≠i):ui K C w (Γ.set i (some g)) (σ.set i (some v)) H where
 len:=by simpa using r.len
 val:=λj g' hj=>by
  by_cases hji:j=i
  ·subst hji;have hjl:j < Γ.length:=by
    rcases Cq j Γ.length with z | z
    ·exact z
    ·rw[CJ (by simpa using z)]at hj;cases hj
   rw[Aj hjl]at hj;cases hj;exact⟨v,by rw[Aj (by rw[r.len];exact hjl)],h⟩
  ·rw[AU (Aw hji)]at hj;rw[AU (Aw hji)];exact r.val j g' hj
 apart:=λj k p ga gb ma mb h1 h2 h3 h4=>by
  have ne:∀ m gc,v9 gc=true->(Γ.set i (some g))[m]?=some (some gc)->m≠i/\Γ[m]?=some (some gc):=λm gc mc hm=>by
   by_cases e:m=i
   ·subst e;rcases Cq m Γ.length with z | z
    ·rw[Aj z]at hm;cases hm;rw[hg]at mc;cases mc
    ·rw[CJ (by simpa using z)]at hm;cases hm
   ·rw[AU (Aw e)]at hm;exact⟨e,hm⟩
  obtain⟨n1,g1⟩:=ne j ga ma h1;obtain⟨n2,g2⟩:=ne k gb mb h2;rw[AU (Aw n1)]at h3;rw[AU (Aw n2)]at h4;exact r.apart j k p ga gb ma mb g1 g2 h3 h4
 lst:=r.lst
 own:=r.own
 ra:=r.ra
 rl:=r.rl
 frame:=r.frame
 tab:=r.tab
 pin:=λq hq=>by
  obtain⟨h1,xs,h2⟩:=r.pin q hq;have:=hn q hq;exact⟨by rw[AU (Aw this)];exact h1,xs,by rw[AU (Aw this)];exact h2⟩
def ui.setm(r:ui K C w Γ σ H)(mg:v9 g=true)(n1:p∉w.L)(n2:¬ w.R p)(ow:Ow C p)(hp:H p=some ob)(mb:Mu ob)(hv:GOk K ⟨p::w.L,w.R⟩ H (.ref p) g)(hn:∀ q∈C.pins,q.1≠i) :
  ui K C ⟨p::w.L,w.R⟩ (Γ.set i (some g)) (σ.set i (some (.ref p))) H where
 len:=by simpa using r.len
 val:=λj g' hj=>by
  by_cases hji:j=i
  ·subst hji;have hjl:j < Γ.length:=by
    rcases Cq j Γ.length with z | z
    ·exact z
    ·rw[CJ (by simpa using z)]at hj;cases hj
   rw[Aj hjl]at hj;cases hj;exact⟨_,by rw[Aj (by rw[r.len];exact hjl)],hv⟩
  ·rw[AU (Aw hji)]at hj;rw[AU (Aw hji)];obtain⟨v,e1,e2⟩:=r.val j g' hj;refine⟨v,e1,?_⟩;cases g' with
   | v t | k ys=>exact e2
   | l ys | d ys=>obtain⟨c,us,rfl,hc,h1,h2⟩:=e2;exact⟨c,us,rfl,AH _ hc,h1,h2⟩
   | r ys | e ys =>
    obtain⟨c,us,rfl,hi,h⟩:=e2;refine⟨c,us,rfl,hi,h.1,λz=>?_,h.2.2⟩;rcases AR.mp z with z | z
    ·exact n2 (z ▸ h.2.2)
    ·exact h.2.1 z
 apart:=λj k c ga gb ma mb' h1 h2 h3 h4=>by
  have ne:∀ m gc,v9 gc=true->m≠i->(Γ.set i (some g))[m]?=some (some gc)->(σ.set i (some (.ref p)))[m]?=some (some (.ref c))->Γ[m]?=some (some gc)/\σ[m]?=some (some (.ref c))/\c≠p:=λm gc mc e h h'=>by
   rw[AU (Aw e)]at h;rw[AU (Aw e)]at h';refine⟨h,h',λz=>?_⟩;obtain⟨v,e1,hg⟩:=r.val m _ h;obtain⟨q,rfl,hq⟩:=hg.own mc;rw[h']at e1;cases e1;exact n1 (z ▸ hq)
  have at_i:∀ m,m=i->(σ.set i (some (.ref p)))[m]?=some (some (.ref c))->c=p:=λm e h=>by
   subst e;rcases Cq m σ.length with z | z
   ·rw[Aj z]at h;cases h;rfl
   ·rw[CJ (by simpa using z)]at h;cases h
  by_cases e1:j=i
  ·by_cases e2:k=i
   ·rw[e1,e2]
   ·obtain⟨_,_,n⟩:=ne k gb mb' e2 h2 h4;exact absurd (at_i j e1 h3) n
  ·obtain⟨g1,s1,n⟩:=ne j ga ma e1 h1 h3;by_cases e2:k=i
   ·exact absurd (at_i k e2 h4) n
   ·obtain⟨g2,s2,_⟩:=ne k gb mb' e2 h2 h4;exact r.apart j k c ga gb ma mb' g1 g2 s1 s2
 lst:=λc hc=>by
  rcases AR.mp hc with e | e
  ·subst e;exact⟨ob,hp,mb⟩
  ·exact r.lst c e
 own:=λc hc=>by
  rcases AR.mp hc with e | e
  ·subst e;exact ow
  ·exact r.own c e
 ra:=r.ra
 rl:=λc hc z=>by
  rcases AR.mp z with e | e
  ·subst e;exact n2 hc
  ·exact r.rl c hc e
 frame:=r.frame
 tab:=r.tab
 pin:=λq hq=>by
  obtain⟨h1,xs',h2⟩:=r.pin q hq;have:=hn q hq;exact⟨by rw[AU (Aw this)];exact h1,xs',by rw[AU (Aw this)];exact h2⟩
def ui.setl(r:ui K C w Γ σ H)(n1:p∉w.L)(n2:¬ w.R p)(ow:Ow C p)(hp:H p=some (.lst vs))(hv:uh K H vs xs)(hn:∀ q∈C.pins,q.1≠i) :
  ui K C ⟨p::w.L,w.R⟩ (Γ.set i (some (.l xs))) (σ.set i (some (.ref p))) H:=
 r.setm rfl n1 n2 ow hp trivial ⟨p,vs,rfl,AG,hp,hv⟩ hn
def ui.setd(r:ui K C w Γ σ H)(n1:p∉w.L)(n2:¬ w.R p)(ow:Ow C p)(hp:H p=some ob)(hv:yM K H ob kvs)(hn:∀ q∈C.pins,q.1≠i) :
  ui K C ⟨p::w.L,w.R⟩ (Γ.set i (some (.d kvs))) (σ.set i (some (.ref p))) H:=
 r.setm rfl n1 n2 ow hp hv.mu ⟨p,ob,rfl,AG,hp,hv⟩ hn
def ui.newd(r:ui K C w Γ σ H)(h:H p=none)(hi:yM K H ob kvs):vJ K C w σ (upd H p ob) (.ref p) (.d kvs):=by
 obtain⟨a,b,c⟩:=r.fresh h;exact⟨p,ob,rfl,a,b,c,Lq,hi.evo (vG.new h) r.lst⟩
end
noncomputable def wB (K:Fg) (C:Fr) (w:W) (σ:St) (H:Hp):List V->List S->Prop
 | [],[]=>True
 | v::vs,s::ss=>vJ K C w σ H v s/\wB K C w σ H vs ss
 | _,_=>False
noncomputable def Nw (H:Hp) (v:V):S->Prop
 | .l _=>∃ p,v=.ref p/\H p=none
 | .d _=>∃ p,v=.ref p/\H p=none
 | _=>True
noncomputable def Nws (H:Hp):List V->List S->Prop
 | v::vs,s::ss=>Nw H v s/\Nws H vs ss
 | _,_=>True
theorem Me(e:vG L H H')(hL:LL L H')(h:H' p=none):H p=none:=by
 cases q:H p with
 | none=>rfl
 | some o =>
  by_cases z:p∈L
  ·obtain⟨vs,u,_⟩:=hL p z;rw[h]at u;cases u
  ·rw[e p o q z]at h;cases h
theorem Nw.back{H H' v s}(n:Nw H' v s)(e:vG L H H')(hL:LL L H'):Nw H v s:=by
 cases s with
 | l xs | d xs=>obtain⟨p,a,b⟩:=n;exact⟨p,a,Me e hL b⟩
 | v t | s i=>trivial
theorem Nws.back(e:vG L H H')(hL:LL L H'):∀ {vs ss},Nws H' vs ss->Nws H vs ss
 | [],[],_ | [],_::_,_ | _::_,[],_=>trivial
 | _::_,_::_,h=>⟨h.1.back e hL,Nws.back e hL h.2⟩
theorem Nws.get:∀ {vs ss} {k:Nat} {v s},Nws H vs ss->vs[k]?=some v->ss[k]?=some s->Nw H v s
 | [],_,_,_,_,_,e,_ | _::_,[],_,_,_,_,_,e=>by simp at e
 | _::_,_::_,0,_,_,h,e,e'=>by simp at e e';subst e e';exact h.1
 | _::_,_::_,k+1,_,_,h,e,e'=>Nws.get h.2 ‹_› ‹_›
def uj (K:Fg) (te:TE) (f:DE):Prop:=∀ C w Γ σ H s Γ' Q,ui K C w Γ σ H->f Γ=some (s,Γ') ->
 (∀ v H',ui K C w Γ' σ H'->vG w.L H H'->vJ K C w σ H' v s->Nw H v s->Q v H')->te σ H Q
def xA (K:Fg) (tt:TT) (f:DT):Prop:=∀ C w Γ σ H b Γ' Q,ui K C w Γ σ H->f Γ=some (b,Γ') ->
 (∀ H',ui K C w Γ' σ H'->vG w.L H H'->Q b H')->tt σ H Q
def wD (K:Fg) (ta:TA) (f:DA):Prop:=∀ C w Γ σ H ss Γ' Q,ui K C w Γ σ H->f Γ=some (ss,Γ') ->
 (∀ vs H',ui K C w Γ' σ H'->vG w.L H H'->wB K C w σ H' vs ss->Nws H vs ss->Q vs H')->ta σ H Q
noncomputable def OkO (K:Fg) (C:Fr) (D:xi):O->Prop
 | .nx Γ=>∀ w σ H,ui K C w Γ σ H->D.nx σ H
 | .rt s Γ=>∀ w σ H v,ui K C w Γ σ H->vJ K C w σ H v s->D.rt v H
 | .bk Γ=>∀ w σ H,ui K C w Γ σ H->D.bk σ H
 | .ct Γ=>∀ w σ H,ui K C w Γ σ H->D.ct σ H
def wU (K:Fg) (ip:Option Nat) (ts:TS) (g:DS):Prop:=∀ C w Γ σ H D o,C.pins.map (·.1)=ip.toList->ui K C w Γ σ H->g Γ=some o->OkO K C D o->ts D σ H
def vD (K:Fg) (r:R2) (h:En->S->S->Option S):Prop:=∀ C w Γ σ H x y a b s Q,ui K C w Γ σ H->vJ K C w σ H x a->vJ K C w σ H y b->h Γ a b=some s ->
 (∀ v H',ui K C w Γ σ H'->vG w.L H H'->vJ K C w σ H' v s->Nw H v s->Q v H')->r x y H Q
def ACY (K:Fg) (r:V->Hp->VK->Prop) (h:En->S->Option S):Prop:=∀ C w Γ σ H x a s Q,ui K C w Γ σ H->vJ K C w σ H x a->h Γ a=some s ->
 (∀ v H',ui K C w Γ σ H'->vG w.L H H'->vJ K C w σ H' v s->Nw H v s->Q v H')->r x H Q
def wk (K:Fg) (r:List V->Hp->VK->Prop) (h:En->List S->Option S):Prop:=∀ C w Γ σ H xs as s Q,ui K C w Γ σ H->wB K C w σ H xs as->h Γ as=some s ->
 (∀ v H',ui K C w Γ σ H'->vG w.L H H'->vJ K C w σ H' v s->Nw H v s->Q v H')->r xs H Q
noncomputable def jV (i:Nat):DE:=λΓ=>match Γ[i]? with
 | some (some (.v t))=>some (.v t,Γ)
 | some (some (.l _))=>some (.s i,Γ)
 | some (some (.r _))=>some (.s i,Γ)
 | some (some (.k _))=>some (.s i,Γ)
 | some (some (.d _))=>some (.s i,Γ)
 | some (some (.e _))=>some (.s i,Γ)
 | _=>none
noncomputable def dC (v:V):DE:=λΓ=>some (.v (.a v),Γ)
noncomputable def uM (h:En->S->S->Option S) (fa fb:DE):DE:=λΓ=>(fa Γ).bind λp=>(fb p.2).bind λq=>(h q.2 p.1 q.1).map λs=>(s,q.2)
noncomputable def dUn (h:En->S->Option S) (fa:DE):DE:=λΓ=>(fa Γ).bind λp=>(h p.2 p.1).map λs=>(s,p.2)
noncomputable def vO (h:En->List S->Option S) (fa:DA):DE:=λΓ=>(fa Γ).bind λp=>(h p.2 p.1).map λs=>(s,p.2)
noncomputable def qQ:DA:=λΓ=>some ([],Γ)
noncomputable def jW (fa:DE) (fr:DA):DA:=λΓ=>(fa Γ).bind λp=>(fr p.2).bind λq=>some (p.1::q.1,q.2)
noncomputable def S.tree:S->Option T
 | .v t=>some t
 | _=>none
noncomputable def trees:List S->Option (List T)
 | []=>some []
 | s::r=>s.tree.bind λt=>(trees r).map λts=>t::ts
noncomputable def gd {α:Type} (n:Nat) (x:α):Option α:=if n<=AD then some x else none
def L6{x y:α}(h:gd n x=some y):n<=AD/\x=y:=by
 unfold gd at h;split at h
 ·exact⟨by assumption,Az h⟩
 ·cases h
noncomputable def ue (fa:DA):DE:=λΓ=>(fa Γ).bind λp=>(trees p.1).bind λts=>gd ts.length (.v (.t ts),p.2)
noncomputable def vR (fa:DA):DE:=λΓ=>(fa Γ).bind λp=>(trees p.1).bind λts=>gd ts.length (.l ts,p.2)
noncomputable def uQ (f:DE):DT:=λΓ=>(f Γ).bind λp=>match p.1 with
 | .v (.a (.bl b))=>some (b,p.2)
 | _=>none
noncomputable def yD (f g:DT):DT:=λΓ=>(f Γ).bind λp=>if p.1=true then g p.2 else some (false,p.2)
noncomputable def dOr (f g:DT):DT:=λΓ=>(f Γ).bind λp=>if p.1=true then some (true,p.2) else g p.2
noncomputable def zY (f:DT):DT:=λΓ=>(f Γ).bind λp=>some (!p.1,p.2)
noncomputable def yL (f g:DE):DE:=λΓ=>(uQ f Γ).bind λp=>if p.1=true then g p.2 else some (.v (.a (.bl false)),p.2)
noncomputable def ACF (f g:DE):DE:=λΓ=>(uQ f Γ).bind λp=>if p.1=true then some (.v (.a (.bl true)),p.2) else g p.2
noncomputable def zF (f:DE):DE:=λΓ=>(uQ f Γ).bind λp=>some (.v (.a (.bl !p.1)),p.2)
noncomputable def yI (c:DT) (f g:DE):DE:=λΓ=>(c Γ).bind λp=>if p.1=true then f p.2 else g p.2
section
variable {K:Fg}{ip:Option Nat}
theorem uJ{α β:Type}{x:Option α}{f}{y:β}(h:x.bind f=some y):∃ a,x=some a/\f a=some y:=by
 cases x with
 | none=>cases h
 | some a=>exact⟨a,rfl,h⟩
def map_some{α β:Type}{x:Option α}{f}{y:β}(h:x.map f=some y):∃ a,x=some a/\f a=y:=by simp_all
def jq:uj K (xJ i) (jV i):=by
 intro C w Γ σ H s Γ' Q R h k;unfold jV at h;split at h
 ·rename_i t e;cases h;obtain⟨v,e1,e2⟩:=R.val i _ e;exact⟨v,e1,k v H R .refl e2 trivial⟩
 iterate 5
  ·rename_i xs e;cases h;obtain⟨v,e1,e2⟩:=R.val i _ e;exact⟨v,e1,k v H R .refl e1 trivial⟩
 ·cases h
def OL:uj K (tC v) (dC v):=by
 intro C w Γ σ H s Γ' Q R h k;cases h;exact k v H R .refl vJ.atom trivial
def Na{h ta tb fa fb}(hr:vD K r h)(ha:uj K ta fa)(hb:uj K tb fb):uj K (tOp r ta tb) (uM h fa fb):=by
 intro C w Γ σ H s Γ' Q R e k;obtain⟨p,e1,e⟩:=uJ e;obtain⟨q,e2,e⟩:=uJ e;obtain⟨z,e3,e⟩:=map_some e;cases e;exact ha C w Γ σ H p.1 p.2 _ R e1 λv1 H1 R1 ev1 o1 n1=>hb C w p.2 σ H1 q.1 q.2 _ R1 e2 λv2 H2 R2 ev2 o2 n2=>hr C w q.2 σ H2 v1 v2 _ _ _ Q R2 (o1.evo ev2 R1.lst) o2 e3 λv H3 R3 ev3 o3 n3=>k v H3 R3 ((ev1.trans ev2).trans ev3) o3 (n3.back (ev1.trans ev2) R2.lst)
def aZ{fa}(hr:ACY K r h)(ha:uj K ta fa):uj K (tUn r ta) (dUn h fa):=by
 intro C w Γ σ H s Γ' Q R e k;obtain⟨p,e1,e⟩:=uJ e;obtain⟨z,e3,e⟩:=map_some e;cases e;exact ha C w Γ σ H p.1 p.2 _ R e1 λv1 H1 R1 ev1 o1 n1=>hr C w p.2 σ H1 v1 _ _ Q R1 o1 e3 λv H3 R3 ev3 o3 n3=>k v H3 R3 (ev1.trans ev3) o3 (n3.back ev1 R1.lst)
def TJ(hr:wk K r h)(ha:wD K ta fa):uj K (tCB r ta) (vO h fa):=by
 intro C w Γ σ H s Γ' Q R e k;obtain⟨p,e1,e⟩:=uJ e;obtain⟨z,e3,e⟩:=map_some e;cases e;exact ha C w Γ σ H p.1 p.2 _ R e1 λv1 H1 R1 ev1 o1 n1=>hr C w p.2 σ H1 v1 _ _ Q R1 o1 e3 λv H3 R3 ev3 o3 n3=>k v H3 R3 (ev1.trans ev3) o3 (n3.back ev1 R1.lst)
def U8:wD K ADT qQ:=by
 intro C w Γ σ H s Γ' Q R e k;cases e;exact k [] H R .refl trivial trivial
def d7{tr fa fr}(ha:uj K ta fa)(hr:wD K tr fr):wD K (AAW ta tr) (jW fa fr):=by
 intro C w Γ σ H s Γ' Q R e k;obtain⟨p,e1,e⟩:=uJ e;obtain⟨q,e2,e⟩:=uJ e;cases e;exact ha C w Γ σ H p.1 p.2 _ R e1 λv1 H1 R1 ev1 o1 n1=>hr C w p.2 σ H1 q.1 q.2 _ R1 e2 λvs H2 R2 ev2 o2 n2=>k (v1::vs) H2 R2 (ev1.trans ev2) ⟨o1.evo ev2 R1.lst,o2⟩ ⟨n1,n2.back ev1 R1.lst⟩
theorem PK{σ H}:∀ {vs ss ts},wB K C w σ H vs ss->trees ss=some ts->uh K H vs ts
 | [],[],_,_,e=>by cases e;exact .nil
 | v::vs,s::ss,_,h,e=>by
  obtain⟨t,e1,e⟩:=uJ e;obtain⟨ts,e2,rfl⟩:=map_some e;cases s with
  | v t'=>cases e1;exact .cons h.1 (PK h.2 e2)
  | l _ | s _ | d _=>cases e1
 | [],_::_,_,h,_ | _::_,[],_,h,_=>h.elim
def mQ{fa}(ha:wD K ta fa):uj K (AFR ta) (ue fa):=by
 intro C w Γ σ H s Γ' Q R e k;obtain⟨p,e1,e⟩:=uJ e;obtain⟨ts,e2,e⟩:=uJ e;obtain⟨hn,e⟩:=L6 e;cases e;refine ha C w Γ σ H p.1 p.2 _ R e1 λvs H1 R1 ev1 o1 _=>?_
 have hi:=PK o1 e2;exact⟨by rw[hi.len];exact hn,λq hq=>k _ _ (R1.new hq) (ev1.trans (vG.new hq)) (R1.newt hq hi) trivial⟩
def l8{fa}(ha:wD K ta fa):uj K (AGG ta) (vR fa):=by
 intro C w Γ σ H s Γ' Q R e k;obtain⟨p,e1,e⟩:=uJ e;obtain⟨ts,e2,e⟩:=uJ e;obtain⟨hn,e⟩:=L6 e;cases e;refine ha C w Γ σ H p.1 p.2 _ R e1 λvs H1 R1 ev1 o1 _=>?_
 have hi:=PK o1 e2;exact⟨by rw[hi.len];exact hn,λq hq=>k _ _ (R1.new hq) (ev1.trans (vG.new hq)) (R1.newl hq hi) ⟨_,rfl,Me ev1 R1.lst hq⟩⟩
def Pj(ha:uj K ta fa):xA K (ACd ta) (uQ fa):=by
 intro C w Γ σ H s Γ' Q R e k;obtain⟨p,e1,e⟩:=uJ e;obtain⟨p1,p2⟩:=p;dsimp only at e;split at e
 ·cases e;exact ha C w Γ σ H _ _ _ R e1 λv H1 R1 ev1 o1 _=>⟨_,vJ.inva o1,k H1 R1 ev1⟩
 ·cases e
theorem lA{fa fb}(ha:xA K ta fa)(hb:xA K tb fb):xA K (AFw ta tb) (yD fa fb):=by
 intro C w Γ σ H s Γ' Q R e k;obtain⟨⟨p,G1⟩,e1,e⟩:=uJ e;refine ha C w Γ σ H p G1 _ R e1 λH1 R1 ev1=>?_
 cases p with
 | true=>exact (if_pos rfl).mpr (hb C w G1 σ H1 s Γ' Q R1 ‹_› λH2 R2 ev2=>k H2 R2 (ev1.trans ev2))
 | false =>
  have e':(false,G1)=(s,Γ'):=by simpa using e
  cases e';exact (if_neg Ac).mpr (k H1 R1 ev1)
theorem aA{fa fb}(ha:xA K ta fa)(hb:xA K tb fb):xA K (tOr ta tb) (dOr fa fb):=by
 intro C w Γ σ H s Γ' Q R e k;obtain⟨⟨p,G1⟩,e1,e⟩:=uJ e;refine ha C w Γ σ H p G1 _ R e1 λH1 R1 ev1=>?_
 cases p with
 | false=>exact (if_neg Ac).mpr (hb C w G1 σ H1 s Γ' Q R1 ‹_› λH2 R2 ev2=>k H2 R2 (ev1.trans ev2))
 | true =>
  have e':(true,G1)=(s,Γ'):=by simpa using e
  cases e';exact (if_pos rfl).mpr (k H1 R1 ev1)
def Yt{fa}(ha:xA K ta fa):xA K (AFG ta) (zY fa):=by
 intro C w Γ σ H s Γ' Q R e k;obtain⟨p,e1,e⟩:=uJ e;cases e;exact ha C w Γ σ H p.1 p.2 _ R e1 λH1 R1 ev1=>k H1 R1 ev1
theorem o9{fa fb}(ha:uj K ta fa)(hb:uj K tb fb):uj K (ACi ta tb) (yL fa fb):=by
 intro C w Γ σ H s Γ' Q R e k;obtain⟨⟨p,G1⟩,e1,e⟩:=uJ e;refine (Pj ha) C w Γ σ H p G1 (λc H1=>if c=true then tb σ H1 Q else Q (.bl false) H1) R e1 λH1 R1 ev1=>?_
 cases p with
 | true=>exact (if_pos rfl).mpr (hb C w G1 σ H1 s Γ' Q R1 ‹_› λv H2 R2 ev2 o n=>k v H2 R2 (ev1.trans ev2) o (n.back ev1 R1.lst))
 | false =>
  have e':(S.v (.a (.bl false)),G1)=(s,Γ'):=by simpa using e
  cases e';exact (if_neg Ac).mpr (k _ H1 R1 ev1 vJ.atom trivial)
theorem jT{fa fb}(ha:uj K ta fa)(hb:uj K tb fb):uj K (AFr ta tb) (ACF fa fb):=by
 intro C w Γ σ H s Γ' Q R e k;obtain⟨⟨p,G1⟩,e1,e⟩:=uJ e;refine (Pj ha) C w Γ σ H p G1 (λc H1=>if c=true then Q (.bl true) H1 else tb σ H1 Q) R e1 λH1 R1 ev1=>?_
 cases p with
 | false=>exact (if_neg Ac).mpr (hb C w G1 σ H1 s Γ' Q R1 ‹_› λv H2 R2 ev2 o n=>k v H2 R2 (ev1.trans ev2) o (n.back ev1 R1.lst))
 | true =>
  have e':(S.v (.a (.bl true)),G1)=(s,Γ'):=by simpa using e
  cases e';exact (if_pos rfl).mpr (k _ H1 R1 ev1 vJ.atom trivial)
def gY(ha:uj K ta fa):uj K (ACu ta) (zF fa):=by
 intro C w Γ σ H s Γ' Q R e k;obtain⟨⟨p,G1⟩,e1,e⟩:=uJ e;cases e;exact (Pj ha) C w Γ σ H p G1 (λc H1=>Q (.bl (!c)) H1) R e1 λH1 R1 ev1=>k _ H1 R1 ev1 vJ.atom trivial
theorem Xd{ta tb fc fa fb}(hc:xA K tc fc)(ha:uj K ta fa)(hb:uj K tb fb):uj K (tIf tc ta tb) (yI fc fa fb):=by
 intro C w Γ σ H s Γ' Q R e k;obtain⟨⟨p,G1⟩,e1,e⟩:=uJ e;refine hc C w Γ σ H p G1 _ R e1 λH1 R1 ev1=>?_
 cases p with
 | true=>exact (if_pos rfl).mpr (ha C w G1 σ H1 s Γ' Q R1 ‹_› λv H2 R2 ev2 o n=>k v H2 R2 (ev1.trans ev2) o (n.back ev1 R1.lst))
 | false=>exact (if_neg Ac).mpr (hb C w G1 σ H1 s Γ' Q R1 ‹_› λv H2 R2 ev2 o n=>k v H2 R2 (ev1.trans ev2) o (n.back ev1 R1.lst))
end
noncomputable def uX:DS:=λΓ=>some (.nx Γ)
noncomputable def uO (f g:DS):DS:=λΓ=>(f Γ).bind λo=>match o with
 | .nx Γ'=>g Γ'
 | o=>some o
noncomputable def xm:DS:=λ_=>none
noncomputable def wA (f:DE):DS:=λΓ=>(f Γ).map λp=>.nx p.2
noncomputable def uT (f:DE):DS:=λΓ=>(f Γ).map λp=>.rt p.1 p.2
noncomputable def vd (c:DT) (f g:DS):DS:=λΓ=>(c Γ).bind λp=>if p.1=true then f p.2 else g p.2
noncomputable def ABC (i:Nat) (s:S) (Γ:En):Option En:=match s with
 | .v t=>some (Γ.set i (some (.v t)))
 | .l xs=>some (Γ.set i (some (.l xs)))
 | .d xs=>some (Γ.set i (some (.d xs)))
 | .s j=>match Γ[j]? with
  | some (some (.r xs))=>some (Γ.set i (some (.r xs)))
  | _=>none
noncomputable def uS (i:Nat) (f:DE):DS:=λΓ=>(f Γ).bind λp=>(ABC i p.1 p.2).map .nx
noncomputable def vH (c:DT) (b:DS):Nat->DS
 | 0=>λ_=>none
 | n+1=>λΓ=>(c Γ).bind λp=>if p.1=true then (b p.2).bind λo=>match o with
   | .nx Γ'=>vH c b n Γ'
   | .ct Γ'=>vH c b n Γ'
   | .bk Γ'=>some (.nx Γ')
   | .rt s Γ'=>some (.rt s Γ')
  else some (.nx p.2)
section
variable {K:Fg}{ip:Option Nat}
def fZ:wU K ip ACa uX:=λC w Γ σ H D o _ R e k=>by cases e;exact k w σ H R
def Za{ts:DS}:wU K ip AAl xm:=λC w Γ σ H D o _ R e k=>by cases e
theorem Y8{f g}(h1:wU K ip t f)(h2:wU K ip u g):wU K ip (AFY t u) (uO f g):=by
 intro C w Γ σ H D o hp R e k;obtain⟨o1,e1,e⟩:=uJ e;refine h1 C w Γ σ H _ o1 hp R e1 ?_;cases o1 with
 | nx Γ1=>exact λw' σ' H' R'=>h2 C w' Γ1 σ' H' D o hp R' e k
 | rt s Γ1 | bk Γ1 | ct Γ1=>cases e;exact k
def aW(h:uj K te f):wU K ip (ACk te) (wA f):=by
 intro C w Γ σ H D o hp R e k;obtain⟨p,e1,rfl⟩:=map_some e;exact h C w Γ σ H p.1 p.2 _ R e1 λv H1 R1 _ _ _=>k w σ H1 R1
def eW(h:uj K te f):wU K ip (AFT te) (uT f):=by
 intro C w Γ σ H D o hp R e k;obtain⟨p,e1,rfl⟩:=map_some e;exact h C w Γ σ H p.1 p.2 _ R e1 λv H1 R1 _ o _=>k w σ H1 v R1 o
theorem kf{t u c f g}(hc:xA K tc c)(h1:wU K ip t f)(h2:wU K ip u g):wU K ip (AEw tc t u) (vd c f g):=by
 intro C w Γ σ H D o hp R e k;obtain⟨⟨p,G1⟩,e1,e⟩:=uJ e;refine hc C w Γ σ H p G1 _ R e1 λH1 R1 _=>?_
 cases p with
 | true=>exact (if_pos rfl).mpr (h1 C w G1 σ H1 D o hp R1 ‹_› k)
 | false=>exact (if_neg Ac).mpr (h2 C w G1 σ H1 D o hp R1 ‹_› k)
def MV{C:Fr}{i}(hp:C.pins.map (·.1)=ip.toList)(hi:ip≠some i):∀ q∈C.pins,q.1≠i:=λq hq e=>by
 have:=hp ▸ Am.mpr ⟨q,hq,rfl⟩;simp_all
theorem mT{Γ Γ' σ H v s i}(R:ui K C w Γ σ H)(o:vJ K C w σ H v s)(e:ABC i s Γ=some Γ')(hn:∀ q∈C.pins,q.1≠i):∃ w',ui K C w' Γ' (σ.set i (some v)) H:=by
 cases s with
 | v t=>cases e;exact⟨w,R.setv rfl o hn⟩
 | d xs =>
  cases e;obtain⟨p,vs,rfl,n1,n2,ow,h1,h2⟩:=o;exact⟨_,R.setd n1 n2 ow h1 h2 hn⟩
 | l xs =>
  cases e;obtain⟨p,vs,rfl,n1,n2,ow,h1,h2⟩:=o;exact⟨_,R.setl n1 n2 ow h1 h2 hn⟩
 | s j =>
  unfold ABC at e;dsimp only at e;split at e
  ·rename_i xs he;cases e;obtain⟨v',e1,e2⟩:=R.val j _ he;rw[o]at e1;cases e1;exact⟨w,R.setv rfl e2 hn⟩
  ·cases e
def TY{i}(h:uj K te f)(hi:ip≠some i):wU K ip (ABe te (zM i)) (uS i f):=by
 intro C w Γ σ H D o hp R e k;obtain⟨p,e1,e⟩:=uJ e;obtain⟨Γ1,e2,rfl⟩:=map_some e;refine h C w Γ σ H p.1 p.2 _ R e1 λv H1 R1 _ o1 _=>?_
 obtain⟨w',R'⟩:=mT R1 o1 e2 (MV hp hi);exact k w' _ H1 R'
theorem Yf{tb c b} n (hc:xA K tc c) (hb:wU K ip tb b):wU K ip (AAt tc tb) (vH c b n):=by
 intro C w Γ σ H D o hp R e k;refine⟨λm σ H=>∃ w Γ,ui K C w Γ σ H/\vH c b m Γ=some o,⟨n,w,Γ,R,e⟩,?_⟩;rintro m σ1 H1 ⟨w1,Γ1,R1,e1⟩;cases m with
 | zero=>cases e1
 | succ m =>
  unfold vH at e1;obtain⟨⟨p,G2⟩,e2,e1⟩:=uJ e1;refine hc C w1 Γ1 σ1 H1 p G2 _ R1 e2 λH2 R2 _=>?_
  cases p with
  | false =>
   cases e1;exact k w1 σ1 H2 R2
  | true =>
   obtain⟨o2,e3,e1⟩:=uJ e1;refine⟨λσ' H'=>∃ w Γ,ui K C w Γ σ' H'/\vH c b m Γ=some o,λσ' H' ⟨w',Γ',R',e'⟩=>⟨m,Cg _,w',Γ',R',e'⟩,hb C w1 G2 σ1 H2 _ o2 hp R2 e3 ?_⟩;cases o2 with
   | nx Γ' | ct Γ'=>exact λw' σ' H' R'=>⟨w',Γ',R',e1⟩
   | bk Γ' | rt s Γ'=>cases e1;exact k
end
section
variable {K:Fg}{C:Fr}{w:W}{Γ Γ':En}{σ:St}{H H':Hp}
def ui.base(R:ui K C w Γ σ H):ui K ⟨H,w.L,C.pins⟩ w Γ σ H:=
 ⟨R.len,R.val,R.apart,R.lst,λp hp=>.inl hp,R.ra,R.rl,λb o h _=>h,R.tab,R.pin⟩
def ui.back(R:ui K C w Γ σ H)(hC:C1=⟨H,w.L,C.pins⟩)(R1:ui K C1 w1 Γ1 σ1 H1):ui K C w1 Γ1 σ1 H1:=by
 subst hC;refine⟨R1.len,R1.val,R1.apart,R1.lst,λp hp=>?_,R1.ra,R1.rl,λb o h n=>R1.frame b o (R.frame b o h n) λz=>?_,R1.tab,R1.pin⟩
 ·rcases R1.own p hp with z | z
  ·exact R.own p z
  ·exact (R.fresh z).2.2
 ·rcases R.own b z with q | q
  ·exact n q
  ·rw[q]at h;cases h
def Ow.back(R:ui K C w Γ σ H)(hC:C1=⟨H,w.L,C.pins⟩)(h:Ow C1 p):Ow C p:=by
 subst hC;rcases h with z | z
 ·exact R.own p z
 ·exact (R.fresh z).2.2
theorem vJ.back(R:ui K C w Γ σ H)(hC:C1=⟨H,w.L,C.pins⟩)(o:vJ K C1 w1 σ1 H1 v s):vJ K C w1 σ1 H1 v s:=by
 cases s with
 | v t | s i=>exact o
 | l xs | d xs =>
  obtain⟨p,vs,e,n1,n2,ow,h1,h2⟩:=o;exact⟨p,vs,e,n1,n2,Ow.back R hC ow,h1,h2⟩
def ui.freeze(R:ui K C w Γ σ H)(hi:Γ[i]?=some (some (.l xs)))(hp:σ[i]?=some (some (.ref p)))(hn:∀ q∈C.pins,q.1≠i) :
  ui K C ⟨w.L.filter (λq=>decide (q≠p)),λq=>q=p\/w.R q⟩ (Γ.set i (some (.r xs))) σ H:=by
 have hiΓ:=(Af.mp hi).1;obtain⟨v0,e0,q0,vs0,rfl,hq0,hv0,hi0⟩:=R.val i _ hi;rw[hp]at e0;cases e0;have mem:∀ {q:Addr},q∈w.L.filter (λq=>decide (q≠p)) ↔ q∈w.L/\q≠p:=by intro q;simp
 have back:∀ m g,v9 g=true->(Γ.set i (some (.r xs)))[m]?=some (some g)->m≠i/\Γ[m]?=some (some g):=λm g mg h=>by
  by_cases hm:m=i
  ·subst hm;rw[Aj hiΓ]at h;cases h;cases mg
  ·rw[AU (Aw hm)]at h;exact⟨hm,h⟩
 refine⟨by simpa using R.len,λj g h=>?_,λj k c ga gb ma mb h1 h2 h3 h4=>?_,λc hc=>R.lst c (mem.mp hc).1,λc hc=>R.own c (mem.mp hc).1,λc hc=>?_,λc hc z=>?_,R.frame,R.tab,λq hq=>?_⟩
 ·by_cases hj:j=i
  ·subst hj;rw[Aj hiΓ]at h;cases h;exact⟨_,hp,p,vs0,rfl,hi0,hv0,λz=>(mem.mp z).2 rfl,.inl rfl⟩
  ·rw[AU (Aw hj)]at h;obtain⟨v,e1,e2⟩:=R.val j g h;refine⟨v,e1,?_⟩;cases g with
   | v t | k ys=>exact e2
   | l ys | d ys =>
    obtain⟨c,us,rfl,hc,h1,h2⟩:=e2;exact⟨c,us,rfl,mem.mpr ⟨hc,λz=>hj (R.apart j i p _ _ rfl rfl h hi (z ▸ e1) hp)⟩,h1,h2⟩
   | r ys | e ys =>
    obtain⟨c,us,rfl,h1,h2⟩:=e2;exact⟨c,us,rfl,h1,h2.1,λz=>h2.2.1 (mem.mp z).1,.inr h2.2.2⟩
 ·obtain⟨_,g1⟩:=back j ga ma h1;obtain⟨_,g2⟩:=back k gb mb h2;exact R.apart j k c ga gb ma mb g1 g2 h3 h4
 ·rcases hc with e | e
  ·subst e;exact⟨_,hv0⟩
  ·exact R.ra c e
 ·rcases hc with e | e
  ·exact (mem.mp z).2 e
  ·exact R.rl c e (mem.mp z).1
 ·obtain⟨h1,zs,h2⟩:=R.pin q hq;exact⟨h1,zs,by rw[AU (Aw (hn q hq))];exact h2⟩
noncomputable def AAv (Γ:En) (i:Nat):En:=match Γ[i]? with
 | some (some (.l xs))=>Γ.set i (some (.r xs))
 | _=>Γ
noncomputable def frz (Γ:En) (src:List Nat):En:=src.foldl AAv Γ
theorem ui.frz:∀ src {w Γ},ui K C w Γ σ H->(∀ i∈src,∀ q∈C.pins,q.1≠i) ->
  ∃ w',ui K C w' (frz Γ src) σ H/\(∀ p∈w'.L,p∈w.L)/\∀ i∈src,∀ p,σ[i]?=some (some (.ref p))->(∃ xs,Γ[i]?=some (some (.l xs)))->p∉w'.L:=by
 intro src;induction src with
 | nil=>intro w Γ R _;exact⟨w,R,λp h=>h,λi hi=>nomatch hi⟩
 | cons i r ih =>
  intro w Γ R hn;have step:∃ w1,ui K C w1 (AAv Γ i) σ H/\(∀ p∈w1.L,p∈w.L)/\(∀ p,σ[i]?=some (some (.ref p))->(∃ xs,Γ[i]?=some (some (.l xs)))->p∉w1.L):=by
   unfold AAv;split
   ·rename_i xs e;obtain⟨v,e1,p,vs,rfl,_⟩:=R.val i _ e;refine⟨_,R.freeze e e1 (hn i AG),λq hq=>(Bs.mp hq).1,λq hq _ z=>?_⟩;simp_all
   ·rename_i e;exact⟨w,R,λp h=>h,λp _ ⟨xs,h⟩=>absurd h (e xs)⟩
  obtain⟨w1,R1,s1,n1⟩:=step;obtain⟨w2,R2,s2,n2⟩:=ih R1 (λj hj=>hn j (AH _ hj));refine⟨w2,R2,λp h=>s1 p (s2 p h),λj hj p hp hx=>?_⟩;rcases AR.mp hj with e | e
  ·subst e;exact λz=>n1 p hp hx (s2 p z)
  ·by_cases hji:j=i
   ·subst hji;exact λz=>n1 p hp hx (s2 p z)
   ·refine n2 j e p hp ?_;obtain⟨xs,hx⟩:=hx;refine⟨xs,?_⟩;unfold AAv;split
    ·rw[AU (Aw hji)];exact hx
    ·exact hx
end
abbrev DI:=En->Option ((List T×List Nat)×En)
def AEk (K:Fg) (w:W) (Γ:En) (σ:St) (J:It) (H:Hp) (its:List T) (src:List Nat):Prop:=its.length<=AD/\∀ L',(∀ p∈L',p∈w.L)->(∀ i∈src,∀ p,σ[i]?=some (some (.ref p))->(∃ xs,Γ[i]?=some (some (.l xs)))->p∉L')->∀ H2,vG L' H H2 ->
 (∀ i t,its[i]?=some t->J.go i H2/\∀ x H3,J.yld i H2 x H3->(∀ b o,H2 b=some o->H3 b=some o)/\Im K H3 x t)/\J.stop its.length H2
def zC (K:Fg) (wi:TI) (di:DI):Prop:=∀ C w Γ σ H its src Γ' R,ui K C w Γ σ H->di Γ=some ((its,src),Γ') ->
 (∀ J H',ui K C w Γ' σ H'->vG w.L H H'->AEk K w Γ' σ J H' its src->R J H')->wi σ H R
def AAz (K:Fg) (ip:Option Nat) (g:TG) (tg:En->T->Option En):Prop:=∀ C w Γ σ H v t Γ' Q,C.pins.map (·.1)=ip.toList->ui K C w Γ σ H->Im K H v t->tg Γ t=some Γ' ->
 (∀ σ',ui K C w Γ' σ' H->Q σ' H)->g v σ H Q
def AAF (K:Fg) (ip:Option Nat) (g:TGs) (tg:En->List T->Option En):Prop:=∀ C w Γ σ H vs ts Γ' Q,C.pins.map (·.1)=ip.toList->ui K C w Γ σ H->uh K H vs ts->tg Γ ts=some Γ' ->
 (∀ σ',ui K C w Γ' σ' H->Q σ' H)->g vs σ H Q
noncomputable def uP (i:Nat):En->T->Option En:=λΓ t=>some (Γ.set i (some (.v t)))
noncomputable def xc:En->List T->Option En:=λΓ ts=>match ts with
 | []=>some Γ
 | _=>none
noncomputable def vK (f:En->T->Option En) (g:En->List T->Option En):En->List T->Option En:=λΓ ts=>match ts with
 | []=>none
 | t::r=>(f Γ t).bind λΓ1=>g Γ1 r
noncomputable def xG (n:Nat) (g:En->List T->Option En):En->T->Option En:=λΓ t=>match t with
 | .t ts=>if ts.length=n then g Γ ts else none
 | _=>none
section
variable {K:Fg}{ip:Option Nat}
def el(hi:ip≠some i):AAz K ip (zM i) (uP i):=by
 intro C w Γ σ H v t Γ' Q hp R h e k;cases e;exact k _ (R.setv rfl h (MV hp hi))
theorem YA:AAF K ip AEr xc:=by
 intro C w Γ σ H vs ts Γ' Q hp R h e k;cases ts with
 | nil=>cases e;exact⟨h.inv0,k σ R⟩
 | cons t r=>cases e
theorem lJ(h1:AAz K ip g f)(h2:AAF K ip gs fs):AAF K ip (ACe g gs) (vK f fs):=by
 intro C w Γ σ H vs ts Γ' Q hp R h e k;cases ts with
 | nil=>cases e
 | cons t r =>
  obtain⟨Γ1,e1,e2⟩:=uJ e;obtain⟨v,us,rfl,i1,i2⟩:=h.inv;exact⟨v,us,rfl,h1 C w Γ σ H v t Γ1 _ hp R i1 e1 λσ1 R1=>h2 C w Γ1 σ1 H us r Γ' Q hp R1 i2 e2 k⟩
theorem oZ(h:AAF K ip gs fs):AAz K ip (ADp K n gs) (xG n fs):=by
 intro C w Γ σ H v t Γ' Q hp R hi e k;cases t with
 | a u | l u | f u | x u v | m u v=>cases e
 | t ts =>
  unfold xG at e;dsimp only at e;split at e
  ·rename_i hn;obtain⟨p,us,rfl,h1,h2⟩:=hi.inv;exact⟨p,us,rfl,h1.sq,by rw[h2.len];exact hn,h C w Γ σ H us ts Γ' Q hp R h2 e k⟩
  ·cases e
end
noncomputable def vm (tg:En->T->Option En) (b:DS):List T->DS
 | []=>λΓ=>some (.nx Γ)
 | t::r=>λΓ=>(tg Γ t).bind λΓ1=>(b Γ1).bind λo=>match o with
  | .nx Γ'=>vm tg b r Γ'
  | .ct Γ'=>vm tg b r Γ'
  | .bk Γ'=>some (.nx Γ')
  | .rt s Γ'=>some (.rt s Γ')
noncomputable def xY (ip:Option Nat) (di:DI) (tg:En->T->Option En) (b:DS):DS:=λΓ=>(di Γ).bind λp=>if p.1.2.all (λi=>decide (ip≠some i))=true then vm tg b p.1.1 (frz p.2 p.1.2) else none
def om(hi:zC K wi di)(hg:AAz K ip g tg)(hb:wU K ip tb b):wU K ip (AEj wi g tb) (xY ip di tg b):=by
 intro C w Γ σ H D o hp R e k;obtain⟨⟨⟨its,src⟩,Γ1⟩,e1,e⟩:=uJ e;dsimp only at e;split at e
 rotate_left
 ·cases e
 rename_i hsrc;refine hi C w Γ σ H its src Γ1 _ R e1 λJ H1 R1 _ ⟨hl,hJ⟩=>?_
 obtain⟨w2,R2,sub,avoid⟩:=R1.frz src (λi hi'=>MV hp (by have:=Au.mp hsrc i hi';simpa using this));have hC:∃ C1:Fr,C1=⟨H1,w2.L,C.pins⟩:=⟨_,rfl⟩
 obtain⟨C1,hC⟩:=hC;have hp1:C1.pins.map (·.1)=ip.toList:=by rw[hC];exact hp
 refine⟨λi m σ H=>m=its.length - i/\i<=its.length/\∃ w Γ,ui K C1 w Γ σ H/\vm tg b (its.drop i) Γ=some o,⟨_,rfl,BO _,w2,_,(hC ▸ R2.base),e⟩,?_⟩;rintro i m σ' H' ⟨rfl,hi',w',Γ',R',e'⟩;have ev:vG w2.L H1 H':=λb o h n=>R'.frame b o (by rw[hC];exact h) (by rw[hC];exact n)
 obtain⟨go,stop⟩:=hJ w2.L sub avoid H' ev;by_cases hlt:i < its.length
 ·obtain⟨t,ht⟩:∃ t,its[i]?=some t:=⟨its[i],by simp⟩
  have hd:its.drop i=t::its.drop (i+1):=by
   obtain⟨h1,h2⟩:=Af.mp ht;rw[← h2];exact G5 h1
  rw[hd]at e';unfold vm at e';obtain⟨Γ2,e2,e'⟩:=uJ e';obtain⟨o2,e3,e'⟩:=uJ e';obtain⟨g1,g2⟩:=go i t ht;refine .inr ⟨g1,λσ H=>∃ w Γ,ui K C1 w Γ σ H/\vm tg b (its.drop (i+1)) Γ=some o,λσ2 H2 ⟨w2,Γ2,R2,e2⟩=>⟨_,by lia,rfl,hlt,w2,Γ2,R2,e2⟩,λx H3 hx=>?_⟩;obtain⟨k1,k2⟩:=g2 x H3 hx;refine hg C1 w' Γ' σ' H3 x t Γ2 _ hp1 (R'.evo0 k1) k2 e2 λσ4 R4=>hb C1 w' Γ2 σ4 H3 _ o2 hp1 R4 e3 ?_
  cases o2 with
  | nx Γ5 | ct Γ5=>exact λw5 σ5 H5 R5=>⟨w5,Γ5,R5,e'⟩
  | bk Γ5=>cases e';exact λw5 σ5 H5 R5=>k w5 σ5 H5 (R2.back hC R5)
  | rt s Γ5=>cases e';exact λw5 σ5 H5 v R5 o5=>k w5 σ5 H5 v (R2.back hC R5) (o5.back R2 hC)
 ·have:i=its.length:=by lia
  subst this;rw[Il]at e';cases e';exact .inl ⟨stop,k w' σ' H' (R2.back hC R')⟩
noncomputable def wZ (mu:Option Nat) (k:Nat):Option G->Option G
 | some (.l xs)=>if mu=some k then some (.l xs) else some (.r xs)
 | some (.d xs)=>some (.e xs)
 | o=>o
noncomputable def xH (mu:Option Nat) (ix:List (Option Nat)) (Γ:En):En:=ix.map λo=>o.bind λk=>wZ mu k (Γ[k]?).join
noncomputable def vg (tg:En->T->Option En) (dc:DT) (de:DE):List T->En->Option (List T×En)
 | [],Γ=>some ([],Γ)
 | t::r,Γ=>(tg Γ t).bind λΓ1=>(dc Γ1).bind λp=>if p.1=true then (de p.2).bind λq=>q.1.tree.bind λt'=>(vg tg dc de r q.2).map λz=>(t'::z.1,z.2) else vg tg dc de r p.2
noncomputable def AAG (mu:Option (Nat×Nat)) (Γ Γo:En):En:=match mu with
 | none=>Γ
 | some (j,i)=>match Γo[j]? with
  | some (some (.l xs))=>Γ.set i (some (.l xs))
  | _=>Γ
noncomputable def u7 (mu:Option (Nat×Nat)) (ix:List (Option Nat)) (di:DI) (tg:En->T->Option En) (dc:DT) (de:DE):DE:=λΓ=>(di Γ).bind λp =>
 match mu with
 | none=>(vg tg dc de p.1.1 (xH none ix p.2)).map λz=>(.l z.1,p.2)
 | some (j,i)=>if i∈p.1.2 then none else match p.2[i]? with
  | some (some (.l _))=>(vg tg dc de p.1.1 (xH (some i) ix p.2)).map λz=>(.l z.1,AAG mu p.2 z.2)
  | _=>none
section
variable {K:Fg}
def Sr
  (hp:C1.pins.map (·.1)=jp.toList) (hg:AAz K jp g tg) (hc:xA K tc dc) (he:uj K te de) (hl:its.length<=AD) (hC:C1.H0=H1)
  (hJ:∀ H2,vG C1.fx H1 H2->(∀ i t,its[i]?=some t->J.go i H2/\∀ x H3,J.yld i H2 x H3->(∀ b o,H2 b=some o->H3 b=some o)/\Im K H3 x t)/\J.stop its.length H2)
  (hfx:∀ p,p∈w1.L->p∈C1.fx)
  (R:ui K C1 w1 Γ0 (frm ix σ) H1) (e:vg tg dc de its Γ0=some (ts,Γe))
  (k:∀ σ' H' ys,ui K C1 w1 Γe σ' H'->uh K H' ys ts->ys.length<=AD->∀ D,H' D=none->Q (.ref D) (upd H' D (.lst ys))):ACw J ix g tc te σ H1 Q:=by
 refine⟨λi m ys σ' H'=>m=its.length - i/\i<=its.length/\ys.length<=i/\∃ Γ pre post,ui K C1 w1 Γ σ' H'/\uh K H' ys pre/\vg tg dc de (its.drop i) Γ=some (post,Γe)/\ts=pre++post,⟨_,rfl,BO _,BO _,Γ0,[],ts,R,.nil,e,rfl⟩,?_⟩;rintro i m ys σ' H' ⟨rfl,hi,hy,Γ,pre,post,R',hpre,e',rfl⟩;obtain⟨go,stop⟩:=hJ H' (λb o h n=>R'.frame b o (by rw[hC];exact h) n);by_cases hlt:i < its.length
 ·obtain⟨t,ht⟩:∃ t,its[i]?=some t:=⟨its[i],by simp⟩
  have hd:its.drop i=t::its.drop (i+1):=by
   obtain⟨h1,h2⟩:=Af.mp ht;rw[← h2];exact G5 h1
  rw[hd]at e';unfold vg at e';obtain⟨Γ1,e1,e'⟩:=uJ e';obtain⟨⟨b,Γ2⟩,e2,e'⟩:=uJ e';obtain⟨g1,g2⟩:=go i t ht;refine .inr ⟨g1,by lia,λys' σ2 H2=>ys'.length<=i+1/\∃ Γ pre' post',ui K C1 w1 Γ σ2 H2/\uh K H2 ys' pre'/\vg tg dc de (its.drop (i+1)) Γ=some (post',Γe)/\pre++post=pre'++post',λys' σ2 H2 ⟨a,b⟩=>⟨_,by lia,rfl,hlt,a,b⟩,λx H2 hx=>?_⟩;obtain⟨k1,k2⟩:=g2 x H2 hx;have ev1:vG w1.L H' H2:=λb o h _=>k1 b o h
  refine hg C1 w1 Γ σ' H2 x t Γ1 _ hp (R'.evo0 k1) k2 e1 λσ3 R3=>hc C1 w1 Γ1 σ3 H2 b Γ2 _ R3 e2 λH4 R4 ev4=>?_
  have hpre4:=(hpre.evo ev1 R'.lst).evo ev4 R3.lst;cases b with
  | true =>
   rw[if_pos rfl]at e' ⊢;obtain⟨⟨s,Γ3⟩,e3,e'⟩:=uJ e';obtain⟨t',e4,e'⟩:=uJ e';obtain⟨⟨ts',Γ4⟩,e5,e'⟩:=map_some e';cases e';refine he C1 w1 Γ2 σ3 H4 s Γ3 _ R4 e3 λv H5 R5 ev5 o5 _=>?_
   cases s with
   | l _ | s _ | d _=>cases e4
   | v t'' =>
    cases e4;exact⟨by simp;lia,Γ3,pre++[t'],ts',R5,(hpre4.evo ev5 R4.lst).app (.one o5),e5,by simp⟩
  | false =>
   exact⟨by lia,Γ2,pre,post,R4,hpre4,e',rfl⟩
 ·have:i=its.length:=by lia
  subst this;rw[Il]at e';cases e';rw[Bm]at k;exact .inl ⟨stop,by lia,k σ' H' ys R' hpre ⋯⟩
theorem O6{ix Γ}{j:Nat}{g}(h:(xH mu ix Γ)[j]?=some (some g)):∃ k g',ix[j]?=some (some k)/\Γ[k]?=some (some g')/\wZ mu k (some g')=some g:=by
 unfold xH at h;rw[Ag]at h;cases e:ix[j]? with
 | none=>rw[e]at h;cases h
 | some o =>
  rw[e]at h;cases o with
  | none=>cases h
  | some k =>
   have h':wZ mu k (Γ[k]?).join=some g:=Az h;cases e2:Γ[k]? with
   | none=>rw[e2]at h';cases h'
   | some o2 =>
    cases o2 with
    | none=>rw[e2]at h';cases h'
    | some g'=>rw[e2]at h';exact⟨k,g',rfl,e2,h'⟩
def RX{j k:Nat}{v}(h:ix[j]?=some (some k))(hv:σ[k]?=some (some v)):(frm ix σ)[j]?=some (some v):=by
 unfold frm;simp_all
theorem US{wi g tc te di tg dc de}(hi:zC K wi di)(hg:AAz K (mu.map (·.1)) g tg)(hc:xA K tc dc)(he:uj K te de)
  (hmu:∀ j i,mu=some (j,i)->ix[j]?=some (some i)) (hix:∀ (j j' i:Nat),mu.map (·.2)=some i->ix[j]?=some (some i)->ix[j']?=some (some i)->j=j'):uj K (AAb wi ix g tc te) (u7 mu ix di tg dc de):=by
 intro C w Γ σ H s Γ' Q R e k;obtain⟨⟨⟨its,src⟩,Γ1⟩,e1,e⟩:=uJ e;refine hi C w Γ σ H its src Γ1 _ R e1 λJ H1 R1 ev1 ⟨hl,hJ⟩=>?_
 cases mu with
 | none =>
  obtain⟨⟨ts,Γe⟩,e2,e⟩:=map_some e;cases e;have Rin:ui K ⟨H1,[],[]⟩ ⟨[],λq=>w.R q\/q∈w.L⟩ (xH none ix Γ1) (frm ix σ) H1:=by
   refine⟨by simp[xH,frm],λj g h=>?_,λi j p ga gb ma mb h1 h2 h3 h4=>?_,λp hp=>(nomatch hp),λp hp=>(nomatch hp),λp hp=>?_,λp hp=>(nofun),λb o h _=>h,R1.tab,λq hq=>(nomatch hq)⟩
   ·obtain⟨k',g',a1,a2,a3⟩:=O6 h;obtain⟨v,b1,b2⟩:=R1.val k' g' a2;refine⟨v,RX a1 b1,?_⟩;cases g' with
    | v t | k xs=>cases a3;exact b2
    | l xs =>
     have:=by simpa [wZ] using a3.symm
     subst this;obtain⟨p,vs,rfl,c1,c2,c3⟩:=b2;exact⟨p,vs,rfl,c3,c2,nofun,.inr c1⟩
    | r xs | e xs =>
     cases a3;obtain⟨p,vs,rfl,c1,c2⟩:=b2;exact⟨p,vs,rfl,c1,c2.1,nofun,.inl c2.2.2⟩
    | d xs =>
     cases a3;obtain⟨p,vs,rfl,c1,c2,c3⟩:=b2;exact⟨p,vs,rfl,c3,c2,nofun,.inr c1⟩
   ·obtain⟨k',g',a1,a2,a3⟩:=O6 h1;cases g' with
    | v t | r xs | k xs | d xs | e xs=>cases a3;cases ma
    | l xs =>
     have:=by simpa [wZ] using a3.symm
     subst this;cases ma
   ·rcases hp with z | z
    ·exact R1.ra p z
    ·obtain⟨o,z,_⟩:=R1.lst p z;exact⟨o,z⟩
  refine Sr rfl hg hc he hl rfl (λH2 ev=>hJ [] (λp hp=>nomatch hp) (λ_ _ _ _ _=>nofun) H2 ev) (λp hp=>hp) Rin e2 λσ' H' ys R' hy hz D hD=>?_
  have R2:=R1.evo0 λb o h=>R'.frame b o h nofun
  exact k _ _ (R2.new hD) ((ev1.trans λb o h _=>R'.frame b o h nofun).trans (vG.new hD)) (R2.newl hD hy) ⟨_,rfl,Me (ev1.trans λb o h _=>R'.frame b o h nofun) R2.lst hD⟩
 | some m =>
  obtain⟨j,i⟩:=m;dsimp only at e;split at e
  ·cases e
  rename_i hsrc;split at e
  rotate_left
  ·cases e
  rename_i xs0 hx0;obtain⟨⟨ts,Γe⟩,e2,e⟩:=map_some e;cases e;obtain⟨v0,s0,p,vs0,rfl,m0,h0,i0⟩:=R1.val i _ hx0;have hij:=hmu j i rfl;have Rin:ui K ⟨H1,[p],[(j,p)]⟩ ⟨[p],λq=>w.R q\/(q∈w.L/\q≠p)⟩ (xH (some i) ix Γ1) (frm ix σ) H1:=by
   refine⟨by simp[xH,frm],λj' g h=>?_,λi1 i2 p' ga gb ma mb h1 h2 h3 h4=>?_,λq hq=>?_,λq hq=>.inl hq,λq hq=>?_,λq hq z=>?_,λb o h _=>h,R1.tab,λq hq=>?_⟩
   ·obtain⟨k',g',a1,a2,a3⟩:=O6 h;obtain⟨v,b1,b2⟩:=R1.val k' g' a2;refine⟨v,RX a1 b1,?_⟩;cases g' with
    | v t | k xs=>cases a3;exact b2
    | l xs =>
     obtain⟨p',vs,rfl,c1,c2,c3⟩:=b2;by_cases hk:i=k'
     ·subst hk;have:=by simpa [wZ] using a3.symm
      subst this;rw[s0]at b1;cases b1;exact⟨p,vs,rfl,AI.mpr rfl,c2,c3⟩
     ·have:=by simpa [wZ,hk] using a3.symm
      subst this;have hne:p'≠p:=λz=>hk (R1.apart i k' p _ _ rfl rfl hx0 a2 s0 (z ▸ b1))
      exact⟨p',vs,rfl,c3,c2,λz=>hne (AI.mp z),.inr ⟨c1,hne⟩⟩
    | d xs =>
     cases a3;obtain⟨p',o',rfl,c1,c2,c3⟩:=b2;have hne:p'≠p:=λz=>by
      subst z;rw[h0]at c2;cases c2;exact c3
     exact⟨p',o',rfl,c3,c2,λz=>hne (AI.mp z),.inr ⟨c1,hne⟩⟩
    | r xs | e xs =>
     cases a3;obtain⟨p',vs,rfl,c1,c2⟩:=b2;exact⟨p',vs,rfl,c1,c2.1,λz=>c2.2.1 (AI.mp z ▸ m0),.inl c2.2.2⟩
   ·have only:∀ n gc,v9 gc=true->(xH (some i) ix Γ1)[n]?=some (some gc)->ix[n]?=some (some i):=λn gc mc h=>by
     obtain⟨k',g',a1,a2,a3⟩:=O6 h;cases g' with
     | v t | r xs | k xs | d xs | e xs=>cases a3;cases mc
     | l xs =>
      by_cases hk:i=k'
      ·subst hk;exact a1
      ·have:=by simpa [wZ,hk] using a3.symm
       subst this;cases mc
    exact hix i1 i2 i rfl (only i1 ga ma h1) (only i2 gb mb h2)
   ·rw[AI.mp hq];exact⟨_,h0,trivial⟩
   ·rcases hq with z | z
    ·exact R1.ra q z
    ·obtain⟨o,z,_⟩:=R1.lst q z.1;exact⟨o,z⟩
   ·have e:=AI.mp z;rcases hq with z | z
    ·exact R1.rl q z (e ▸ m0)
    ·exact z.2 e
   ·rw[AI.mp hq];refine⟨RX hij s0,xs0,?_⟩;unfold xH;rw[Ag,hij];show some (wZ (some i) i (Γ1[i]?).join)=_;rw[hx0];simp[wZ]
  have av:∀ i'∈src,∀ q,σ[i']?=some (some (.ref q))->(∃ xs,Γ1[i']?=some (some (.l xs)))->q∉[p]:=λi' hi' q hq ⟨xs,hx⟩ z=>by
   rw[AI.mp z]at hq;have:=R1.apart i i' p _ _ rfl rfl hx0 hx s0 hq;subst this;exact hsrc hi'
  refine Sr rfl hg hc he hl rfl (λH2 ev=>hJ [p] (λq hq=>AI.mp hq ▸ m0) av H2 ev) (λp hp=>hp) Rin e2 λσ' H' ys R' hy hz D hD=>?_
  obtain⟨q1,xs',q2⟩:=R'.pin (j,p) (AI.mpr rfl);obtain⟨v',s',p',us',rfl,_,h',i'⟩:=R'.val j _ q2;have s'':σ'[j]?=some (some (.ref p)):=q1;rw[s'']at s';cases s';have evp:vG [p] H1 H':=R'.frame;have R2:=(R1.put2 hx0 s0 evp h' i').1;have eb:AAG (some (j,i)) Γ1 Γe=Γ1.set i (some (.l xs')):=by unfold AAG;dsimp only;rw[q2]
  rw[eb]at k;exact k _ _ (R2.new hD) ((ev1.trans (evp.wide λq hq=>AI.mp hq ▸ m0)).trans (vG.new hD)) (R2.newl hD hy) ⟨_,rfl,Me (ev1.trans (evp.wide λq hq=>AI.mp hq ▸ m0)) R2.lst hD⟩
end
abbrev DF:=List G->Option (G×List T)
noncomputable def ROk (K:Fg) (H H':Hp) (v:V):G->Prop
 | .v t=>Im K H' v t
 | .l xs=>∃ p us,v=.ref p/\H p=none/\H' p=some (.lst us)/\uh K H' us xs
 | .r _=>False
 | .k _=>False
 | .d kvs=>∃ p o,v=.ref p/\H p=none/\H' p=some o/\yM K H' o kvs
 | .e _=>False
def Qo(h:yM K H (.lst vs) kvs):False:=h
noncomputable def wz (ip:Option Nat) (vs:List V):List (Nat×Addr):=match ip with
 | none=>[]
 | some k=>match vs[k]? with
  | some (.ref p)=>[(k,p)]
  | _=>[]
noncomputable def y8 (K:Fg) (ip:Option Nat) (n:Nat) (F:DF):Sp:=λvs H Q _=>vs.length=n/\∃ (w:W) (gs:List G) (r:G) (ys:List T),F gs=some (r,ys)/\ui K ⟨H,w.L,wz ip vs⟩ w (gs.map some) (vs.map some) H /\
 (wz ip vs).map (·.1)=ip.toList/\(∀ p∈w.L,p∈(wz ip vs).map (·.2)) /\
 ∀ v H',vG w.L H H'->(∀ q∈wz ip vs,∃ us,H' q.2=some (.lst us)/\uh K H' us ys)->ROk K H H' v r->Q v H'
noncomputable def ABo (ip:Option Nat) (Γ:En):List T:=match ip with
 | none=>[]
 | some k=>match Γ[k]? with
  | some (some (.l xs))=>xs
  | _=>[]
noncomputable def ABl (ip:Option Nat) (Γ:En):S->Option G
 | .v t=>some (.v t)
 | .l xs=>some (.l xs)
 | .s i=>if ip=some i then none else match Γ[i]? with
  | some (some (.l xs))=>some (.l xs)
  | some (some (.d xs))=>some (.d xs)
  | _=>none
 | .d xs=>some (.d xs)
noncomputable def ua (ip:Option Nat) (np nN:Nat) (g:DS):DF:=λgs=>if gs.length=np then (g (gs.map some++Ad (nN - np) none)).bind λo=>match o with
  | .nx Γ=>some (.v (.a .non),ABo ip Γ)
  | .rt s Γ=>(ABl ip Γ s).map λr=>(r,ABo ip Γ)
  | _=>none
 else none
section
variable {K:Fg}
def ui.more(R:ui K C w Γ σ H)(n:Nat):ui K C w (Γ++Ad n none) (σ++Ad n none) H:=by
 have get:∀ {j:Nat} {g:G},(Γ++Ad n none)[j]?=some (some g)->Γ[j]?=some (some g):=λ{j g} h=>by
  rcases Cq j Γ.length with z | z
  ·rw[BA z]at h;exact h
  ·rw[CF z,De]at h;split at h <;> cases h
 have put:∀ {j:Nat} {o:Option V},j < σ.length->(σ++Ad n none)[j]?=σ[j]?:=λz=>BA z
 have lt:∀ {j:Nat} {g:G},Γ[j]?=some (some g)->j < σ.length:=λh=>by rw[R.len];exact (Af.mp h).1
 refine⟨by simp[R.len],λi g h=>?_,λi j p ga gb ma mb h1 h2 h3 h4=>?_,R.lst,R.own,R.ra,R.rl,R.frame,R.tab,λq hq=>?_⟩
 ·have h':=get h;obtain⟨v,e1,e2⟩:=R.val i g h';exact⟨v,by rw[put (o:=none) (lt h')];exact e1,e2⟩
 ·have g1:=get h1;have g2:=get h2;rw[put (o:=none) (lt g1)]at h3;rw[put (o:=none) (lt g2)]at h4;exact R.apart i j p ga gb ma mb g1 g2 h3 h4
 ·obtain⟨h1,xs,h2⟩:=R.pin q hq;exact⟨by rw[put (o:=none) (lt h2)];exact h1,xs,by rw[BA (Af.mp h2).1];exact h2⟩
theorem Og(hb:wU K ip ts g)(h:y8 K ip np (ua ip np N.length g) vs H Q E):ts { nx:=λ_ H'=>Q .non H',rt:=Q } (L2.start N vs) H:=by
 obtain⟨hn,w,gs,r,ys,e,R,hp,hL,k⟩:=h;unfold ua at e;have hg:gs.length=np:=by
  have:=R.len;simp at this;lia
 rw[if_pos hg]at e;obtain⟨o,e1,e⟩:=uJ e;have R0:ui K ⟨H,w.L,wz ip vs⟩ w (gs.map some++Ad (N.length - np) none) (L2.start N vs) H:=by
  unfold L2.start;rw[hn];exact R.more _
 have fin:∀ {w':W} {Γ':En} {σ':St} {H':Hp},ui K ⟨H,w.L,wz ip vs⟩ w' Γ' σ' H'->ABo ip Γ'=ys->∀ v,ROk K H H' v r->Q v H':=λ{w' Γ' σ' H'} R' eo v hr=>by
  refine k v H' (R'.frame) (λq hq=>?_) hr;obtain⟨h1,xs,h2⟩:=R'.pin q hq;obtain⟨v',e1,p,us,rfl,_,h3,h4⟩:=R'.val q.1 _ h2;rw[h1]at e1;cases e1;refine⟨us,h3,?_⟩;have hq1:=hp ▸ Am.mpr ⟨q,hq,rfl⟩;rw[Hv]at hq1;unfold ABo at eo;rw[hq1]at eo;dsimp only at eo;rw[h2]at eo;rw[← eo];exact h4
 have notpin:∀ {w':W} {Γ':En} {σ':St} {H':Hp} {p:Addr},ui K ⟨H,w.L,wz ip vs⟩ w' Γ' σ' H'->(∀ q∈wz ip vs,q.2≠p)->Ow ⟨H,w.L,wz ip vs⟩ p->H p=none:=λ{w' Γ' σ' H' p} R' hne ow=>by
  rcases ow with z | z
  ·obtain⟨q,hq,e⟩:=Am.mp (hL p z);exact absurd e (hne q hq)
  ·exact z
 refine hb _ w _ _ H _ o hp R0 e1 ?_;cases o with
 | nx Γ' =>
  cases e;exact λw' σ' H' R'=>fin R' rfl _ rfl
 | rt s Γ' =>
  obtain⟨r',e2,e⟩:=map_some e;cases e;refine λw' σ' H' v R' o'=>fin R' rfl v ?_
  have inL:∀ q∈wz ip vs,q.2∈w'.L:=λq hq=>by
   obtain⟨h1,xs,h2⟩:=R'.pin q hq;obtain⟨v',e1,p,us,rfl,h3,_⟩:=R'.val q.1 _ h2;rw[h1]at e1;cases e1;exact h3
  cases s with
  | v t=>cases e2;exact o'
  | l xs | d xs =>
   cases e2;obtain⟨p,us,rfl,n1,n2,ow,h1,h2⟩:=o';exact⟨p,us,rfl,notpin R' (λq hq z=>n1 (z ▸ inL q hq)) ow,h1,h2⟩
  | s i =>
   unfold ABl at e2;dsimp only at e2;split at e2
   ·cases e2
   rename_i hi;split at e2
   iterate 2
    ·rename_i xs hx;cases e2;obtain⟨v',e3,p,us,rfl,h3,h4,h5⟩:=R'.val i _ hx;have o'':σ'[i]?=some (some v):=o';rw[o'']at e3;cases e3;refine⟨p,us,rfl,notpin R' (λq hq z=>?_) (R'.own p h3),h4,h5⟩;obtain⟨h1,ys',h2⟩:=R'.pin q hq;have:=R'.apart q.1 i q.2 _ _ rfl rfl h2 hx h1 (z ▸ o'');have hq1:=hp ▸ Am.mpr ⟨q,hq,rfl⟩;rw[Hv]at hq1;exact hi (by rw[hq1,this])
   ·cases e2
 | bk Γ' | ct Γ'=>cases e
noncomputable def vx (ip:Option Nat) (Γ:En) (k:Nat):S->Option G
 | .v t=>some (.v t)
 | .l xs=>some (if ip=some k then .l xs else .r xs)
 | .s i=>match Γ[i]? with
  | some (some (.l xs))=>some (if ip=some k then .l xs else .r xs)
  | some (some (.r xs))=>if ip=some k then none else some (.r xs)
  | some (some (.k xs))=>if ip=some k then none else some (.k xs)
  | some (some (.d xs))=>if ip=some k then none else some (.e xs)
  | some (some (.e xs))=>if ip=some k then none else some (.e xs)
  | _=>none
 | .d xs=>if ip=some k then none else some (.e xs)
noncomputable def vt (ip:Option Nat) (Γ:En):Nat->List S->Option (List G)
 | _,[]=>some []
 | k,s::r=>(vx ip Γ k s).bind λg=>(vt ip Γ (k+1) r).map λgs=>g::gs
noncomputable def ABd (i:Nat):S->Bool
 | .s j=>j == i
 | _=>false
noncomputable def ABL:S->Bool
 | .l _=>true
 | _=>false
noncomputable def xx (ip:Option Nat) (ss:List S):Bool:=match ip with
 | none=>true
 | some k=>match ss[k]? with
  | some (.s i)=>(ss.eraseIdx k).all λs=>!ABd i s
  | some (.l _)=>(ss.eraseIdx k).all λs=>!ABL s
  | _=>false
noncomputable def x4 (ip:Option Nat) (Γ:En) (ss:List S) (ys:List T):En:=match ip with
 | none=>Γ
 | some k=>match ss[k]? with
  | some (.s i)=>Γ.set i (some (.l ys))
  | _=>Γ
noncomputable def toS:G->S
 | .v t=>.v t
 | .l xs=>.l xs
 | .r xs=>.l xs
 | .k xs=>.l xs
 | .d xs=>.d xs
 | .e xs=>.d xs
noncomputable def uL (ip:Option Nat) (F:DF) (ds:List V) (fa:DA):DE:=λΓ=>(fa Γ).bind λp=>if xx ip p.1=true then (vt ip p.2 0 (p.1++ds.map λv=>.v (.a v))).bind λgs=>(F gs).map λq=>(toS q.1,x4 ip p.2 p.1 q.2) else none
theorem wB.app:∀ {vs ss},wB K C w σ H vs ss->∀ ds,wB K C w σ H (vs++ds) (ss++ds.map λv=>.v (.a v))
 | [],[],_,[]=>trivial
 | [],[],_,d::ds=>⟨vJ.atom,wB.app (vs:=[]) (ss:=[]) trivial ds⟩
 | _::_,_::_,h,ds=>⟨h.1,wB.app h.2 ds⟩
 | [],_::_,h,_ | _::_,[],h,_=>h.elim
theorem wB.len:∀ {vs ss},wB K C w σ H vs ss->vs.length=ss.length
 | [],[],_=>rfl
 | _::_,_::_,h=>by simp[wB.len h.2]
 | [],_::_,h | _::_,[],h=>h.elim
theorem wB.get:∀ {vs ss} {k:Nat} {s},wB K C w σ H vs ss->ss[k]?=some s->∃ v,vs[k]?=some v/\vJ K C w σ H v s
 | [],[],_,_,_,e=>by simp at e
 | v::_,_::_,0,_,h,e=>by simp at e;subst e;exact⟨v,rfl,h.1⟩
 | _::_,_::_,k+1,_,h,e=>by simpa using wB.get h.2 ‹_›
 | [],_::_,_,_,h,_ | _::_,[],_,_,h,_=>h.elim
theorem PJ:∀ {ss k gs},vt ip Γ k ss=some gs->gs.length=ss.length
 | [],_,_,e=>by cases e;rfl
 | s::r,k,_,e=>by
  obtain⟨g,e1,e⟩:=uJ e;obtain⟨gs,e2,rfl⟩:=map_some e;simp[PJ e2]
theorem Mt:∀ {ss k gs j g},vt ip Γ k ss=some gs->gs[j]?=some g->∃ s,ss[j]?=some s/\vx ip Γ (k+j) s=some g
 | [],_,_,_,_,e,h=>by cases e;simp at h
 | s::r,k,_,j,g,e,h=>by
  obtain⟨g',e1,e⟩:=uJ e;obtain⟨gs,e2,rfl⟩:=map_some e;cases j with
  | zero=>simp at h;subst h;exact⟨s,rfl,e1⟩
  | succ j =>
   obtain⟨s',a,b⟩:=Mt e2 ‹_›;exact⟨s',by simpa using a,by rw[← b];congr 1;lia⟩
theorem Qs(hF:∀ gs r,F gs=some r->gs.length=n)(ha:wD K ta fa):uj K (AAR (y8 K ip n F) ds E ta) (uL ip F ds fa):=by
 intro C w Γ σ H s Γ' Q R e k;obtain⟨⟨ss,Γ1⟩,e1,e⟩:=uJ e;dsimp only at e;split at e
 rotate_left
 ·cases e
 rename_i honce;obtain⟨gs,e2,e⟩:=uJ e;obtain⟨⟨r,ys⟩,e3,e⟩:=map_some e;cases e;refine ha C w Γ σ H ss Γ1 _ R e1 λvs0 H1 R1 ev1 o0 n0=>?_
 have o1:=o0.app ds;have hl0:=o0.len;generalize hvs:vs0++ds=vs at o1 ⊢;generalize hss:ss++(ds.map λv=>S.v (.a v))=ss' at o1 e2;have hl:=o1.len;have hgl:=PJ e2;have hn:vs.length=n:=by rw[hl,← hgl];exact hF _ _ e3
 have resOk:∀ {H2:Hp} {v:V} {L:List Addr},vG L H1 H2->ROk K H1 H2 v r->ui K C w Γ1 σ H1->vJ K C w σ H2 v (toS r):=λ{H2 v L} ev hr R=>by
  cases r with
  | v t=>exact hr
  | l xs | d xs =>
   obtain⟨p,us,rfl,h1,h2,h3⟩:=hr;obtain⟨a,b,c⟩:=R.fresh h1;exact⟨p,us,rfl,a,b,c,h2,h3⟩
  | r xs | k xs | e xs=>exact hr.elim
 have resNew:∀ {H2:Hp} {v:V},ROk K H1 H2 v r->Nw H v (toS r):=λ{H2 v} hr=>by
  cases r with
  | v t=>trivial
  | l xs | d xs =>
   obtain⟨p,us,rfl,h1,h2,h3⟩:=hr;exact⟨p,rfl,Me ev1 R1.lst h1⟩
  | r xs | k xs | e xs=>exact hr.elim
 cases ip with
 | none =>
  have Rc:ui K ⟨H1,[],[]⟩ ⟨[],λq=>∃ o,H1 q=some o⟩ (gs.map some) (vs.map some) H1:=by
   refine⟨by simp[hl,hgl],λj g h=>?_,λi j p ga gb ma mb h1 h2 h3 h4=>?_,λp hp=>(nomatch hp),λp hp=>(nomatch hp),λp hp=>hp,λp hp=>nofun,λb o h _=>h,R1.tab,λq hq=>(nomatch hq)⟩
   ·rw[Ag]at h;obtain⟨g',h',h⟩:=map_some h;cases h;obtain⟨s,a1,a2⟩:=Mt e2 h';obtain⟨v,b1,b2⟩:=o1.get a1;refine⟨v,by rw[Ag,b1];rfl,?_⟩;cases s with
    | v t=>cases a2;exact b2
    | l xs =>
     simp only[vx,A7]at a2;subst a2;obtain⟨p,us,rfl,n1,n2,ow,h1,h2⟩:=b2;exact⟨p,us,rfl,h2,h1,nofun,⟨_,h1⟩⟩
    | d xs =>
     simp only[vx,reduceCtorEq,if_false,A7]at a2;subst a2;obtain⟨p,us,rfl,n1,n2,ow,h1,h2⟩:=b2;exact⟨p,us,rfl,h2,h1,nofun,⟨_,h1⟩⟩
    | s i =>
     unfold vx at a2;dsimp only at a2;split at a2
     ·rename_i xs hx;simp at a2;subst a2;obtain⟨v',c1,p,us,rfl,c2,c3,c4⟩:=R1.val i _ hx;have b2':=b2;rw[b2']at c1;cases c1;exact⟨p,us,rfl,c4,c3,nofun,⟨_,c3⟩⟩
     ·rename_i xs hx;simp at a2;subst a2;obtain⟨v',c1,p,us,rfl,c2,c3⟩:=R1.val i _ hx;have b2':=b2;rw[b2']at c1;cases c1;exact⟨p,us,rfl,c2,c3.1,nofun,R1.ra p c3.2.2⟩
     ·rename_i xs hx;simp at a2;subst a2;obtain⟨v',c1,c2⟩:=R1.val i _ hx;have b2':=b2;rw[b2']at c1;cases c1;exact c2
     ·rename_i xs hx;simp at a2;subst a2;obtain⟨v',c1,p,us,rfl,c2,c3,c4⟩:=R1.val i _ hx;have b2':=b2;rw[b2']at c1;cases c1;exact⟨p,us,rfl,c4,c3,nofun,⟨_,c3⟩⟩
     ·rename_i xs hx;simp at a2;subst a2;obtain⟨v',c1,p,us,rfl,c2,c3⟩:=R1.val i _ hx;have b2':=b2;rw[b2']at c1;cases c1;exact⟨p,us,rfl,c2,c3.1,nofun,R1.ra p c3.2.2⟩
     ·cases a2
   ·rw[Ag]at h1;obtain⟨g',h',h⟩:=map_some h1;cases h;obtain⟨s,a1,a2⟩:=Mt e2 h';cases s with
    | v t=>cases a2;cases ma
    | l xs | d xs=>simp[vx]at a2;subst a2;cases ma
    | s i =>
     unfold vx at a2;dsimp only at a2;split at a2 <;> simp at a2 <;> (subst a2;cases ma)
  refine⟨hn,⟨[],λq=>∃ o,H1 q=some o⟩,gs,r,ys,e3,Rc,rfl,(λp hp=>nomatch hp),λv H2 ev _ hr=>?_⟩;have R2:=R1.evo0 λb o h=>ev b o h nofun
  exact k v H2 R2 (ev1.trans λb o h _=>ev b o h nofun) (resOk ev hr R1) (resNew hr)
 | some kk =>
  have hkk:∃ s,ss[kk]?=some s:=by
   unfold xx at honce;dsimp only at honce;cases z:ss[kk]? with
   | none=>rw[z]at honce;cases honce
   | some s=>exact⟨s,rfl⟩
  obtain⟨sk,hsk⟩:=hkk;have hkl:=(Af.mp hsk).1;have hsk':ss'[kk]?=some sk:=by rw[← hss,BA hkl];exact hsk
  obtain⟨vk,hvk,ok⟩:=o1.get hsk';have at_k:∃ p us xs,vk=.ref p/\H1 p=some (.lst us)/\uh K H1 us xs/\vx (some kk) Γ1 kk sk=some (.l xs)/\((∃ i,sk=.s i/\Γ1[i]?=some (some (.l xs))/\σ[i]?=some (some (.ref p))/\p∈w.L)\/(sk=.l xs/\p∉w.L/\¬ w.R p/\Ow C p)):=by
   obtain⟨gk,hgk⟩:∃ g,gs[kk]?=some g:=⟨gs[kk]'(by rw[hgl,← hss];simp;lia),by simp⟩
   obtain⟨s,a1,a2⟩:=Mt e2 hgk;rw[hsk']at a1;cases a1;rw[EF]at a2;cases sk with
   | v t | d xs=>unfold xx at honce;dsimp only at honce;rw[hsk]at honce;cases honce
   | l xs =>
    obtain⟨p,us,rfl,n1,n2,ow,h1,h2⟩:=ok;exact⟨p,us,xs,rfl,h1,h2,by simp[vx],.inr ⟨rfl,n1,n2,ow⟩⟩
   | s i =>
    unfold vx at a2;dsimp only at a2;have ok':=ok;split at a2
    ·rename_i xs hx;obtain⟨v',c1,p,us,rfl,c2,c3,c4⟩:=R1.val i _ hx;rw[ok']at c1;cases c1;exact⟨p,us,xs,rfl,c3,c4,by simp[vx,hx],.inl ⟨i,rfl,hx,ok',c2⟩⟩
    iterate 4
     ·rw[if_pos rfl]at a2;cases a2
    ·cases a2
  obtain⟨p,us,xs,rfl,hpu,hus,hag,hsort⟩:=at_k;have other:∀ j s,j≠kk->ss'[j]?=some s->(∀ i xs',s=.s i->Γ1[i]?=some (some (.l xs'))->σ[i]?≠some (some (.ref p)))/\(∀ xs' q,s=.l xs'->vJ K C w σ H1 (.ref q) s->q≠p):=λj s hj hs=>by
   rcases hsort with ⟨i0,rfl,g0,s0,m0⟩ | ⟨rfl,n1,n2,ow⟩
   ·refine⟨λi xs' e hx z=>?_,λxs' q e h z=>?_⟩
    ·subst e;have:=R1.apart i0 i p _ _ rfl rfl g0 hx s0 z;subst this;have hjl:j < ss.length:=by
      rcases Cq j ss.length with z | z
      ·exact z
      ·rw[← hss,CF z,Ag]at hs;obtain⟨d,_,hs⟩:=map_some hs;cases hs
     rw[← hss,BA hjl]at hs;unfold xx at honce;dsimp only at honce;rw[hsk]at honce;have:=Au.mp honce (.s i0) (GD.mpr ⟨j,hj,hs⟩);simp[ABd]at this
    ·subst e;obtain⟨q',us'',e,n1,_⟩:=h;cases e;exact n1 (z ▸ m0)
   ·refine⟨λi xs' e hx z=>?_,λxs' q e h z=>?_⟩
    ·obtain⟨v',c1,p',us2,rfl,c2,_⟩:=R1.val i _ hx;rw[z]at c1;cases c1;exact n1 c2
    ·subst e;have hjl:j < ss.length:=by
      rcases Cq j ss.length with z | z
      ·exact z
      ·rw[← hss,CF z,Ag]at hs;obtain⟨d,_,hs⟩:=map_some hs;cases hs
     rw[← hss,BA hjl]at hs;unfold xx at honce;dsimp only at honce;rw[hsk]at honce;have:=Au.mp honce _ (GD.mpr ⟨j,hj,hs⟩);simp[ABL]at this
  have hpins:wz (some kk) vs=[(kk,p)]:=by unfold wz;dsimp only;rw[hvk]
  have Rc:ui K ⟨H1,[p],[(kk,p)]⟩ ⟨[p],λq=>(∃ o,H1 q=some o)/\q≠p⟩ (gs.map some) (vs.map some) H1:=by
   have get:∀ {j:Nat} {g:G},(gs.map some)[j]?=some (some g)->∃ s,ss'[j]?=some s/\vx (some kk) Γ1 j s=some g:=λ{j g} h=>by
    rw[Ag]at h;obtain⟨g',h',h⟩:=map_some h;cases h;obtain⟨s,a1,a2⟩:=Mt e2 h';exact⟨s,a1,by rw[EF]at a2;exact a2⟩
   have only:∀ {j:Nat} {gc:G},v9 gc=true->(gs.map some)[j]?=some (some gc)->j=kk:=λ{j gc} mc h=>by
    obtain⟨s,a1,a2⟩:=get h;by_cases hj:kk=j
    ·exact hj.symm
    ·cases s with
     | v t=>cases a2;cases mc
     | l xs | d xs=>simp[vx,hj]at a2;subst a2;cases mc
     | s i =>
      unfold vx at a2;dsimp only at a2;split at a2 <;> simp[hj]at a2 <;> (subst a2;cases mc)
   refine⟨by simp[hl,hgl],λj g h=>?_,λi j p' ga gb ma mb h1 h2 h3 h4=>(only ma h1).trans (only mb h2).symm,λq hq=>?_,λq hq=>.inl hq,λq hq=>hq.1,λq hq z=>hq.2 (AI.mp z),λb o h _=>h,R1.tab,λq hq=>?_⟩
   ·obtain⟨s,a1,a2⟩:=get h;obtain⟨v,b1,b2⟩:=o1.get a1;refine⟨v,by rw[Ag,b1];rfl,?_⟩;by_cases hj:j=kk
    ·subst hj;rw[hsk']at a1;cases a1;rw[hag]at a2;cases a2;rw[hvk]at b1;cases b1;exact⟨p,us,rfl,AI.mpr rfl,hpu,hus⟩
    ·have hj':¬ kk=j:=λz=>hj z.symm
     obtain⟨x1,x2⟩:=other j s hj a1;cases s with
     | v t=>cases a2;exact b2
     | l xs' =>
      simp only[vx,A7,hj']at a2;subst a2;have b3:=b2;obtain⟨q,us',rfl,n1,n2,ow,h1,h2⟩:=b2;have hne:=x2 xs' q rfl b3;exact⟨q,us',rfl,h2,h1,λz=>hne (AI.mp z),⟨_,h1⟩,hne⟩
     | s i =>
      have b2':=b2;unfold vx at a2;dsimp only at a2;split at a2
      ·rename_i xs' hx;simp only[A7,hj',if_false]at a2;subst a2;obtain⟨v',c1,q,us',rfl,c2,c3,c4⟩:=R1.val i _ hx;rw[b2']at c1;cases c1;have hne:q≠p:=λz=>x1 i xs' rfl hx (z ▸ b2')
       exact⟨q,us',rfl,c4,c3,λz=>hne (AI.mp z),⟨_,c3⟩,hne⟩
      ·rename_i xs' hx;simp only[A7,hj',if_false]at a2;subst a2;obtain⟨v',c1,q,us',rfl,c2,c3⟩:=R1.val i _ hx;rw[b2']at c1;cases c1;have hne:q≠p:=λz=>by
        subst z;rcases hsort with ⟨_,_,_,_,m0⟩ | ⟨_,n1,n2,ow⟩
        ·exact c3.2.1 m0
        ·exact n2 c3.2.2
       exact⟨q,us',rfl,c2,c3.1,λz=>hne (AI.mp z),R1.ra q c3.2.2,hne⟩
      ·rename_i xs' hx;simp only[A7,hj',if_false]at a2;subst a2;obtain⟨v',c1,c2⟩:=R1.val i _ hx;rw[b2']at c1;cases c1;exact c2
      ·rename_i xs' hx;simp only[A7,hj',if_false]at a2;subst a2;obtain⟨v',c1,q,us',rfl,c2,c3,c4⟩:=R1.val i _ hx;rw[b2']at c1;cases c1;have hne:q≠p:=λz=>by subst z;rw[hpu]at c3;cases c3;exact Qo c4
       exact⟨q,us',rfl,c4,c3,λz=>hne (AI.mp z),⟨_,c3⟩,hne⟩
      ·rename_i xs' hx;simp only[A7,hj',if_false]at a2;subst a2;obtain⟨v',c1,q,us',rfl,c2,c3⟩:=R1.val i _ hx;rw[b2']at c1;cases c1;have hne:q≠p:=λz=>by subst z;have c4:=c3.1;rw[hpu]at c4;cases c4;exact Qo c2
       exact⟨q,us',rfl,c2,c3.1,λz=>hne (AI.mp z),R1.ra q c3.2.2,hne⟩
      ·cases a2
     | d xs' =>
      simp only[vx,A7,hj',if_false]at a2;subst a2;obtain⟨q,us',rfl,n1,n2,ow,h1,h2⟩:=b2;have hne:q≠p:=λz=>by subst z;rw[hpu]at h1;cases h1;exact Qo h2
      exact⟨q,us',rfl,h2,h1,λz=>hne (AI.mp z),⟨_,h1⟩,hne⟩
   ·rw[AI.mp hq];exact⟨_,hpu,trivial⟩
   ·rw[AI.mp hq];refine⟨by rw[Ag,hvk];rfl,xs,?_⟩;obtain⟨gk,hgk⟩:∃ g,gs[kk]?=some g:=⟨gs[kk]'(by rw[hgl,← hss];simp;lia),by simp⟩
    obtain⟨s,a1,a2⟩:=Mt e2 hgk;rw[hsk']at a1;cases a1;rw[EF,hag]at a2;cases a2;rw[Ag,hgk];rfl
  refine⟨hn,⟨[p],λq=>(∃ o,H1 q=some o)/\q≠p⟩,gs,r,ys,e3,by rw[hpins];exact Rc,by rw[hpins];rfl,by rw[hpins];exact λq hq=>hq,λv H2 ev hch hr=>?_⟩;rw[hpins]at hch;obtain⟨us2,hp2,hu2⟩:=hch (kk,p) (AI.mpr rfl);rcases hsort with ⟨i0,rfl,g0,s0,m0⟩ | ⟨rfl,n1,n2,ow⟩
  ·obtain⟨R2,ev2⟩:=R1.put2 g0 s0 ev hp2 hu2;have hb:x4 (some kk) Γ1 ss ys=Γ1.set i0 (some (.l ys)):=by unfold x4;dsimp only;rw[hsk]
   rw[hb]at k;exact k v H2 R2 (ev1.trans ev2) (resOk ev hr R1) (resNew hr)
  ·have hb:x4 (some kk) Γ1 ss ys=Γ1:=by unfold x4;dsimp only;rw[hsk]
   rw[hb]at k;refine k v H2 (R1.temp n1 n2 ow ⟨_,hpu,trivial⟩ ev) (λb o h n=>?_) (resOk ev hr R1) (resNew hr);by_cases z:b=p
   ·subst z;have hv0:=by
     rw[← hvs,BA (by simp_all)]at hvk;exact hvk
    obtain⟨p',e',hn'⟩:=n0.get hv0 hsk;cases e';rw[hn']at h;cases h
   ·exact ev b o (ev1 b o h n) λq=>z (AI.mp q)
end
noncomputable def yg (Γ:En):S->Option (List T)
 | .l xs=>some xs
 | .s i=>match Γ[i]? with
  | some (some (.l xs))=>some xs
  | some (some (.r xs))=>some xs
  | _=>none
 | .v _=>none
 | .d _=>none
noncomputable def ux (Γ:En):S->Option (List T)
 | .l xs=>some xs
 | .s i=>match Γ[i]? with
  | some (some (.l xs))=>some xs
  | some (some (.r xs))=>some xs
  | some (some (.k xs))=>some xs
  | _=>none
 | .v (.l xs)=>some xs
 | .v _=>none
 | .d _=>none
section
variable {K:Fg}{C:Fr}{w:W}{Γ:En}{σ:St}{H:Hp}
theorem Ob(R:ui K C w Γ σ H)(o:vJ K C w σ H x s)(e:yg Γ s=some xs):∃ p vs,x=.ref p/\H p=some (.lst vs)/\uh K H vs xs:=by
 cases s with
 | v t | d _=>cases e
 | l ys=>cases e;obtain⟨p,vs,rfl,_,_,_,h1,h2⟩:=o;exact⟨p,vs,rfl,h1,h2⟩
 | s i =>
  have o':=o;unfold yg at e;dsimp only at e;split at e
  ·rename_i ys h;cases e;obtain⟨v,e1,p,vs,rfl,_,h1,h2⟩:=R.val i _ h;rw[o']at e1;cases e1;exact⟨p,vs,rfl,h1,h2⟩
  ·rename_i ys h;cases e;obtain⟨v,e1,p,vs,rfl,h1,h2,_⟩:=R.val i _ h;rw[o']at e1;cases e1;exact⟨p,vs,rfl,h2,h1⟩
  ·cases e
theorem L8(R:ui K C w Γ σ H)(o:vJ K C w σ H x s)(e:ux Γ s=some xs):∃ p vs,x=.ref p/\vz K H p vs/\uh K H vs xs:=by
 cases s with
 | v t =>
  cases t with
  | l ys =>
   cases e;obtain⟨p,vs,rfl,h1,h2⟩:=(show Im K H x (.l xs) from o).invl;exact⟨p,vs,rfl,h1.sq,h2⟩
  | a _ | t _ | f _ | x _ _ | m _ _=>cases e
 | d _=>cases e
 | l ys=>cases e;obtain⟨p,vs,rfl,_,_,_,h1,h2⟩:=o;exact⟨p,vs,rfl,vz.of h1,h2⟩
 | s i =>
  have o':σ[i]?=some (some x):=o;unfold ux at e;dsimp only at e;split at e
  ·rename_i ys h;cases e;obtain⟨v,e1,p,vs,rfl,_,h1,h2⟩:=R.val i _ h;rw[o']at e1;cases e1;exact⟨p,vs,rfl,vz.of h1,h2⟩
  ·rename_i ys h;cases e;obtain⟨v,e1,p,vs,rfl,h1,h2,_⟩:=R.val i _ h;rw[o']at e1;cases e1;exact⟨p,vs,rfl,vz.of h2,h1⟩
  ·rename_i ys h;cases e;obtain⟨v,e1,p,vs,rfl,h1,h2⟩:=R.val i _ h;rw[o']at e1;cases e1;exact⟨p,vs,rfl,h2.sq,h1⟩
  ·cases e
end
noncomputable def iS:S->Option Int
 | .v (.a (.int i))=>some i
 | _=>none
noncomputable def mkI (i:Int):S:=.v (.a (.int i))
noncomputable def mkB (b:Bool):S:=.v (.a (.bl b))
section
variable {K:Fg}{C:Fr}{w:W}{Γ:En}{σ:St}{H:Hp}
def Mh(o:vJ K C w σ H x s)(e:iS s=some i):x=.int i:=by
 unfold iS at e;split at e
 ·cases e;exact o.inva
 ·cases e
end
noncomputable def inR (b:Nat):Int->Bool
 | .ofNat n=>Ex n b
 | .negSucc n=>Ex n b
theorem Pa:inR b i=true ↔ -(b+1)<=i/\i<=b:=by
 cases i with
 | ofNat n =>
  simp[inR];lia
 | negSucc n =>
  simp[inR,Int.negSucc_eq];lia
def zP(h:inR 4611686018427387903 i=true):-(2 ^ 62)<=i/\i < 2 ^ 62:=by have:=Pa.mp h;lia
def ACo(h:inR 9223372036854775807 i=true):-(2 ^ 63)<=i/\i < 2 ^ 63:=by have:=Pa.mp h;lia
def NH(h:n<=b):inR b n=true:=Pa.mpr ⟨by lia,by lia⟩
noncomputable def ABn (g:Int->Int->V):En->S->S->Option S:=λ_ a b=>(iS a).bind λi=>(iS b).bind λj=>some (.v (.a (g i j)))
noncomputable def zI (c:Int->Int->Prop) [∀ i j,Decidable (c i j)] (g:Int->Int->V):En->S->S->Option S:=λ_ a b=>(iS a).bind λi=>(iS b).bind λj=>if c i j then some (.v (.a (g i j))) else none
def Nd:vD K (rI0 g) (ABn g):=by
 intro C w Γ σ H x y a b s Q R ox oy e k;obtain⟨i,e1,e⟩:=uJ e;obtain⟨j,e2,e⟩:=uJ e;cases e;exact⟨i,j,Mh ox e1,Mh oy e2,k _ H R .refl vJ.atom trivial⟩
def O7 [∀ i j,Decidable (c i j)]:vD K (rI c g) (zI c g):=by
 intro C w Γ σ H x y a b s Q R ox oy e k;obtain⟨i,e1,e⟩:=uJ e;obtain⟨j,e2,e⟩:=uJ e;split at e
 ·rename_i hc;cases e;exact⟨i,j,Mh ox e1,Mh oy e2,hc,k _ H R .refl vJ.atom trivial⟩
 ·cases e
def lR:((inR 18446744073709551615 i && inR 18446744073709551615 (-i)) || (inR 18446744073709551615 j && inR 18446744073709551615 (-j)))=true ↔ vv i j:=by
 unfold vv;simp[ Pa];lia
noncomputable instance (i j:Int):Decidable (vv i j):=decidable_of_iff _ lR
noncomputable instance (i j:Int):Decidable (yA i j):=by unfold yA;infer_instance
noncomputable instance (i j:Int):Decidable (ABt i j):=by unfold ABt;infer_instance
theorem vD.or(a:vD K r h)(b:vD K r' h'):vD K (λx y H Q=>r x y H Q\/r' x y H Q) (λΓ x y=>(h Γ x y).or (h' Γ x y)):=by
 intro C w Γ σ H x y s1 s2 s Q R ox oy e k;dsimp only at e;cases q:h Γ s1 s2 with
 | some z =>
  rw[q]at e;cases e;exact .inl (a C w Γ σ H x y s1 s2 _ Q R ox oy q k)
 | none =>
  rw[q]at e;exact .inr (b C w Γ σ H x y s1 s2 _ Q R ox oy e k)
noncomputable def AAK:En->S->S->Option S:=λ_ a b=>match a,b with
 | .v (.a (.str x)),.v (.a (.str y))=>gd (x.length+y.length) (.v (.a (.str (x++y))))
 | _,_=>none
noncomputable def AAM:R2:=λx y H Q=>∃ i j,x=.str i/\y=.str j/\i.length+j.length<=AD/\Q (.str (i++j)) H
def mU:vD K AAM AAK:=by
 intro C w Γ σ H x y a b s Q R ox oy e k;unfold AAK at e;split at e
 ·obtain⟨h,rfl⟩:=L6 e;exact⟨_,_,ox.inva,oy.inva,h,k _ H R .refl vJ.atom trivial⟩
 ·cases e
noncomputable def ABO (K:Fg):R2:=λx y H Q=>∃ a b xs ys,x=.ref a/\y=.ref b/\Tp K H a xs/\Tp K H b ys/\xs.length+ys.length<=AD/\∀ p H',yJ H H'->Tp K H' p (xs++ys)->Q (.ref p) H'
open PySem.Spec PyProof.Rows in
def kE:w8 X (Co .Add) (ABO X.K):=by
 intro pins s σ H x y v u Q I rx ry h;obtain⟨a,b,xs,ys,rfl,rfl,ha,hb,hz,q⟩:=h;cases rx;cases ry;obtain⟨its,r1,t1,z1⟩:=I.tuple ha.sq;obtain⟨its2,r2,t2,z2⟩:=I.tuple hb.sq;by_cases hx:xs=[]
 ·subst hx;have e:its=[]:=by have:=r1.length;simpa using this.symm
  subst e;obtain⟨⟨cls,dd,data,sl⟩,ho,hc,n,hd⟩:=id t1;obtain⟨⟨cls2,dd2,data2,sl2⟩,ho2,hc2,n2,hd2⟩:=id t2;simp only at hc hd hc2 hd2;subst hc hd hc2 hd2;refine IL ⟨_,ho,rfl⟩ ⟨_,ho2,rfl⟩ Gy Hs Ec ES (EJ _ _)
   (tuple_addW0 a b _ its2.toArray n n2 dd dd2 sl sl2 ↥1) ⟨ho,ho2,?_⟩
  exact⟨.ref b,H,I,rfl,q b H (yJ.refl H) (by simpa using hb)⟩
 ·have hne:its≠[]:=λe=>hx (by have:=r1.length;rw[e]at this;simpa using this)
  refine HT.cat_tup t1 t2 hne (λe=>?_) (λe=>?_) (by rw[← r1.length,← r2.length];exact hz)
  ·have ey:ys=[]:=by have:=r2.length;rw[e]at this;simpa using this
   subst ey;exact⟨.ref a,H,I,rfl,q a H (yJ.refl H) (by simpa using ha)⟩
  ·have hf:H s.heap.objs.size=none:=I.hok.fresh (AL _);refine⟨.ref s.heap.objs.size,_,I.laid (t':=s.toks) (λb o e=>AC _ e) (AL _) (show uy X.prog X.w _ _ _ (.tup (xs++ys)) from ⟨by simpa using hz,its++its2,r1.append r2,ye.new _ _⟩),rfl,q _ _ (yJ.upd hf) (.inl Lq)⟩
noncomputable def yc:En->S->S->Option S:=λ_ a b=>match a,b with
 | .v (.t xs),.v (.t ys)=>gd (xs.length+ys.length) (.v (.t (xs++ys)))
 | _,_=>none
def jI:vD K (ABO K) yc:=by
 intro C w Γ σ H x y a b s Q R ox oy e k;unfold yc at e;split at e
 ·obtain⟨h,rfl⟩:=L6 e;obtain⟨p,vs,rfl,h1,i1⟩:=ox.invt;obtain⟨q,us,rfl,h2,i2⟩:=oy.invt;refine⟨p,q,vs,us,rfl,rfl,h1,h2,by rw[i1.len,i2.len];exact h,λc H' sm hc=>k _ H' (R.same sm) (.of_same sm) ?_ trivial⟩;have ev:vG w.L H H':=.of_same sm;exact⟨c,_,rfl,hc,(i1.evo ev R.lst).app (i2.evo ev R.lst)⟩
 ·cases e
noncomputable def xj:En->S->S->Option S:=λΓ a b=>(yg Γ a).bind λxs=>(yg Γ b).bind λys=>gd (xs.length+ys.length) (.l (xs++ys))
def bu:vD K AEH xj:=by
 intro C w Γ σ H x y a b s Q R ox oy e k;obtain⟨xs,e1,e⟩:=uJ e;obtain⟨ys,e2,e⟩:=uJ e;obtain⟨h,rfl⟩:=L6 e;obtain⟨p,vs,rfl,h1,i1⟩:=Ob R ox e1;obtain⟨q,us,rfl,h2,i2⟩:=Ob R oy e2;exact⟨p,q,vs,us,rfl,rfl,h1,h2,by rw[i1.len,i2.len];exact h,λc hc=>k _ _ (R.new hc) (vG.new hc) (R.newl hc (i1.app i2)) ⟨c,rfl,hc⟩⟩
noncomputable def ur:En->S->S->Option S:=λΓ x y=>((ABn λi j=>.int (i+j)) Γ x y).or ((yc Γ x y).or ((xj Γ x y).or (AAK Γ x y)))
noncomputable def ACn (K:Fg):R2:=λx y H Q=>rI0 (λi j=>.int (i+j)) x y H Q\/ABO K x y H Q\/AEH x y H Q\/AAM x y H Q
def pM:vD K (ACn K) ur:=Nd.or (jI.or (bu.or mU))
def gW:w8 X (Co .Add) (ACn X.K):=jE.or (kE.or (mY.or bt))
noncomputable def ADX (n:Nat) (k:Int):Bool:=inR 9223372036854775807 k && Ex (n * k.toNat) AD
noncomputable def zX:En->S->S->Option S:=λΓ a b=>(yg Γ a).bind λxs=>(iS b).bind λk=>if ADX xs.length k=true then some (.l (Ad k.toNat xs).flatten) else none
theorem uh.rep(h:uh K H vs ts):∀ n,uh K H (Ad n vs).flatten (Ad n ts).flatten
 | 0=>.nil
 | n+1=>by rw[DV];exact h.app (h.rep n)
def mR:vD K AEJ zX:=by
 intro C w Γ σ H x y a b s Q R ox oy e k;obtain⟨xs,e1,e⟩:=uJ e;obtain⟨n,e2,e⟩:=uJ e;split at e
 ·rename_i h;cases e;unfold ADX at h;rw[BE]at h;have h0:=ACo h.1;obtain⟨p,vs,rfl,h1,i1⟩:=Ob R ox e1;exact⟨p,n,vs,rfl,Mh oy e2,h1,h0.1,h0.2,by rw[i1.len];exact (FC h.2),λc hc=>k _ _ (R.new hc) (vG.new hc) (R.newl hc (i1.rep _)) ⟨c,rfl,hc⟩⟩
 ·cases e
noncomputable def vp:En->S->S->Option S:=λΓ x y=>(zI vv (λi j=>.int (i * j)) Γ x y).or (zX Γ x y)
noncomputable def ACs:R2:=λx y H Q=>rI vv (λi j=>.int (i * j)) x y H Q\/AEJ x y H Q
def nW:vD K ACs vp:=O7.or mR
def jk:w8 X (Co .Mult) ACs:=kL.or gu
noncomputable def xV:En->S->S->Option S:=zI (λ_ j=>0 < j) λi j=>.int (i % j)
noncomputable def xP:En->S->S->Option S:=zI yA λi j=>.int (i / j)
noncomputable def ADS:En->S->S->Option S:=zI ABt λi j=>.int (i ^ j.toNat)
noncomputable def vW:En->S->S->Option S:=ABn λi j=>.int (i - j)
noncomputable def ltS:En->S->S->Option S:=ABn λi j=>.bl (decide (i < j))
noncomputable def zo:En->S->S->Option S:=ABn λi j=>.bl (decide (j < i))
noncomputable def geS:En->S->S->Option S:=ABn λi j=>.bl (decide (j<=i))
noncomputable def yQ:En->S->Option S:=λ_ a=>(iS a).map λi=>mkI (-i)
def iE:ACY K (rU λi=>.int (-i)) yQ:=by
 intro C w Γ σ H x a s Q R ox e k;obtain⟨i,e1,rfl⟩:=map_some e;exact⟨i,Mh ox e1,k _ H R .refl vJ.atom trivial⟩
noncomputable def uW:En->S->S->Option S:=λΓ a b=>(iS b).bind λi=>match a with
 | .v (.t xs)=>(xn xs i).map .v
 | .v (.a (.str z))=>if z.length<=AD then (xn z.cps.toList i).map λc=>.v (.a (.str ⟨#[c]⟩)) else none
 | a=>(ux Γ a).bind λxs=>(xn xs i).map .v
def Wy(h:uh K H vs ts)(e:xn ts i=some t):∃ v,xn vs i=some v/\Im K H v t:=by
 unfold xn at e ⊢;rw[h.len];obtain⟨j,e1,e⟩:=uJ e;obtain⟨v,e2,hv⟩:=h.get e;exact⟨v,by rw[e1];exact e2,hv⟩
def nG:vD K (rIx K) uW:=by
 intro C w Γ σ H x y a b s Q R ox oy e k;obtain⟨i,e1,e⟩:=uJ e;have hy:=Mh oy e1;split at e
 ·rename_i xs;obtain⟨t,e2,e⟩:=map_some e;cases e;obtain⟨p,vs,rfl,h1,i1⟩:=ox.invt;obtain⟨v,e3,hv⟩:=Wy i1 e2;exact .inr (.inl ⟨p,vs,i,v,rfl,hy,h1.sq,e3,k v H R .refl hv trivial⟩)
 ·rename_i z;split at e
  ·rename_i hz;obtain⟨c,e2,e⟩:=map_some e;cases e;exact .inr (.inr ⟨_,i,c,ox.inva,hy,hz,e2,k _ H R .refl vJ.atom trivial⟩)
  ·cases e
 ·obtain⟨xs,e2,e⟩:=uJ e;obtain⟨t,e3,e⟩:=map_some e;cases e;obtain⟨p,vs,rfl,h1,i1⟩:=L8 R ox e2;obtain⟨v,e4,hv⟩:=Wy i1 e3;exact .inl ⟨p,vs,i,v,rfl,hy,h1,e4,k v H R .refl hv trivial⟩
noncomputable def AFU (Γ:En):S->Option S
 | .v (.t xs)=>some (mkI xs.length)
 | .v (.a (.str z))=>if z.length<=AD then some (mkI z.length) else none
 | a=>(ux Γ a).map λxs=>mkI xs.length
noncomputable def vX:En->List S->Option S:=λΓ as=>match as with
 | [a]=>AFU Γ a
 | _=>none
noncomputable def ACr (K:Fg):List V->Hp->VK->Prop:=λxs H Q=>(∃ p ys,xs=[.ref p]/\(vz K H p ys\/wo K H p ys)/\Q (.int ys.length) H)\/(∃ z,xs=[.str z]/\z.length<=AD/\Q (.int z.length) H)
def ACZ(h:wB K C w σ H vs []):vs=[]:=by cases vs with | nil=>rfl | cons _ _=>exact h.elim
def ABU(h:wB K C w σ H vs (a::l)):∃ v r,vs=v::r/\vJ K C w σ H v a/\wB K C w σ H r l:=by
 cases vs with | nil=>exact h.elim | cons v r=>exact⟨v,r,rfl,h⟩
def vN(h:wB K C w σ H vs [a]):∃ v,vs=[v]/\vJ K C w σ H v a:=by
 obtain⟨v,r,rfl,h1,k⟩:=ABU h;exact⟨v,by rw[ACZ k],h1⟩
def wx(h:wB K C w σ H vs [a,b]):∃ v u,vs=[v,u]/\vJ K C w σ H v a/\vJ K C w σ H u b:=by
 obtain⟨v,r,rfl,h1,k⟩:=ABU h;obtain⟨u,rfl,k2⟩:=vN k;exact⟨v,u,rfl,h1,k2⟩
def fS:wk K (ACr K) vX:=by
 intro C w Γ σ H vs as s Q R o e k;unfold vX at e;split at e
 rotate_left
 ·cases e
 unfold AFU at e;split at e
 ·cases e;obtain⟨v,rfl,o1⟩:=vN o;obtain⟨p,us,rfl,h1,i1⟩:=o1.invt;refine .inl ⟨p,us,rfl,.inr h1.sq,?_⟩;rw[i1.len];exact k _ H R .refl vJ.atom trivial
 ·rename_i z;split at e
  ·rename_i hz;cases e;obtain⟨v,rfl,o1⟩:=vN o;exact .inr ⟨z,by rw[o1.inva],hz,k _ H R .refl vJ.atom trivial⟩
  ·cases e
 ·obtain⟨xs,e1,e⟩:=map_some e;cases e;obtain⟨v,rfl,o1⟩:=vN o;obtain⟨p,us,rfl,h1,i1⟩:=L8 R o1 e1;refine .inl ⟨p,us,rfl,.inl h1,?_⟩;rw[i1.len];exact k _ H R .refl vJ.atom trivial
def Zk:vF X (.builtin "len") (ACr X.K):=Yo.or ah
noncomputable def xX (Γ:En):S->Option (List T)
 | .v (.t xs)=>some xs
 | a=>ux Γ a
def Pb(R:ui K C w Γ σ H)(o:vJ K C w σ H x s)(e:xX Γ s=some xs):∃ p vs,x=.ref p/\(vz K H p vs\/wo K H p vs)/\uh K H vs xs:=by
 unfold xX at e;split at e
 ·cases e;obtain⟨p,us,rfl,h1,i1⟩:=o.invt;exact⟨p,us,rfl,.inr h1.sq,i1⟩
 ·obtain⟨p,us,rfl,h1,i1⟩:=L8 R o e;exact⟨p,us,rfl,.inl h1,i1⟩
noncomputable def vC:En->List S->Option S:=λΓ as=>match as with
 | [.v (.t xs)]=>some (.v (.t xs))
 | [a]=>(ux Γ a).map λxs=>.v (.t xs)
 | _=>none
def cp:wk K (λxs H Q=>∃ p ys,xs=[.ref p]/\((vz K H p ys/\∀ l,H l=none->Q (.ref l) (upd H l (.tup ys)))\/(wo K H p ys/\Q (.ref p) H))) vC:=by
 intro C w Γ σ H vs as s Q R o e k;unfold vC at e;split at e
 ·cases e;obtain⟨v,rfl,o1⟩:=vN o;obtain⟨p,us,rfl,h1,i1⟩:=o1.invt;exact⟨p,us,rfl,.inr ⟨h1.sq,k _ H R .refl o1 trivial⟩⟩
 ·obtain⟨xs,e1,rfl⟩:=map_some e;obtain⟨v,rfl,o1⟩:=vN o;obtain⟨p,us,rfl,h1,i1⟩:=L8 R o1 e1;exact⟨p,us,rfl,.inl ⟨h1,λl hl=>k _ _ (R.new hl) (vG.new hl) (R.newt hl i1) trivial⟩⟩
 ·cases e
abbrev DO:=En->Option (Option Int×En)
def ACE (K:Fg) (t:TO) (f:DO):Prop:=∀ C w Γ σ H i Γ' Q,ui K C w Γ σ H->f Γ=some (i,Γ')->(∀ H',ui K C w Γ' σ H'->vG w.L H H'->Q i H')->t σ H Q
noncomputable def vj:DO:=λΓ=>some (none,Γ)
noncomputable def wq (f:DE):DO:=λΓ=>(f Γ).bind λp=>(iS p.1).map λi=>(some i,p.2)
def bC:ACE K AAP vj:=λC w Γ σ H i Γ' Q R e k=>by cases e;exact k H R .refl
def Xx(h:uj K t f):ACE K (ACp t) (wq f):=by
 intro C w Γ σ H i Γ' Q R e k;obtain⟨p,e1,e⟩:=uJ e;obtain⟨i,e2,e⟩:=map_some e;cases e;exact h C w Γ σ H p.1 p.2 _ R e1 λv H1 R1 ev o _=>⟨i,Mh o e2,k H1 R1 ev⟩
noncomputable def xB (xs:List T) (lo hi:Option Int):List T:=(xs.drop (HT.sIx xs.length 0 lo)).take (HT.sIx xs.length xs.length hi - HT.sIx xs.length 0 lo)
def uh.cut(h:uh K H vs ts) lo hi:uh K H (ABH vs lo hi) (xB ts lo hi):=by
 unfold ABH xB;rw[h.len];exact (h.drop _).take _
noncomputable def slS (Γ:En) (lo hi:Option Int):S->Option S
 | .v (.t xs)=>some (.v (.t (xB xs lo hi)))
 | .v (.a _)=>none
 | a=>(ux Γ a).map λxs=>.l (xB xs lo hi)
noncomputable def dSl (f:DE) (lo hi:DO):DE:=λΓ=>(f Γ).bind λp=>(lo p.2).bind λl=>(hi l.2).bind λh=>(slS h.2 l.1 h.1 p.1).map λs=>(s,h.2)
noncomputable def ACX (K:Fg):V->Option Int->Option Int->Hp->VK->Prop:=λx lo hi H Q=>∃ a xs,x=.ref a/\Tp K H a xs/\∀ p H',yJ H H'->Tp K H' p (ABH xs lo hi)->Q (.ref p) H'
def k6:SlR X (ACX X.K):=by
 intro pins s σ H x v vl vu lo hi sl Q I rx hs pl pu h;obtain⟨a,xs,rfl,hx,q⟩:=h;cases rx;obtain⟨its,r,ht,hz⟩:=I.tuple hx.sq;have hlen:its.toArray.size=xs.length:=by rw[Ae];exact r.length.symm
 refine⟨"tuple",_,Bq.lookup,ht.typeIs,?_⟩;by_cases hw:HT.sIx xs.length 0 lo=0/\HT.sIx xs.length xs.length hi=xs.length
 ·refine iR ht hs pl pu (by rw[hlen];exact hw) ⟨.ref a,H,I,rfl,q a H (yJ.refl H) ?_⟩;unfold ABH;rw[hw.1,hw.2,JK,He,Ep (AL _)];exact hx
 ·refine HT.qY ht hs pl pu (by rw[hlen];exact hw) ?_ (by rw[hlen];exact hz);rw[hlen];refine⟨.ref s.heap.objs.size,_,I.laid (λb ob q=>AC _ q) (AL _) ?_,rfl,q _ _ (yJ.upd (I.hok.fresh (AL _))) (.inl Lq)⟩;exact⟨Aa (Uh xs lo hi) hz,_,(r.drop (HT.sIx xs.length 0 lo)).take (HT.sIx xs.length xs.length hi - HT.sIx xs.length 0 lo),ye.new _ _⟩
noncomputable def AEq (K:Fg):V->Option Int->Option Int->Hp->VK->Prop:=λx lo hi H Q=>ACX K x lo hi H Q\/AFk K x lo hi H Q
def AGL:SlR X (AEq X.K):=k6.or eu
def jr(he:uj K te f)(hl:ACE K tl lo)(hh:ACE K th hi):uj K (tSl (AEq K) te tl th) (dSl f lo hi):=by
 intro C w Γ σ H s Γ' Q R e k;obtain⟨⟨a,G1⟩,e1,e⟩:=uJ e;obtain⟨⟨i,G2⟩,e2,e⟩:=uJ e;obtain⟨⟨j,G3⟩,e3,e⟩:=uJ e;obtain⟨z,e4,e⟩:=map_some e;cases e;dsimp only at e4;refine he C w Γ σ H a G1 _ R e1 λv H1 R1 ev1 o1 n1=>hl C w G1 σ H1 i G2 _ R1 e2 λH2 R2 ev2=>hh C w G2 σ H2 j G3 _ R2 e3 λH3 R3 ev3=>?_
 have o3:=(o1.evo ev2 R1.lst).evo ev3 R2.lst;have ev:=(ev1.trans ev2).trans ev3;unfold slS at e4;split at e4
 ·cases e4;obtain⟨p,us,rfl,h1,i1⟩:=o3.invt;exact .inl ⟨p,us,rfl,h1,λc H' sm hc=>k _ H' (R3.same sm) (ev.trans (.of_same sm)) (⟨c,_,rfl,hc,(i1.evo (.of_same sm) R3.lst).cut _ _⟩) trivial⟩
 ·cases e4
 ·obtain⟨xs,e5,e4⟩:=map_some e4;cases e4;obtain⟨p,us,rfl,h1,i1⟩:=L8 R3 o3 e5;exact .inr ⟨p,us,rfl,h1,λc hc=>k _ _ (R3.new hc) (ev.trans (vG.new hc)) (R3.newl hc (i1.cut _ _)) ⟨c,rfl,Me ev R3.lst hc⟩⟩
def xD (K:Fg) (r:V->List V->Hp->VK->Prop) (h:En->List T->List S->Option (T×List T)):Prop:=∀ C w Γ σ H l us xs vs as t ys Q,ui K C w Γ σ H->H l=some (.lst us)->uh K H us xs->us.length<=AD->wB K C w σ H vs as->h Γ xs as=some (t,ys) ->
 (∀ v us',uh K H us' ys->Im K H v t->Q v (upd H l (.lst us')))->r (.ref l) vs H Q
noncomputable def ABG (Γ:En) (i:Nat):Bool:=match Γ[i]? with
 | some (some (.l _))=>true
 | _=>false
noncomputable def vb (i:Nat) (h:En->List T->List S->Option (T×List T)) (fa:DA):DE:=λΓ=>if ABG Γ i=true then (fa Γ).bind λp=>match p.2[i]? with
 | some (some (.l xs))=>(gd xs.length ()).bind λ_=>(h p.2 xs p.1).map λq=>(.v q.1,p.2.set i (some (.l q.2)))
 | _=>none
 else none
def Ut(R:ui K C w Γ σ H)(h:ABG Γ i=true):∃ p vs,σ[i]?=some (some (.ref p))/\H p=some (.lst vs):=by
 unfold ABG at h;split at h
 ·rename_i xs e;obtain⟨v,e1,p,vs,rfl,_,h1,_⟩:=R.val i _ e;exact⟨p,vs,e1,h1⟩
 ·cases h
def VM(hr:xD K r h)(ha:wD K ta fa):uj K (tBM K "list" r (xJ i) ta) (vb i h fa):=by
 intro C w Γ σ H s Γ' Q R e k;unfold vb at e;split at e
 rotate_left
 ·cases e
 rename_i hl;obtain⟨p,vs,e1,e2⟩:=Ut R hl;obtain⟨⟨as,G1⟩,e3,e⟩:=uJ e;dsimp only at e;split at e
 rotate_left
 ·cases e
 rename_i xs hx;obtain⟨_,eg,e⟩:=uJ e;obtain⟨hsz,_⟩:=L6 eg;obtain⟨⟨t,ys⟩,e4,e⟩:=map_some e;cases e;refine⟨.ref p,e1,.inl ⟨rfl,vs,vz.of e2⟩,ha C w Γ σ H as G1 _ R e3 λus H1 R1 ev1 o1 n1=>?_⟩;obtain⟨v,s1,q,ws,rfl,m1,h1,i1⟩:=R1.val i _ hx;rw[e1]at s1;cases s1;refine hr C w G1 σ H1 p ws xs us as t ys _ R1 h1 i1 (by rw[i1.len];exact hsz) o1 e4 λv us' hu hv=>?_
 obtain⟨R2,ev2⟩:=R1.put hx e1 hu;exact k v _ R2 (ev1.trans ev2) (hv.evo ev2 R1.lst) trivial
def oo(hr:xD K r h):uj K (ADn K "list" r (xJ i)) (vb i h qQ):=by
 intro C w Γ σ H s Γ' Q R e k;have:=VM hr (U8) C w Γ σ H s Γ' Q R e k;obtain⟨v,e1,e2,e3⟩:=this;exact⟨v,e1,e2,e3⟩
noncomputable def vV:En->List T->List S->Option (T×List T):=λ_ xs as=>match as with
 | [.v t]=>if xs.length < AD then some (.a .non,xs++[t]) else none
 | _=>none
def lS:xD K AAN vV:=by
 intro C w Γ σ H l us xs vs as t ys Q R hl hi hz o e k;unfold vV at e;split at e
 ·split at e
  ·rename_i hn;cases e;obtain⟨v,rfl,o1⟩:=vN o;exact⟨l,us,v,rfl,rfl,hl,by rw[hi.len];exact hn,k _ _ (hi.app (.one o1)) Im.atom⟩
  ·cases e
 ·cases e
noncomputable def yV:En->List T->List S->Option (T×List T):=λ_ xs as=>match as with
 | []=>(xs[xs.length - 1]?).map λt=>(t,xs.dropLast)
 | _=>none
theorem uh.dropLast(h:uh K H vs ts):uh K H vs.dropLast ts.dropLast:=by
 rw[E4,E4,h.len];exact h.take _
def Y7:xD K AGA yV:=by
 intro C w Γ σ H l us xs vs as t ys Q R hl hi hz o e k;unfold yV at e;split at e
 ·obtain⟨t',e1,e⟩:=map_some e;cases e;obtain⟨v,e2,hv⟩:=hi.get e1;exact⟨l,us,v,rfl,ACZ o,hl,by rw[hi.len];exact e2,k _ _ hi.dropLast hv⟩
 ·cases e
noncomputable def yb:En->List T->List S->Option (T×List T):=λ_ xs as=>match as with
 | [.v (.a (.int i))]=>if inR 9223372036854775807 i=true then (F1 i xs.length).bind λk=>(xs[k]?).map λt=>(t,xs.eraseIdx k) else none
 | _=>none
def cM:xD K AAm yb:=by
 intro C w Γ σ H l us xs vs as t ys Q R hl hi hz o e k;unfold yb at e;split at e
 ·rename_i i;split at e
  ·rename_i hb;have hb:=ACo hb;obtain⟨j,e1,e⟩:=uJ e;obtain⟨t',e2,e⟩:=map_some e;cases e;obtain⟨v,rfl,o1⟩:=vN o;obtain⟨y,e3,hy⟩:=hi.get e2;exact⟨l,us,i,j,y,rfl,by rw[o1.inva],hl,hb.1,hb.2,by rw[hi.len];exact e1,e3,k _ _ (hi.erase _) hy⟩
  ·cases e
 ·cases e
noncomputable def vi:En->List T->List S->Option (T×List T):=λΓ xs as=>match as with
 | [a]=>(yg Γ a).bind λzs=>gd (xs.length+zs.length) (.a .non,xs++zs)
 | _=>none
def eZ:xD K AAL vi:=by
 intro C w Γ σ H l us xs vs as t ys Q R hl hi hz o e k;unfold vi at e;split at e
 ·obtain⟨zs,e1,e⟩:=uJ e;obtain⟨hg,e⟩:=L6 e;cases e;obtain⟨v,rfl,o1⟩:=vN o;obtain⟨p,ws,rfl,h1,i1⟩:=Ob R o1 e1;exact⟨l,p,us,ws,rfl,rfl,hl,h1,by rw[hi.len,i1.len];exact hg,k _ _ (hi.app i1) Im.atom⟩
 ·cases e
noncomputable def yH (i:Nat) (fe fi:DE):DS:=λΓ=>(fe Γ).bind λp=>p.1.tree.bind λt=>if ABG p.2 i=true then (fi p.2).bind λq=>(iS q.1).bind λk=>match q.2[i]? with
  | some (some (.l xs))=>(ixN xs.length k).map λj=>.nx (q.2.set i (some (.l (xs.set j t))))
  | _=>none
 else none
theorem jd(he:uj K te fe)(hi:uj K ti fi):wU K ip (ABe te (AFJ (xJ i) ti ACq)) (yH i fe fi):=by
 intro C w Γ σ H D o hp R e k;obtain⟨⟨s,G1⟩,e1,e⟩:=uJ e;obtain⟨t,e2,e⟩:=uJ e;dsimp only at e e2;split at e
 rotate_left
 ·cases e
 rename_i hl;obtain⟨⟨s2,G2⟩,e3,e⟩:=uJ e;obtain⟨n,e4,e⟩:=uJ e;dsimp only at e e4;split at e
 rotate_left
 ·cases e
 rename_i xs hx;obtain⟨j,e5,rfl⟩:=map_some e;cases s with
 | l _ | s _ | d _=>cases e2
 | v t' =>
  cases e2;refine he C w Γ σ H _ G1 _ R e1 λv H1 R1 ev1 o1 n1=>?_
  obtain⟨p,vs,s1,h1⟩:=Ut R1 hl;refine⟨.ref p,s1,hi C w G1 σ H1 s2 G2 _ R1 e3 λv2 H2 R2 ev2 o2 n2=>?_⟩;obtain⟨v3,s3,q,ws,rfl,m3,h3,i3⟩:=R2.val i _ hx;rw[s1]at s3;cases s3;exact⟨p,ws,n,j,rfl,Mh o2 e4,h3,by rw[i3.len];exact e5,k w σ _ (R2.put hx s1 (i3.set j (o1.evo ev2 R1.lst))).1⟩
noncomputable def xQ:List T->Option (List Bool)
 | []=>some []
 | .a (.bl b)::r=>(xQ r).map λbs=>b::bs
 | _=>none
theorem Tv:∀ {vs:List V} {ts:List T} {bs:List Bool},uh K H vs ts->xQ ts=some bs->vs=bs.map V.bl
 | _,[],_,h,e=>by cases e;exact h.inv0
 | _,.a (.bl b)::r,_,h,e=>by
  obtain⟨v,us,rfl,h1,h2⟩:=h.inv;obtain⟨bs,e1,e⟩:=map_some e;cases e;rw[h1.inva,Tv h2 e1];rfl
 | _,.t _::_,_,_,e | _,.l _::_,_,_,e | _,.f _::_,_,_,e | _,.x _ _::_,_,_,e | _,.m _ _::_,_,_,e | _,.a .non::_,_,_,e | _,.a (.int _)::_,_,_,e | _,.a (.str _)::_,_,_,e | _,.a (.byt _)::_,_,_,e | _,.a (.flt _)::_,_,_,e | _,.a (.ref _)::_,_,_,e | _,.a (.ty _)::_,_,_,e=>by cases e
noncomputable def ACI:En->List S->Option S:=λΓ as=>match as with
 | [a]=>(ux Γ a).bind λxs=>(xQ xs).map λbs=>mkB (bs.all id)
 | _=>none
def jb:wk K (λxs H Q=>∃ (p:Addr) (bs:List Bool),xs=[.ref p]/\vz K H p (bs.map V.bl)/\Q (.bl (bs.all id)) H) ACI:=by
 intro C w Γ σ H vs as s Q R o e k;unfold ACI at e;split at e
 ·obtain⟨xs,e1,e⟩:=uJ e;obtain⟨bs,e2,rfl⟩:=map_some e;obtain⟨v,rfl,o1⟩:=vN o;obtain⟨p,us,rfl,h1,i1⟩:=L8 R o1 e1;exact⟨p,bs,rfl,by rw[← Tv i1 e2];exact h1,k _ H R .refl vJ.atom trivial⟩
 ·cases e
noncomputable def tyN (Γ:En):S->Option String
 | .v (.t _)=>some "tuple"
 | .v (.a (.int _))=>some "int"
 | .v (.a (.bl _))=>some "bool"
 | .v (.a (.str _))=>some "str"
 | .v (.a .non)=>some "NoneType"
 | .v (.l _)=>some "list"
 | .v _=>none
 | a=>(ux Γ a).map λ_=>"list"
noncomputable def TyS (K:Fg) (H:Hp) (n:String):V->Prop
 | .int _=>n="int"
 | .bl _=>n="bool"
 | .str _=>n="str"
 | .non=>n="NoneType"
 | .ref p=>(n="list"/\∃ xs,vz K H p xs)\/(n="tuple"/\∃ xs,wo K H p xs)
 | _=>False
def Ua(R:ui K C w Γ σ H)(o:vJ K C w σ H x s)(e:tyN Γ s=some n):TyS K H n x:=by
 unfold tyN at e;split at e
 ·cases e;obtain⟨p,us,rfl,h1,i1⟩:=o.invt;exact .inr ⟨rfl,us,h1.sq⟩
 iterate 4
  ·cases e;rw[o.inva];exact rfl
 ·rename_i ys;cases e;obtain⟨p,us,rfl,h1,i1⟩:=o.invl;exact .inl ⟨rfl,us,h1.sq⟩
 ·cases e
 ·obtain⟨xs,e1,rfl⟩:=map_some e;obtain⟨p,us,rfl,h1,i1⟩:=L8 R o e1;exact .inl ⟨rfl,us,h1⟩
theorem Vv(I:Inv X pins σ H s)(rx:RelV x u)(ty:TyS X.K H n x):∃ P,PySem.W.KitX X.K u (.type n) P/\P s.heap/\u≠.builtin "__main__.__loader__#opaque":=by
 cases x with
 | non=>cases ty;cases rx;exact⟨_,PySem.W.kitx_none,DD,λz=>nomatch z⟩
 | bl y=>cases ty;cases rx;exact⟨_,PySem.W.kitx_bool,DD,λz=>nomatch z⟩
 | int i=>cases ty;obtain⟨t,q⟩:=rx;cases q;exact⟨_,PySem.W.kitx_int,DD,λz=>nomatch z⟩
 | str y=>cases ty;obtain⟨t,q⟩:=rx;cases q;exact⟨_,PySem.W.kitx_str,DD,λz=>nomatch z⟩
 | ref p =>
  cases rx;rcases ty with ⟨rfl,xs,h⟩ | ⟨rfl,xs,h⟩
  ·obtain⟨its,_,pl,_⟩:=I.list h;obtain⟨o,h1,h2,_⟩:=pl.isList;exact⟨_,PySem.W.kitx_list,⟨o,h1,h2⟩,λz=>nomatch z⟩
  ·obtain⟨its,_,pl,_⟩:=I.tuple h;obtain⟨o,h1,h2,_⟩:=pl;exact⟨_,PySem.W.kitx_tuple,⟨o,h1,h2⟩,λz=>nomatch z⟩
 | byt _ | flt _ | ty _=>exact ty.elim
noncomputable def zc:String->Option Nat
 | "int"=>some 0
 | "bool"=>some 1
 | "str"=>some 2
 | "list"=>some 3
 | "tuple"=>some 4
 | "NoneType"=>some 5
 | _=>none
noncomputable def ADl:Nat->String
 | 0=>"int" | 1=>"bool" | 2=>"str" | 3=>"list" | 4=>"tuple" | _=>"NoneType"
@[simp] theorem qX:zc "int"=some 0:=(rfl)
@[simp] theorem rJ:zc "bool"=some 1:=(rfl)
@[simp] theorem qq:zc "str"=some 2:=(rfl)
@[simp] theorem sS:zc "list"=some 3:=(rfl)
@[simp] theorem sE:zc "tuple"=some 4:=(rfl)
def Ue(h:zc a=some i):a=ADl i/\i < 6:=by
 unfold zc at h;split at h <;> first | (cases h;exact⟨rfl,by decide⟩) | cases h
noncomputable def zt (a b:String):Option Bool:=(zc a).bind λi=>(zc b).bind λj=>if j=5 then none else some (i == j || (i == 1 && j == 0))
def Yw(e:zt a b=some c):IS K (.type a) (.type b)=some c:=by
 obtain⟨i,e1,z0⟩:=uJ e;obtain⟨j,e2,z⟩:=uJ z0;obtain⟨rfl,hi⟩:=Ue e1;obtain⟨rfl,hj⟩:=Ue e2;clear e1 e2 z0 e;by_cases h5:j=5
 ·rw[if_pos h5]at z;cases z
 rw[if_neg h5]at z;cases z;have key:(AE 6).map (λi=>(AE 5).map λj=>IS K (.type (ADl i)) (.type (ADl j)))=(AE 6).map λi=>(AE 5).map λj=>some (i == j || (i == 1 && j == 0)):=by kernel_rfl
 exact IT.mp (IT.mp key i (By.mpr hi)) j (By.mpr ⋯)
noncomputable def zN:String->Option Bool
 | "int"=>some false
 | "bool"=>some false
 | "str"=>some false
 | "NoneType"=>some false
 | "list"=>some true
 | "tuple"=>some true
 | _=>none
def ke(e:zN a=some c):PySem.W.kitAny K (.type a) [.type "list",.type "tuple"]=some c:=by
 unfold zN at e;split at e <;> first | (cases e;kernel_rfl) | cases e
noncomputable def AFy (K:Fg):List V->Hp->VK->Prop:=λxs H Q=>∃ x T n b,xs=[x,.ty T]/\TyS K H n x/\zt n T=some b/\Q (.bl b) H
def dN:vF X (.builtin "isinstance") (AFy X.K):=by
 intro pins s σ H xs us Q I r h;obtain⟨x,T,n,b,rfl,ty,e,q⟩:=h;obtain⟨u,u',rfl,r1,rfl⟩:=vals2 r;obtain⟨P,Z,hP,hx⟩:=Vv I r1 ty;exact PySem.W.kia_one Z I.kIn hP (Yw e) hx λtk=>⟨.bl b,H,I.tok tk,rfl,q⟩
noncomputable def AAq (K:Fg):List V->Hp->VK->Prop:=λxs H Q=>∃ x p n b,xs=[x,.ref p]/\wo K H p [.ty "list",.ty "tuple"]/\TyS K H n x/\zN n=some b/\Q (.bl b) H
def f9:vF X (.builtin "isinstance") (AAq X.K):=by
 intro pins s σ H xs us Q I r h;obtain⟨x,p,n,b,rfl,hp,ty,e,q⟩:=h;obtain⟨u,u',rfl,r1,rfl⟩:=vals2 r;obtain⟨its,rv,⟨o,ho,hcl,⟨m,hd⟩⟩,hz⟩:=I.tuple hp;obtain⟨u1,u2,rfl,rfl,rfl⟩:=vals2 rv;obtain⟨P,Z,hP,hx⟩:=Vv I r1 ty;obtain⟨cls,dd,data,sl⟩:=o;simp only at hcl hd;subst hcl hd;exact PySem.W.kia_tup Z I.kIn hP ho (ke e) hx λtk=>⟨.bl b,H,I.tok tk,rfl,q⟩
noncomputable def ADO (Γ:En) (a:S):T->Option S
 | .a (.ty T)=>(tyN Γ a).bind λn=>(zt n T).map mkB
 | .t ts=>match ts with
  | [.a (.ty x),.a (.ty y)]=>if x="list"/\y="tuple" then (tyN Γ a).bind λn=>(zN n).map mkB else none
  | _=>none
 | _=>none
noncomputable def xf:En->List S->Option S:=λΓ as=>match as with
 | [a,.v t]=>ADO Γ a t
 | _=>none
noncomputable def ACf (K:Fg):List V->Hp->VK->Prop:=λxs H Q=>AFy K xs H Q\/AAq K xs H Q
def l9:vF X (.builtin "isinstance") (ACf X.K):=dN.or f9
def nQ:wk K (ACf K) xf:=by
 intro C w Γ σ H vs as s Q R o e k;unfold xf at e;split at e
 rotate_left
 ·cases e
 unfold ADO at e;split at e
 ·obtain⟨n,e1,e⟩:=uJ e;obtain⟨b,e2,e⟩:=map_some e;cases e;obtain⟨v,u,rfl,o1,o2⟩:=wx o;exact .inl ⟨v,_,n,b,by rw[o2.inva],Ua R o1 e1,e2,k _ H R .refl vJ.atom trivial⟩
 ·split at e
  ·split at e
   ·rename_i hxy;obtain⟨rfl,rfl⟩:=hxy;obtain⟨n,e1,e⟩:=uJ e;obtain⟨b,e2,e⟩:=map_some e;cases e;obtain⟨v,u,rfl,o1,o2⟩:=wx o;obtain⟨p,us,rfl,h1,i1⟩:=o2.invt;have hus:us=[.ty "list",.ty "tuple"]:=uh.of_atoms i1;subst hus;exact .inr ⟨v,p,n,b,rfl,h1.sq,Ua R o1 e1,e2,k _ H R .refl vJ.atom trivial⟩
   ·cases e
  ·cases e
 ·cases e
noncomputable def ABD:En->List S->Option S:=λ_ as=>match as with
 | [.v (.a (.int i))]=>some (mkI i)
 | [.v (.a (.bl b))]=>some (mkI (if b then 1 else 0))
 | _=>none
def eB:wk K (λxs H Q=>(∃ i,xs=[.int i]/\Q (.int i) H)\/∃ k,xs=[.bl k]/\Q (.int (if k then 1 else 0)) H) ABD:=by
 intro C w Γ σ H vs as s Q R o e k;unfold ABD at e;split at e
 ·cases e;obtain⟨v,rfl,o1⟩:=vN o;exact .inl ⟨_,by rw[o1.inva],k _ H R .refl vJ.atom trivial⟩
 ·cases e;obtain⟨v,rfl,o1⟩:=vN o;exact .inr ⟨_,by rw[o1.inva],k _ H R .refl vJ.atom trivial⟩
 ·cases e
noncomputable def ya:En->List S->Option S:=λ_ as=>match as with
 | [.v (.a (.int i)),.v (.a (.int j))]=>some (mkI (if j > i then j else i))
 | _=>none
noncomputable def zK:En->List S->Option S:=λ_ as=>match as with
 | [.v (.a (.int i)),.v (.a (.int j))]=>some (mkI (if j < i then j else i))
 | _=>none
def oJ:wk K (λxs H Q=>∃ i j,xs=[.int i,.int j]/\Q (.int (if j > i then j else i)) H) ya:=by
 intro C w Γ σ H vs as s Q R o e k;unfold ya at e;split at e
 ·cases e;obtain⟨v,u,rfl,o1,o2⟩:=wx o;exact⟨_,_,by rw[o1.inva,o2.inva],k _ H R .refl vJ.atom trivial⟩
 ·cases e
def nu:wk K (λxs H Q=>∃ i j,xs=[.int i,.int j]/\Q (.int (if j < i then j else i)) H) zK:=by
 intro C w Γ σ H vs as s Q R o e k;unfold zK at e;split at e
 ·cases e;obtain⟨v,u,rfl,o1,o2⟩:=wx o;exact⟨_,_,by rw[o1.inva,o2.inva],k _ H R .refl vJ.atom trivial⟩
 ·cases e
noncomputable def vU:List T->Option (List V)
 | []=>some []
 | .a v::r=>(vU r).map λvs=>v::vs
 | _=>none
theorem Px:∀ {vs ts us},uh K H vs ts->vU ts=some us->vs=us
 | _,[],_,h,e=>by cases e;exact h.inv0
 | _,.a b::r,_,h,e=>by
  obtain⟨v,us,rfl,h1,h2⟩:=h.inv;obtain⟨bs,e1,rfl⟩:=map_some e;rw[h1.inva,Px h2 e1]
 | _,.t _::_,_,_,e | _,.l _::_,_,_,e | _,.f _::_,_,_,e | _,.x _ _::_,_,_,e | _,.m _ _::_,_,_,e=>by cases e
noncomputable def ADx (K:Fg) (r:V->List V->Hp->VK->Prop) (to:TE) (t:TA):TE:=λσ H Q=>to σ H λx H1=>(∃ p xs,x=.ref p/\Tp K H1 p xs)/\t σ H1 λxs H2=>r x xs H2 Q
open PySem.Spec PyProof.Rows in
def Yh{X:Cx}{o e:Expr}{es:List Expr}{to:TE}{t:TA}{name:Str}{apos cpos:Pos}{id:String}{r:V->List V->Hp->VK->Prop}(slot:Slot "tuple" name id)(hty:Gz (.builtin id)=pure (.type "method_descriptor"))(hm:MtM X id r)(ho:PE X o to)(ha:PA X (e::es) t)
  (hbase:C9 o name X.env (eval o X.env)=eval o X.env:=by rfl)
  (hfew:((Bx cpos (AQ (e::es) X.env)).all (λx=>!x.1) && (Ge cpos (Eo [] X.env)).all (λx=>x.1.isSome) && decide ((e::es).length+([]:List D9).length+(if ([]:List D9).isEmpty then 0 else 1) < 30))=true:=by rfl)
  (hline:(apos.endLine == cpos.line)=true:=by rfl) (hs:AQ (e::es) X.env=(false,eval e X.env)::AQ es X.env:=by rfl) (hplain:(Bx cpos (AQ es X.env)).any (·.1)=false:=by rfl) :
  PE X (.Call (.Attribute o name apos) (e::es) [] cpos) (ADx X.K r to t):=by
 intro pins s σ H Q I h;refine IQ hbase hfew hline rfl (vB (ho pins s σ H _ I h) λv s1 ⟨x,H1,I1,r1,⟨p,xs,ex,hp⟩,q1⟩=>?_);subst ex;cases r1;have key:∃ o',s1.heap.get? p=some o'/\o'.cls=.type "tuple"/\o'.dict=none:=by
  rcases hp with hp | ⟨o',its,n,a1,a2,a3,a4⟩
  ·obtain⟨_,its,_,o',ho',hc',_,hd'⟩:=(show uy X.prog X.w H1 s1.heap p (.tup xs) from I1.hok p _ hp)
   exact⟨o',ho',hc',hd'⟩
  ·exact⟨o',I1.kIn p o' a1,a2,a3⟩
 obtain⟨o',ho',hc',hd'⟩:=key;refine⟨"tuple",id,F.plainAttrs_tuple,slot,hty,⟨o',ho',hc'⟩,λa e=>by cases e;exact⟨o',ho',hd'⟩,?_⟩;have hA:=ha cpos pins s1 σ H1 _ I1 q1;rw[hs]at hA ⊢;refine Df (by show (false || (Bx cpos (AQ es X.env)).any (·.1))=false;rw[hplain] <;> rfl) (E9 ?_);exact vB hA λus s2 ⟨vs,H2,I2,r2,q2⟩=>hm pins s2 σ H2 (.ref p) vs (.ref p) us Q I2 (show RelV (.ref p) (.ref p) from rfl) r2 q2
noncomputable def yG (fo:DE) (fa:DA):DE:=λΓ=>(fo Γ).bind λp=>(fa p.2).bind λq=>match p.1,q.1 with
 | .v (.t xs),[.v (.a y)]=>(vU xs).bind λvs=>if vI y=true/\vs.all vI=true then (vs.findIdx? λz=>yY z y).map λj=>(mkI (j:Nat),q.2) else none
 | _,_=>none
def YQ(ho:uj K to fo)(ha:wD K ta fa):uj K (ADx K (xS K) to ta) (yG fo fa):=by
 intro C w Γ σ H s Γ' Q R e k;obtain⟨⟨a,G1⟩,e1,e⟩:=uJ e;obtain⟨⟨as,G2⟩,e2,e⟩:=uJ e;dsimp only at e;split at e
 ·rename_i xs y;obtain⟨vs,e3,e⟩:=uJ e;split at e
  ·rename_i hf;obtain⟨j,e4,e⟩:=map_some e;cases e;refine ho C w Γ σ H _ G1 _ R e1 λv H1 R1 ev1 o1 n1=>?_
   have o1':=o1;obtain⟨p,us,rfl,h1,i1⟩:=o1.invt;refine⟨⟨p,us,rfl,h1⟩,?_⟩;refine ha C w G1 σ H1 _ _ _ R1 e2 λws H2 R2 ev2 o2 n2=>?_
   obtain⟨u,rfl,o3⟩:=vN o2;obtain⟨p',us',e5,h1',i1'⟩:=(o1'.evo ev2 R1.lst).invt;cases e5;have hus:=Px i1' e3;subst hus;exact⟨p,us',_,j,rfl,by rw[o3.inva],h1'.sq,hf.1,hf.2,e4,k _ H2 R2 (ev1.trans ev2) vJ.atom trivial⟩
  ·cases e
 ·cases e
end D
namespace L2
open PySem PySem.Spec PyProof.Rows
section
variable {X:Cx}{tg:Expr}
def ADi (K:AY) (tl:TE):TI:=λσ H R=>tl σ H λx H1=>∃ a,x=.ref a/\(((∃ xs,vz K H1 a xs)/\R (Itl K a) H1)\/((∃ xs,wo K H1 a xs)/\R (Itt K a) H1))
def kj(hl:PE X l tl):PI X tg l (ADi X.K tl):=by
 intro pins s σ H R I h;refine vB (hl pins s σ H _ I h) λv s1 ⟨x,H1,I1,r1,q1⟩=>?_
 obtain⟨a,rfl,q⟩:=q1;cases r1;rcases q with ⟨⟨xs,hq⟩,q⟩ | ⟨⟨xs,hq⟩,q⟩
 ·obtain⟨its,rv,p,hz⟩:=I1.list hq;refine Gh p.isList ⟨s1.heap.objs.size,[s1.heap.objs.size],_,_,H1,rfl,I1.kept λb o e=>AC _ e,lI a _,⟨_,AN _ rfl,rfl,rfl⟩,λb hb=>?_,q⟩;have e:=by simpa using hb
  subst e;exact I1.fpOk (AL _) (I1.hok.fresh (AL _))
 ·obtain⟨its,rv,p,hz⟩:=I1.tuple hq;refine Cy p ⟨s1.heap.objs.size,[s1.heap.objs.size],_,_,H1,rfl,I1.kept λb o e=>AC _ e,Yb a _,⟨_,AN _ rfl,rfl,rfl⟩,λb hb=>?_,q⟩;have e:=by simpa using hb
  subst e;exact I1.fpOk (AL _) (I1.hok.fresh (AL _))
end
section
variable {X:Cx}{elts:List Expr}{x1:Nat}{tp:Pos}
def ABR (K:AY) (ta:TA):TI:=λσ H R=>ta σ H λvs H1=>∃ (b:Bool) (a1 a2:Addr),vs=[.ref a1,.ref a2]/\(∃ xs,Sq b K H1 a1 xs)/\(∃ ys,Sq b K H1 a2 ys)/\R (Itz b K a1 a2) H1
theorem nK(hg:Gl X "zip")(hm:X.mg "zip"=none)(ha:PA X [e1,e2] ta)(hs:AQ [e1,e2] X.env=[(false,eval e1 X.env),(false,eval e2 X.env)]:=by rfl)(hs2:AQ [e2] X.env=[(false,eval e2 X.env)]:=by rfl) :
  PI X (.Tuple elts x1 tp) (.Call (.Name "zip" p) [e1,e2] [] pos) (ABR X.K ta):=by
 intro pins s σ H R I h;refine F9 (L3 I hg hm K5 (An (vB (ha pos pins s σ H _ I h) λus s1 ⟨vs,H1,I1,r1,q1⟩=>?_) (by rw[hs,hs2]) (by rw[hs2];rfl)));obtain⟨b,a1,a2,e,⟨xs,h1⟩,⟨ys,h2⟩,q⟩:=q1;subst e;obtain⟨u1,u2,e,r,r'⟩:=vals2 r1;subst e;cases r;cases r';obtain⟨its1,v1,o1,z1⟩:=I1.sq h1;obtain⟨its2,v2,o2,z2⟩:=I1.sq h2;have lt1:a1 < s1.heap.objs.size:=by cases b with
  | false=>obtain⟨o,e,_⟩:=(show s1.heap.IsList a1 its1.toArray from o1);exact AJ e
  | true=>obtain⟨o,e,_⟩:=(show s1.heap.IsTuple a1 its1.toArray from o1);exact AJ e
 have lt2:a2 < s1.heap.objs.size:=by cases b with
  | false=>obtain⟨o,e,_⟩:=(show s1.heap.IsList a2 its2.toArray from o2);exact AJ e
  | true=>obtain⟨o,e,_⟩:=(show s1.heap.IsTuple a2 its2.toArray from o2);exact AJ e
 have D:zk (s1.heap.objs.size+4) (s1.heap.objs.size+2) (s1.heap.objs.size+3) s1.heap.objs.size (s1.heap.objs.size+1) a1 a2:=
  ⟨IU lt1 lt2,AZ (AM lt1 (Av _ 2)),AZ (AM lt2 (Av _ 2))⟩
 have fin:∀ h',ZTn b (s1.heap.objs.size+4) (s1.heap.objs.size+2) (s1.heap.objs.size+3) s1.heap.objs.size (s1.heap.objs.size+1) a1 a2 0 h'->(∀ c o,s1.heap.get? c=some o->h'.get? c=some o) ->
   AW (model X.prog X.w) X.A (GL (.ref (s1.heap.objs.size+4))) (PIE X pins σ (.Tuple elts x1 tp) R) X.xe { s1 with heap:=h' }:=λh' st hk=>by
  refine FB st.z ?_;refine⟨_,_,_,_,H1,rfl,I1.kept (t':=s1.toks) hk,i8 b D,st,λc hc=>?_,q⟩;have hc':s1.heap.objs.size<=c:=by
   simp only[AR,Bp,or_false]at hc;rcases hc with e | e | e | e | e <;> (rw[e]) <;> first | exact AL _ | exact Av _ _
  exact I1.fpOk hc' (I1.hok.fresh hc')
 cases b with
 | false=>exact call_zip_2 o1 o2 λh' hz hTI hTO it1 it2 _ hk=>fin h' ⟨hz,hTI,⟨_,_,hTO⟩,it1,it2⟩ hk
 | true=>exact Rl o1 o2 fin
end
section
variable {X:Cx}{pos:Pos}
def ACb (i j k:Nat) (ta:TA):TS:=λD σ H=>ta σ H λvs H1=>∃ v w z,vs=[v,w,z]/\D.nx (((σ.set i (some v)).set j (some w)).set k (some z)) H1
def gJ{kt k2 pt2}(hc:X.calm=true)(hN:X.N.Nodup)(hi:X.N[i]?=some x)(hj:X.N[j]?=some y)(hk:X.N[k]?=some z)(hij:i≠j)(hik:i≠k)(hjk:j≠k)
  (hx:X.env.scope.names.lookup x=some .local) (hy:X.env.scope.names.lookup y=some .local) (hz:X.env.scope.names.lookup z=some .local) (ha:PA X [a,b,c] ta)
  (hw:D8 [.Tuple [.Name x px,.Name y py,.Name z pz] kt pt] (.Tuple [a,b,c] k2 pt2) X.env=pure (some [x,y,z]))
  (hs:D7 [.Tuple [.Name x px,.Name y py,.Name z pz] kt pt] (.Tuple [a,b,c] k2 pt2) pos.line X.env=pure false:=by rfl) :
  PS X (.Assign [.Tuple [.Name x px,.Name y py,.Name z pz] kt pt] (.Tuple [a,b,c] k2 pt2) pos) (ACb i j k ta):=by
 intro pins s σ H D I h;refine AB (Et (AB (AF (AB (Tuple_ (vB (ha _ pins s σ H _ I h) λus s1 ⟨vs,H1,I1,r1,q1⟩=>?_))))));obtain⟨v,w,q,rfl,q1⟩:=q1;obtain⟨u1,u2,u3,rfl,rv,rw',rz⟩:∃ u1 u2 u3,us=[u1,u2,u3]/\RelV v u1/\RelV w u2/\RelV q u3:=by
  cases r1 with
  | cons p q =>
   cases q with
   | cons p' q' =>
    cases q' with
    | cons p'' q'' =>
     cases q'';exact⟨_,_,_,rfl,p,p',p''⟩
 refine BH ?_ (by show 3<=AD;decide);have I2:Inv X pins σ H1 { s1 with heap:=s1.heap.push { cls:=.type "tuple",data:=.seq [u1,u2,u3].toArray } }:=I1.kept λb o e=>AC _ e
 rw[hw];refine AB (AF (AB (Cf (AB (Jf (items:=#[u1,u2,u3]) (I.ok.hd hc) (KI s1.heap _) λh' hx'=>?_)))));refine AB (Cv (Eb (M5 (I2.kept λb o e=>hx' b o (AZ (AJ e)) e) hN hk (.inl hz) rz (λs2 I4=>?_) (.inr hz))));refine Cv (Eb (M5 I4 hN hj (.inl hy) rw' (λs3 I5=>Cv (Eb (M5 I5 hN hi (.inl hx) rv (λs4 I6=>Gb (AF ?_)) (.inr hx)))) (.inr hy)));rw[Fh _ _ (Aw hij),Fh _ _ (Aw hik),Fh _ _ (Aw hjk)]at I6;exact⟨_,H1,I6,q1⟩
end
end L2
namespace D
open PySem L2
noncomputable def ve (lo:Int) (n:Nat):List T:=(AE n).map λ(i:Nat)=>T.a (.int (lo+(i:Int)))
noncomputable def xE (fa:DA):DI:=λΓ=>(fa Γ).bind λp=>match p.1 with
 | [.v (.a (.int j))]=>if (inR 4611686018427387903 j && Ex j.toNat AD)=true then some ((ve 0 j.toNat,[]),p.2) else none
 | _=>none
noncomputable def ACv (fa:DA):DI:=λΓ=>(fa Γ).bind λp=>match p.1 with
 | [.v (.a (.int i)),.v (.a (.int j))]=>if (inR 4611686018427387903 i && inR 4611686018427387903 j && Ex (j - i).toNat AD)=true then some ((ve i (j - i).toNat,[]),p.2) else none
 | _=>none
section
variable {K:Fg}
def W3(h:n<=AD):AEk K w Γ σ (Itr lo n) H (ve lo n) []:=by
 refine⟨by simp[ve];exact h,λL' _ _ H2 _=>⟨λi t e=>?_,by simp[ve];exact AL n⟩⟩;unfold ve at e;rw[Ag]at e;obtain⟨j,e1,e⟩:=map_some e;obtain⟨hi',e1⟩:=Af.mp e1;have hi:=by simpa using hi'
 have e1':=by simpa using e1
 subst e;subst e1';refine⟨hi,λx H3 y=>?_⟩;obtain⟨a,b⟩:=y;subst a b;exact⟨λ_ _ z=>z,Im.atom⟩
def AEW(h:(inR 4611686018427387903 j && Ex j.toNat AD)=true):-(2 ^ 62)<=j/\j < 2 ^ 62/\j.toNat<=AD:=by
 rw[BE]at h;exact⟨(zP h.1).1,(zP h.1).2,FC h.2⟩
def AGB(h:(inR 4611686018427387903 i && inR 4611686018427387903 j && Ex (j - i).toNat AD)=true):(-(2 ^ 62)<=i/\i < 2 ^ 62/\-(2 ^ 62)<=j/\j < 2 ^ 62)/\(j - i).toNat<=AD:=by
 rw[BE,BE]at h;exact⟨⟨(zP h.1.1).1,(zP h.1.1).2,(zP h.1.2).1,(zP h.1.2).2⟩,FC h.2⟩
def gy(ha:wD K ta fa):zC K (ACl ta) (xE fa):=by
 intro C w Γ σ H its src Γ' R Rp e k;obtain⟨⟨as,G1⟩,e1,e⟩:=uJ e;dsimp only at e;split at e
 ·split at e
  ·rename_i j hj0;have hj:=AEW hj0;cases e;refine ha C w Γ σ H _ _ _ Rp e1 λvs H1 R1 ev1 o1 n1=>?_
   obtain⟨v,rfl,o2⟩:=vN o1;exact⟨_,by rw[o2.inva],hj.1,hj.2.1,k _ H1 R1 ev1 (W3 hj.2.2)⟩
  ·cases e
 ·cases e
def mP(ha:wD K ta fa):zC K (ACh ta) (ACv fa):=by
 intro C w Γ σ H its src Γ' R Rp e k;obtain⟨⟨as,G1⟩,e1,e⟩:=uJ e;dsimp only at e;split at e
 ·split at e
  ·rename_i j hj0;have hj:=AGB hj0;cases e;refine ha C w Γ σ H _ _ _ Rp e1 λvs H1 R1 ev1 o1 n1=>?_
   obtain⟨v,u,rfl,o2,o3⟩:=wx o1;exact⟨_,_,by rw[o2.inva,o3.inva],hj.1,k _ H1 R1 ev1 (W3 hj.2)⟩
  ·cases e
 ·cases e
noncomputable def yS (Γ:En):S->List Nat
 | .s i=>match Γ[i]? with
  | some (some (.l _))=>[i]
  | _=>[]
 | _=>[]
noncomputable def u9 (f:DE):DI:=λΓ=>(f Γ).bind λp=>(xX p.2 p.1).bind λxs=>gd xs.length ((xs,yS p.2 p.1),p.2)
theorem OA(R:ui K C w Γ σ H)(o:vJ K C w σ H x s)(e:ux Γ s=some xs):∃ p vs,x=.ref p/\vz K H p vs/\uh K H vs xs /\
  ∀ L',(∀ q∈L',q∈w.L)->(∀ i∈yS Γ s,∀ q,σ[i]?=some (some (.ref q))->(∃ zs,Γ[i]?=some (some (.l zs)))->q∉L')->∀ H2,vG L' H H2->vz K H2 p vs:=by
 cases s with
 | v t =>
  cases t with
  | l ys =>
   cases e;obtain⟨p,vs,rfl,h1,h2⟩:=(show Im K H x (.l xs) from o).invl;exact⟨p,vs,rfl,h1.sq,h2,λL' hs _ H2 ev=>(h1.evo ev λq hq=>R.lst q (hs q hq)).sq⟩
  | a _ | t _ | f _ | x _ _ | m _ _=>cases e
 | d _=>cases e
 | l ys =>
  cases e;obtain⟨p,vs,rfl,n1,n2,n3,h1,h2⟩:=o;exact⟨p,vs,rfl,vz.of h1,h2,λL' hs _ H2 ev=>vz.of (ev _ _ h1 λz=>n1 (hs p z))⟩
 | s i =>
  have o':σ[i]?=some (some x):=o;unfold ux at e;dsimp only at e;split at e
  ·rename_i ys h;cases e;obtain⟨v,e1,p,vs,rfl,_,h1,h2⟩:=R.val i _ h;rw[o']at e1;cases e1;refine⟨p,vs,rfl,vz.of h1,h2,λL' hs av H2 ev=>vz.of (ev _ _ h1 (av i ?_ p o' ⟨_,h⟩))⟩;simp[yS,h]
  ·rename_i ys h;cases e;obtain⟨v,e1,p,vs,rfl,h1,h2,h3,_⟩:=R.val i _ h;rw[o']at e1;cases e1;exact⟨p,vs,rfl,vz.of h2,h1,λL' hs av H2 ev=>vz.of (ev _ _ h2 λz=>h3 (hs p z))⟩
  ·rename_i ys h;cases e;obtain⟨v,e1,p,vs,rfl,h1,h2⟩:=R.val i _ h;rw[o']at e1;cases e1;exact⟨p,vs,rfl,h2.sq,h1,λL' hs av H2 ev=>(h2.evo ev λq hq=>R.lst q (hs q hq)).sq⟩
  ·cases e
def m8(hl:uj K tl f):zC K (ADi K tl) (u9 f):=by
 intro C w Γ σ H its src Γ' R Rp e k;obtain⟨⟨a,G1⟩,e1,e⟩:=uJ e;obtain⟨xs,e2,e⟩:=uJ e;obtain⟨hz,e⟩:=L6 e;cases e;refine hl C w Γ σ H a _ _ Rp e1 λv H1 R1 ev1 o1 n1=>?_
 dsimp only at e2;have go:∀ {vs:List V} {H2:Hp} {J:It} (mk:∀ i x,vs[i]?=some x->J.go i H2) (yl:∀ i x H3,J.yld i H2 x H3->H3=H2/\vs[i]?=some x),uh K H2 vs its->∀ (i:Nat) t,its[i]?=some t->J.go i H2/\∀ x H3,J.yld i H2 x H3->(∀ b o,H2 b=some o->H3 b=some o)/\Im K H3 x t:=λ{vs H2 J} mk yl hi i t e=>by
  obtain⟨v,e3,hv⟩:=hi.get e;refine⟨mk i v e3,λx H3 y=>?_⟩;obtain⟨rfl,e4⟩:=yl i x H3 y;rw[e3]at e4;cases e4;exact⟨λ_ _ z=>z,hv⟩
 unfold xX at e2;split at e2
 ·cases e2;obtain⟨p,vs,rfl,h1,i1⟩:=o1.invt;refine⟨p,rfl,.inr ⟨⟨vs,h1.sq⟩,k _ H1 R1 ev1 ⟨hz,λL' hs av H2 ev=>?_⟩⟩⟩;have hL:LL L' H1:=λq hq=>R1.lst q (hs q hq)
  have h2:wo K H2 p vs:=(Nb ev hL h1).sq;have i2:=i1.evo ev hL;exact⟨go (vs:=vs) (J:=Itt K p) (λi x e=>⟨vs,x,h2,e⟩) (λi x H3 y=>⟨y.1,y.2 vs h2⟩) i2,⟨vs,h2,by rw[i2.len];exact AL _⟩⟩
 ·obtain⟨p,vs,rfl,h1,i1,st⟩:=OA R1 o1 e2;refine⟨p,rfl,.inl ⟨⟨vs,h1⟩,k _ H1 R1 ev1 ⟨hz,λL' hs av H2 ev=>?_⟩⟩⟩;have hL:LL L' H1:=λq hq=>R1.lst q (hs q hq)
  have h2:=st L' hs av H2 ev;have i2:=i1.evo ev hL;exact⟨go (vs:=vs) (J:=Itl K p) (λi x e=>⟨vs,x,h2,e⟩) (λi x H3 y=>⟨y.1,y.2 vs h2⟩) i2,⟨vs,h2,by rw[i2.len];exact AL _⟩⟩
noncomputable def xW (xs ys:List T):List T:=(xs.zip ys).map λp=>.t [p.1,p.2]
noncomputable def ADU (fa:DA):DI:=λΓ=>(fa Γ).bind λp=>match p.1 with
 | [.v (.t xs),.v (.t ys)]=>gd xs.length ((xW xs ys,[]),p.2)
 | [a,b]=>(ux p.2 a).bind λxs=>(ux p.2 b).bind λys=>gd xs.length ((xW xs ys,yS p.2 a++yS p.2 b),p.2)
 | _=>none
def R7(h1:Sq b K H2 a1 vs)(h2:Sq b K H2 a2 us)(i1:uh K H2 vs xs)(i2:uh K H2 us ys) :
  (∀ (i:Nat) t,(xW xs ys)[i]?=some t->(Itz b K a1 a2).go i H2/\∀ x H3,(Itz b K a1 a2).yld i H2 x H3->(∀ b o,H2 b=some o->H3 b=some o)/\Im K H3 x t)/\(Itz b K a1 a2).stop (xW xs ys).length H2:=by
 refine⟨λi t e=>?_,⟨vs,us,h1,h2,?_⟩⟩
 ·unfold xW at e;rw[Ag]at e;obtain⟨⟨t1,t2⟩,e1,e⟩:=map_some e;subst e;obtain⟨g1,g2⟩:=CL.mp e1;obtain⟨v,e3,hv⟩:=i1.get g1;obtain⟨u,e4,hu⟩:=i2.get g2;refine⟨⟨vs,us,v,u,h1,h2,e3,e4⟩,λx H3 y=>?_⟩;obtain⟨T',x',y',rfl,hT,rfl,k1,k2⟩:=y;have q1:=k1 vs h1;have q2:=k2 us h2;rw[e3]at q1;cases q1;rw[e4]at q2;cases q2;have ev:vG [] H2 (upd H2 T' (.tup [v,u])):=vG.new hT;have hL:LL [] H2:=λq hq=>nomatch hq
  refine⟨λb o e=>ev b o e nofun,Im.tup Lq (.cons (hv.evo ev hL) (.one (hu.evo ev hL)))⟩
 ·have l1:=i1.len;have l2:=i2.len;simp[xW];lia
def ZZ(ha:wD K ta fa):zC K (ABR K ta) (ADU fa):=by
 intro C w Γ σ H its src Γ' R Rp e k;obtain⟨⟨as,G1⟩,e1,e⟩:=uJ e;dsimp only at e;have zl:∀ xs ys:List T,(xW xs ys).length<=xs.length:=λxs ys=>by simp[xW];lia
 split at e
 ·rename_i xs ys;obtain⟨hz,e⟩:=L6 e;cases e;refine ha C w Γ σ H _ _ _ Rp e1 λvs H1 R1 ev1 o1 n1=>?_
  obtain⟨v,u,rfl,o2,o3⟩:=wx o1;obtain⟨p,vs,rfl,h1,i1⟩:=o2.invt;obtain⟨q,us,rfl,h2,i2⟩:=o3.invt;refine⟨true,p,q,rfl,⟨vs,h1.sq⟩,⟨us,h2.sq⟩,k _ H1 R1 ev1 ⟨Aa (zl _ _) hz,λL' hs av H2 ev=>?_⟩⟩;have hL:LL L' H1:=λq hq=>R1.lst q (hs q hq)
  exact R7 (b:=true) (Nb ev hL h1).sq (Nb ev hL h2).sq (i1.evo ev hL) (i2.evo ev hL)
 ·obtain⟨xs,e2,e⟩:=uJ e;obtain⟨ys,e3,e⟩:=uJ e;obtain⟨hz,e⟩:=L6 e;cases e;refine ha C w Γ σ H _ _ _ Rp e1 λvs H1 R1 ev1 o1 n1=>?_
  obtain⟨v,u,rfl,o2,o3⟩:=wx o1;obtain⟨p,vs,rfl,h1,i1,st1⟩:=OA R1 o2 e2;obtain⟨q,us,rfl,h2,i2,st2⟩:=OA R1 o3 e3;refine⟨false,p,q,rfl,⟨vs,h1⟩,⟨us,h2⟩,k _ H1 R1 ev1 ⟨Aa (zl _ _) hz,λL' hs av H2 ev=>?_⟩⟩;have hL:LL L' H1:=λq hq=>R1.lst q (hs q hq)
  exact R7 (b:=false) (st1 L' hs (λi hi=>av i (Dr _ hi)) H2 ev) (st2 L' hs (λi hi=>av i (Ai _ hi)) H2 ev) (i1.evo ev hL) (i2.evo ev hL)
 ·cases e
def Wz lo n:uh K H (yu lo n) (ve lo n):=by
 have:ve lo n=(yu lo n).map T.a:=by simp[ve,yu]
 rw[this];exact uh.atoms _
noncomputable def x9 (as:List S):Option (List T):=match as with
 | [.v (.a (.int j))]=>if (inR 4611686018427387903 j && Ex j.toNat AD)=true then some (ve 0 j.toNat) else none
 | [.v (.a (.int i)),.v (.a (.int j))]=>if (inR 4611686018427387903 i && inR 4611686018427387903 j && Ex (j - i).toNat AD)=true then some (ve i (j - i).toNat) else none
 | _=>none
noncomputable def ADd:List V->Hp->VK->Prop:=λxs H Q=>(∃ j,xs=[.int j]/\∀ p,H p=none->Q (.ref p) (upd H p (.rng 0 j)))\/(∃ i j,xs=[.int i,.int j]/\∀ p,H p=none->Q (.ref p) (upd H p (.rng i j)))
noncomputable def ABX:List V->Hp->VK->Prop:=λxs H Q=>∃ p lo hi,xs=[.ref p]/\H p=some (.rng lo hi)/\(-(2 ^ 62)<=lo/\lo < 2 ^ 62/\-(2 ^ 62)<=hi/\hi < 2 ^ 62)/\(hi - lo).toNat<=2 ^ 24/\∀ l,H l=none->Q (.ref l) (upd H l (.lst (yu lo (hi - lo).toNat)))
noncomputable def ABY:List V->Hp->VK->Prop:=λxs H Q=>∃ p lo hi,xs=[.ref p]/\H p=some (.rng lo hi)/\(-(2 ^ 62)<=lo/\lo < 2 ^ 62/\-(2 ^ 62)<=hi/\hi < 2 ^ 62)/\(hi - lo).toNat<=2 ^ 24/\∀ l,H l=none->Q (.ref l) (upd H l (.tup (yu lo (hi - lo).toNat)))
noncomputable def wN (fa:DA):DE:=λΓ=>(fa Γ).bind λp=>(x9 p.1).map λxs=>(.l xs,p.2)
noncomputable def wm (fa:DA):DE:=λΓ=>(fa Γ).bind λp=>(x9 p.1).map λxs=>(.v (.t xs),p.2)
def XQ(R:ui K C w Γ σ H)(o:wB K C w σ H vs as)(e:x9 as=some xs)
  (k:∀ p lo hi,H p=none->(-(2 ^ 62)<=lo/\lo < 2 ^ 62/\-(2 ^ 62)<=hi/\hi < 2 ^ 62)->(hi - lo).toNat<=2 ^ 24->xs=ve lo (hi - lo).toNat->Q (.ref p) (upd H p (.rng lo hi))):ADd vs H Q:=by
 have hs:AD=2 ^ 24:=by rw[BQ]
 unfold x9 at e;split at e
 ·split at e
  ·rename_i j hj0;have hj:=AEW hj0;cases e;obtain⟨v,rfl,o2⟩:=vN o;refine .inl ⟨_,by rw[o2.inva],λp hp=>k p 0 _ hp ⟨by decide,by decide,hj.1,hj.2.1⟩ ?_ (by rw[KA])⟩;rw[KA];have:=hj.2.2;lia
  ·cases e
 ·split at e
  ·rename_i j hj0;have hj:=AGB hj0;cases e;obtain⟨v,u,rfl,o2,o3⟩:=wx o;exact .inr ⟨_,_,by rw[o2.inva,o3.inva],λp hp=>k p _ _ hp hj.1 ⋯ rfl⟩
  ·cases e
 ·cases e
def ZH(ha:wD K ta fa):uj K (tCB ABX (AAW (tCB ADd ta) ADT)) (wN fa):=by
 intro C w Γ σ H s Γ' Q R e k;obtain⟨⟨as,G1⟩,e1,e⟩:=uJ e;obtain⟨xs,e2,e⟩:=map_some e;cases e;refine ha C w Γ σ H as G1 _ R e1 λvs H1 R1 ev1 o1 n1=>XQ R1 o1 e2 λp lo hi hp hb hz hx=>?_
 have R2:ui K C w G1 σ (upd H1 p (.rng lo hi)):=R1.new hp;have ev2:vG w.L H (upd H1 p (.rng lo hi)):=ev1.trans (vG.new hp);refine⟨p,lo,hi,rfl,Lq,hb,hz,λl hl=>?_⟩;subst hx;exact k _ _ (R2.new hl) (ev2.trans (vG.new hl)) (R2.newl hl (Wz _ _)) ⟨l,rfl,Me ev2 R2.lst hl⟩
def ju(ha:wD K ta fa):uj K (tCB ABY (AAW (tCB ADd ta) ADT)) (wm fa):=by
 intro C w Γ σ H s Γ' Q R e k;obtain⟨⟨as,G1⟩,e1,e⟩:=uJ e;obtain⟨xs,e2,e⟩:=map_some e;cases e;refine ha C w Γ σ H as G1 _ R e1 λvs H1 R1 ev1 o1 n1=>XQ R1 o1 e2 λp lo hi hp hb hz hx=>?_
 have R2:ui K C w G1 σ (upd H1 p (.rng lo hi)):=R1.new hp;have ev2:vG w.L H (upd H1 p (.rng lo hi)):=ev1.trans (vG.new hp);refine⟨p,lo,hi,rfl,Lq,hb,hz,λl hl=>?_⟩;subst hx;exact k _ _ (R2.new hl) (ev2.trans (vG.new hl)) (R2.newt hl (Wz _ _)) trivial
theorem oM(ha:wD K ta fa)(hi:ip≠some i)(hj:ip≠some j):wU K ip (AFO i j ta) (λΓ=>(fa Γ).bind λp=>match p.1 with
  | [.v a,.v b]=>some (.nx ((p.2.set i (some (.v a))).set j (some (.v b))))
  | _=>none):=by
 intro C w Γ σ H D o hp R e k;obtain⟨⟨as,G1⟩,e1,e⟩:=uJ e;dsimp only at e;split at e
 ·cases e;refine ha C w Γ σ H _ G1 _ R e1 λvs H1 R1 ev1 o1 n1=>?_
  obtain⟨v,u,rfl,o2,o3⟩:=wx o1;exact⟨v,u,rfl,k w _ H1 ((R1.setv (g:=.v _) rfl o2 (MV hp hi)).setv rfl o3 (MV hp hj))⟩
 ·cases e
noncomputable def AAS (i j:Nat) (fa:DA):DS:=λΓ=>(fa Γ).bind λp=>match p.1 with
  | [.v a,.v b]=>some (.nx ((p.2.set i (some (.v a))).set j (some (.v b))))
  | _=>none
noncomputable def AAZ (i j k:Nat) (fa:DA):DS:=λΓ=>(fa Γ).bind λp=>match p.1 with
  | [.v a,.v b,.v c]=>some (.nx (((p.2.set i (some (.v a))).set j (some (.v b))).set k (some (.v c))))
  | _=>none
def AER(h:wB K C w σ H vs [a,b,c]):∃ v u z,vs=[v,u,z]/\vJ K C w σ H v a/\vJ K C w σ H u b/\vJ K C w σ H z c:=by
 obtain⟨v,r,rfl,h1,k⟩:=ABU h;obtain⟨u,z,rfl,k2⟩:=wx k;exact⟨v,u,z,rfl,h1,k2⟩
def mI(ha:wD K ta fa)(hi:ip≠some i)(hj:ip≠some j)(hk:ip≠some k):wU K ip (ACb i j k ta) (AAZ i j k fa):=by
 intro C w Γ σ H D o hp R e kk;obtain⟨⟨as,G1⟩,e1,e⟩:=uJ e;dsimp only at e;split at e
 ·cases e;refine ha C w Γ σ H _ G1 _ R e1 λvs H1 R1 ev1 o1 n1=>?_
  obtain⟨v,u,z,rfl,o2,o3,o4⟩:=AER o1;exact⟨v,u,z,rfl,kk w _ H1 (((R1.setv (g:=.v _) rfl o2 (MV hp hi)).setv (g:=.v _) rfl o3 (MV hp hj)).setv rfl o4 (MV hp hk))⟩
 ·cases e
end
noncomputable def ADN:V->Option CP
 | .int i=>some (.int i)
 | .bl b=>some (.bool b)
 | .str x=>some (.str x)
 | .non=>some .none
 | _=>none
mutual
noncomputable def toD:T->Option CP
 | .a v=>ADN v
 | .t ts=>(we ts).map .tuple
 | .l ts=>(we ts).map .list
 | .f _=>none
 | .x _ _=>none
 | .m _ _=>none
noncomputable def we:List T->Option (List CP)
 | []=>some []
 | t::r=>(toD t).bind λd=>(we r).map λds=>d::ds
end
mutual
theorem QT(I:Inv X pins σ H s):∀ {v u t d},Im X.K H v t->RelV v u->toD t=some d->∃ as,JB s.heap u d as
 | v,u,.a x,d,h,r,e=>by
  have hv:=h.inva;subst hv;cases v with
  | int i=>cases e;obtain⟨t,rfl⟩:=r;exact⟨_,.int i t⟩
  | bl b=>cases e;cases r;exact⟨_,.bool b⟩
  | str x=>cases e;obtain⟨t,rfl⟩:=r;exact⟨_,.str x t⟩
  | non=>cases e;cases r;exact⟨_,.none⟩
  | byt _ | flt _ | ref _ | ty _=>cases e
 | v,u,.t ts,d,h,r,e=>by
  obtain⟨p,vs,rfl,h1,h2⟩:=h.inv;cases (show u=BJ p from r);obtain⟨ds,e1,rfl⟩:=map_some e;obtain⟨its,rv,⟨o,ho,hc,n,hd⟩,_⟩:=I.tuple h1.sq;obtain⟨as,q⟩:=NF I h2 rv e1;exact⟨as,.tuple ho hc hd ‹_›⟩
 | v,u,.l ts,d,h,r,e=>by
  obtain⟨p,vs,rfl,h1,h2⟩:=h.invl;cases (show u=BJ p from r);obtain⟨ds,e1,rfl⟩:=map_some e;obtain⟨its,rv,pl,_⟩:=I.list h1.sq;obtain⟨o,ho,hc,n,hd⟩:=pl.isList;obtain⟨as,q⟩:=NF I h2 rv e1;exact⟨_,.list ho hc hd ‹_›⟩
 | v,u,.f _,d,h,r,e | v,u,.x _ _,d,h,r,e | v,u,.m _ _,d,h,r,e=>by unfold toD at e;cases e
theorem NF(I:Inv X pins σ H s):∀ {vs:List V} {us:List AK} {ts:List T} {ds:List CP},uh X.K H vs ts->uU vs us->we ts=some ds->∃ as,K6 s.heap us ds as
 | vs,us,[],ds,h,r,e=>by
  have:=h.inv0;subst this;cases r;unfold we at e;cases e;exact⟨_,.nil⟩
 | vs,us,t::ts,ds,h,r,e=>by
  obtain⟨v,r',rfl,h1,h2⟩:=h.inv;obtain⟨d,e1,e⟩:=uJ e;obtain⟨ds',e2,rfl⟩:=map_some e;cases r with
  | cons r1 r2 =>
   obtain⟨as,q1⟩:=QT I h1 r1 e1;obtain⟨bs,q2⟩:=NF I h2 r2 e2;exact⟨_,IV q1 q2⟩
end
def ABI (K:Fg) (H:Hp) (x:V) (d:CP):Prop:=(∃ t,Im K H x t/\toD t=some d)\/(∃ p vs ts ds,x=.ref p/\vz K H p vs/\uh K H vs ts/\we ts=some ds/\d=.list ds)
def Pf(I:Inv X pins σ H s)(r:RelV x u)(h:ABI X.K H x d):∃ as,JB s.heap u d as:=by
 rcases h with ⟨t,h,e⟩ | ⟨p,vs,ts,ds,rfl,h1,h2,e,rfl⟩
 ·exact QT I h r e
 ·cases r;obtain⟨its,rv,pl,_⟩:=I.list h1;obtain⟨o,ho,hc,n,hd⟩:=pl.isList;obtain⟨as,q⟩:=NF I h2 rv e;exact⟨_,.list ho hc hd ‹_›⟩
noncomputable def ADa (K:Fg):R2:=λx y H Q=>∃ da db,ABI K H x da/\ABI K H y db/\da.canLay0=true/\db.canLay0=true/\min da.depth db.depth<=100/\Q (.bl (BI da db)) H
noncomputable def ADK (K:Fg):R2:=λx y H Q=>∃ da db,ABI K H x da/\ABI K H y db/\da.canLay0=true/\db.canLay0=true/\min da.depth db.depth<=100/\Q (.bl (!PyData.eqv da db)) H
def br(hr:vn k X.A):w8 X (B0 .Eq) (ADa X.K):=by
 intro pins s σ H x y v u Q I rx ry h;obtain⟨da,db,h1,h2,c1,c2,hm,q⟩:=h;obtain⟨_,r1⟩:=Pf I rx h1;obtain⟨_,r2⟩:=Pf I ry h2;exact SeqAt.compareEq_reads r1 r2 c1 c2 (by have:=hr.un;lia) ⟨.bl _,H,I,rfl,q⟩
def dq(hr:vn k X.A):w8 X (B0 .NotEq) (ADK X.K):=by
 intro pins s σ H x y v u Q I rx ry h;obtain⟨da,db,h1,h2,c1,c2,hm,q⟩:=h;obtain⟨_,r1⟩:=Pf I rx h1;obtain⟨_,r2⟩:=Pf I ry h2;exact SeqAt.compareNe_reads r1 r2 c1 c2 (by have:=hr.un;lia) ⟨.bl _,H,I,rfl,q⟩
noncomputable def zR (Γ:En):S->Option CP
 | .v t=>toD t
 | a=>(ux Γ a).bind λxs=>(we xs).map .list
theorem Ov(R:ui K C w Γ σ H)(o:vJ K C w σ H x s)(e:zR Γ s=some d):ABI K H x d:=by
 have lst:∀ {s:S},vJ K C w σ H x s->(ux Γ s).bind (λxs=>(we xs).map PyData.list)=some d->ABI K H x d:=λ{s} o e=>by
  obtain⟨xs,e1,e⟩:=uJ e;obtain⟨ds,e2,rfl⟩:=map_some e;obtain⟨p,vs,rfl,h1,h2⟩:=L8 R o e1;exact .inr ⟨p,vs,xs,ds,rfl,h1,h2,e2,rfl⟩
 cases s with
 | v t=>exact .inl ⟨t,o,e⟩
 | l xs | s i=>exact lst o e
 | d _=>cases e
noncomputable def yK (f:CP->CP->Bool):En->S->S->Option S:=λΓ a b=>(zR Γ a).bind λda=>(zR Γ b).bind λdb=>if da.canLay0=true/\db.canLay0=true/\min da.depth db.depth<=100 then some (mkB (f da db)) else none
noncomputable def eqA (f:V->V->Bool):En->S->S->Option S:=λ_ a b=>match a,b with
 | .v (.a x),.v (.a y)=>if ADv x y=true then some (mkB (f x y)) else none
 | _,_=>none
def Zs:vD K rEq (eqA λx y=>decide (x=y)):=by
 intro C w Γ σ H x y a b s Q R ox oy e k;unfold eqA at e;split at e
 ·split at e
  ·rename_i h;cases e;rw[ox.inva,oy.inva];exact⟨h,k _ H R .refl vJ.atom trivial⟩
  ·cases e
 ·cases e
def o7:vD K rNe (eqA λx y=>!decide (x=y)):=by
 intro C w Γ σ H x y a b s Q R ox oy e k;unfold eqA at e;split at e
 ·split at e
  ·rename_i h;cases e;rw[ox.inva,oy.inva];exact⟨h,k _ H R .refl vJ.atom trivial⟩
  ·cases e
 ·cases e
noncomputable def v5:En->S->S->Option S:=λΓ a b=>(eqA (λx y=>decide (x=y)) Γ a b).or (yK BI Γ a b)
noncomputable def zE:En->S->S->Option S:=λΓ a b=>(eqA (λx y=>!decide (x=y)) Γ a b).or (yK (λa b=>!PyData.eqv a b) Γ a b)
def Z4:vD K (ADa K) (yK BI):=by
 intro C w Γ σ H x y a b s Q R ox oy e k;obtain⟨da,e1,e⟩:=uJ e;obtain⟨db,e2,e⟩:=uJ e;split at e
 ·rename_i h;cases e;exact⟨da,db,Ov R ox e1,Ov R oy e2,h.1,h.2.1,h.2.2,k _ H R .refl vJ.atom trivial⟩
 ·cases e
def lr:vD K (ADK K) (yK λa b=>!PyData.eqv a b):=by
 intro C w Γ σ H x y a b s Q R ox oy e k;obtain⟨da,e1,e⟩:=uJ e;obtain⟨db,e2,e⟩:=uJ e;split at e
 ·rename_i h;cases e;exact⟨da,db,Ov R ox e1,Ov R oy e2,h.1,h.2.1,h.2.2,k _ H R .refl vJ.atom trivial⟩
 ·cases e
def Y6:vD K (λx y H Q=>rEq x y H Q\/ADa K x y H Q) v5:=Zs.or Z4
def mD:vD K (λx y H Q=>rNe x y H Q\/ADK K x y H Q) zE:=o7.or lr
def fL(hr:vn k X.A):w8 X (B0 .Eq) (λx y H Q=>rEq x y H Q\/ADa X.K x y H Q):=cK.or (br hr)
def c7(hr:vn k X.A):w8 X (B0 .NotEq) (λx y H Q=>rNe x y H Q\/ADK X.K x y H Q):=Z6.or (dq hr)
noncomputable def inS (neg:Bool):En->S->S->Option S:=λΓ a b=>match a with
 | .v (.a x)=>(xX Γ b).bind λxs=>(vU xs).bind λvs=>if vI x=true/\vs.all vI=true then some (mkB (if neg then !inV x vs else inV x vs)) else none
 | _=>none
def Y5:vD K (rIn K neg) (inS neg):=by
 intro C w Γ σ H x y a b s Q R ox oy e k;unfold inS at e;split at e
 ·obtain⟨xs,e1,e⟩:=uJ e;obtain⟨vs,e2,e⟩:=uJ e;split at e
  ·rename_i h;cases e;obtain⟨p,us,rfl,h1,i1⟩:=Pb R oy e1;have:=Px i1 e2;subst this;rw[ox.inva];exact⟨p,us,rfl,h1,h.1,h.2,k _ H R .refl vJ.atom trivial⟩
  ·cases e
 ·cases e
noncomputable def ACG (Γ:En):S->Option Bool
 | .v (.a .non)=>some false
 | .v (.a (.bl b))=>some b
 | .v (.a (.int i))=>some (i != 0)
 | .v (.a (.str y))=>if y.length<=AD then some ((y.length:Int) != 0) else none
 | .v (.t xs)=>some (!xs.isEmpty)
 | .v _=>none
 | a=>(ux Γ a).map λxs=>!xs.isEmpty
noncomputable def wc (f:DE):DT:=λΓ=>(f Γ).bind λp=>(ACG p.2 p.1).map λb=>(b,p.2)
theorem uh.isEmpty(h:uh K H vs ts):vs.isEmpty=ts.isEmpty:=by
 have:=h.len;cases vs <;> cases ts <;> simp at this ⊢
def mJ(h:uj K te f):xA K (λσ H Q=>te σ H λx H'=>∃ k,ADY K x H' k/\Q k H') (wc f):=by
 intro C w Γ σ H b Γ' Q R e k;obtain⟨⟨a,G1⟩,e1,e⟩:=uJ e;obtain⟨b',e2,e⟩:=map_some e;cases e;refine h C w Γ σ H a _ _ R e1 λv H1 R1 ev1 o1 n1=>⟨b,?_,k H1 R1 ev1⟩
 dsimp only at e2;unfold ACG at e2;split at e2
 iterate 3
  ·cases e2;rw[o1.inva];exact rfl
 ·split at e2
  ·rename_i hz;cases e2;rw[o1.inva];exact⟨hz,rfl⟩
  ·cases e2
 ·cases e2;obtain⟨p,us,rfl,h1,i1⟩:=o1.invt;exact .inr (.inl ⟨us,h1.sq,by rw[i1.isEmpty]⟩)
 ·cases e2
 ·obtain⟨xs,e3,rfl⟩:=map_some e2;obtain⟨p,us,rfl,h1,i1⟩:=L8 R1 o1 e3;exact .inl ⟨us,h1,by rw[i1.isEmpty]⟩
noncomputable def rfS (Γ:En):S->Option Unit
 | .v (.x _ _)=>some ()
 | .v (.l _)=>some ()
 | .l _=>some ()
 | .s i=>(ux Γ (.s i)).map λ_=>()
 | _=>none
def X3(R:ui K C w Γ σ H)(o:vJ K C w σ H x a)(e:rfS Γ a=some u):∃ p,x=.ref p:=by
 unfold rfS at e;split at e
 ·obtain⟨p,rfl,_⟩:=(show Im K H x (.x _ _) from o).invx;exact⟨p,rfl⟩
 ·obtain⟨p,_,rfl,_⟩:=(show Im K H x (.l _) from o).invl;exact⟨p,rfl⟩
 ·obtain⟨p,_,rfl,_⟩:=o;exact⟨p,rfl⟩
 ·obtain⟨xs,e1,_⟩:=map_some e;obtain⟨p,_,rfl,_⟩:=L8 R o e1;exact⟨p,rfl⟩
 ·cases e
noncomputable def xq (neg:Bool):En->S->S->Option S:=λΓ a b=>match b with
 | .v (.a .non)=>match a with
  | .v (.a x)=>some (mkB (if neg then !decide (x=V.non) else decide (x=V.non)))
  | .v (.t _)=>some (mkB neg)
  | a=>(rfS Γ a).map λ_=>mkB neg
 | _=>none
def X0:vD K (λx y H Q=>y=.non/\Q (.bl (!decide (x=.non))) H) (xq true):=by
 intro C w Γ σ H x y a b s Q R ox oy e k;unfold xq at e;split at e
 ·refine⟨oy.inva,?_⟩;split at e
  ·cases e;rw[ox.inva];exact k _ H R .refl vJ.atom trivial
  ·cases e;obtain⟨p,us,rfl,h1,i1⟩:=ox.invt;rw[decide_eq_false (by intro z;cases z)];exact k _ H R .refl vJ.atom trivial
  ·obtain⟨u,e1,e⟩:=map_some e;cases e;obtain⟨p,rfl⟩:=X3 R ox e1;rw[decide_eq_false (by intro z;cases z)];exact k _ H R .refl vJ.atom trivial
 ·cases e
structure EX{ι:Type}(K:Fg)(X:ι->Cx)(e:Expr)(f:DE):Prop where o:∃ te,(∀ j,PE (X j) e te)/\uj K te f
structure TX{ι:Type}(K:Fg)(X:ι->Cx)(e:Expr)(f:DT):Prop where o:∃ t,(∀ j,PT (X j) e t)/\xA K t f
structure WX{ι:Type}(K:Fg)(X:ι->Cx)(e:Expr)(f:DT):Prop where o:∃ t,(∀ j,PW (X j) e t)/\xA K t f
structure AX{ι:Type}(K:Fg)(X:ι->Cx)(es:List Expr)(f:DA):Prop where o:∃ t,(∀ j,PA (X j) es t)/\wD K t f
structure OX{ι:Type}(K:Fg)(X:ι->Cx)(e:Option Expr)(f:DO):Prop where o:∃ t,(∀ j,PO (X j) e t)/\ACE K t f
structure IX{ι:Type}(K:Fg)(X:ι->Cx)(tg it:Expr)(f:DI):Prop where o:∃ t,(∀ j,PI (X j) tg it t)/\zC K t f
structure GX{ι:Type}(K:Fg)(X:ι->Cx)(ip:Option Nat)(tg:Expr)(f:En->T->Option En):Prop where o:∃ t,(∀ j,PG (X j) tg t)/\AAz K ip t f
structure GXs{ι:Type}(K:Fg)(X:ι->Cx)(ip:Option Nat)(tg:List Expr)(f:En->List T->Option En):Prop where o:∃ t,(∀ j,PGs (X j) tg t)/\AAF K ip t f
structure SX{ι:Type}(K:Fg)(X:ι->Cx)(ip:Option Nat)(s:Stmt)(f:DS):Prop where o:∃ t,(∀ j,PS (X j) s t)/\wU K ip t f
structure BX{ι:Type}(K:Fg)(X:ι->Cx)(ip:Option Nat)(s:List Stmt)(f:DS):Prop where o:∃ t,(∀ j,PSs (X j) s t)/\wU K ip t f
structure Fm{ι:Type}(K:Fg)(mg:Str->Option AK)(k:Nat)(X:ι->Cx):Prop where
 K:∀ j,(X j).K=K
 mg:∀ j,(X j).mg=mg
 calm:∀ j,(X j).calm=true
 room:∀ j,vn k (X j).A
section
variable {ι:Type}{K:Fg}{mg:Str->Option AK}{k:Nat}{X:ι->Cx}{ip:Option Nat}{a b c e:Expr}{es:List Expr}{pos:Pos}{fa fb fc:DE}{ta tb:DT}{da:DA}
def jZ i (hN:∀ j,(X j).N[i]?=some x:=by intro _;rfl) (hv:∀ j,Vis (X j).env.scope x:=by intro _;first | exact Ds rfl | exact C2 (Ds rfl) | exact C2 (C2 rfl)) (hd:(x == ("__debug__":Str))=false:=by decide)
  (hcd:(x == ("__classdict__":Str))=false:=by decide):EX K X (.Name x pos) (jV i):=⟨xJ i,λj=>OG (hN j) (hv j) hd hcd,jq⟩
def jJ{u}:EX K X (.Constant (.int i) u pos) (dC (.int i)):=⟨_,λ_=>dE,OL⟩
def lK{u}:EX K X (.Constant (.bool v) u pos) (dC (.bl v)):=⟨_,λ_=>nR,OL⟩
def gX{u}:EX K X (.Constant .none u pos) (dC .non):=⟨_,λ_=>lq,OL⟩
def aN{u}:EX K X (.Constant (.str v) u pos) (dC (.str v)):=⟨_,λ_=>Wq,OL⟩
def RT(M:Fm K mg k X)(hm:mg x=none)(hv:CH x=some (.type N))(hg:∀ j,Gl (X j) x:=by intro _;rfl)(hn:x≠"__name__":=by decide)(hd:(x == ("__debug__":Str))=false:=by decide):EX K X (.Name x pos) (dC (.ty N)):=
 ⟨_,λj=>aJ (hg j) (by rw[M.mg];exact hm) hv hn hd,OL⟩
def NX(ho:∀ j,w8 (X j) (Co op) r)(hs:vD K r h)(ha:EX K X a fa)(hb:EX K X b fb):EX K X (.BinOp a op b pos) (uM h fa fb):=
 let ⟨_,p,s⟩:=ha;let ⟨_,q,u⟩:=hb;⟨_,λj=>eh (ho j) (p j) (q j),Na hs s u⟩
def Oo(M:Fm K mg k X)(ha:EX K X a fa)(hb:EX K X b fb):EX K X (.BinOp a .Add b pos) (uM ur fa fb):=NX (λj=>by rw[← M.K j];exact gW) pM ha hb
def fQ(ha:EX K X a fa)(hb:EX K X b fb):EX K X (.BinOp a .Sub b pos) (uM vW fa fb):=NX (λj=>ai) Nd ha hb
def kQ(ha:EX K X a fa)(hb:EX K X b fb):EX K X (.BinOp a .Mult b pos) (uM vp fa fb):=NX (λj=>jk) nW ha hb
def aS(ha:EX K X a fa)(hb:EX K X b fb):EX K X (.BinOp a .Mod b pos) (uM xV fa fb):=NX (λj=>bH) O7 ha hb
def aH(ha:EX K X a fa)(hb:EX K X b fb):EX K X (.BinOp a .FloorDiv b pos) (uM xP fa fb):=NX (λj=>mn) O7 ha hb
def iV(ha:EX K X a fa)(hb:EX K X b fb):EX K X (.BinOp a .Pow b pos) (uM ADS fa fb):=NX (λj=>ng) O7 ha hb
def bJ(ha:EX K X a fa):EX K X (.UnaryOp .USub a pos) (dUn yQ fa):=let ⟨_,p,s⟩:=ha;⟨_,λj=>ay oI (p j),aZ iE s⟩
def oA(ho:∀ j,w8 (X j) (B0 op) r)(hs:vD K r h)(hm:C8 op b=false)(ha:EX K X a fa)(hb:EX K X b fb):EX K X (.Compare a [op] [b] pos) (uM h fa fb):=
 let ⟨_,p,s⟩:=ha;let ⟨_,q,u⟩:=hb;⟨_,λj=>iC (ho j) (p j) (q j) hm,Na hs s u⟩
def mM(ho:∀ j,w8 (X j) (B0 op) r)(hs:vD K r h)(hm:C8 op b=false)(ha:EX K X a fa)(hb:EX K X b fb):TX K X (.Compare a [op] [b] pos) (uQ (uM h fa fb)):=
 let ⟨_,p,s⟩:=ha;let ⟨_,q,u⟩:=hb;⟨_,λj=>kT (ho j) (p j) (q j) hm,Pj (Na hs s u)⟩
structure y9{ι:Type}(K:Fg)(X:ι->Cx)(op:CmpOp)(h:En->S->S->Option S):Prop where
 ex:∃ r,(∀ j,w8 (X j) (B0 op) r)/\vD K r h
def jP:y9 K X .Lt ltS:=⟨_,λ_=>Yg,Nd⟩
def l7:y9 K X .Gt zo:=⟨_,λ_=>oE,Nd⟩
def pG:y9 K X .GtE geS:=⟨_,λ_=>n9,Nd⟩
def T9(M:Fm K mg k X):y9 K X .Eq v5:=⟨_,λj=>by have:=fL (M.room j);rw[M.K j]at this;exact this,Y6⟩
def oX(M:Fm K mg k X):y9 K X .NotEq zE:=⟨_,λj=>by have:=c7 (M.room j);rw[M.K j]at this;exact this,mD⟩
def jL(M:Fm K mg k X):y9 K X .In (inS false):=⟨_,λj=>by have:=nB (X:=X j);rw[M.K j]at this;exact this,Y5⟩
def pJ:y9 K X .IsNot (xq true):=⟨_,λ_=>lW,X0⟩
def AEo(hc:y9 K X op h)(ha:EX K X a fa)(hb:EX K X b fb)(hm:C8 op b=false:=by first | exact AAr _ | with_unfolding_all rfl):EX K X (.Compare a [op] [b] pos) (uM h fa fb):=
 let ⟨_,p,q⟩:=hc.ex;oA p q hm ha hb
def AGe(hc:y9 K X op h)(ha:EX K X a fa)(hb:EX K X b fb)(hm:C8 op b=false:=by first | exact AAr _ | with_unfolding_all rfl):TX K X (.Compare a [op] [b] pos) (uQ (uM h fa fb)):=
 let ⟨_,p,q⟩:=hc.ex;mM p q hm ha hb
def AGv(M:Fm K mg k X)(ha:EX K X a fa)(he:∀ j whole,IK a (X j).env whole=(do let v ← whole;Je a.pos;holding [v] (truthy v)):=by intro _ _;rfl):TX K X a (wc fa):=
 let ⟨te,p,s⟩:=ha;⟨(λσ H Q=>te σ H λx H'=>∃ k,ADY K x H' k/\Q k H'),λj=>by have:=i4 (p j) (he j);rw[M.K j]at this;exact this,mJ s⟩
def ie(ha:TX K X a ta):TX K X (.UnaryOp .Not a pos) (zY ta):=let ⟨_,p,s⟩:=ha;⟨_,λj=>l4 (p j),Yt s⟩
def ZJ(ha:TX K X a ta):WX K X (.BoolOp .And [a] pos) ta:=let ⟨_,p,s⟩:=ha;⟨_,λj=>ak (p j),s⟩
def oz(ha:TX K X a ta):WX K X (.BoolOp .Or [a] pos) ta:=let ⟨_,p,s⟩:=ha;⟨_,λj=>dO (p j),s⟩
def ik(ha:TX K X a ta)(hb:WX K X (.BoolOp .And (b::es) pos) tb):WX K X (.BoolOp .And (a::b::es) pos) (yD ta tb):=let ⟨_,p,s⟩:=ha;let ⟨_,q,u⟩:=hb;⟨_,λj=>gQ (p j) (q j),lA s u⟩
def jc(ha:TX K X a ta)(hb:WX K X (.BoolOp .Or (b::es) pos) tb):WX K X (.BoolOp .Or (a::b::es) pos) (dOr ta tb):=let ⟨_,p,s⟩:=ha;let ⟨_,q,u⟩:=hb;⟨_,λj=>eD (p j) (q j),aA s u⟩
def AGg(ha:WX K X a ta):TX K X a ta:=let ⟨_,p,s⟩:=ha;⟨_,λj=>(p j).pt,s⟩
def WI{op}(ha:EX K X a fa):EX K X (.BoolOp op [a] pos) fa:=let ⟨_,p,s⟩:=ha;⟨_,λj=>i6 (p j),s⟩
def Rm(ha:EX K X a fa)(hb:EX K X (.BoolOp .And (b::es) pos) fb):EX K X (.BoolOp .And (a::b::es) pos) (yL fa fb):=let ⟨_,p,s⟩:=ha;let ⟨_,q,u⟩:=hb;⟨_,λj=>gC (p j) (q j),o9 s u⟩
def YD(ha:EX K X a fa)(hb:EX K X (.BoolOp .Or (b::es) pos) fb):EX K X (.BoolOp .Or (a::b::es) pos) (ACF fa fb):=let ⟨_,p,s⟩:=ha;let ⟨_,q,u⟩:=hb;⟨_,λj=>bG (p j) (q j),jT s u⟩
def dg(ha:EX K X a fa):EX K X (.UnaryOp .Not a pos) (zF fa):=let ⟨_,p,s⟩:=ha;⟨_,λj=>bV (p j),gY s⟩
def bc(hc:TX K X c ta)(ha:EX K X a fa)(hb:EX K X b fb):EX K X (.IfExp c a b pos) (yI ta fa fb):=let ⟨_,p,s⟩:=hc;let ⟨_,q,u⟩:=ha;let ⟨_,q',u'⟩:=hb;⟨_,λj=>eA (p j) (q j) (q' j),Xd s u u'⟩
def jY:AX K X [] qQ:=⟨_,λ_=>O1,U8⟩
def jQ(ha:EX K X e fa)(hr:AX K X es fr)(hs:∀ j,AQ (e::es) (X j).env=(false,eval e (X j).env)::AQ es (X j).env:=by intro _;rfl):AX K X (e::es) (jW fa fr):=
 let ⟨_,p,s⟩:=ha;let ⟨_,q,u⟩:=hr;⟨_,λj=>N4 (p j) (q j) (hs j),d7 s u⟩
def Yv{x1}(h:AX K X es da):EX K X (.Tuple es x1 pos) (ue da):=let ⟨_,p,s⟩:=h;⟨_,λj=>mO (p j),mQ s⟩
def jw(h:AX K X es da):EX K X (.List es pos) (vR da):=let ⟨_,p,s⟩:=h;⟨_,λj=>kF (p j),l8 s⟩
def gT(M:Fm K mg k X)(ha:EX K X a fa)(hb:EX K X b fb)(hs:AAO b:=by exact λ_ _=>rfl):EX K X (.Subscript a b pos) (uM uW fa fb):=
 let ⟨_,p,s⟩:=ha;let ⟨_,q,u⟩:=hb;⟨_,λj=>ni (by have:=eO (X:=X j);rw[M.K j]at this;exact this) (p j) (q j) hs,Na nG s u⟩
def dR:OX K X none vj:=⟨_,λ_=>mG,bC⟩
def pP(ha:EX K X a fa):OX K X (some a) (wq fa):=let ⟨_,p,s⟩:=ha;⟨_,λj=>dP (p j),Xx s⟩
def X9(M:Fm K mg k X)(ha:EX K X a fa)(hl:OX K X lo dlx)(hh:OX K X hi dh):EX K X (.Subscript a (.Slice lo hi none p2) pos) (dSl fa dlx dh):=
 let ⟨_,p,s⟩:=ha;let ⟨_,q,u⟩:=hl;let ⟨_,q',u'⟩:=hh;⟨_,λj=>cF (by have:=AGL (X:=X j);rw[M.K j]at this;exact this) (p j) (q j) (q' j),jr s u u'⟩
structure x5{ι:Type}(K:Fg)(X:ι->Cx)(f:AK)(h:En->List S->Option S):Prop where
 ex:∃ r,(∀ j,vF (X j) f r)/\wk K r h
def Mb{p id h}(M:Fm K mg k X)(hc:x5 K X (.builtin id) h)(hm:mg x=none)(hv:CH x=some (.builtin id))(ha:AX K X (e::es) da)(hg:∀ j,Gl (X j) x:=by intro _;rfl)(hn:x≠"__name__":=by decide)(hdb:(x == ("__debug__":Str))=false:=by decide)
  (he:∀ j,AQ (e::es) (X j).env=(false,eval e (X j).env)::AQ es (X j).env:=by intro _;rfl) (hpl:∀ j,(Bx pos (AQ es (X j).env)).any (·.1)=false:=by intro _;rfl):EX K X (.Call (.Name x p) (e::es) [] pos) (vO h da):=
 let ⟨_,p,s⟩:=hc.ex;let ⟨_,q,u⟩:=ha;⟨_,λj=>nU (p j) (hg j) (by rw[M.mg];exact hm) hv (q j) hn hdb (he j) (hpl j),TJ s u⟩
def MO(M:Fm K mg k X)(hc:x5 K X (.type N) h)(hm:mg x=none)(hv:CH x=some (.type N))(ha:AX K X (e::es) da)(hg:∀ j,Gl (X j) x:=by intro _;rfl)(hn:x≠"__name__":=by decide)(hdb:(x == ("__debug__":Str))=false:=by decide)
  (he:∀ j,AQ (e::es) (X j).env=(false,eval e (X j).env)::AQ es (X j).env:=by intro _;rfl) (hpl:∀ j,(Bx pos (AQ es (X j).env)).any (·.1)=false:=by intro _;rfl):EX K X (.Call (.Name x p) (e::es) [] pos) (vO h da):=
 let ⟨_,p,s⟩:=hc.ex;let ⟨_,q,u⟩:=ha;⟨_,λj=>N2 (p j) (hg j) (by rw[M.mg];exact hm) hv (q j) hn hdb (he j) (hpl j),TJ s u⟩
def jf(M:Fm K mg k X):x5 K X (.builtin "len") vX:=⟨_,λj=>by have:=Zk (X:=X j);rw[M.K j]at this;exact this,fS⟩
def je(M:Fm K mg k X):x5 K X (.builtin "all") ACI:=⟨_,λj=>by have:=eJ (M.calm j);rw[M.K j]at this;exact this,jb⟩
def dA(M:Fm K mg k X):x5 K X (.builtin "isinstance") xf:=⟨_,λj=>by have:=l9 (X:=X j);rw[M.K j]at this;exact this,nQ⟩
def eX(M:Fm K mg k X):x5 K X (.builtin "max") ya:=⟨_,λj=>bU (M.calm j),oJ⟩
def fY(M:Fm K mg k X):x5 K X (.builtin "min") zK:=⟨_,λj=>fz (M.calm j),nu⟩
def df:x5 K X (.type "int") ABD:=⟨_,λj=>pD,eB⟩
def MY(M:Fm K mg k X):x5 K X (.type "tuple") vC:=⟨_,λj=>by have:=j8 (X:=X j);rw[M.K j]at this;exact this,cp⟩
def Tr{X}:vF X (.type "range") ADd:=Xf.or fN
def og(M:Fm K mg k X)(hl:mg "list"=none)(hr:mg "range"=none)(ha:AX K X (e::es) da)(hg:∀ j,Gl (X j) "list":=by intro _;rfl)(hg2:∀ j,Gl (X j) "range":=by intro _;rfl)
  (he:∀ j,AQ (e::es) (X j).env=(false,eval e (X j).env)::AQ es (X j).env:=by intro _;rfl) (hpl:∀ j,(Bx pos2 (AQ es (X j).env)).any (·.1)=false:=by intro _;rfl) :
  EX K X (.Call (.Name "list" p) [.Call (.Name "range" p2) (e::es) [] pos2] [] pos) (wN da):=
 let ⟨_,q,u⟩:=ha;⟨_,λj=>N2 (lG (M.calm j)) (hg j) (by rw[M.mg];exact hl) EI (N4 (N2 Tr (hg2 j) (by rw[M.mg];exact hr) F5 (q j) ∅ ∅ (he j) (hpl j)) O1),ZH u⟩
def j3(M:Fm K mg k X)(hl:mg "tuple"=none)(hr:mg "range"=none)(ha:AX K X (e::es) da)(hg:∀ j,Gl (X j) "tuple":=by intro _;rfl)(hg2:∀ j,Gl (X j) "range":=by intro _;rfl)
  (he:∀ j,AQ (e::es) (X j).env=(false,eval e (X j).env)::AQ es (X j).env:=by intro _;rfl) (hpl:∀ j,(Bx pos2 (AQ es (X j).env)).any (·.1)=false:=by intro _;rfl) :
  EX K X (.Call (.Name "tuple" p) [.Call (.Name "range" p2) (e::es) [] pos2] [] pos) (wm da):=
 let ⟨_,q,u⟩:=ha;⟨_,λj=>N2 (bW (M.calm j)) (hg j) (by rw[M.mg];exact hl) Kk (N4 (N2 Tr (hg2 j) (by rw[M.mg];exact hr) F5 (q j) ∅ ∅ (he j) (hpl j)) O1),ju u⟩
end
structure Fb{ι:Type}(P:Ah)(wd:A5)(base:Heap)(X:ι->Cx):Prop where
 P:∀ j,(X j).prog=P
 w:∀ j,(X j).w=wd
 b:∀ j,(X j).base=base
structure FD(P:Ah)(wd:A5)(K:Fg)(mg:Str->Option AK)(base:Heap)(k:Nat)(x:Str)(ip:Option Nat)(n:Nat)(F:DF):Prop where
 ex:∃ (f:Addr) (fd:C6) (ps:List Str),wM P wd K mg base yd k f fd ps (y8 K ip n F)/\mg x=some (.ref f)/\BZ K (.ref f)=true/\Binds K fd ps []
 len:∀ gs r,F gs=some r->gs.length=n
def O9:∀ gs r,ua ip np nN g gs=some r->gs.length=np:=λgs r e=>by
 unfold ua at e;split at e
 ·assumption
 ·cases e
section
variable {ι:Type}{P:Ah}{wd:A5}{base:Heap}{K:Fg}{mg:Str->Option AK}{k k' n:Nat}{X:ι->Cx}{ip:Option Nat}{a b c e:Expr}{es:List Expr}{pos p:Pos}{fa fb fc:DE}{ta tb:DT}{da:DA}{F:DF}{x:Str}
def O3(M:Fm K mg k X)(B:Fb P wd base X)(D0:FD P wd K mg base k' x ip n F)(ha:AX K X (e::es) da)(hk:k'<=k:=by first | exact AL _ | decide | lia)(hg:∀ j,Gl (X j) x:=by intro _;rfl)(hdb:(x == ("__debug__":Str))=false:=by decide)
  (he:∀ j,AQ (e::es) (X j).env=(false,eval e (X j).env)::AQ es (X j).env:=by intro _;rfl) (hpl:∀ j,(Bx pos (AQ es (X j).env)).any (·.1)=false:=by intro _;rfl) :
  EX K X (.Call (.Name x p) (e::es) [] pos) (uL ip F [] da):=by
 obtain⟨f,fd,ps,h1,h2,h3,h4⟩:=D0.ex;obtain⟨t,q,u⟩:=ha;refine⟨AAR (y8 K ip n F) [] E0 t,λj=>?_,Qs D0.len u⟩;have hF:wM (X j).prog (X j).w (X j).K (X j).mg (X j).base yd k' f fd ps (y8 K ip n F):=by rw[B.P,B.w,M.K,M.mg,B.b];exact h1
 exact VL hF ((M.room j).mono hk) (hg j) (by rw[M.mg];exact h2) (by rw[M.K];exact h3) (by rw[M.K];exact h4) .nil zy (q j) hdb (he j) (hpl j)
def cD(M:Fm K mg k X)(hl:EX K X l fa):IX K X tg l (u9 fa):=let ⟨t,p,s⟩:=hl;⟨ADi K t,λj=>by have:=kj (tg:=tg) (p j);rw[M.K j]at this;exact this,m8 s⟩
def lL(M:Fm K mg k X)(hm:mg "range"=none)(ha:AX K X [a] da)(hg:∀ j,Gl (X j) "range":=by intro _;rfl)(hs:∀ j,AQ [a] (X j).env=[(false,eval a (X j).env)]:=by intro _;rfl):IX K X tg (.Call (.Name "range" p) [a] [] pos) (xE da):=
 let ⟨_,q,u⟩:=ha;⟨_,λj=>ZC (hg j) (by rw[M.mg];exact hm) (q j) (hs j),gy u⟩
def pd(M:Fm K mg k X)(hm:mg "range"=none)(ha:AX K X [a,b] da)(hg:∀ j,Gl (X j) "range":=by intro _;rfl)(hs:∀ j,AQ [a,b] (X j).env=[(false,eval a (X j).env),(false,eval b (X j).env)]:=by intro _;rfl)
  (hs2:∀ j,AQ [b] (X j).env=[(false,eval b (X j).env)]:=by intro _;rfl):IX K X tg (.Call (.Name "range" p) [a,b] [] pos) (ACv da):=
 let ⟨_,q,u⟩:=ha;⟨_,λj=>eE (hg j) (by rw[M.mg];exact hm) (q j) (hs j) (hs2 j),mP u⟩
def Zw(M:Fm K mg k X)(hm:mg "zip"=none)(ha:AX K X [a,b] da)(hg:∀ j,Gl (X j) "zip":=by intro _;rfl)(hs:∀ j,AQ [a,b] (X j).env=[(false,eval a (X j).env),(false,eval b (X j).env)]:=by intro _;rfl)
  (hs2:∀ j,AQ [b] (X j).env=[(false,eval b (X j).env)]:=by intro _;rfl):IX K X (.Tuple elts x1 tp) (.Call (.Name "zip" p) [a,b] [] pos) (ADU da):=
 let ⟨t,q,u⟩:=ha;⟨ABR K t,λj=>by have:=nK (elts:=elts) (x1:=x1) (tp:=tp) (p:=p) (pos:=pos) (hg j) (by rw[M.mg];exact hm) (q j) (hs j) (hs2 j);rw[M.K j]at this;exact this,ZZ u⟩
def Rv i (hi:ip≠some i:=by decide) (hN:∀ j,(X j).N.Nodup:=by intro _;show (Er _);decide +kernel) (hx':∀ j,(X j).N[i]?=some x:=by intro _;rfl) (hx:∀ j,Loc (X j).env.scope x:=by intro _;first | exact Ds rfl | exact C2 rfl)
  (hf:∀ j,(X j).fn x=true\/(X j).env.scope.names.lookup x=some .local:=by intro _;first | exact .inl rfl | exact .inr rfl):GX K X ip (.Name x pos) (uP i):=⟨_,λj=>T7 (hN j) (hx' j) (hx j) (hf j),el hi⟩
def nF:GXs K X ip [] xc:=⟨_,λ_=>fO,YA⟩
def kO(h1:GX K X ip e f)(h2:GXs K X ip es g)(hst:∀ j,(CN (e::es) (X j).env).map (·.2)=assign e (X j).env::(CN es (X j).env).map (·.2):=by intro _;rfl):GXs K X ip (e::es) (vK f g):=
 let ⟨_,p,s⟩:=h1;let ⟨_,q,u⟩:=h2;⟨_,λj=>bb (p j) (q j) (hst j),lJ s u⟩
def jM n (M:Fm K mg k X) (h:GXs K X ip es g) (hn:∀ j,(CN es (X j).env).length=n:=by intro _;rfl) (hst:∀ j,(CN es (X j).env).findIdx? (·.1)=none:=by intro _;rfl):GX K X ip (.Tuple es kk pos) (xG n g):=
 let ⟨_,p,s⟩:=h;⟨_,λj=>bI K (M.K j) (M.calm j) (p j) (hn j) (hst j),oZ s⟩
def QX (K:Fg) (X:ι->Cx) (ifs:List Expr) (f:DT):Prop:=∃ t,(∀ j,PTs (X j) ifs t)/\xA K t f
noncomputable def vy:DT:=λΓ=>some (true,Γ)
def Ls:QX K X [] vy:=⟨_,λ_=>g9,λC w Γ σ H b Γ' Q R e k=>by cases e;exact k H R .refl⟩
def gS(h:TX K X c ta):QX K X [c] ta:=let ⟨_,p,s⟩:=h;⟨_,λj=>aR (p j),s⟩
noncomputable abbrev CI (ι:Type):=ι×Addr×List (Str×Addr)×Ab×Hp×List Addr
noncomputable abbrev cxF {ι:Type} (X:ι->Cx) (N':List Str) (sc:Ea):CI ι->Cx:=λq=>cxC (X q.1) N' sc q.2.1 q.2.2.1 q.2.2.2.1 q.2.2.2.2.1 q.2.2.2.2.2
def Fm.comp(M:Fm K mg k X):Fm K mg k (cxF X N' sc):=⟨λj=>M.K j.1,λj=>M.mg j.1,λj=>M.calm j.1,λj=>M.room j.1⟩
def Fb.comp(B:Fb P wd base X):Fb P wd base (cxF X N' sc):=⟨λj=>B.P j.1,λj=>B.w j.1,λj=>B.b j.1⟩
def Lv mu (M:Fm K mg k X) (S:∀ j,wI (X j) N' ix sc) (hi:IX K X tg iter di)
  (hg:GX K (cxF X N' sc) (mu.map (·.1)) tg g) (ht:QX K (cxF X N' sc) ifs dc) (he:EX K (cxF X N' sc) elt de)
  (hmu:∀ j i,mu=some (j,i)->ix[j]?=some (some i):=by intro _ _ e;first | (cases e;rfl) | cases e) (hix:∀ (j j' i:Nat),mu.map (·.2)=some i->ix[j]?=some (some i)->ix[j']?=some (some i)->j=j')
  (hs:∀ j x,Cb iter (X j).env x=pure x:=by intro _ _;rfl):EX K X (.ListComp elt [⟨tg,iter,ifs,0⟩] sc pos) (u7 mu ix di g dc de):=
 let ⟨_,p1,s1⟩:=hi;let ⟨_,p2,s2⟩:=hg;let ⟨_,p3,s3⟩:=ht;let ⟨_,p4,s4⟩:=he
 ⟨_,λj=>iQ (S j) (M.calm j) (p1 j) (λC cs s H ex=>p2 (j,C,cs,s,H,ex)) (λC cs s H ex=>p3 (j,C,cs,s,H,ex)) (λC cs s H ex=>p4 (j,C,cs,s,H,ex)) (hs j),US s1 s2 s3 s4 hmu hix⟩
def wC{ix:List (Option Nat)}:∀ (j j' i:Nat),(none:Option (Nat×Nat)).map (·.2)=some i->ix[j]?=some (some i)->ix[j']?=some (some i)->j=j':=↥1
noncomputable def ACx (ix:List (Option Nat)) (j i:Nat):Bool:=(AE ix.length).all λm=>decide (ix[m]?=some (some i)->m=j)
def AGx(h:ACx ix j0 i0=true):∀ (j j' i:Nat),(some (j0,i0)).map (·.2)=some i->ix[j]?=some (some i)->ix[j']?=some (some i)->j=j':=by
 intro j j' i e h1 h2;cases e;have key:∀ m,ix[m]?=some (some i0)->m=j0:=λm hm=>by
  have:=Au.mp h m (by simpa using ((Af.mp hm).1));exact (of_decide_eq_true this) hm
 rw[key j h1,key j' h2]
def RZ{name apos cpos id r h y yp}(M:Fm K mg k X)(slot:Slot "list" name id)(hty:Gz (.builtin id)=pure (.type "method_descriptor"))(hm:∀ j,MtM (X j) id r)(hr:xD K r h)
  (ho:∀ j,PE (X j) (.Name y yp) (xJ i)) (ha:AX K X (e::es) da)
  (hbase:∀ j,C9 (.Name y yp) name (X j).env (eval (.Name y yp) (X j).env)=eval (.Name y yp) (X j).env:=by intro _;rfl)
  (hfew:∀ j,((Bx cpos (AQ (e::es) (X j).env)).all (λx=>!x.1) && (Ge cpos (Eo [] (X j).env)).all (λx=>x.1.isSome) && decide ((e::es).length+([]:List D9).length+(if ([]:List D9).isEmpty then 0 else 1) < 30))=true:=by intro _;rfl)
  (hline:(apos.endLine == cpos.line)=true:=by rfl) (hs:∀ j,AQ (e::es) (X j).env=(false,eval e (X j).env)::AQ es (X j).env:=by intro _;rfl) (hplain:∀ j,(Bx cpos (AQ es (X j).env)).any (·.1)=false:=by intro _;rfl) :
  EX K X (.Call (.Attribute (.Name y yp) name apos) (e::es) [] cpos) (vb i h da):=
 let ⟨t,q,u⟩:=ha;⟨tBM K "list" r (xJ i) t,λj=>by have:=U2 ET slot hty (hm j) (ho j) (q j) (hbase j) (hfew j) hline (hs j) (hplain j);rw[M.K j]at this;exact this,VM hr u⟩
def eY{name apos cpos id r h y yp}(M:Fm K mg k X)(slot:Slot "list" name id)(hty:Gz (.builtin id)=pure (.type "method_descriptor"))(hm:∀ j,MtM (X j) id r)(hr:xD K r h)
  (ho:∀ j,PE (X j) (.Name y yp) (xJ i)) (hbase:∀ j,C9 (.Name y yp) name (X j).env (eval (.Name y yp) (X j).env)=eval (.Name y yp) (X j).env:=by intro _;rfl) (hline:(apos.endLine == cpos.line)=true:=by rfl) :
  EX K X (.Call (.Attribute (.Name y yp) name apos) [] [] cpos) (vb i h qQ):=
 ⟨ADn K "list" r (xJ i),λj=>by have:=Zz ET slot hty (hm j) (ho j) (hbase j) hline;rw[M.K j]at this;exact this,oo hr⟩
def ig(M:Fm K mg k X)(ho:EX K X o fa)(ha:AX K X (e::es) da)
  (hbase:∀ j,C9 o "index" (X j).env (eval o (X j).env)=eval o (X j).env:=by intro _;rfl)
  (hfew:∀ j,((Bx cpos (AQ (e::es) (X j).env)).all (λx=>!x.1) && (Ge cpos (Eo [] (X j).env)).all (λx=>x.1.isSome) && decide ((e::es).length+([]:List D9).length+(if ([]:List D9).isEmpty then 0 else 1) < 30))=true:=by intro _;rfl)
  (hline:(apos.endLine == cpos.line)=true:=by rfl) (hs:∀ j,AQ (e::es) (X j).env=(false,eval e (X j).env)::AQ es (X j).env:=by intro _;rfl) (hplain:∀ j,(Bx cpos (AQ es (X j).env)).any (·.1)=false:=by intro _;rfl) :
  EX K X (.Call (.Attribute o "index" apos) (e::es) [] cpos) (yG fa da):=
 have hm:∀ j,MtM (X j) "tuple.index" (xS K):=λj=>by have:=lg (X:=X j);rw[M.K j]at this;exact this
 let ⟨t0,q0,u0⟩:=ho;let ⟨t,q,u⟩:=ha;⟨ADx K (xS K) t0 t,λj=>by have:=Yh PySem.F.slot_tuple_index PySem.F.type_tuple_index (hm j) (q0 j) (q j) (hbase j) (hfew j) hline (hs j) (hplain j);rw[M.K j]at this;exact this,YQ u0 u⟩
def pv' i (hN:∀ j,(X j).N[i]?=some x:=by intro _;rfl) (hv:∀ j,Vis (X j).env.scope x:=by intro _;first | exact Ds rfl | exact C2 (Ds rfl) | exact C2 (C2 rfl)) (hd:(x == ("__debug__":Str))=false:=by decide)
  (hcd:(x == ("__classdict__":Str))=false:=by decide):∀ j,PE (X j) (.Name x pos) (xJ i):=λj=>OG (hN j) (hv j) hd hcd
variable {st:Stmt}{sts sts':List Stmt}{f g:DS}
def Rb:BX K X ip [] uX:=⟨_,λ_=>pO,fZ⟩
def Ly(h:SX K X ip st f):BX K X ip [st] f:=let ⟨_,p,s⟩:=h;⟨_,λj=>YU (p j),s⟩
def Ln(h:SX K X ip st f)(h2:BX K X ip sts g):BX K X ip (st::sts) (uO f g):=let ⟨_,p,s⟩:=h;let ⟨_,q,u⟩:=h2;⟨_,λj=>mm (p j) (q j),Y8 s u⟩
def iF:SX K X ip st xm:=⟨_,λ_=>cJ,Za (ts:=xm)⟩
def mi(h:EX K X e fa)(hs:∀ j,D4 e none pos.line (X j).env=pure false:=by intro _;rfl):SX K X ip (.Expr e pos) (wA fa):=let ⟨_,p,s⟩:=h;⟨_,λj=>iI (p j) (hs j),aW s⟩
def L0(h:EX K X e fa):SX K X ip (.Return (some e) pos) (uT fa):=let ⟨_,p,s⟩:=h;⟨_,λj=>lu (p j),eW s⟩
def Pm(hc:TX K X c ta)(h1:BX K X ip sts f)(h2:BX K X ip sts' g):SX K X ip (.If c sts sts' pos) (vd ta f g):=let ⟨_,p,s⟩:=hc;let ⟨_,q,u⟩:=h1;let ⟨_,q',u'⟩:=h2;⟨_,λj=>oq (p j) (q j) (q' j),kf s u u'⟩
def Ot i (h:EX K X e fa) (hi:ip≠some i:=by decide) (hN:∀ j,(X j).N.Nodup:=by intro _;show (Er _);decide +kernel) (hx':∀ j,(X j).N[i]?=some x:=by intro _;rfl) (hx:∀ j,Loc (X j).env.scope x:=by intro _;first | exact Ds rfl | exact C2 rfl)
  (hs:∀ j,D4 e (some (.Name x pos')) pos.line (X j).env=pure false:=by intro _;rfl) (hf:∀ j,(X j).fn x=true\/(X j).env.scope.names.lookup x=some .local:=by intro _;first | exact .inl rfl | exact .inr rfl):SX K X ip (.Assign [.Name x pos'] e pos) (uS i fa):=
 let ⟨_,p,s⟩:=h;⟨_,λj=>Wp (hN j) (hx' j) (hx j) (p j) (hs j) (hf j),TY s hi⟩
def Md i mu (M:Fm K mg k X) (S:∀ j,wI (X j) N' ix sc) (h1:IX K X tg iter di)
  (hg:GX K (cxF X N' sc) (mu.map (·.1)) tg gg) (ht:QX K (cxF X N' sc) ifs dc) (he:EX K (cxF X N' sc) elt de)
  (hix:∀ (j j' i:Nat),mu.map (·.2)=some i->ix[j]?=some (some i)->ix[j']?=some (some i)->j=j') (hi:ip≠some i:=by decide) (hmu:∀ j i,mu=some (j,i)->ix[j]?=some (some i):=by intro _ _ e;first | (cases e;rfl) | cases e)
  (hN:∀ j,(X j).N.Nodup:=by intro _;show (Er _);decide +kernel) (hx':∀ j,(X j).N[i]?=some x:=by intro _;rfl) (hx:∀ j,Loc (X j).env.scope x:=by intro _;first | exact Ds rfl | exact C2 rfl)
  (hsw:∀ j,D4 (.ListComp elt [⟨tg,iter,ifs,0⟩] sc pos) (some (.Name x pos')) spos.line (X j).env=pure true:=by intro _;rfl)
  (hf:∀ j,(X j).fn x=true\/(X j).env.scope.names.lookup x=some .local:=by intro _;first | exact .inl rfl | exact .inr rfl)
  (hs:∀ j x,Cb iter (X j).env x=pure x:=by intro _ _;rfl):SX K X ip (.Assign [.Name x pos'] (.ListComp elt [⟨tg,iter,ifs,0⟩] sc pos) spos) (uS i (u7 mu ix di gg dc de)):=
 let ⟨_,p1,s1⟩:=h1;let ⟨_,p2,s2⟩:=hg;let ⟨_,p3,s3⟩:=ht;let ⟨_,p4,s4⟩:=he
 ⟨_,λj=>kr (hN j) (hx' j) (hx j) (S j) (M.calm j) (p1 j) (λC cs s H ex=>p2 (j,C,cs,s,H,ex)) (λC cs s H ex=>p3 (j,C,cs,s,H,ex)) (λC cs s H ex=>p4 (j,C,cs,s,H,ex)) (hsw j) (hf j) (hs j),TY (US s1 s2 s3 s4 hmu hix) hi⟩
def du i (he:EX K X e fa) (ho:∀ j,PE (X j) (.Name y yp) (xJ i)) (hb:EX K X b fb) (hs:∀ j,D7 [.Subscript (.Name y yp) b p2] e pos.line (X j).env=pure false:=by intro _;rfl) (hw:∀ j,D8 [.Subscript (.Name y yp) b p2] e (X j).env=pure none:=by intro _;rfl)
  (hA:∀ j v,assign (.Subscript (.Name y yp) b p2) (X j).env v=(do let ov ← holding [v] (eval (.Name y yp) (X j).env);let iv ← holding [v,ov] (eval b (X j).env);Je p2;holding [v,ov,iv] (Jd ov iv v);release [v,ov,iv] []):=by intro _ _;rfl) (h1:∀ j,(CN [.Subscript (.Name y yp) b p2] (X j).env).map (·.2)=[assign (.Subscript (.Name y yp) b p2) (X j).env]:=by intro _;rfl) :
  SX K X ip (.Assign [.Subscript (.Name y yp) b p2] e pos) (yH i fa fb):=
 let ⟨_,p,s⟩:=he;let ⟨_,q,u⟩:=hb;⟨_,λj=>kC (p j) (m9 (ho j) (q j) dH (hA j)) (hs j) (hw j) (h1 j),jd s u⟩
def ZN i1 i2 {kt k2 pt2} (M:Fm K mg k X) (ha:AX K X [a,b] da) (h12:i1≠i2:=by decide) (hi1:ip≠some i1:=by decide) (hi2:ip≠some i2:=by decide) (hN:∀ j,(X j).N.Nodup:=by intro _;show (Er _);decide +kernel)
  (e1:∀ j,(X j).N[i1]?=some x1:=by intro _;rfl) (e2:∀ j,(X j).N[i2]?=some x2:=by intro _;rfl) (l1:∀ j,(X j).env.scope.names.lookup x1=some .local:=by intro _;rfl) (l2:∀ j,(X j).env.scope.names.lookup x2=some .local:=by intro _;rfl)
  (hw:∀ j,D8 [.Tuple [.Name x1 px,.Name x2 py] kt pt] (.Tuple [a,b] k2 pt2) (X j).env=pure (some [x1,x2]):=by intro _;rfl)
  (hs:∀ j,D7 [.Tuple [.Name x1 px,.Name x2 py] kt pt] (.Tuple [a,b] k2 pt2) pos.line (X j).env=pure false:=by intro _;rfl) :
  SX K X ip (.Assign [.Tuple [.Name x1 px,.Name x2 py] kt pt] (.Tuple [a,b] k2 pt2) pos) (AAS i1 i2 da):=
 let ⟨_,q,u⟩:=ha;⟨_,λj=>lH (M.calm j) (hN j) (e1 j) (e2 j) h12 (l1 j) (l2 j) (q j) (hw j) (hs j),oM u hi1 hi2⟩
def fK i1 i2 i3 {kt k2 pt2} (M:Fm K mg k X) (ha:AX K X [a,b,c] da) (h12:i1≠i2:=by decide) (h13:i1≠i3:=by decide) (h23:i2≠i3:=by decide) (hi1:ip≠some i1:=by decide) (hi2:ip≠some i2:=by decide) (hi3:ip≠some i3:=by decide) (hN:∀ j,(X j).N.Nodup:=by intro _;show (Er _);decide +kernel)
  (e1:∀ j,(X j).N[i1]?=some x1:=by intro _;rfl) (e2:∀ j,(X j).N[i2]?=some x2:=by intro _;rfl) (e3:∀ j,(X j).N[i3]?=some x3:=by intro _;rfl) (l1:∀ j,(X j).env.scope.names.lookup x1=some .local:=by intro _;rfl) (l2:∀ j,(X j).env.scope.names.lookup x2=some .local:=by intro _;rfl) (l3:∀ j,(X j).env.scope.names.lookup x3=some .local:=by intro _;rfl)
  (hw:∀ j,D8 [.Tuple [.Name x1 px,.Name x2 py,.Name x3 pz] kt pt] (.Tuple [a,b,c] k2 pt2) (X j).env=pure (some [x1,x2,x3]):=by intro _;rfl)
  (hs:∀ j,D7 [.Tuple [.Name x1 px,.Name x2 py,.Name x3 pz] kt pt] (.Tuple [a,b,c] k2 pt2) pos.line (X j).env=pure false:=by intro _;rfl) :
  SX K X ip (.Assign [.Tuple [.Name x1 px,.Name x2 py,.Name x3 pz] kt pt] (.Tuple [a,b,c] k2 pt2) pos) (AAZ i1 i2 i3 da):=
 let ⟨_,q,u⟩:=ha;⟨_,λj=>gJ (M.calm j) (hN j) (e1 j) (e2 j) (e3 j) h12 h13 h23 (l1 j) (l2 j) (l3 j) (q j) (hw j) (hs j),mI u hi1 hi2 hi3⟩
def dZ nn (hp:∀ j,IA (model (X j).prog (X j).w) (X j).A (X j).env (X j).xe) (hc:TX K X c ta) (hb:BX K X ip sts f):SX K X ip (.While c sts [] pos) (vH ta f nn):=
 let ⟨_,p,s⟩:=hc;let ⟨_,q,u⟩:=hb;⟨_,λj=>pN (hp j) (p j) (q j),Yf nn s u⟩
def OQ(M:Fm K mg k X)(hp:∀ j,IA (model (X j).prog (X j).w) (X j).A (X j).env (X j).xe)(hi:IX K X tg iter di)(hg:GX K X ip tg gg)(hb:BX K X ip sts f)
  (hs:∀ j x,Cb iter (X j).env x=pure x:=by intro _ _;rfl):SX K X ip (.For tg iter sts [] pos) (xY ip di gg f):=
 let ⟨_,p1,s1⟩:=hi;let ⟨_,p2,s2⟩:=hg;let ⟨_,p3,s3⟩:=hb;⟨_,λj=>YC (hp j) (M.calm j) (p1 j) (p2 j) (p3 j) (hs j),om s1 s2 s3⟩
end
section
variable {P:Ah}{wd:A5}{base:Heap}{K:Fg}{mg:Str->Option AK}{k:Nat}
noncomputable abbrev cx1 (P:Ah) (wd:A5) (K:Fg) (mg:Str->Option AK) (base:Heap) (N:List Str) (qual:Str) (sc:Ea) (f:Addr) (cdv:AK) (A:BY) (outer:List Env) (s:Ab) (H:Hp) (E:XK):Unit->Cx:=λ_=>(zw yd P wd K mg base N qual sc f cdv A outer s H E).nox
def lj(F:Fun K x x st f fd)(S:uN N ps (uK st))(hm:mg x=some (.ref f))(hb:Binds K fd ps [])
  (body:∀ cdv A outer s H E,Fm K mg k (cx1 P wd K mg base N x (uK st) f cdv A outer s H E)->Fb P wd base (cx1 P wd K mg base N x (uK st) f cdv A outer s H E)->BX K (cx1 P wd K mg base N x (uK st) f cdv A outer s H E) ip (uq st) g) :
  FD P wd K mg base (k+1) x ip ps.length (ua ip ps.length N.length g):=by
 refine⟨⟨f,fd,ps,F.ok S (λvs H Q E h=>h.1) λcdv A outer s H vs Q E hr h=>?_,hm,F.kp,hb⟩,O9⟩;obtain⟨t,p,u⟩:=body cdv A outer s H E ⟨λ_=>rfl,λ_=>rfl,λ_=>rfl,λ_=>hr⟩ ⟨λ_=>rfl,λ_=>rfl,λ_=>rfl⟩;exact⟨t,p (),Og u h⟩
end
section
variable {P:Ah}{wd:A5}{base:Heap}{K:Fg}{mg:Str->Option AK}{k:Nat}
def Z2(F:Fun K x x st f fd)(S:uN N ps (uK st))
  (body:∀ cdv A outer s H E,Fm K mg k (cx1 P wd K mg base N x (uK st) f cdv A outer s H E)->Fb P wd base (cx1 P wd K mg base N x (uK st) f cdv A outer s H E)->BX K (cx1 P wd K mg base N x (uK st) f cdv A outer s H E) ip (uq st) g) :
  wM P wd K mg base yd (k+1) f fd ps (y8 K ip ps.length (ua ip ps.length N.length g)):=by
 refine F.ok S (λvs H Q E h=>h.1) λcdv A outer s H vs Q E hr h=>?_
 obtain⟨t,p,u⟩:=body cdv A outer s H E ⟨λ_=>rfl,λ_=>rfl,λ_=>rfl,λ_=>hr⟩ ⟨λ_=>rfl,λ_=>rfl,λ_=>rfl⟩;exact⟨t,p (),Og u h⟩
def bP(F:Fun K x x st f fd)(hm:mg x=some (.ref f))(hb:Binds K fd ps [])(hn:ps.length=n):FD P wd K mg base k x ip n (λ_=>none):=by
 refine⟨⟨f,fd,ps,⟨λvs H Q E h=>h.1.trans hn.symm,λA outer s H args us vs Q E _ _ _ _ h=>?_⟩,hm,F.kp,hb⟩,λgs r e=>nomatch e⟩;obtain⟨_,w,gs,r,ys,e,_⟩:=h;cases e
def AFx(h:us.length=1):∃ a,us=[a]:=List.length_eq_one_iff.mp h
theorem ABK(h:us.length=n+1):∃ a r,us=a::r/\r.length=n:=by
 cases us with
 | nil=>cases h
 | cons a r=>exact⟨a,r,rfl,Nat.succ.inj h⟩
def AEE(h:us.length=2):∃ a b,us=[a,b]:=by
 obtain⟨a,r,rfl,h'⟩:=ABK h;obtain⟨b,rfl⟩:=AFx h';exact⟨a,b,rfl⟩
def ADo(h:us.length=3):∃ a b c,us=[a,b,c]:=by
 obtain⟨a,r,rfl,h'⟩:=ABK h;obtain⟨b,c,rfl⟩:=AEE h';exact⟨a,b,c,rfl⟩
def AFc(h:us.length=4):∃ a b c d,us=[a,b,c,d]:=by
 obtain⟨a,r,rfl,h'⟩:=ABK h;obtain⟨b,c,d,rfl⟩:=ADo h';exact⟨a,b,c,d,rfl⟩
noncomputable def xK (ns:List Int):List T:=ns.map λi=>.a (.int i)
end
noncomputable def ADH (i:Nat) (s:S) (Γ:En):Option En:=match s with
 | .v t=>some (Γ.set i (some (.v t)))
 | .l xs=>some (Γ.set i (some (.l xs)))
 | .d _=>none
 | .s j=>match Γ[j]? with
  | some (some (.r xs))=>some (Γ.set i (some (.r xs)))
  | some (some (.l xs))=>some ((Γ.set j none).set i (some (.l xs)))
  | _=>none
noncomputable def dMv (i j:Nat):DS:=λΓ=>(jV j Γ).bind λp=>(ADH i p.1 p.2).map .nx
def ui.forget(r:ui K C w Γ σ H)(hn:∀ q∈C.pins,q.1≠j):ui K C w (Γ.set j none) σ H where
 len:=by simpa using r.len
 val:=λi g h=>by
  by_cases e:i=j
  ·subst e;rw[IW]at h;split at h
   ·split at h <;> simp at h
   ·exact absurd rfl ‹_›
  ·rw[AU (Aw e)]at h;exact r.val i g h
 apart:=λa b p ga gb ma mb h1 h2 h3 h4=>by
  have back:∀ (m:Nat) (zs:G),(Γ.set j none)[m]?=some (some zs)->Γ[m]?=some (some zs):=λm zs h=>by
   by_cases e:m=j
   ·subst e;rw[IW]at h;split at h
    ·split at h <;> simp at h
    ·exact absurd rfl ‹_›
   ·rw[AU (Aw e)]at h;exact h
  exact r.apart a b p ga gb ma mb (back _ _ h1) (back _ _ h2) h3 h4
 lst:=r.lst
 own:=r.own
 ra:=r.ra
 rl:=r.rl
 frame:=r.frame
 tab:=r.tab
 pin:=λq hq=>by
  obtain⟨a,xs,b⟩:=r.pin q hq;exact⟨a,xs,by rw[AU (Aw (hn q hq))];exact b⟩
def ui.move(r:ui K C w Γ σ H)(hj:Γ[j]?=some (some (.l xs)))(hv:σ[j]?=some (some v))(hni:∀ q∈C.pins,q.1≠i)(hnj:∀ q∈C.pins,q.1≠j) :
  ui K C w ((Γ.set j none).set i (some (.l xs))) (σ.set i (some v)) H:=by
 have r':=r.forget (j:=j) hnj;obtain⟨v',e1,e2⟩:=r.val j _ hj;rw[hv]at e1;cases e1;obtain⟨p,vs,rfl,hp,h1,h2⟩:=e2;have hjl:j < Γ.length:=(Af.mp hj).1;refine⟨by simpa using r.len,λm g h=>?_,λa b c ga gb ma mb g1 g2 g3 g4=>?_,r.lst,r.own,r.ra,r.rl,r.frame,r.tab,λq hq=>?_⟩
 ·by_cases e:m=i
  ·subst e;have hml:m < (Γ.set j none).length:=by
    rcases Cq m (Γ.set j none).length with z | z
    ·exact z
    ·rw[CJ (by simpa using z)]at h;cases h
   rw[Aj hml]at h;cases h;exact⟨_,by rw[Aj (by rw[r'.len];exact hml)],p,vs,rfl,hp,h1,h2⟩
  ·rw[AU (Aw e)]at h;rw[AU (Aw e)];exact r'.val m g h
 ·have old:∀ (m:Nat) (gc:G),v9 gc=true->m≠i->((Γ.set j none).set i (some (.l xs)))[m]?=some (some gc)->(σ.set i (some (.ref p)))[m]?=some (some (.ref c))->m≠j/\Γ[m]?=some (some gc)/\σ[m]?=some (some (.ref c))/\c≠p:=λm gc mc e h h'=>by
   rw[AU (Aw e)]at h;rw[AU (Aw e)]at h';have hmj:m≠j:=λz=>by subst z;rw[Aj hjl]at h;cases h
   rw[AU (Aw hmj)]at h;exact⟨hmj,h,h',λz=>hmj (r.apart m j c _ _ mc rfl h hj h' (z ▸ hv))⟩
  have at_i:∀ (h:(σ.set i (some (.ref p)))[i]?=some (some (V.ref c))),c=p:=λh=>by
   have hil:i < (σ.set i (some (V.ref p))).length:=(Af.mp h).1;rw[Aj (by simpa using hil)]at h;cases h;rfl
  by_cases ea:a=i
  ·by_cases eb:b=i
   ·rw[ea,eb]
   ·exact absurd (at_i (ea ▸ g3)) (old b gb mb eb g2 g4).2.2.2
  ·by_cases eb:b=i
   ·exact absurd (at_i (eb ▸ g4)) (old a ga ma ea g1 g3).2.2.2
   ·exact r.apart a b c ga gb ma mb (old a ga ma ea g1 g3).2.1 (old b gb mb eb g2 g4).2.1 (old a ga ma ea g1 g3).2.2.1 (old b gb mb eb g2 g4).2.2.1
 ·obtain⟨a,ys,b⟩:=r'.pin q hq;exact⟨by rw[AU (Aw (hni q hq))];exact a,ys,by rw[AU (Aw (hni q hq))];exact b⟩
theorem oR(R:ui K C w Γ σ H)(o:vJ K C w σ H v s)(e:ADH i s Γ=some Γ')(hs:∀ m,s=.s m->m=j)(hn:∀ q∈C.pins,q.1≠i)(hm:∀ q∈C.pins,q.1≠j):∃ w',ui K C w' Γ' (σ.set i (some v)) H:=by
 cases s with
 | v t=>cases e;exact⟨w,R.setv rfl o hn⟩
 | d _=>cases e
 | l xs =>
  cases e;obtain⟨p,vs,rfl,n1,n2,ow,h1,h2⟩:=o;exact⟨_,R.setl n1 n2 ow h1 h2 hn⟩
 | s m =>
  cases hs m rfl;unfold ADH at e;dsimp only at e;have o':=o;split at e
  ·rename_i xs he;cases e;obtain⟨v',e1,e2⟩:=R.val j _ he;rw[o']at e1;cases e1;exact⟨w,R.setv rfl e2 hn⟩
  ·rename_i xs he;cases e;exact⟨w,R.move he o' hn hm⟩
  ·cases e
def Xy(e:jV j Γ=some p):∀ m,p.1=.s m->m=j:=by
 intro m hm;unfold jV at e;split at e <;> first | cases e | (cases e;cases hm) | (cases e;cases hm;rfl)
 all_goals first | (cases hm;done) | (cases hm;rfl)
def YM(h:uj K te (jV j))(hi:ip≠some i)(hj:ip≠some j):wU K ip (ABe te (zM i)) (dMv i j):=by
 intro C w Γ σ H D o hp R e k;obtain⟨p,e1,e⟩:=uJ e;obtain⟨Γ1,e2,rfl⟩:=map_some e;refine h C w Γ σ H p.1 p.2 _ R e1 λv H1 R1 _ o1 _=>?_
 obtain⟨w',R'⟩:=oR R1 o1 e2 (Xy e1) (MV hp hi) (MV hp hj);exact k w' _ H1 R'
section
variable {ι:Type}{K:Fg}{X:ι->Cx}{ip:Option Nat}{e:Expr}{x:Str}{pos:Pos}
def c6 i j (h:EX K X e (jV j)) (hi:ip≠some i:=by decide) (hj:ip≠some j:=by decide) (hN:∀ j,(X j).N.Nodup:=by intro _;show (Er _);decide +kernel) (hx':∀ j,(X j).N[i]?=some x:=by intro _;rfl) (hx:∀ j,Loc (X j).env.scope x:=by intro _;first | exact Ds rfl | exact C2 rfl)
  (hs:∀ j,D4 e (some (.Name x pos')) pos.line (X j).env=pure false:=by intro _;rfl) (hf:∀ j,(X j).fn x=true\/(X j).env.scope.names.lookup x=some .local:=by intro _;first | exact .inl rfl | exact .inr rfl):SX K X ip (.Assign [.Name x pos'] e pos) (dMv i j):=
 let ⟨_,p,s⟩:=h;⟨_,λj=>Wp (hN j) (hx' j) (hx j) (p j) (hs j) (hf j),YM s hi hj⟩
end
end D
namespace L2
open PySem PySem.Spec PyProof.Rows
section
variable {prog:Ah}{w:A5}{A:BY}{E:AK->Ab->Prop}{s:Ab}
variable {e it l:Addr}{S1:Nat->Heap->Prop}{xs:Array AK}{k:Nat}
def cQ{x old}{Q:AK->Ab->Prop}(hne:e≠it)(hle:l≠e)(D:wQ prog w it l xs S1)(he:K7 s.heap e it k old)(st:S1 k s.heap)(hx:xs[k]?=some x)
  (hQ:∀ h',IsEnumOut h' e it (k+1) x s.heap.objs.size->S1 (k+1) h'->CZ h' s.heap.objs.size (.int k s.toks) x ->
   (∀ c o,c≠e->c≠it->s.heap.get? c=some o->h'.get? c=some o)->Q (.ref s.heap.objs.size) { s with heap:=h',toks:=s.toks+1 }) :
  AW (model prog w) A (Builtin.«enumerate.__next__» ⟨[.ref e],[]⟩) (λfin s'=>∃ v,fin=.done (.ret v)/\Q v s') E s:=by
 obtain⟨hp,g,d,tk,os⟩:=s;show AW _ _ (field (.ref e) 2 >>= _) _ _ _;refine AB (Ap he rfl (x:=.ref it) rfl (AB (D.item _ k _ x _ _ st hx λh1 t1 b1=>?_)));have e1:=(b1.2 e hne).trans he;refine AB (Ap e1 rfl (x:=D5 k) rfl (AB (Ap e1 rfl (x:=.none) rfl ?_)));refine AB (HF ?_);refine AB (A6 e1 ↥1 λh2 e2 b2=>AB (A6 e2 ↥1 λh3 e3 b3=>?_));show AW _ _ (newTuple [.int k tk,x] >>= _) _ _ ⟨h3,g,d,tk+1,os⟩;refine AB (Ed ?_);have hsz:h3.objs.size=hp.objs.size:=by rw[b3.1,b2.1,b1.1]
 have e4:K7 (h3.push { cls:=.type "tuple",data:=.seq #[.int k tk,x] }) e it (k+1) old:=AC _ e3;have p4:CZ (h3.push { cls:=.type "tuple",data:=.seq #[.int k tk,x] }) hp.objs.size (.int k tk) x:=by rw[← hsz];exact AN _ rfl
 have k4:∀ c o,c≠e->h1.get? c=some o->(h3.push { cls:=.type "tuple",data:=.seq #[.int k tk,x] }).get? c=some o:=λc o hc q=>AC _ (b3.extBut c o hc (b2.extBut c o hc q))
 rw[hsz];refine AB (AB (Ap e4 rfl (x:=.none) rfl (AF ?_)));refine AB (Cf (AB (Ap e4 rfl (x:=old) rfl (AB (A6 e4 ↥1 λh5 e5 b5=>?_)))));replace e5:K7 h5 e it (k+1) x:=e5;show AW _ _ (Ck (.ref e) (.ref hp.objs.size) >>= _) _ _ ⟨h5,g,d,tk+1,os⟩;refine AB ?_;refine AB (A6 e5 ↥1 λh6 e6 b6=>A6 e6 ↥1 λh7 e7 b7=>?_);have up:=λc o hc q=>b7.extBut c o hc (b6.extBut c o hc (b5.extBut c o hc q))
 exact AB (Ft (AF ⟨_,rfl,hQ h7 e7 (D.keep _ _ _ t1 (λo q=>up _ o hne.symm (k4 _ o hne.symm q)) λo q=>up _ o hle (k4 _ o hle q)) (up _ _ (BK (AJ he)) p4) λc o c1 c2 q=>up c o c1 (k4 c o c1 (b1.extBut c o c2 q))⟩))
end
def Ite (b:Bool) (K:AY) (a1:Addr):It:=
 ⟨λi H=>∃ xs x,Sq b K H a1 xs/\xs[i]?=some x,
  λi H v H'=>∃ T x,v=.ref T/\H T=none/\H'=upd H T (.tup [.int i,x])/\(∀ xs,Sq b K H a1 xs->xs[i]?=some x),
  λi H=>∃ xs,Sq b K H a1 xs/\xs.length<=i⟩
structure ETn(b:Bool)(e it a1:Addr)(k:Nat)(h:Heap):Prop where
 z:∃ old,K7 h e it k old
 s1:SIt b it a1 k h
def Xl{K elts x1 tp} b {e it a1} (hne:e≠it) (hle:a1≠e) (hli:a1≠it) :
  AAf P w K (.Tuple elts x1 tp) (Ite b K a1) [e,it] e (ETn b e it a1) where
 mem:=by simp
 obj:=λi h st c hc=>by
  simp at hc;rcases hc with q | q
  ·have ⟨old,z⟩:=st.z;exact⟨_,q ▸ z,λv z=>by cases z⟩
  ·obtain⟨o,r,d⟩:=st.s1.live;exact⟨o,q ▸ r,d⟩
 keep:=λi h h' st k=>⟨(let ⟨old,z⟩:=st.z;⟨old,k e ↥1 _ z⟩),st.s1.keep λo q=>k it ↥1 o q⟩
 item:=by
  intro X hP hw hK hc i pins s σ H E I hf st hg;subst hP hw hK;obtain⟨xs,x,h1,hx⟩:=hg;obtain⟨its1,v1,o1,z1⟩:=I.sq h1;obtain⟨u1,e1,r1⟩:=v1.get hx;have ⟨old,hz⟩:=st.z;have hT:s.TypeIs (.ref e) "enumerate":=⟨_,hz,rfl⟩
  have nH:=λc hc=>(hf c hc).1
  refine AB (Bf (Al hT Du (As Du hT Hw
   (cQ hne hle (NR b it a1 its1.toArray hli) hz ⟨st.s1,o1⟩ (by simpa using e1) λh' ho st' hp hk=>AF ?_) (Hn _))))
  refine⟨_,rfl,?_⟩;have fT:=I.hok.fresh (AL _);have hk':∀ c o,c∉[e,it]->s.heap.get? c=some o->h'.get? c=some o:=λc o hc q=>by
   simp at hc;exact hk c o hc.1 hc.2 q
  have trk:∀ c u,H c=some u->c∉[e,it]:=λc u q hc=>by rw[nH c hc]at q;cases q
  have nT:∀ c o,s.heap.get? c=some o->c≠s.heap.objs.size:=λc o q=>AZ (AJ q)
  have hok1:wg X.prog X.w H h':=λc u q=>(I.hok c u q).stay (λd v hd r=>hk' d v (by
   rcases hd with rfl | hd
   ·exact trk d u q
   ·exact trk d _ hd) r) (λ_ r=>r) λ_ _ r=>r
  have I1:Inv X pins σ (upd H s.heap.objs.size (.tup [.int i,x])) { s with heap:=h',toks:=s.toks+1 }:=by
   refine I.step (λc hc=>?_) (λc o _ _ hc q _=>hk' c o hc q) (λc o _ _ hc q _=>⟨o.slots,hk' c o hc q⟩)
    (λc o _ q n=>by rw[Ll (nT c o q)];exact n) (λc o hc q=>⟨o,hk' c o hc q⟩) (λc xs q=>by rw[Ll (Lp q fT)];exact q) (λc o u q=>by rw[Ll (Lp q fT)];exact q)
    (λc ps q=>⟨#[],by rw[Ll (Lp q fT),q];simp⟩) (λm hm=>?_) (hok1.adopt fT ⟨by show 2<=AD;decide,[.int i s.toks,u1],.cons ⟨_,rfl⟩ (.cons r1 .nil),_,hp,rfl,⟨0,rfl⟩,rfl⟩) I.bare
   ·obtain⟨_,f1,f2,f3,f4,f5⟩:=hf c hc;exact⟨f3,f1,f4,f5⟩
   ·obtain⟨o,es,ep,ho,r⟩:=hm;exact⟨o,es,ep,hk' _ o (λhc=>(hf _ hc).2.1 rfl) ho,r⟩
  refine wpAny_letOwnedTupleGo_enum ho λh9 hz2 hs2=>?_
  obtain⟨_,f1,f2,f3,f4,f5⟩:=hf e ↥1;have nz:upd H s.heap.objs.size (.tup [.int i,x]) e=none:=by rw[Ll (nT e _ hz)];exact nH e ↥1
  have I2:=by
   have q:=I1.turned (t':=s.toks+1) (λc o hc q=>(hs2.2 c hc).trans q) nz f1 f3 f4 f5;exact q
  refine⟨.ref s.heap.objs.size,_,I2,rfl,⟨s.heap.objs.size,x,rfl,fT,rfl,λxs' q=>by rw[I.sq_inj q h1];exact hx⟩,?_,λc hc=>?_⟩
  ·have up:∀ c o,c≠e->h'.get? c=some o->h9.get? c=some o:=λc o hc q=>(hs2.2 c hc).trans q
   exact⟨⟨_,by simpa using hz2⟩,st'.1.keep λo q=>up _ o hne.symm q⟩
  ·obtain⟨o,q,_⟩:∃ o,s.heap.get? c=some o/\True:=by
    simp at hc;rcases hc with q | q
    ·exact⟨_,q ▸ hz,trivial⟩
    ·obtain⟨o,r,d⟩:=st.s1.live;exact⟨o,q ▸ r,trivial⟩
   rw[Ll (nT c o q)];exact nH c hc
 done:=by
  intro X hP hw hK hc i pins s σ H E I hf st hg;subst hP hw hK;obtain⟨xs,h1,hl⟩:=hg;obtain⟨its1,v1,o1,z1⟩:=I.sq h1;have l1:=v1.length;have ⟨old,hz⟩:=st.z;have hT:s.TypeIs (.ref e) "enumerate":=⟨_,hz,rfl⟩
  refine AB (Bf (Al hT Du (As Du hT Hw ?_ (Hn _))));show AW _ _ (field (.ref e) 2 >>= _) _ _ _;refine AB (Ap hz rfl (x:=.ref it) rfl (AB ((NR b it a1 its1.toArray hli).fini _ i _ _ _ (I.ok.hd hc) ⟨st.s1,o1⟩ ↥2 λh' x hk hx'=>?_)));obtain⟨o,ho,hcl⟩:=hx';refine AB (Bh ⟨o,ho,hcl⟩ Cp (AF ⟨rfl,?_⟩));have hk':∀ c o,c∉[it]->s.heap.get? c=some o->h'.get? c=some o:=λc o hc q=>hk c o (λz=>hc (by simp[z])) q
  have sub:∀ c∈[it],c∈[e,it]:=λc hc=>by simp at hc ⊢;exact .inr hc
  have trk:∀ c u,H c=some u->c∉[it]:=λc u q hc=>by rw[(hf c (sub c hc)).1]at q;cases q
  refine I.step (λc hc=>?_) (λc o _ _ hc q _=>hk' c o hc q) (λc o _ _ hc q _=>⟨o.slots,hk' c o hc q⟩)
   (λc o _ q n=>n) (λc o hc q=>⟨o,hk' c o hc q⟩) (λc xs q=>q) (λc o u q=>q) (λc ps q=>⟨#[],by rw[q];simp⟩) (λm hm=>?_) (λc u q=>(I.hok c u q).stay (λd v hd r=>hk' d v (by
    rcases hd with rfl | hd
    ·exact trk d u q
    ·exact trk d _ hd) r) (λ_ r=>r) λ_ _ r=>r) I.bare
  ·obtain⟨_,f1,f2,f3,f4,f5⟩:=hf c (sub c hc);exact⟨f3,f1,f4,f5⟩
  ·obtain⟨o,es,ep,ho,r⟩:=hm;exact⟨o,es,ep,hk' _ o (λhc=>(hf _ (sub _ hc)).2.1 rfl) ho,r⟩
 self:=λ_ _ _ _ _ st h=>let ⟨_,z⟩:=st.z;Jl z h
section
variable {prog:Ah}{w:A5}{A:BY}{E:AK->Ab->Prop}{s:Ab}
def aU l xs :
  Iz (Builtin.«enumerate.__new__» ⟨[.type "enumerate",.ref l],[]⟩) (λ_ R s=>s.heap.IsTuple l xs /\
   R (.ok (.ret (.ref (s.heap.push { cls:=.type "tuple_iterator",data:=.fields #[.ref l,.int 0 0] }).objs.size)))
    { s with heap:=(s.heap.push { cls:=.type "tuple_iterator",data:=.fields #[.ref l,.int 0 0] }).push { cls:=.type "enumerate",data:=.fields #[.none,.bool false,.ref s.heap.objs.size,D5 0,.none,.none] } }):=
 .of_wp λprog w A R s h=>by
  obtain⟨hp,g,d,tk,os⟩:=s;obtain⟨hl,h⟩:=h;have hsub:=sub_enumerate;have T1:=hl
  wp_walk
  refine wpAny_stack_any λst=>AF ?_
  split
  ·rename_i c _ _ _ _ _;cases (c == CD "enumerate")
   iterate 2
    ·wp_walk using Cy T1
     exact⟨_,rfl,h⟩
  ·wp_walk using Cy T1
   exact⟨_,rfl,h⟩
def Yk(hl:s.heap.IsTuple l xs)
  (h:∀ h',ETn true (s.heap.objs.size+1) s.heap.objs.size l 0 h'->(∀ c o,s.heap.get? c=some o->h'.get? c=some o)->Q (.ref (s.heap.objs.size+1)) { s with heap:=h' }) :
  AW (model prog w) A (call (.type "enumerate") [.ref l]) Q E s:=by
 refine FR F.called_enumerate ∅ (F.typeCall_enumerate_1 _) (F.newCall_enumerate_1 _) (λobj=>D6 obj _) F.entry_enumerate_new (aU l xs) ⟨hl,?_⟩;have z1:(s.heap.push { cls:=.type "tuple_iterator",data:=.fields #[.ref l,.int 0 0] }).objs.size=s.heap.objs.size+1:=BW ..;have g2:=AN (s.heap.push { cls:=.type "tuple_iterator",data:=.fields #[.ref l,.int 0 0] }) (o:={ cls:=.type "enumerate",data:=.fields #[.none,.bool false,.ref s.heap.objs.size,D5 0,.none,.none] }) rfl;rw[z1]at g2;rw[z1];exact⟨⟨_,g2,rfl⟩,h _ ⟨⟨.none,g2⟩,⟨_,AC _ (AN _ rfl),rfl,rfl⟩⟩ λc o x=>AC _ (AC _ x)⟩
end
section
variable {X:Cx}{elts:List Expr}{x1:Nat}{tp:Pos}
def AAJ (K:AY) (ta:TA):TI:=λσ H R=>ta σ H λvs H1=>∃ (b:Bool) (a1:Addr),vs=[.ref a1]/\(∃ xs,Sq b K H1 a1 xs)/\R (Ite b K a1) H1
theorem lV(hg:Gl X "enumerate")(hm:X.mg "enumerate"=none)(ha:PA X [e1] ta)(hs:AQ [e1] X.env=[(false,eval e1 X.env)]:=by rfl) :
  PI X (.Tuple elts x1 tp) (.Call (.Name "enumerate" p) [e1] [] pos) (AAJ X.K ta):=by
 intro pins s σ H R I h;refine F9 (L3 I hg hm boot_enumerate (An (vB (ha pos pins s σ H _ I h) λus s1 ⟨vs,H1,I1,r1,q1⟩=>?_) ‹_› (by rfl)));obtain⟨b,a1,rfl,⟨xs,h1⟩,q⟩:=q1;obtain⟨u1,rfl,rfl⟩:=r1.one;obtain⟨its1,v1,o1,z1⟩:=I1.sq h1;have lt1:a1 < s1.heap.objs.size:=by cases b with
  | false | true=>obtain⟨o,e,_⟩:=o1;exact AJ e
 have fin:∀ h',ETn b (s1.heap.objs.size+1) s1.heap.objs.size a1 0 h'->(∀ c o,s1.heap.get? c=some o->h'.get? c=some o) ->
   AW (model X.prog X.w) X.A (GL (.ref (s1.heap.objs.size+1))) (PIE X pins σ (.Tuple elts x1 tp) R) X.xe { s1 with heap:=h' }:=λh' st hk=>by
  obtain⟨old,z⟩:=st.z;refine Jl z ⟨_,_,_,_,H1,rfl,I1.kept hk,Xl b (BK (Cg _)) (AZ (AM lt1 (Av _ 1))) (AZ lt1),st,λc hc=>?_,q⟩;have hc':s1.heap.objs.size<=c:=by
   simp at hc;rcases hc with e | e <;> (rw[e]) <;> first | exact AL _ | exact Av _ _
  exact I1.fpOk hc' (I1.hok.fresh hc')
 cases b with
 | false=>exact call_enumerate_list o1 λh' hz hit _ hk=>fin h' ⟨⟨_,hz⟩,hit⟩ hk
 | true=>exact Yk o1 fin
end
end L2
namespace D
open PySem L2
noncomputable def xZ (xs:List T):List T:=xs.zipIdx.map λp=>.t [.a (.int (p.2:Int)),p.1]
noncomputable def AAD (fa:DA):DI:=λΓ=>(fa Γ).bind λp=>match p.1 with
 | [.v (.t xs)]=>gd xs.length ((xZ xs,[]),p.2)
 | [a]=>(ux p.2 a).bind λxs=>gd xs.length ((xZ xs,yS p.2 a),p.2)
 | _=>none
section
variable {K:Fg}
def Sk(h1:Sq b K H2 a1 vs)(i1:uh K H2 vs xs) :
  (∀ i t,(xZ xs)[i]?=some t->(Ite b K a1).go i H2/\∀ x H3,(Ite b K a1).yld i H2 x H3->(∀ b o,H2 b=some o->H3 b=some o)/\Im K H3 x t)/\(Ite b K a1).stop (xZ xs).length H2:=by
 refine⟨λi t e=>?_,⟨vs,h1,?_⟩⟩
 ·unfold xZ at e;rw[Ag]at e;obtain⟨⟨t1,j⟩,e1,rfl⟩:=map_some e;have e1':xs[i]?=some t1/\j=i:=by
   rw[List.getElem?_zipIdx]at e1;obtain⟨y,q,e1⟩:=map_some e1;cases e1;exact⟨q,by simp⟩
  obtain⟨g1,rfl⟩:=e1';obtain⟨v,e3,hv⟩:=i1.get g1;refine⟨⟨vs,v,h1,e3⟩,λx H3 y=>?_⟩;obtain⟨T',x',rfl,hT,rfl,k1⟩:=y;have q1:=k1 vs h1;rw[e3]at q1;cases q1;have ev:vG [] H2 (upd H2 T' (.tup [.int j,v])):=vG.new hT;have hL:LL [] H2:=λq hq=>nomatch hq
  refine⟨λb o e=>ev b o e nofun,Im.tup Lq (.cons Im.atom (.one (hv.evo ev hL)))⟩
 ·have l1:=i1.len;simp[xZ];lia
def bo(ha:wD K ta fa):zC K (AAJ K ta) (AAD fa):=by
 intro C w Γ σ H its src Γ' R Rp e k;obtain⟨⟨as,G1⟩,e1,e⟩:=uJ e;dsimp only at e;have zl:∀ xs,(xZ xs).length<=xs.length:=λxs=>by simp[xZ]
 split at e
 ·obtain⟨hz,e⟩:=L6 e;cases e;refine ha C w Γ σ H _ _ _ Rp e1 λvs H1 R1 ev1 o1 n1=>?_
  obtain⟨v,rfl,o2⟩:=vN o1;obtain⟨p,vs,rfl,h1,i1⟩:=o2.invt;refine⟨true,p,rfl,⟨vs,h1.sq⟩,k _ H1 R1 ev1 ⟨Aa (zl _) hz,λL' hs av H2 ev=>?_⟩⟩;have hL:LL L' H1:=λq hq=>R1.lst q (hs q hq)
  exact Sk (Nb ev hL h1).sq (i1.evo ev hL)
 ·obtain⟨xs,e2,e⟩:=uJ e;obtain⟨hz,e⟩:=L6 e;cases e;refine ha C w Γ σ H _ _ _ Rp e1 λvs H1 R1 ev1 o1 n1=>?_
  obtain⟨v,rfl,o2⟩:=vN o1;obtain⟨p,vs,rfl,h1,i1,st1⟩:=OA R1 o2 e2;refine⟨false,p,rfl,⟨vs,h1⟩,k _ H1 R1 ev1 ⟨Aa (zl _) hz,λL' hs av H2 ev=>?_⟩⟩;have hL:LL L' H1:=λq hq=>R1.lst q (hs q hq)
  exact Sk (st1 L' hs av H2 ev) (i1.evo ev hL)
 ·cases e
end
section
variable {ι:Type}{K:Fg}{X:ι->Cx}{mg:Str->Option AK}{k:Nat}{a:Expr}{da:DA}{p pos:Pos}
def kD(M:Fm K mg k X)(hm:mg "enumerate"=none)(ha:AX K X [a] da)(hg:∀ j,Gl (X j) "enumerate":=by intro _;rfl)(hs:∀ j,AQ [a] (X j).env=[(false,eval a (X j).env)]:=by intro _;rfl) :
  IX K X (.Tuple elts x1 tp) (.Call (.Name "enumerate" p) [a] [] pos) (AAD da):=
 let ⟨t,q,u⟩:=ha;⟨AAJ K t,λj=>by have:=lV (elts:=elts) (x1:=x1) (tp:=tp) (p:=p) (pos:=pos) (hg j) (by rw[M.mg];exact hm) (q j) (hs j);rw[M.K j]at this;exact this,bo u⟩
end
end D
namespace L2
open PySem PySem.Spec PyProof.Rows
def Xp:Slot "reversed" "__init__" "object.__init__" :=
 .of (owner:="object") (n:="__init__") rfl ↥4 ↥4 ↥4
  (by first | exact .inl ↥4 | exact .inr rfl) rfl
def Sw:TypeCalled "reversed" "reversed.__new__" "object.__init__" :=
 ⟨by decide +kernel,by decide +kernel,⟨_,_,F.mro_reversed⟩,F.made_reversed,by decide +kernel,by rw[K8];kernel_rfl,Xp⟩
def Qp:Manifest.owners.lookup (String.ofList ['d','e','s','r','e','v','e','r'].reverse)=some Manifest.sig_reversed:=by kernel_rfl
def OH:Slot "reversed" "__next__" "reversed.__next__" :=
 .of (owner:="reversed") (n:="__next__") rfl rfl rfl rfl
  (by first | exact .inl rfl | exact .inr rfl) rfl
def Wk:Hf table "reversed.__next__"=some Builtin.«reversed.__next__»:=G6 rfl
def TU:Slot "reversed" "__iter__" "reversed.__iter__" :=
 .of (owner:="reversed") (n:="__iter__") rfl rfl rfl rfl
  (by first | exact .inl rfl | exact .inr rfl) rfl
def dj:GM (.type "tuple") "__reversed__"=pure none:=by rw[Dh];kernel_rfl
def jo:isSubtype (.type "tuple") (.type "dict")=pure false:=by rw[K8];kernel_rfl
def VT a:IY "reversed.__next__" ⟨[a],[]⟩:=by
 unfold IY;rw[Hx (n:=['_','_','t','x','e','n','_','_']) rfl Qp];kernel_rfl
def fW a:IY "reversed.__iter__" ⟨[a],[]⟩:=by
 unfold IY;rw[Hx (n:=['_','_','r','e','t','i','_','_']) rfl Qp];kernel_rfl
def d6:Hf table "reversed.__iter__"=some Builtin.«dict_keyiterator.__iter__» :=
 K9 (id':="dict_keyiterator.__iter__") rfl rfl ↥4 rfl
abbrev yP (h:Heap) (e l:Addr) (i:Int):Prop:=h.get? e=some { cls:=.type "reversed",dict:=none,data:=.fields #[.ref l,D5 i],slots:=#[] }
section
variable {prog:Ah}{w:A5}{A:BY}{E:AK->Ab->Prop}{s:Ab}
theorem nv(hl:s.heap.IsTuple l xs)(hQ:Q true s):AW (model prog w) A (do
  if ← isInstance (.ref l) (.type "dict") then return false
  match ← specialOf (.ref l) "__getitem__" with
  | none=>return false
  | some (.builtin id) =>
   if ["tuple.__getitem__","str.__getitem__","bytes.__getitem__","bytearray.__getitem__","memoryview.__getitem__","numpy.ndarray.__getitem__","sqlite3.Row.__getitem__"].contains id then return true
   if id == "sqlite3.Blob.__getitem__" then return false
   unsupported "reversed.__new__:is-it-a-sequence"
  | some _=>return true) Q E s:=AB (Bh hl.typeIs jo (AB (Bw hl.typeIs IZ.lookup (AF hQ))))
def Wn l xs (hz:xs.size<=AD) :
  Iz (Builtin.«reversed.__new__» ⟨[.type "reversed",.ref l],[]⟩) (λ_ R s=>s.heap.IsTuple l xs /\
   R (.ok (.ret (.ref s.heap.objs.size))) { s with heap:=s.heap.push { cls:=.type "reversed",data:=.fields #[.ref l,D5 ((xs.size:Int) - 1)] },toks:=s.toks+1+1 }):=
 .of_wp λprog w A R s h=>by
  obtain⟨hl,h⟩:=h;refine AB (Cc (newClass_reversed _) ?_);refine AB (Cc rfl (AB (Cc rfl (AB (Bw hl.typeIs dj (AB (nv hl ?_)))))));refine AB (J4 hl (by have:=hz;rw[BQ]at this;lia) (AB (m:=Es _ _) ?_));unfold Es;exact BH (AF ⟨_,rfl,h⟩) (by size_fits)
def dD(hl:s.heap.IsTuple l xs)(hz:xs.size<=AD)
  (h:∀ h' tk,yP h' s.heap.objs.size l ((xs.size:Int) - 1)->(∀ c o,s.heap.get? c=some o->h'.get? c=some o)->Q (.ref s.heap.objs.size) { s with heap:=h',toks:=tk }) :
  AW (model prog w) A (call (.type "reversed") [.ref l]) Q E s:=by
 refine FR Sw ∅ (ID _) (Ia _) (λobj=>D6 obj _) Ib (Wn l xs hz) ⟨hl,?_⟩;have g:=AN s.heap (o:={ cls:=.type "reversed",data:=.fields #[.ref l,D5 ((xs.size:Int) - 1)] }) rfl;exact⟨⟨_,g,rfl⟩,h _ _ g λc o x=>AC _ x⟩
def OP(he:yP s.heap e l i)(h:Q (.ref e) s):AW (model prog w) A (GL (.ref e)) Q E s:=by
 have hT:s.TypeIs (.ref e) "reversed":=⟨_,he,rfl⟩
 exact Jm hT TU (As TU hT d6 (AF ⟨_,rfl,"reversed",_,hT,OH.lookup,h⟩) (fW _))
def SR{i:Nat}{xs x Q}(he:yP s.heap e l i)(hl:s.heap.IsTuple l xs)(hz:xs.size<=AD)(hx:xs[i]?=some x)
  (hQ:∀ h' tk,yP h' e l (i - 1)->DK e s.heap h'->Q (some x) { s with heap:=h',toks:=tk }):AW (model prog w) A (Dl (.ref e)) Q E s:=by
 have hT:s.TypeIs (.ref e) "reversed":=⟨_,he,rfl⟩
 have hi:=(Array.getElem?_eq_some_iff.mp hx).1;rw[BQ]at hz;refine AB (Bf (Al hT OH (As OH hT Wk ?_ (VT _))));refine AB (Cc rfl (AB (Ap he rfl (x:=.ref l) rfl ?_)));refine AB (Ap he rfl rfl (AB (Bw hl.typeIs IZ.lookup ?_)));exact AB (HF (AB (Bf (Kl (j:=i) hl ⋯ ⋯ (by rw[HC ⋯ ⋯,C3]) hx (AB (Ap he rfl rfl (AB (A6 he ↥1 λh1 e1 b1=>AF ⟨x,rfl,AF (hQ h1 _ e1 b1)⟩))))))))
def V3(hh:A.handled=none)(he:yP s.heap e l (-1))(hQ:∀ h',FI e s.heap h'->Q none { s with heap:=h' }):AW (model prog w) A (Dl (.ref e)) Q E s:=by
 have hT:s.TypeIs (.ref e) "reversed":=⟨_,he,rfl⟩
 obtain⟨hp,g,d,tk,os⟩:=s;refine AB (Bf (Al hT OH (As OH hT Wk ?_ (VT _))));refine AB (Cc rfl (AB (Ap he rfl (x:=.ref l) rfl (AB (Ap he rfl (x:=D5 (-1)) rfl ?_)))));refine AB (Cf (AB (AB (A6 he ↥1 λh1 e1 b1=>A6 e1 ↥1 λh2 e2 b2=>?_))));have x2:FI e hp h2:=λc o hc q=>b2.extBut c o hc (b1.extBut c o hc q)
 refine AB (AB (AB (m:=firstArgMember _ _) (Cc (a:=CB) rfl ?_)));refine BH (AB (Hu ?_)) (by size_fits)
 first | rw[show A.in1.handled=none from hh] | rw[hh]
 refine AB (AF (I0 ?_));refine AB (Bh ⟨_,AN _ rfl,rfl⟩ Cp ?_);exact AF (hQ _ ((x2.push _).push _))
end
def Itv (K:AY) (a1:Addr) (n:Nat):It:=
 ⟨λi H=>∃ xs x,wo K H a1 xs/\xs.length=n/\i < n/\xs[n - 1 - i]?=some x,
  λi H v H'=>H'=H/\∀ xs,wo K H a1 xs->xs[n - 1 - i]?=some v,
  λi H=>i=n⟩
def cN{P:Ah}{w:A5}{K:AY}{tg:Expr}{e a1:Addr}(n:Nat)(hle:a1≠e) :
  AAf P w K tg (Itv K a1 n) [e] e (λi h=>yP h e a1 ((n:Int) - 1 - (i:Int))) where
 mem:=by simp
 obj:=λi h st c hc=>by
  have q:c=e:=by simpa using hc
  exact⟨_,q ▸ st,λv z=>by cases z⟩
 keep:=λi h h' st k=>k e ↥1 _ st
 item:=by
  intro X hP hw hK hc i pins s σ H E I hf st hg;subst hP hw hK;obtain⟨xs,x,h1,hn,hi,hx⟩:=hg;obtain⟨its1,v1,o1,z1⟩:=I.tuple h1;obtain⟨u1,e1,r1⟩:=v1.get hx;have l1:=v1.length;have ei:(n:Int) - 1 - (i:Int)=((n - 1 - i:Nat):Int):=by lia
  have st':yP s.heap e a1 ((n - 1 - i:Nat):Int):=by rw[← ei];exact st
  obtain⟨f0,f1,f2,f3,f4,f5⟩:=hf e ↥1;refine SR (xs:=its1.toArray) st' (show s.heap.IsTuple a1 its1.toArray from o1) (by rw[Ae];lia) (by simpa using e1) λh' tk he sb=>?_
  have I1:Inv X pins σ H { s with heap:=h',toks:=tk }:=I.turned (t':=tk) (λb o hb q=>(sb.2 b hb).trans q) f0 f1 f3 f4 f5;have he':yP h' e a1 ((n:Int) - 1 - ((i+1:Nat):Int)):=by
   have:(n:Int) - 1 - ((i+1:Nat):Int)=((n - 1 - i:Nat):Int) - 1:=by lia
   rw[this];exact he
  exact⟨u1,rfl,OI (s:={ s with heap:=h',toks:=tk }) he' rfl rfl ∅ ⟨x,H,I1,r1,⟨rfl,λys hy=>by rw[I.tuple_inj hy h1];exact hx⟩,he',λb hb=>(hf b hb).1⟩⟩
 done:=by
  intro X hP hw hK hc i pins s σ H E I hf st hg;subst hP hw hK;have hg:i=n:=hg;subst hg;obtain⟨f0,f1,f2,f3,f4,f5⟩:=hf e ↥1;have st':yP s.heap e a1 (-1):=by
   have:(i:Int) - 1 - (i:Int)=-1:=by lia
   rw[← this];exact st
  exact V3 (I.ok.hd hc) st' λh' eb=>⟨rfl,I.turned (t':=s.toks) (λb o hb q=>eb b o hb q) f0 f1 f3 f4 f5⟩
 self:=λ_ _ _ _ _ st h=>OP st h
section
variable {X:Cx}{tg:Expr}
def ABP (K:AY) (ta:TA):TI:=λσ H R=>ta σ H λvs H1=>∃ (a1:Addr) (xs:List V),vs=[.ref a1]/\wo K H1 a1 xs/\R (Itv K a1 xs.length) H1
def eU{e1:Expr}{ta:TA}{p pos:Pos}(hg:Gl X "reversed")(hm:X.mg "reversed"=none)(ha:PA X [e1] ta)(hs:AQ [e1] X.env=[(false,eval e1 X.env)]:=by rfl) :
  PI X tg (.Call (.Name "reversed" p) [e1] [] pos) (ABP X.K ta):=by
 intro pins s σ H R I h;refine F9 (L3 I hg hm Hz (An (vB (ha pos pins s σ H _ I h) λus s1 ⟨vs,H1,I1,r1,q1⟩=>?_) (by rw[hs];rfl) (by rfl)));obtain⟨a1,xs,e,h1,q⟩:=q1;subst e;obtain⟨u1,e,r⟩:=r1.one;subst e;cases r;obtain⟨its1,v1,o1,z1⟩:=I1.tuple h1;have l1:=v1.length;have lt1:a1 < s1.heap.objs.size:=by obtain⟨o,e,_⟩:=(show s1.heap.IsTuple a1 its1.toArray from o1);exact AJ e
 refine dD (show s1.heap.IsTuple a1 its1.toArray from o1) (by rw[Ae];lia) λh' tk st hk=>?_
 have st':yP h' s1.heap.objs.size a1 ((xs.length:Int) - 1 - ((0:Nat):Int)):=by
  have:((xs.length:Int) - 1 - ((0:Nat):Int))=(its1.toArray.size:Int) - 1:=by rw[Ae];lia
  rw[this];exact st
 refine OP st' ?_;refine⟨_,_,_,_,H1,rfl,I1.kept (t':=tk) hk,cN xs.length (AZ lt1),st',λc hc=>?_,q⟩;have e:c=s1.heap.objs.size:=by simpa using hc
 subst e;exact I1.fpOk (AL _) (I1.hok.fresh (AL _))
end
end L2
namespace D
open PySem L2
noncomputable def ADF (fa:DA):DI:=λΓ=>(fa Γ).bind λp=>match p.1 with
 | [.v (.t xs)]=>gd xs.length ((xs.reverse,[]),p.2)
 | _=>none
section
variable {K:Fg}
def gP(ha:wD K ta fa):zC K (ABP K ta) (ADF fa):=by
 intro C w Γ σ H its src Γ' R Rp e k;obtain⟨⟨as,G1⟩,e1,e⟩:=uJ e;dsimp only at e;split at e
 ·rename_i xs;obtain⟨hz,e⟩:=L6 e;cases e;refine ha C w Γ σ H _ _ _ Rp e1 λvs H1 R1 ev1 o1 n1=>?_
  obtain⟨v,rfl,o2⟩:=vN o1;obtain⟨p,vs,rfl,h1,i1⟩:=o2.invt;refine⟨p,vs,rfl,h1.sq,k _ H1 R1 ev1 ⟨by simpa using hz,λL' hs av H2 ev=>?_⟩⟩;have hL:LL L' H1:=λq hq=>R1.lst q (hs q hq)
  have h2:=(Nb ev hL h1).sq;have i2:=i1.evo ev hL;have l2:=i2.len;refine⟨λi t e=>?_,by show _=_;simp[l2]⟩;have hi:i < xs.length:=by simpa using (Af.mp e).1
  rw[E5 hi]at e;obtain⟨v,e3,hv⟩:=i2.get e;refine⟨⟨vs,v,h2,rfl,by lia,by rw[l2];exact e3⟩,λx H3 y=>?_⟩;obtain⟨rfl,k1⟩:=y;have q1:=k1 vs h2;rw[l2,e3]at q1;cases q1;exact⟨λb o e=>e,hv⟩
 ·cases e
end
section
variable {ι:Type}{K:Fg}{X:ι->Cx}{mg:Str->Option AK}{k:Nat}{a:Expr}{da:DA}{p pos:Pos}
def lX(M:Fm K mg k X)(hm:mg "reversed"=none)(ha:AX K X [a] da)(hg:∀ j,Gl (X j) "reversed":=by intro _;rfl)(hs:∀ j,AQ [a] (X j).env=[(false,eval a (X j).env)]:=by intro _;rfl) :
  IX K X tg (.Call (.Name "reversed" p) [a] [] pos) (ADF da):=
 let ⟨t,q,u⟩:=ha;⟨ABP K t,λj=>by have:=eU (tg:=tg) (p:=p) (pos:=pos) (hg j) (by rw[M.mg];exact hm) (q j) (hs j);rw[M.K j]at this;exact this,gP u⟩
end
noncomputable def insI (x:Int):List Int->List Int
 | []=>[x]
 | y::r=>if x<=y then x::y::r else y::insI x r
noncomputable def sortI:List Int->List Int
 | []=>[]
 | x::r=>insI x (sortI r)
theorem P7 x:∀ l,(insI x l).Perm (x::l)
 | []=>.refl _
 | y::r=>by
  unfold insI;split
  ·exact .refl _
  ·exact ((P7 x r).cons y).trans (Lh x y r)
theorem QG:∀ l,(sortI l).Perm l
 | []=>.refl _
 | x::r=>(P7 x _).trans ((QG r).cons x)
theorem TR x:∀ l,l.Pairwise (·<=·)->(insI x l).Pairwise (·<=·)
 | [],_=>by simp[insI]
 | y::r,h=>by
  unfold insI;have h':=CG.mp h;split
  ·exact CG.mpr ⟨λz hz=>by
    rcases AR.mp hz with e | e
    ·lia
    ·have:=h'.1 z e;lia,h⟩
  ·exact CG.mpr ⟨λz hz=>by
    have:=(P7 x r).subset hz;rcases AR.mp this with e | e
    ·lia
    ·exact h'.1 z e,TR x r h'.2⟩
theorem RE:∀ l,(sortI l).Pairwise (·<=·)
 | []=>.nil
 | x::r=>TR x _ (RE r)
theorem RI:∀ {a b:List Int},a.Perm b->a.Pairwise (·<=·)->b.Pairwise (·<=·)->a=b
 | [],b,p,_,_=>(List.nil_perm.mp p).symm
 | x::r,[],p,_,_=>by have:=p.length_eq;simp at this
 | x::r,y::s,p,ha,hb=>by
  have ha':=CG.mp ha;have hb':=CG.mp hb;have e:x=y:=by
   rcases AR.mp (p.subset AG) with e | e
   ·exact e
   ·rcases AR.mp (p.symm.subset AG) with f | f
    ·exact f.symm
    ·have:=ha'.1 y f;have:=hb'.1 x e;lia
  subst e;rw[RI ((List.perm_cons x).mp p) ha'.2 hb'.2]
noncomputable def vq:List T->Option (List Int)
 | []=>some []
 | .a (.int n)::r=>(vq r).map λns=>n::ns
 | _::_=>none
theorem Ou:∀ {xs ns},vq xs=some ns->xs=(ns.map V.int).map T.a
 | [],ns,e=>by cases e;rfl
 | x::r,ns,e=>by
  unfold vq at e;split at e
  ·rename_i h;cases h
  ·rename_i n r' h;cases h;obtain⟨ms,e1,rfl⟩:=map_some e;rw[Ou e1];rfl
  ·cases e
noncomputable def sortedS:En->List S->Option S:=λΓ as=>match as with
 | [a]=>(xX Γ a).bind λxs=>(vq xs).bind λns=>if ns.length < 64 then some (.l ((sortI ns).map λn=>.a (.int n))) else none
 | _=>none
def YT:wk K (λxs H Q=>∃ (p:Addr) (ns:List Int),xs=[.ref p]/\(vz K H p (ns.map V.int)\/wo K H p (ns.map V.int))/\ns.length < 64/\∀ l (ns':List Int),H l=none->ns'.Perm ns->ns'.Pairwise (·<=·)->Q (.ref l) (upd H l (.lst (ns'.map V.int)))) sortedS:=by
 intro C w Γ σ H vs as s Q R o e k;unfold sortedS at e;split at e
 ·obtain⟨xs,e1,e⟩:=uJ e;obtain⟨ns,e2,e⟩:=uJ e;split at e
  ·rename_i hl;cases e;obtain⟨v,rfl,o1⟩:=vN o;obtain⟨p,us,rfl,h1,i1⟩:=Pb R o1 e1;have hu:=by rw[Ou e2]at i1;exact i1.of_atoms
   subst hu;refine⟨p,ns,rfl,h1,hl,λl ns' hl' hp hs=>?_⟩;have:=RI (hp.trans (QG ns).symm) hs (RE ns);subst this;have hi:=by
    have:=uh.atoms (K:=K) (H:=H) ((sortI ns).map V.int);rwa [Bn]at this
   exact k _ _ (R.new hl') (vG.new hl') (R.newl hl' hi) ⟨l,rfl,hl'⟩
  ·cases e
 ·cases e
section
variable {ι:Type}{K:Fg}{X:ι->Cx}{mg:Str->Option AK}{k:Nat}
def oG(M:Fm K mg k X):x5 K X (.builtin "sorted") sortedS:=⟨_,λj=>by have:=nL (X:=X j);rw[M.K j]at this;exact this,YT⟩
end
end D
namespace D
open PySem L2
noncomputable def zp {α:Type} (l:List α) (i:Nat):Option α:=l[i]?
@[simp,simp ↓] theorem sQ{α:Type}{x:α}{r:List α}:zp (x::r) 0=some x:=rfl
@[simp,simp ↓] theorem qR{α:Type}{x:α}{r:List α}:zp (x::r) (n+1)=zp r n:=rfl
@[simp high,simp ↓ high] theorem AHL{α:Type}{x:α}:gd 0 x=some x:=rfl
@[simp high,simp ↓ high] theorem AHM{α:Type}{x:α}:gd 1 x=some x:=rfl
@[simp high,simp ↓ high] theorem AHO{α:Type}{x:α}:gd 2 x=some x:=rfl
@[simp high,simp ↓ high] theorem AHP{α:Type}{x:α}:gd 3 x=some x:=rfl
@[simp high,simp ↓ high] theorem AHN{α:Type}{x:α}:gd 4 x=some x:=rfl
class Kf (α β:Type) where
 k:α->Option β
class Kg (α β:Type) where
 k:α->β
noncomputable def vw {α β:Type} (x:Option α) [f:Kf α β]:Option β:=x.bind f.k
@[simp,simp ↓] theorem rX{α β:Type}{a:α}{f:α->Option β}:vw (some a) (f:=⟨f⟩)=f a:=rfl
noncomputable def xR {α β:Type} (x:Option α) [f:Kg α β]:Option β:=x.map f.k
@[simp,simp ↓] theorem rg{α β:Type}{a:α}{f:α->β}:xR (some a) (f:=⟨f⟩)=some (f a):=rfl
class Ka (α:Type) where
 v:α
noncomputable def ifB {α:Type} (b:Bool) [x:Ka α] [y:Ka α]:α:=if b=true then x.v else y.v
@[simp high,simp ↓ high] theorem tT{α:Type}{x:α}{y:Ka α}:ifB true (x:=⟨x⟩) (y:=y)=x:=rfl
@[simp high,simp ↓ high] theorem r6{α:Type}{x:Ka α}{y:α}:ifB false (x:=x) (y:=⟨y⟩)=y:=rfl
noncomputable def ifO {α:Type} (p:Option Nat) (k:Nat) (x y:α):α:=if p=some k then x else y
@[simp high,simp ↓ high] theorem sC{α:Type}{x y:α}:ifO none k x y=y:=rfl
noncomputable def ifN {α:Type} (m n:Nat) (x y:α):α:=if m=n then x else y
noncomputable def ifM {α:Type} (i:Nat) (l:List Nat) (x y:α):α:=if i∈l then x else y
@[simp high,simp ↓ high] theorem pj{α:Type}{x y:α}:ifM i [] x y=y:=rfl
noncomputable def apE {α:Type} (l:List α):List α:=l++[]
@[simp,simp ↓] theorem tZ{α:Type}:apE ([]:List α)=[]:=rfl
@[simp,simp ↓] theorem tN{α:Type}{x:α}{r:List α}:apE (x::r)=x::apE r:=rfl
@[simp high,simp ↓ high] theorem qW{α:Type}{x y:α}:ifO (some 0) 0 x y=x:=rfl
@[simp high,simp ↓ high] theorem rH{α:Type}{x y:α}:ifN 2 2 x y=x:=rfl
@[simp high,simp ↓ high] theorem rY{α:Type}{x y:α}:ifN 3 3 x y=x:=rfl
section
variable {f g:DS}{fa fb fc fi:DE}{da fr:DA}{ta tb:DT}{Γ:En}{i j k:Nat}{h h':En->S->S->Option S}
@[simp,simp ↓] theorem Qy:uO f g Γ=vw (f Γ) (f:=⟨λo=>match o with | .nx Γ'=>g Γ' | o=>some o⟩):=rfl
@[simp,simp ↓] theorem tM:uX Γ=some (.nx Γ):=rfl
@[simp,simp ↓] theorem rN:uT fa Γ=xR (fa Γ) (f:=⟨λp=>.rt p.1 p.2⟩):=rfl
@[simp,simp ↓] theorem sW:wA fa Γ=xR (fa Γ) (f:=⟨λp=>.nx p.2⟩):=rfl
@[simp,simp ↓] theorem qZ:vd ta f g Γ=vw (ta Γ) (f:=⟨λp=>ifB p.1 (x:=⟨(f p.2)⟩) (y:=⟨(g p.2)⟩)⟩):=rfl
def QS:vd ta f g Γ=(ta Γ).bind λp=>if p.1=true then f p.2 else g p.2:=rfl
@[simp,simp ↓] theorem rO:uS i fa Γ=vw (fa Γ) (f:=⟨λp=>xR (ABC i p.1 p.2) (f:=⟨.nx⟩)⟩):=rfl
@[simp,simp ↓] theorem p7:ABC i (.v t) Γ=some (Γ.set i (~~~t)):=rfl
@[simp,simp ↓] theorem tV:ABC i (.l t) Γ=some (Γ.set i (some (.l t))):=rfl
@[simp,simp ↓] theorem qF:jV i Γ=match zp Γ i with
 | some (some (.v t))=>some (.v t,Γ)
 | some (some (.l _)) | some (some (.r _)) | some (some (.k _)) | some (some (.d _)) | some (some (.e _))=>some (.s i,Γ)
 | _=>none:=rfl
@[simp,simp ↓] theorem qS:dC v Γ=some (.v (.a v),Γ):=rfl
@[simp,simp ↓] theorem sO:uM h fa fb Γ=vw (fa Γ) (f:=⟨λp=>vw (fb p.2) (f:=⟨λq=>xR (h q.2 p.1 q.1) (f:=⟨λs=>(s,q.2)⟩)⟩)⟩):=rfl
@[simp,simp ↓] theorem rV{h:En->S->Option S}:dUn h fa Γ=vw (fa Γ) (f:=⟨λp=>xR (h p.2 p.1) (f:=⟨λs=>(s,p.2)⟩)⟩):=rfl
@[simp,simp ↓] theorem r9{h:En->List S->Option S}:vO h da Γ=vw (da Γ) (f:=⟨λp=>xR (h p.2 p.1) (f:=⟨λs=>(s,p.2)⟩)⟩):=rfl
@[simp,simp ↓] theorem qb:qQ Γ=some ([],Γ):=rfl
@[simp,simp ↓] theorem sr:jW fa fr Γ=vw (fa Γ) (f:=⟨λp=>vw (fr p.2) (f:=⟨λq=>some (p.1::q.1,q.2)⟩)⟩):=rfl
@[simp,simp ↓] theorem pW:S.tree (.v t)=some t:=rfl
@[simp,simp ↓] theorem qh:trees []=some []:=rfl
@[simp,simp ↓] theorem tF:trees (.v t::r)=xR (trees r) (f:=⟨λts=>t::ts⟩):=rfl
@[simp,simp ↓] theorem t9:ue da Γ=vw (da Γ) (f:=⟨λp=>vw (trees p.1) (f:=⟨λts=>gd ts.length (.v (.t ts),p.2)⟩)⟩):=rfl
@[simp,simp ↓] theorem sV:vR da Γ=vw (da Γ) (f:=⟨λp=>vw (trees p.1) (f:=⟨λts=>gd ts.length (.l ts,p.2)⟩)⟩):=rfl
@[simp,simp ↓] theorem qc:uQ fa Γ=vw (fa Γ) (f:=⟨λp=>match p.1 with | .v (.a (.bl b))=>some (b,p.2) | _=>none⟩):=rfl
@[simp,simp ↓] theorem pR:yD ta tb Γ=vw (ta Γ) (f:=⟨λp=>ifB p.1 (x:=⟨(tb p.2)⟩) (y:=⟨(some (false,p.2))⟩)⟩):=rfl
@[simp,simp ↓] theorem qp:dOr ta tb Γ=vw (ta Γ) (f:=⟨λp=>ifB p.1 (x:=⟨(some (true,p.2))⟩) (y:=⟨(tb p.2)⟩)⟩):=rfl
@[simp,simp ↓] theorem ph:zY ta Γ=vw (ta Γ) (f:=⟨λp=>some (!p.1,p.2)⟩):=rfl
@[simp,simp ↓] theorem uG:yL fa fb Γ=vw (uQ fa Γ) (f:=⟨λp=>ifB p.1 (x:=⟨(fb p.2)⟩) (y:=⟨(some (.v (.a (.bl false)),p.2))⟩)⟩):=rfl
@[simp,simp ↓] theorem qT:ACF fa fb Γ=vw (uQ fa Γ) (f:=⟨λp=>ifB p.1 (x:=⟨(some (.v (.a (.bl true)),p.2))⟩) (y:=⟨(fb p.2)⟩)⟩):=rfl
@[simp,simp ↓] theorem uF:zF fa Γ=vw (uQ fa Γ) (f:=⟨λp=>some (.v (.a (.bl !p.1)),p.2)⟩):=rfl
@[simp,simp ↓] theorem sU:yI ta fa fb Γ=vw (ta Γ) (f:=⟨λp=>ifB p.1 (x:=⟨(fa p.2)⟩) (y:=⟨(fb p.2)⟩)⟩):=rfl
@[simp,simp ↓] theorem uE{h:En->List T->List S->Option (T×List T)}:vb i h da Γ=ifB (ABG Γ i) (x:=⟨(vw (da Γ) (f:=⟨λp=>match zp p.2 i with
 | some (some (.l xs))=>vw (gd xs.length ()) (f:=⟨λ_=>xR (h p.2 xs p.1) (f:=⟨λq=>(.v q.1,p.2.set i (some (.l q.2)))⟩)⟩)
 | _=>none⟩))⟩) (y:=⟨none⟩):=rfl
@[simp,simp ↓] theorem qI:ABG Γ i=match zp Γ i with | some (some (.l _))=>true | _=>false:=rfl
@[simp,simp ↓] theorem qB:yH i fa fi Γ=vw (fa Γ) (f:=⟨λp=>vw p.1.tree (f:=⟨λt=>ifB (ABG p.2 i) (x:=⟨(vw (fi p.2) (f:=⟨λq=>vw (iS q.1) (f:=⟨λk=>match zp q.2 i with
  | some (some (.l xs))=>xR (ixN xs.length k) (f:=⟨λj=>.nx (q.2.set i (some (.l (xs.set j t))))⟩)
  | _=>none⟩)⟩))⟩) (y:=⟨none⟩)⟩)⟩):=rfl
@[simp,simp ↓] theorem iM:iS (.v (⇑n))=some n:=rfl
@[simp] theorem aB{c:Int->Int->Prop} [∀ i j,Decidable (c i j)] {g:Int->Int->V} {xs:List T} {b:S}:zI c g Γ (.l xs) b=none:=(rfl)
@[simp,simp ↓] theorem pq:ur Γ (.v (⇑m)) (.v (⇑n))= ~~~(⇑(m+n)):=rfl
@[simp] theorem tD:ur Γ (.v (.t xs)) (.v (.t ys))=gd (xs.length+ys.length) (.v (.t (xs++ys))):=by
 show ((none:Option S).or ((yc Γ (.v (.t xs)) (.v (.t ys))).or ((none:Option S).or none)))=_;simp[yc]
@[simp] theorem sP:ur Γ (.s m) b=xj Γ (.s m) b:=by
 show ((none:Option S).or ((none:Option S).or ((xj Γ (.s m) b).or none)))=_;simp
@[simp] theorem tX:ur Γ (.l xs) b=xj Γ (.l xs) b:=by
 show ((none:Option S).or ((none:Option S).or ((xj Γ (.l xs) b).or none)))=_;simp
@[simp,simp ↓] theorem tE:xj Γ a b=vw (yg Γ a) (f:=⟨λxs=>vw (yg Γ b) (f:=⟨λys=>gd (xs.length+ys.length) (.l (xs++ys))⟩)⟩):=rfl
@[simp,simp ↓] theorem rG:vW Γ (.v (⇑m)) (.v (⇑n))= ~~~(⇑(m - n)):=rfl
@[simp] theorem qf:vp Γ (.v (⇑m)) (.v (⇑n))=if vv m n then some (.v (⇑(m * n))) else none:=by
 show ((if vv m n then some _ else none).or (none:Option S))=_;simp
def aL{l n:Nat}(h:l * n<=100000)(h2:n<=100000):ADX l n=true:=by
 unfold ADX;rw[NH ⋯];exact FE (Aa h ∅)
def pB xs (n:Nat) (h:xs.length * n<=100000) (h2:n<=100000):vp Γ (.l xs) (.v (⇑n))=some (.l (Ad n xs).flatten):=by
 have e:vp Γ (.l xs) (.v (.a (.int n)))=zX Γ (.l xs) (.v (.a (.int n))):=by unfold vp;rw[aB,E6]
 rw[e];unfold zX;have e1:yg Γ (.l xs)=some xs:=rfl;rw[e1,Ar,iM,Ar,if_pos (aL h h2),C3]
@[simp] theorem tS:xV Γ (.v (⇑m)) (.v (⇑n))=if 0 < n then some (.v (⇑(m % n))) else none:=(rfl)
@[simp] theorem qM:xP Γ (.v (⇑m)) (.v (⇑n))=if yA m n then some (.v (⇑(m / n))) else none:=(rfl)
@[simp] theorem tR:ADS Γ (.v (⇑m)) (.v (⇑n))=if ABt m n then some (.v (⇑(m ^ n.toNat))) else none:=(rfl)
@[simp,simp ↓] theorem qt:ltS Γ (.v (⇑m)) (.v (⇑n))= ~~~(.a (.bl (decide (m < n)))):=rfl
@[simp,simp ↓] theorem p6:zo Γ (.v (⇑m)) (.v (⇑n))= ~~~(.a (.bl (decide (n < m)))):=rfl
@[simp,simp ↓] theorem uD:geS Γ (.v (⇑m)) (.v (⇑n))= ~~~(.a (.bl (decide (n<=m)))):=rfl
@[simp,simp ↓] theorem qO:yQ Γ (.v (⇑m))= ~~~(⇑(-m)):=rfl
@[simp,simp ↓] theorem rS:uW Γ (.v (.t xs)) (.v (⇑n))=xR (xn xs n) (f:=⟨.v⟩):=rfl
@[simp,simp ↓] theorem uH:uW Γ (.l xs) (.v (⇑n))=xR (xn xs n) (f:=⟨.v⟩):=rfl
@[simp,simp ↓] theorem qU:uW Γ (.s m) (.v (⇑n))=vw (ux Γ (.s m)) (f:=⟨λxs=>xR (xn xs n) (f:=⟨.v⟩)⟩):=rfl
@[simp,simp ↓] theorem pS:ux Γ (.s m)=match zp Γ m with
  | some (some (.l xs)) | some (some (.r xs)) | some (some (.k xs))=>some xs
  | _=>none:=rfl
@[simp,simp ↓] theorem gj:ux Γ (.l xs)=some xs:=rfl
@[simp,simp ↓] theorem rW:yg Γ (.l xs)=some xs:=rfl
@[simp,simp ↓] theorem t6:yg Γ (.s m)=match zp Γ m with
  | some (some (.l xs)) | some (some (.r xs))=>some xs
  | _=>none:=rfl
@[simp,simp ↓] theorem tu:vX Γ [.v (.t xs)]= ~~~(⇑xs.length):=rfl
@[simp,simp ↓] theorem qo:vX Γ [.s m]=xR (ux Γ (.s m)) (f:=⟨λxs=>.v (⇑xs.length)⟩):=rfl
@[simp,simp ↓] theorem rn:vC Γ [.l xs]= ~~~(.t xs):=rfl
@[simp,simp ↓] theorem tH:vC Γ [.s m]=xR (ux Γ (.s m)) (f:=⟨λxs=>.v (.t xs)⟩):=rfl
@[simp,simp ↓] theorem tU:vj Γ=some (none,Γ):=rfl
@[simp,simp ↓] theorem rC:wq fa Γ=vw (fa Γ) (f:=⟨λp=>xR (iS p.1) (f:=⟨λi=>(some i,p.2)⟩)⟩):=rfl
@[simp,simp ↓] theorem qz:dSl fa lo hi Γ=vw (fa Γ) (f:=⟨λp=>vw (lo p.2) (f:=⟨λl=>vw (hi l.2) (f:=⟨λh=>xR (slS h.2 l.1 h.1 p.1) (f:=⟨λs=>(s,h.2)⟩)⟩)⟩)⟩):=rfl
@[simp,simp ↓] theorem sF:slS Γ lo hi (.v (.t xs))= ~~~(.t (xB xs lo hi)):=rfl
@[simp,simp ↓] theorem sa:slS Γ lo hi (.s m)=xR (ux Γ (.s m)) (f:=⟨λxs=>.l (xB xs lo hi)⟩):=rfl
@[simp,simp ↓] theorem p9:vV Γ xs [.v t]=if xs.length < AD then some (.a .non,xs++[t]) else none:=rfl
@[simp,simp ↓] theorem rD:yV Γ xs []=xR (xs[xs.length - 1]?) (f:=⟨λt=>(t,xs.dropLast)⟩):=rfl
@[simp] theorem uB:yb Γ xs [.v (⇑n)]=if inR 9223372036854775807 n=true then vw (F1 n xs.length) (f:=⟨λk=>xR (xs[k]?) (f:=⟨λt=>(t,xs.eraseIdx k)⟩)⟩) else none:=rfl
@[simp,simp ↓] theorem uC:ABD Γ [.v (.a (.bl b))]= ~~~(⇑(if b then 1 else 0)):=rfl
@[simp,simp ↓] theorem pe:ya Γ [.v (⇑m),.v (⇑n)]= ~~~(⇑(if n > m then n else m)):=rfl
@[simp] theorem pU:yG fo da Γ=vw (fo Γ) (f:=⟨λp=>vw (da p.2) (f:=⟨λq=>match p.1,q.1 with
 | .v (.t xs),[.v (.a y)]=>vw (vU xs) (f:=⟨λvs=>if vI y=true/\vs.all vI=true then xR (vs.findIdx? λz=>yY z y) (f:=⟨λj=>(mkI (j:Nat),q.2)⟩) else none⟩)
 | _,_=>none⟩)⟩):=rfl
@[simp,simp ↓] theorem rR:mkI n=.v (⇑n):=rfl
@[simp,simp ↓] theorem tP:mkB b=.v (.a (.bl b)):=rfl
@[simp] theorem rB:wN da Γ=vw (da Γ) (f:=⟨λp=>xR (x9 p.1) (f:=⟨λxs=>(.l xs,p.2)⟩)⟩):=rfl
@[simp] theorem tO:wm da Γ=vw (da Γ) (f:=⟨λp=>xR (x9 p.1) (f:=⟨λxs=>(.v (.t xs),p.2)⟩)⟩):=rfl
def Ml(n:Nat)(h:n<=100000):x9 [.v (⇑n)]=some (ve 0 n):=by
 unfold x9;dsimp only;rw[NH ⋯,C3,HG,FE (Aa h ∅),if_pos rfl]
def fF(m n:Nat)(h1:m<=100000)(h:n<=100000):x9 [.v (⇑m),.v (⇑n)]=some (ve m (n - m)):=by
 unfold x9;dsimp only;have e:(n - (m:Int)).toNat=n - m:=by lia
 rw[NH ⋯,NH ⋯,e,HG,HG,FE (Aa (show n - m<=100000 by lia) ∅),if_pos rfl]
@[simp] theorem sR:xE da Γ=(da Γ).bind λp=>if p.1.length=1 then (x9 p.1).map λxs=>((xs,[]),p.2) else none:=by
 unfold xE;congr 1;funext p;obtain⟨as,G⟩:=p
 match as with
 | []=>rfl
 | [a] =>
  match a with
  | .v (.a (.int j))=>simp only[x9,Hd,if_true];split <;> rfl
  | .v (.a .non) | .v (.a (.bl _)) | .v (.a (.str _)) | .v (.a (.byt _)) | .v (.a (.flt _)) | .v (.a (.ref _)) | .v (.a (.ty _)) | .v (.t _) | .v (.l _) | .v (.f _) | .v (.x _ _) | .v (.m _ _) | .l _ | .s _ | .d _=>rfl
 | a::b::r =>
  have:¬ (a::b::r).length=1:=by simp
  rw[if_neg this];dsimp only;split
  ·rename_i h;simp at h
  ·rfl
@[simp,simp ↓] theorem qL:u9 fa Γ=vw (fa Γ) (f:=⟨λp=>vw (xX p.2 p.1) (f:=⟨λxs=>gd xs.length ((xs,yS p.2 p.1),p.2)⟩)⟩):=rfl
@[simp,simp ↓] theorem tw:xX Γ (.v (.t xs))=some xs:=rfl
@[simp,simp ↓] theorem tW:xX Γ (.l xs)=some xs:=rfl
@[simp,simp ↓] theorem pX:xX Γ (.s m)=ux Γ (.s m):=rfl
@[simp,simp ↓] theorem pQ:yS Γ (.v t)=[]:=rfl
@[simp,simp ↓] theorem si:yS Γ (.l t)=[]:=rfl
@[simp,simp ↓] theorem rp:yS Γ (.s m)=match zp Γ m with | some (some (.l _))=>[m] | _=>[]:=rfl
@[simp,simp ↓] theorem rK:vy Γ=some (true,Γ):=rfl
@[simp,simp ↓] theorem qr:wc fa Γ=vw (fa Γ) (f:=⟨λp=>xR (ACG p.2 p.1) (f:=⟨λb=>(b,p.2)⟩)⟩):=rfl
@[simp,simp ↓] theorem sj:ACG Γ (.v (.a (.bl b)))=some b:=rfl
@[simp,simp ↓] theorem qC:ACG Γ (.s m)=xR (ux Γ (.s m)) (f:=⟨λxs=>!xs.isEmpty⟩):=rfl
@[simp] theorem tm:AAS i j da Γ=vw (da Γ) (f:=⟨λp=>match p.1 with
  | [.v a,.v b]=>some (.nx ((p.2.set i (some (.v a))).set j (some (.v b))))
  | _=>none⟩):=rfl
@[simp] theorem sM:AAZ i j k da Γ=vw (da Γ) (f:=⟨λp=>match p.1 with
  | [.v a,.v b,.v c]=>some (.nx (((p.2.set i (some (.v a))).set j (some (.v b))).set k (some (.v c))))
  | _=>none⟩):=rfl
@[simp,simp ↓] theorem VI:uP i Γ t=some (Γ.set i (~~~t)):=rfl
@[simp,simp ↓] theorem rQ:xc Γ []=some Γ:=rfl
@[simp,simp ↓] theorem rP:vK p q Γ (t::r)=vw (p Γ t) (f:=⟨λΓ1=>q Γ1 r⟩):=rfl
@[simp,simp ↓] theorem pZ:xG i q Γ (.t ts)=ifN ts.length i (q Γ ts) none:=rfl
@[simp,simp ↓] theorem sH:uL ip F [] da Γ=vw (da Γ) (f:=⟨λp=>ifB (xx ip p.1) (x:=⟨(vw (vt ip p.2 0 (apE p.1)) (f:=⟨λgs=>xR (F gs) (f:=⟨λq=>(toS q.1,x4 ip p.2 p.1 q.2)⟩)⟩))⟩) (y:=⟨none⟩)⟩):=rfl
@[simp,simp ↓] theorem rE:vt ip Γ k []=some []:=rfl
@[simp high,simp ↓ high] theorem rb:vt ip Γ 0 (s::r)=vw (vx ip Γ 0 s) (f:=⟨λg=>xR (vt ip Γ 1 r) (f:=⟨λgs=>g::gs⟩)⟩):=rfl
@[simp high,simp ↓ high] theorem rT:vt ip Γ 1 (s::r)=vw (vx ip Γ 1 s) (f:=⟨λg=>xR (vt ip Γ 2 r) (f:=⟨λgs=>g::gs⟩)⟩):=rfl
@[simp high,simp ↓ high] theorem pk:vt ip Γ 2 (s::r)=vw (vx ip Γ 2 s) (f:=⟨λg=>xR (vt ip Γ 3 r) (f:=⟨λgs=>g::gs⟩)⟩):=rfl
@[simp high,simp ↓ high] theorem rZ:vt ip Γ 3 (s::r)=vw (vx ip Γ 3 s) (f:=⟨λg=>xR (vt ip Γ 4 r) (f:=⟨λgs=>g::gs⟩)⟩):=rfl
@[simp,simp ↓] theorem qx:vx ip Γ k (.v t)= ~~~t:=rfl
@[simp,simp ↓] theorem su:vx ip Γ k (.l xs)=some (ifO ip k (.l xs) (.r xs)):=rfl
@[simp,simp ↓] theorem qA:vx ip Γ k (.s m)=match zp Γ m with
  | some (some (.l xs))=>some (ifO ip k (.l xs) (.r xs))
  | some (some (.r xs))=>ifO ip k none (some (.r xs))
  | some (some (.k xs))=>ifO ip k none (some (.k xs))
  | some (some (.d xs)) | some (some (.e xs))=>ifO ip k none (some (.e xs))
  | _=>none:=rfl
@[simp,simp ↓] theorem rM:vx ip Γ k (.d xs)=if ip=some k then none else some (.e xs):=rfl
@[simp,simp ↓] theorem uA:ABC i (.d xs) Γ=some (Γ.set i (some (.d xs))):=rfl
@[simp,simp ↓] theorem qJ:xx none ss=true:=rfl
@[simp high,simp ↓ high] theorem qN:(LW ([]:List S) λs=>!ABd i s)=true:=rfl
@[simp high,simp ↓ high] theorem tY:(LW (.v t::r) λs=>!ABd i s)=r.all λs=>!ABd i s:=rfl
@[simp,simp ↓] theorem qy:xx (some k) ss=match zp ss k with
  | some (.s i)=>(ss.eraseIdx k).all λs=>!ABd i s
  | some (.l _)=>(ss.eraseIdx k).all λs=>!ABL s
  | _=>false:=rfl
@[simp,simp ↓] theorem qg:x4 none Γ ss ys=Γ:=rfl
@[simp,simp ↓] theorem pY:x4 (some k) Γ ss ys=match zp ss k with | some (.s i)=>Γ.set i (some (.l ys)) | _=>Γ:=rfl
@[simp,simp ↓] theorem sf:toS (.v t)=.v t:=rfl
@[simp,simp ↓] theorem rq:toS (.l t)=.l t:=rfl
@[simp,simp ↓] theorem t8:ABo none Γ=[]:=rfl
@[simp,simp ↓] theorem sx:ABo (some k) Γ=match zp Γ k with | some (some (.l xs))=>xs | _=>[]:=rfl
@[simp,simp ↓] theorem qK:ABl ip Γ (.v t)= ~~~t:=rfl
@[simp,simp ↓] theorem rA:ABl ip Γ (.l t)=some (.l t):=rfl
@[simp,simp ↓] theorem sN:ABl ip Γ (.s i)=if ip=some i then none else match zp Γ i with | some (some (.l xs))=>some (.l xs) | some (some (.d xs))=>some (.d xs) | _=>none:=rfl
@[simp,simp ↓] theorem ql:ACI Γ [.l xs]=xR (xQ xs) (f:=⟨λbs=>.v (.a (.bl (bs.all id)))⟩):=rfl
end
def OZ(h:-(2 ^ 64) < m/\m < 2 ^ 64):vv m n:=.inl h
def MW{n:Nat}:xn xs n=xs[n]?:=by
 unfold xn ixN;rw[if_pos (Int.natCast_nonneg n)];by_cases h:n < xs.length
 ·simp_all
 ·simp_all
@[simp] theorem qu{α:Type}{xs:List α}:xn xs 0=xs[0]?:=MW (n:=0)
@[simp] theorem qE{α:Type}{xs:List α}:xn xs 1=xs[1]?:=MW (n:=1)
@[simp] theorem qe{α:Type}{xs:List α}:xn xs 2=xs[2]?:=MW (n:=2)
@[simp] theorem qH{α:Type}{xs:List α}:xn xs 3=xs[3]?:=MW (n:=3)
def Ui(h:xs≠[]):xn xs (-1)=xs[xs.length - 1]?:=by
 have:=FZ.mpr h;unfold xn ixN;rw[if_neg ⋯,if_pos ⋯];show xs[(-1+(xs.length:Int)).toNat]?=_;congr 1;lia
def T8(h:j < n):ixN n j=some j:=by
 unfold ixN;rw[if_pos ⋯,if_pos ⋯];simp
def Lm(h:n<=100000):n<=AD:=Aa h ∅
def Qe(h:n<=100000):n < AD:=EK h ∅
@[simp] noncomputable abbrev iT (n:Int):T:=.a (.int n)
@[simp] noncomputable abbrev bT (b:Bool):T:=.a (.bl b)
def Uq ns {i} (h0:0<=i) (h1:i < ns.length):∃ z,xn (xK ns) i=some (iT z):=by
 obtain⟨j,rfl⟩:∃ j:Nat,i=j:=⟨i.toNat,by lia⟩
 exact⟨ns[j]'⋯,by rw[MW,xK,Ag,BD ⋯];rfl⟩
theorem Mn:vH c b (n+1) Γ=(c Γ).bind λp=>if p.1=true then (b p.2).bind λo=>match o with
   | .nx Γ' | .ct Γ'=>vH c b n Γ'
   | .bk Γ'=>some (.nx Γ')
   | .rt s Γ'=>some (.rt s Γ')
  else some (.nx p.2):=(rfl)
def Mo:vm tg b [] Γ=some (.nx Γ):=(rfl)
theorem N9:vm tg b (t::r) Γ=(tg Γ t).bind λΓ1=>(b Γ1).bind λo=>match o with
  | .nx Γ' | .ct Γ'=>vm tg b r Γ'
  | .bk Γ'=>some (.nx Γ')
  | .rt s Γ'=>some (.rt s Γ'):=(rfl)
def MG:vg tg dc de [] Γ=some ([],Γ):=(rfl)
def L7:vg tg dc de (t::r) Γ=(tg Γ t).bind λΓ1=>(dc Γ1).bind λp=>if p.1=true then (de p.2).bind λq=>q.1.tree.bind λt'=>(vg tg dc de r q.2).map λz=>(t'::z.1,z.2) else vg tg dc de r p.2:=(rfl)
@[simp,simp ↓] theorem tj:u7 none ix di tg dc de Γ=vw (di Γ) (f:=⟨λp=>xR (vg tg dc de p.1.1 (xH none ix p.2)) (f:=⟨λz=>(.l z.1,p.2)⟩)⟩):=rfl
@[simp,simp ↓] theorem tG:u7 (some (j,i)) ix di tg dc de Γ=vw (di Γ) (f:=⟨λp=>ifM i p.1.2 none (match zp p.2 i with
  | some (some (.l _))=>xR (vg tg dc de p.1.1 (xH (some i) ix p.2)) (f:=⟨λz=>(.l z.1,AAG (some (j,i)) p.2 z.2)⟩)
  | _=>none)⟩):=rfl
@[simp,simp ↓] theorem s9:xY ip di tg b Γ=vw (di Γ) (f:=⟨λp=>ifB (p.1.2.all λi=>decide (ip≠some i)) (x:=⟨(vm tg b p.1.1 (frz p.2 p.1.2))⟩) (y:=⟨none⟩)⟩):=rfl
@[simp,simp ↓] theorem pg:frz Γ []=Γ:=rfl
@[simp,simp ↓] theorem rL:frz Γ (i::r)=frz (AAv Γ i) r:=rfl
@[simp,simp ↓] theorem pV:xH mu [] Γ=[]:=rfl
@[simp,simp ↓] theorem tB:xH mu (none::ix) Γ=none::xH mu ix Γ:=rfl
@[simp,simp ↓] theorem qm:xH mu (some k::ix) Γ=wZ mu k (zp Γ k).join::xH mu ix Γ:=rfl
@[simp,simp ↓] theorem sv:wZ mu k (~~~t)= ~~~t:=rfl
@[simp,simp ↓] theorem qw:wZ mu k (some (.d t))=some (.e t):=rfl
@[simp,simp ↓] theorem sI:wZ mu k (some (.l t))=ifO mu k (some (.l t)) (some (.r t)):=rfl
@[simp,simp ↓] theorem sh:AAG (some (j,i)) Γ Γo=match zp Γo j with | some (some (.l xs))=>Γ.set i (some (.l xs)) | _=>Γ:=rfl
theorem MC{α:Type} f g:∀ (is:List α),(∀ i∈is,de (some (.v (f i))::R)=some (.v (g i),some (.v (f i))::R))->∀ o,∃ o',vg (uP 0) vy de (is.map f) (o::R)=some (is.map g,o'::R)
 | [],_,o=>⟨o,rfl⟩
 | i::r,h,o=>by
  obtain⟨o',e⟩:=MC f g r (λj hj=>h j (AH _ hj)) (some (.v (f i)));refine⟨o',?_⟩;rw[AO,L7];simp[h i AG,e]
theorem QK{α:Type}(f g:α->T)(c:α->Bool):∀ (is:List α),(∀ i∈is,dc (some (.v (f i))::R)=some (c i,some (.v (f i))::R))->(∀ i∈is,c i=true->de (some (.v (f i))::R)=some (.v (g i),some (.v (f i))::R))->∀ o,∃ o',vg (uP 0) dc de (is.map f) (o::R)=some ((is.filter c).map g,o'::R)
 | [],_,_,o=>⟨o,rfl⟩
 | i::r,h,h2,o=>by
  obtain⟨o',e⟩:=QK f g c r (λj hj=>h j (AH _ hj)) (λj hj=>h2 j (AH _ hj)) (some (.v (f i)));refine⟨o',?_⟩;rw[AO,L7];cases hc:c i with
  | true=>simp[h i AG,h2 i AG hc,hc,e]
  | false=>simp[h i AG,hc,e]
theorem SK{α:Type}(f1 f2 g:α->T):∀ (is:List α),(∀ i∈is,de (some (.v (f1 i))::some (.v (f2 i))::R)=some (.v (g i),some (.v (f1 i))::some (.v (f2 i))::R))->∀ o1 o2,∃ o1' o2',vg (xG 2 (vK (uP 0) (vK (uP 1) xc))) vy de (is.map λi=>.t [f1 i,f2 i]) (o1::o2::R)=some (is.map g,o1'::o2'::R)
 | [],_,o1,o2=>⟨o1,o2,rfl⟩
 | i::r,h,o1,o2=>by
  obtain⟨o1',o2',e⟩:=SK f1 f2 g r (λj hj=>h j (AH _ hj)) (some (.v (f1 i))) (some (.v (f2 i)));refine⟨o1',o2',?_⟩;rw[AO,L7];simp[h i AG,e]
@[simp] theorem uI:xQ (Ad n (.a (.bl b)))=some (Ad n b):=by
 induction n with
 | zero=>rfl
 | succ n ih=>rw[DV,DV];simp only[xQ];rw[ih];rfl
def SW{n m:Nat}(h:n < m):F1 n m=some n:=(Q4 (T8 h)).1
def Oe:Bi (.int n)=true:=rfl
@[simp] theorem qa:v5 Γ (.v (⇑m)) (.v (⇑n))= ~~~(.a (.bl (decide (m=n)))):=by
 show ((some (mkB (decide (V.int m=V.int n)))).or _)=_;simp
@[simp] theorem sG:zE Γ (.v (⇑m)) (.v (⇑n))= ~~~(.a (.bl (!decide (m=n)))):=by
 show ((some (mkB (!decide (V.int m=V.int n)))).or _)=_;simp
@[simp] theorem sA:v5 Γ (.v (.a (.str m))) (.v (.a (.str n)))= ~~~(.a (.bl (decide (m=n)))):=by
 show ((some (mkB (decide (V.str m=V.str n)))).or _)=_;simp
@[simp] theorem tq:v5 Γ (.v (.a (.bl m))) (.v (.a (.bl n)))= ~~~(.a (.bl (decide (m=n)))):=by
 show ((some (mkB (decide (V.bl m=V.bl n)))).or _)=_;simp
@[simp] theorem qP:zE Γ (.v (.a (.bl m))) (.v (.a (.bl n)))= ~~~(.a (.bl (!decide (m=n)))):=by
 show ((some (mkB (!decide (V.bl m=V.bl n)))).or _)=_;simp
@[simp] noncomputable abbrev wa (t:List Nat):List T:=t.map λ(k:Nat)=>iT (k:Int)
@[simp] noncomputable abbrev uR (t:List Nat):T:=.t (wa t)
structure IsT(n:Nat)(t:List Nat):Prop where
 len:t.length=n
 lt:∀ k∈t,k < n
 nd:t.Nodup
def IsT.get(h:IsT n t)(hi:i < n):∃ k,t[i]?=some k/\k < n:=by
 have hl:=h.len;refine⟨t[i]'⋯,by simp,h.lt _ (GB _)⟩
theorem cH:∀ n (t:List Nat),t.length=n->(∀ k∈t,k < n)->t.Nodup->∀ i,i < n->i∈t:=by
 intro n;induction n with
 | zero=>intro t _ _ _ i hi;lia
 | succ n ih =>
  intro t hl hlt hnd i hi;by_cases hn:n∈t
  ·have h1:(t.erase n).length=n:=by rw[HH hn];lia
   have h2:∀ k∈t.erase n,k < n:=λk hk=>by
    have:=hlt k (Hg hk);have hne:k≠n:=λe=>by subst e;exact (LX hnd) hk
    lia
   by_cases e:i=n
   ·subst e;exact hn
   ·exact Hg (ih (t.erase n) h1 h2 (hnd.erase n) i ⋯)
  ·exfalso;have h2:∀ k∈t,k < n:=λk hk=>by
    have:=hlt k hk;have hne:k≠n:=λe=>by subst e;exact hn hk
    lia
   cases t with
   | nil=>simp at hl
   | cons x r =>
    exact (BG.mp hnd).1 (ih r (by simpa using hl) (λk hk=>h2 k (AH _ hk)) (BG.mp hnd).2 x (h2 x AG))
def IsT.mem(h:IsT n t)(hi:i < n):i∈t:=cH n t h.len h.lt h.nd i hi
theorem WD{α β:Type}{f:α->β}{l:List α}(h:∀ x∈l,∀ y∈l,f x=f y->x=y)(nd:l.Nodup):(l.map f).Nodup:=by
 induction l with
 | nil=>exact FJ
 | cons a r ih =>
  obtain⟨h1,h2⟩:=BG.mp nd;refine BG.mpr ⟨λhm=>?_,ih (λx hx y hy=>h x (AH _ hx) y (AH _ hy)) h2⟩;obtain⟨y,hy,e⟩:=Am.mp hm;have:=h y (AH _ hy) a AG e;subst this;exact h1 hy
noncomputable def uV (a b:List Nat):List Nat:=a.map λk=>b.getD k 0
noncomputable def uZ (t:List Nat):List Nat:=(AE t.length).map λi=>t.idxOf i
def Qz(h:IsT n t)(e:t[i]?=some k):t.idxOf k=i:=by
 obtain⟨hi,e'⟩:=Af.mp e;rw[← e'];exact h.nd.idxOf_getElem i hi
def Mw{i k m:Nat}(h1:a[i]?=some k)(h2:b[k]?=some m):(uV a b)[i]?=some m:=by simp[uV,h1,h2]
def T4(h:i < t.length):(uZ t)[i]?=some (t.idxOf i):=by simp[uZ,h]
def Lu(ha:IsT n a)(hb:IsT n b):IsT n (uV a b):=by
 refine⟨by simp[uV,ha.len],λk hk=>?_,?_⟩
 ·obtain⟨x,hx,rfl⟩:=Am.mp hk;obtain⟨m,hm,hmn⟩:=hb.get (ha.lt x hx);simpa [hm] using hmn
 ·refine WD ?_ ha.nd;intro x hx y hy e;obtain⟨m,hm,_⟩:=hb.get (ha.lt x hx);obtain⟨m',hm',_⟩:=hb.get (ha.lt y hy);simp[hm,hm']at e;subst e;exact (Qz hb hm).symm.trans (Qz hb hm')
def My(h:IsT n t):IsT n (uZ t):=by
 refine⟨by simp[uZ,h.len],λk hk=>?_,?_⟩
 ·obtain⟨x,hx,rfl⟩:=Am.mp hk;have hx':x < n:=by rw[← h.len];simpa using hx
  have:=CW.mpr (h.mem hx');rw[h.len]at this;exact this
 ·refine WD ?_ DP;intro x hx y hy e;have hx':=h.mem (by rw[← h.len];simpa using hx);have hy':=h.mem (by rw[← h.len];simpa using hy);rw[← (IE (CW.mpr hx')),← (IE (CW.mpr hy'))];congr 1
def RG(h:t.Perm (AE n)):IsT n t:=
 ⟨by rw[h.length_eq];simp,λk hk=>by simpa using h.mem_iff.mp hk,h.nodup_iff.mpr DP⟩
def MI n:IsT n (AE n):=⟨by simp,λk hk=>by simpa using hk,DP⟩
def NZ n:ve 0 n=wa (AE n):=by simp[ve]
def UX(hk:ls[k]?=some z):((fs++[z])++ls.eraseIdx k).Perm (fs++ls):=by
 rw[CT];refine Li fs ?_;obtain⟨hk1,hk2⟩:=Af.mp hk;rw[Do];have e:ls=ls.take k++z::ls.drop (k+1):=by
  rw[← hk2,List.getElem_cons_drop,List.take_append_drop]
 conv=>rhs;rw[e]
 show (z::(ls.take k++ls.drop (k+1))).Perm _;exact List.perm_middle.symm
def XS{α β:Type}(f:α->β)(t:List α) k:(t.map f).eraseIdx k=(t.eraseIdx k).map f:=by
 rw[Do,Do];simp
theorem Ph:∀ t,vU (wa t)=some (t.map λ(k:Nat)=>V.int k)
 | []=>rfl
 | k::r=>by simp only[ AO,vU];rw[show vU (r.map λ(k:Nat)=>iT k)=_ from Ph r];rfl
def Vx(t:List Nat):(t.map λ(k:Nat)=>V.int k).all vI=true:=by simp[vI]
def Sl{t:List Nat}{i}(h:i∈t):((t.map λ(k:Nat)=>V.int k).findIdx? λz=>yY z (V.int i))=some (t.idxOf i):=by
 have hlt:=CW.mpr h;refine Fv.mpr ⟨by simpa using hlt,?_,λj hj=>?_⟩
 ·simp[yY]
 ·have hne:t[j]'⋯≠i:=λe=>by
   have:=List.not_of_lt_findIdx hj;simp[e]at this
  simp[ yY];simpa using λe=>hne (by exact_mod_cast e)
def mS xs (n:Nat):xB xs none (some n)=xs.take n:=by
 unfold xB;rw[HT.sIx_none,HT.sIx_nat,JK,He];by_cases h:n<=xs.length
 ·rw[JL h]
 ·simp_all
def W4 xs (n:Nat):xB xs (some n) none=xs.drop n:=by
 unfold xB;rw[HT.sIx_none,HT.sIx_nat];by_cases h:n<=xs.length
 ·rw[JL h,Ep ↥1]
 ·rw[Nat.min_eq_right ⋯,Nat.sub_self,List.take_zero,List.drop_eq_nil_of_le ⋯]
def NI{i k:Nat}(h:t[i]?=some k):xn (wa t) i=some (iT k):=by
 rw[MW];simp[h]
abbrev wF:=Nat×List Nat×List Nat
@[simp] noncomputable abbrev uk (s:wF):T:=.t [iT (s.1:Int),uR s.2.1,uR s.2.2]
def vA (n qs:Nat) (st:List wF):Prop:=∀ s∈st,s.1 < qs/\IsT n s.2.1/\IsT n s.2.2
structure vE(qs:Nat)(as:List Nat):Prop where
 len:as.length=qs
 lt:∀ x∈as,x < 2
noncomputable def ug (as:List Nat) (s:wF):List Nat:=if as.getD s.1 0=1 then s.2.1 else s.2.2
def Mf(h:s.1 < qs/\IsT n s.2.1/\IsT n s.2.2):IsT n (ug as s):=by
 unfold ug;split
 ·exact h.2.1
 ·exact h.2.2
noncomputable def AEV (as:List Nat):List Nat->List wF->List (List Nat)
 | _,[]=>[]
 | c,s::r=>uV c (ug as s)::AEV as (uV c (ug as s)) r
noncomputable def uY (as:List Nat):List Nat->List wF->List Nat
 | c,[]=>c
 | c,s::r=>uY as (uV c (ug as s)) r
theorem NL:∀ {c:List Nat} {st:List wF},IsT n c->vA n qs st->IsT n (uY as c st)
 | _,[],hc,_=>hc
 | c,s::r,hc,hs=>NL (c:=uV c (ug as s)) (st:=r) (Lu hc (Mf (as:=as) (hs s AG))) λx hx=>hs x (AH _ hx)
def Qa(h:vE qs as)(hq:q < qs):as[q]?=some (as.getD q 0):=by
 have:=h.len;simp_all
@[simp] noncomputable abbrev prT (p:T×T):T:=.t [p.1,p.2]
noncomputable def vf (t:List Nat):List CP:=t.map λ(k:Nat)=>DZ (k:Int)
theorem ND:∀ t,we (wa t)=some (vf t)
 | []=>by simp[we,vf]
 | k::r=>by
  have:=ND r;simp at this ⊢;rw[we,this];simp[toD,ADN,vf]
theorem OK:∀ t:List Nat,Ax (vf t)=true
 | []=>by simp[vf,Ax]
 | k::r=>by
  have:=OK r;simp only[vf,AO]at this ⊢;simp[Ax,Bi,this]
theorem N0:∀ t,Bk (vf t)=0
 | []=>by simp[vf,Bk]
 | k::r=>by
  have:=N0 r;simp[vf]at this ⊢;simp[Bk,CM,this]
end D
namespace L2
open PySem PySem.Spec PyProof.Rows
section
variable {X:Cx}{pins:List (Addr×Obj)}{s:Ab}{σ:St}{H:Hp}{p:Addr}{vs:List V}
def Ws(hc:X.calm=true)(I:Inv X pins σ H s)(hq:vz X.K H p vs\/wo X.K H p vs)
  (h:∀ its o St,uU vs its->Walks X.prog X.w X.A.in1 s.heap.objs.size [s.heap.objs.size,p] [s.heap.objs.size] its.length (λi v=>its[i]?=some v) St ->
   St 0 (s.heap.push o)->p < s.heap.objs.size->Q (.ref s.heap.objs.size) { s with heap:=s.heap.push o }):AW (model X.prog X.w) X.A.in1 (GL (.ref p)) Q E s:=by
 rcases hq with hq | hq
 ·obtain⟨its,rv,pl,hz⟩:=I.list hq;have hl:=pl.isList;have hlt:p < s.heap.objs.size:=by obtain⟨_,e,_⟩:=hl;exact AJ e
  refine Gh hl ?_;have W:=J9 (prog:=X.prog) (w:=X.w) (A:=X.A.in1) (I.ok.hd hc) s.heap.objs.size p (AZ hlt) its.toArray;have W':=by simpa using W
  exact h its _ _ rv W' ⟨⟨_,AN _ rfl,rfl,rfl⟩,hl.push _⟩ hlt
 ·obtain⟨its,rv,hl,hz⟩:=I.tuple hq;have hlt:p < s.heap.objs.size:=by obtain⟨_,e,_⟩:=hl;exact AJ e
  have hl':s.heap.IsTuple p its.toArray:=by obtain⟨o,e,c,n,d⟩:=hl;exact⟨o,e,c,n,d⟩
  refine Cy hl' ?_;have W:=Walks.tuple (prog:=X.prog) (w:=X.w) (A:=X.A.in1) (I.ok.hd hc) s.heap.objs.size p (AZ hlt) its.toArray;have W':=by simpa using W
  exact h its _ _ rv W' ⟨⟨_,AN _ rfl,rfl,rfl⟩,hl'.push _⟩ hlt
theorem QE{ns:List Int}:∀ {its},uU (ns.map V.int) its->∀ (i:Nat) v,its[i]?=some v->∃ t,v=.int (ns.getD i 0) t:=by
 induction ns with
 | nil=>intro its h;cases h;intro i v e;simp at e
 | cons n r ih =>
  intro its h;cases h with
  | cons h1 h2 =>
   intro i v e;obtain⟨t,rfl⟩:=h1;cases i with
   | zero=>simp at e;exact⟨t,e.symm⟩
   | succ i=>simpa using ih h2 i v ‹_›
def pF(hc:X.calm=true):vF X (.builtin "sum") (λxs H Q=>∃ (p:Addr) (ns:List Int),xs=[.ref p]/\(vz X.K H p (ns.map V.int)\/wo X.K H p (ns.map V.int))/\Q (.int ns.sum) H):=by
 intro pins s σ H xs us Q I r h;obtain⟨p,ns,rfl,hq,q⟩:=h;obtain⟨u,rfl,rfl⟩:=vals1 r;refine call_sum_walkG (Ws hc I hq λits o St rv W st0 hlt=>⟨_,_,_,_,_,_,λi=>ns.getD i 0,rfl,W,st0,λb hb=>?_,QE rv,λh' tk t' hk=>?_⟩)
 ·rw[BW];simp at hb;rcases hb with rfl | rfl
  ·exact Cg _
  ·exact Dm hlt
 ·rw[preSum_getD,Ep (by rw[← rv.length];simp)];exact⟨.int ns.sum,H,I.kept (HR hk),⟨_,rfl⟩,q⟩
def ACR:List Int->Int
 | []=>0
 | x::r=>r.foldl (λa b=>if b < a then b else a) x
theorem W7:∀ r (x:Int),(r.foldl (λa b=>if b < a then b else a) x∈x::r)/\∀ y∈x::r,r.foldl (λa b=>if b < a then b else a) x<=y
 | [],x=>by simp
 | z::r,x=>by
  obtain⟨h1,h2⟩:=W7 r (if z < x then z else x);rw[GR];refine⟨?_,λy hy=>?_⟩
  ·rcases AR.mp h1 with e | e
   ·rw[e];split <;> simp
   ·simp[e]
  ·have h0:=h2 _ AG;rcases AR.mp hy with e | e
   ·lia
   ·rcases AR.mp e with e | e
    ·lia
    ·exact h2 y (AH _ e)
theorem XJ(val:Nat->Int):∀ k,Jn (λi j=>decide (val i < val j)) k<=k/\∀ j,j<=k->val (Jn (λi j=>decide (val i < val j)) k)<=val j
 | 0=>⟨AL _,λj hj=>by rw[Nat.le_zero.mp hj];exact Km _⟩
 | k+1=>by
  obtain⟨h1,h2⟩:=XJ val k;unfold Jn;split
  ·rename_i h;simp at h;refine⟨AL _,λj hj=>?_⟩;by_cases e:j=k+1
   ·rw[e];exact Km _
   ·have:=h2 j ⋯;lia
  ·rename_i h;simp at h;refine⟨by lia,λj hj=>?_⟩;by_cases e:j=k+1
   ·rw[e];exact h
   ·exact h2 j ⋯
def iq{ns:List Int}{i}(h:i < ns.length):ns.getD i 0∈ns:=by simp_all
def Xg{ns:List Int}{a}(h:a∈ns):∃ i,i < ns.length/\ns.getD i 0=a:=by
 obtain⟨i,hi,e⟩:=Fc h;exact⟨i,hi,by rw[Ak,BD hi,e];rfl⟩
def jK(hc:X.calm=true):vF X (.builtin "min") (λxs H Q=>∃ (p:Addr) (ns:List Int),xs=[.ref p]/\(vz X.K H p (ns.map V.int)\/wo X.K H p (ns.map V.int))/\0 < ns.length/\Q (.int (ACR ns)) H):=by
 intro pins s σ H xs us Q I r h;obtain⟨p,ns,rfl,hq,h0,q⟩:=h;obtain⟨u,rfl,rfl⟩:=vals1 r;refine call_min_walk (Ws hc I hq λits o St rv W st0 hlt=>?_);have hl:=rv.length;rw[AV]at hl;refine⟨_,_,_,_,_,_,_,rfl,W,st0,λb hb=>?_,by lia,CmpOf.ints_lt (λi=>ns.getD i 0) (QE rv),λv h' tk hv hk=>?_⟩
 ·rw[BW];simp at hb;rcases hb with rfl | rfl
  ·exact Cg _
  ·exact Dm hlt
 ·obtain⟨t,rfl⟩:=QE rv _ _ hv;obtain⟨b1,b2⟩:=XJ (λi=>ns.getD i 0) (its.length - 1);refine⟨.int (ACR ns),H,I.kept (HR hk),?_,q⟩;have e:ns.getD (Jn (λi j=>decide (ns.getD i 0 < ns.getD j 0)) (its.length - 1)) 0=ACR ns:=by
   cases ns with
   | nil=>simp at h0
   | cons x r =>
    obtain⟨m1,m2⟩:=W7 r x;obtain⟨j,hj,ej⟩:=Xg m1;have a2:=b2 j ⋯;rw[ej]at a2;exact Int.le_antisymm a2 (m2 _ (iq ⋯))
  exact⟨t,by rw[e]⟩
end
end L2
namespace D
open PySem L2
noncomputable def ABw:En->List S->Option S:=λΓ as=>match as with
 | [a]=>(xX Γ a).bind λxs=>(vq xs).map λns=>.v (.a (.int ns.sum))
 | _=>none
noncomputable def AAX:En->List S->Option S:=λΓ as=>match as with
 | [a]=>(xX Γ a).bind λxs=>(vq xs).bind λns=>if 0 < ns.length then some (.v (.a (.int (ACR ns)))) else none
 | _=>none
def W2(R:ui K C w Γ σ H)(o:vJ K C w σ H x s)(e:xX Γ s=some xs)(e2:vq xs=some ns) :
  ∃ p,x=.ref p/\(vz K H p (ns.map V.int)\/wo K H p (ns.map V.int)):=by
 obtain⟨p,us,rfl,h1,i1⟩:=Pb R o e;have hu:=by rw[Ou e2]at i1;exact i1.of_atoms
 simp_all
def jH:wk K (λxs H Q=>∃ (p:Addr) (ns:List Int),xs=[.ref p]/\(vz K H p (ns.map V.int)\/wo K H p (ns.map V.int))/\Q (.int ns.sum) H) ABw:=by
 intro C w Γ σ H vs as s Q R o e k;unfold ABw at e;split at e
 ·obtain⟨xs,e1,e⟩:=uJ e;obtain⟨ns,e2,rfl⟩:=map_some e;obtain⟨v,rfl,o1⟩:=vN o;obtain⟨p,rfl,h⟩:=W2 R o1 e1 e2;exact⟨p,ns,rfl,h,k _ H R .refl vJ.atom trivial⟩
 ·cases e
def kM:wk K (λxs H Q=>∃ (p:Addr) (ns:List Int),xs=[.ref p]/\(vz K H p (ns.map V.int)\/wo K H p (ns.map V.int))/\0 < ns.length/\Q (.int (ACR ns)) H) AAX:=by
 intro C w Γ σ H vs as s Q R o e k;unfold AAX at e;split at e
 ·obtain⟨xs,e1,e⟩:=uJ e;obtain⟨ns,e2,e⟩:=uJ e;split at e
  ·cases e;obtain⟨v,rfl,o1⟩:=vN o;obtain⟨p,rfl,h⟩:=W2 R o1 e1 e2;exact⟨p,ns,rfl,h,by assumption,k _ H R .refl vJ.atom trivial⟩
  ·cases e
 ·cases e
section
variable {ι:Type}{K:Fg}{X:ι->Cx}{mg:Str->Option AK}{k:Nat}
def mX(M:Fm K mg k X):x5 K X (.builtin "sum") ABw:=⟨_,λj=>by have:=pF (M.calm j);rw[M.K j]at this;exact this,jH⟩
def dM(M:Fm K mg k X):x5 K X (.builtin "min") AAX:=⟨_,λj=>by have:=jK (M.calm j);rw[M.K j]at this;exact this,kM⟩
end
section
variable {Γ:En}
@[simp] theorem sZ:ABw Γ [a]=vw (xX Γ a) (f:=⟨λxs=>xR (vq xs) (f:=⟨λns=>.v (⇑ns.sum)⟩)⟩):=rfl
end
noncomputable def dK (t:T):DE:=λΓ=>some (.v t,Γ)
def KV (K:Fg) (mg:Str->Option AK) (x:Str) (t:T):Prop:=∃ v u,mg x=some u/\RelV v u/\∀ H,Im K H v t
section
variable {ι:Type}{K:Fg}{X:ι->Cx}{mg:Str->Option AK}{k:Nat}{pos:Pos}{x:Str}{t:T}
def mE(h:∀ H,Im K H v t):uj K (tC v) (dK t):=by
 intro C w Γ σ H s Γ' Q R e k;cases e;exact k v H R .refl (h H) trivial
def ADk t (M:Fm K mg k X) (c:KV K mg x t) (hg:∀ j,Gl (X j) x:=by intro _;rfl) (hd:(x == ("__debug__":Str))=false:=by decide):EX K X (.Name x pos) (dK t):=
 let ⟨v,u,h1,h2,h3⟩:=c
 ⟨tC v,λj=>Pt (hg j) (by rw[M.mg];exact h1) h2 hd,mE h3⟩
end
def RU(ns:List Int)(h1:mg x=some (.ref p))(h2:K.lookup p=some ⟨.type "tuple",none,.seq its.toArray n,sl⟩)(h3:uU (ns.map V.int) its)(h4:its.length<=AD)(h5:cOk (ns.map V.int)=true:=by rfl):KV K mg x (.t ((ns.map V.int).map T.a)):=
 ⟨.ref p,.ref p,h1,rfl,λH=>by unfold Im;exact⟨p,ns.map V.int,rfl,.inr ⟨_,its.toArray,n,h2,rfl,rfl,rfl,by simpa using h4,by simpa using h3,h5⟩,uh.atoms _⟩⟩
section
variable {Γ:En}
@[simp,simp ↓] theorem rh:dK t Γ=some (.v t,Γ):=rfl
end
end D
namespace D
open PySem L2
open PySem.SeqAt
theorem cn:∀ {vs ds as},K6 h vs ds as->∀ (i:Nat) v,vs[i]?=some v->∃ d as',ds[i]?=some d/\JB h v d as':=by
 intro vs ds as r;induction ds generalizing vs as with
 | nil =>
  intro i v e;cases r;simp at e
 | cons d ds ih =>
  intro i v e;cases r with
  | cons r1 r2 =>
   cases i with
   | zero=>simp at e;subst e;exact⟨d,_,rfl,r1⟩
   | succ i=>simpa using ih r2 i v ‹_›
theorem Ts:∀ {ds},Ax ds=true->∀ (i:Nat) d,ds[i]?=some d->d.canLay0=true
 | [],_,i,d,e=>by simp at e
 | x::r,h,i,d,e=>by
  simp[Ax]at h;cases i with
  | zero=>simp at e;subst e;exact h.1
  | succ i=>exact Ts h.2 i d ‹_›
noncomputable def ABm (h:Heap) (dx:CP) (y:AK):Bool:=@decide (∃ d as,JB h y d as/\d.canLay0=true/\BI d dx=true) (EL _)
theorem SE(r:JB h y d as)(c:d.canLay0=true):ABm h dx y=BI d dx:=by
 cases e:BI d dx with
 | true=>exact @decide_eq_true _ (EL _) ⟨d,as,r,c,e⟩
 | false =>
  refine @decide_eq_false _ (EL _) ?_;rintro ⟨d',as',r',c',e'⟩;have:=Reads.unique d d' y as as' c r r';subst this;rw[e]at e';cases e'
noncomputable def ze (K:Fg) (g:List CP->CP->Option Int):V->List V->Hp->VK->Prop:=λx vs H Q=>∃ p us y ts t ds d j,x=.ref p/\vs=[y]/\vz K H p us/\uh K H us ts/\we ts=some ds/\Im K H y t/\toD t=some d/\Ax ds=true/\d.canLay0=true/\d.depth<=100/\g ds d=some j/\Q (.int j) H
noncomputable def yo (ds:List CP) (d:CP):Option Int:=some ((ds.countP λz=>BI z d:Nat):Int)
section
variable {X:Cx}{k:Nat}
def Zc(hr:vn k X.A)(I:Inv X pins σ H s)(rv:uU us its)(hi:uh X.K H us ts)(e1:we ts=some ds)(ry:RelV y v)(hy:Im X.K H y t)(e2:toD t=some d)(c1:Ax ds=true)(c2:d.canLay0=true)(dp:d.depth<=100) :
  (∀ u,u∈its.toArray->EqAt X.A.in1 s u v (ABm s.heap d u))/\∀ (i:Nat) u,its[i]?=some u->∃ z,ds[i]?=some z/\ABm s.heap d u=BI z d:=by
 obtain⟨as1,ra⟩:=NF I hi rv e1;obtain⟨as2,rx⟩:=QT I hy ry e2;have each:∀ i u,its[i]?=some u->∃ z as,ds[i]?=some z/\JB s.heap u z as/\z.canLay0=true:=λi u e=>by
  obtain⟨z,as,e3,r3⟩:=cn ra i u e;exact⟨z,as,e3,r3,Ts c1 i z e3⟩
 refine⟨λu hu=>?_,λi u e=>?_⟩
 ·obtain⟨i,hi',rfl⟩:=Fc (List.mem_toArray.mp hu);obtain⟨z,as,e3,r3,c3⟩:=each i its[i] ↥1;rw[SE r3 c3];exact eqAt_reads z d X.A.in1 s _ v as as2 r3 rx c3 c2 (by have:=hr.un;show X.A.units+1+min z.depth d.depth < EC;lia)
 ·obtain⟨z,as,e3,r3,c3⟩:=each i u e;exact⟨z,e3,SE r3 c3⟩
def Zv(hr:vn k X.A):MtM X "list.count" (ze X.K yo):=by
 intro pins s σ H x vs v us Q I rx rv h;obtain⟨p,ws,y,ts,t,ds,d,j,rfl,rfl,hq,hi,e1,hy,e2,c1,c2,dp,eg,q⟩:=h;cases rx;obtain⟨u,rfl,ru⟩:=rv.one;obtain⟨its,rw',⟨⟨cls,dd,data,sl⟩,n,ho,hc,hdd,hd⟩,hz⟩:=I.list hq;simp only at hc hd hdd;subst hc hd;cases eg;obtain⟨E1,E2⟩:=Zc hr I rw' hi e1 ru hy e2 c1 c2 dp;obtain⟨as3,ra3⟩:=NF I hi rw' e1;have hl3:=ReadsAll.length ds its as3 ra3;have cnt:∀ (a:List AK) (b:List CP),a.length=b.length->(∀ (i:Nat) u,a[i]?=some u->∃ z,b[i]?=some z/\ABm s.heap d u=BI z d)->a.countP (ABm s.heap d)=b.countP λz=>BI z d:=by
  intro a;induction a with
  | nil=>intro b hb _;rw[Cd.mp hb.symm];rfl
  | cons x r ih =>
   intro b hb hh;cases b with
   | nil=>cases hb
   | cons z b =>
    obtain⟨z',ez,e⟩:=hh 0 x rfl;cases ez;rw[GE,GE,e,ih b (by simpa using hb) λi u hu=>by simpa using hh (i+1) u (by simpa using hu)]
 refine DW Gq ⟨_,ho,rfl⟩ PySem.F.entry_list_count (PySem.F.args_list_count_2 _ _) (list_countAt p its.toArray n dd sl u (ABm s.heap d)) ⟨ho,E1,?_⟩;rw[show its.toArray.toList=its from rfl,cnt its ds hl3 E2];exact⟨.int _,H,I.tok _,⟨_,rfl⟩,q⟩
end
noncomputable def yF (g:List CP->CP->Option Int) (fo:DE) (fa:DA):DE:=λΓ=>(fo Γ).bind λp=>if (ux p.2 p.1).isSome=true then (fa p.2).bind λq=>match q.1 with
 | [.v t]=>(ux q.2 p.1).bind λts=>(we ts).bind λds=>(toD t).bind λd=>if Ax ds=true/\d.canLay0=true/\d.depth<=100 then (g ds d).map λj=>(mkI j,q.2) else none
 | _=>none
 else none
def gO(ho:uj K to fo)(ha:wD K ta fa):uj K (tBM K "list" (ze K g) to ta) (yF g fo fa):=by
 intro C w Γ σ H s Γ' Q R e k;obtain⟨⟨a,G1⟩,e1,e⟩:=uJ e;dsimp only at e;split at e
 rotate_left
 ·cases e
 rename_i hs0;obtain⟨ts0,hs0⟩:=CQ.mp hs0;obtain⟨⟨as,G2⟩,e2,e⟩:=uJ e;dsimp only at e;split at e
 rotate_left
 ·cases e
 rename_i t;obtain⟨ts,e3,e⟩:=uJ e;obtain⟨ds,e4,e⟩:=uJ e;obtain⟨d,e5,e⟩:=uJ e;split at e
 rotate_left
 ·cases e
 rename_i hh;obtain⟨j,e6,e⟩:=map_some e;cases e;refine ho C w Γ σ H a G1 _ R e1 λv H1 R1 ev1 o1 n1=>?_
 obtain⟨p0,vs0,rfl,q0,_⟩:=L8 R1 o1 hs0;refine⟨.inl ⟨rfl,vs0,q0⟩,?_⟩;refine ha C w G1 σ H1 [.v t] _ _ R1 e2 λus H2 R2 ev2 o2 n2=>?_
 obtain⟨y,rfl,oy⟩:=vN o2;obtain⟨p1,vs1,ep,q1,i1⟩:=L8 R2 (o1.evo ev2 R1.lst) e3;cases ep;exact⟨p0,vs1,y,ts,t,ds,d,j,rfl,rfl,q1,i1,e4,oy,e5,hh.1,hh.2.1,hh.2.2,e6,k _ H2 R2 (ev1.trans ev2) vJ.atom trivial⟩
section
variable {ι:Type}{K:Fg}{mg:Str->Option AK}{k:Nat}{X:ι->Cx}{o e:Expr}{es:List Expr}{fa:DE}{da:DA}
def oh{g:List CP->CP->Option Int}{name:Str}{id:String}{apos cpos:Pos}(M:Fm K mg k X)(slot:Slot "list" name id)(hty:Gz (.builtin id)=pure (.type "method_descriptor"))(hm:∀ j,MtM (X j) id (ze (X j).K g))(ho:EX K X o fa)(ha:AX K X (e::es) da)
  (hbase:∀ j,C9 o name (X j).env (eval o (X j).env)=eval o (X j).env:=by intro _;rfl)
  (hfew:∀ j,((Bx cpos (AQ (e::es) (X j).env)).all (λx=>!x.1) && (Ge cpos (Eo [] (X j).env)).all (λx=>x.1.isSome) && decide ((e::es).length+([]:List D9).length+(if ([]:List D9).isEmpty then 0 else 1) < 30))=true:=by intro _;rfl)
  (hline:(apos.endLine == cpos.line)=true:=by rfl) (hs:∀ j,AQ (e::es) (X j).env=(false,eval e (X j).env)::AQ es (X j).env:=by intro _;rfl) (hplain:∀ j,(Bx cpos (AQ es (X j).env)).any (·.1)=false:=by intro _;rfl) :
  EX K X (.Call (.Attribute o name apos) (e::es) [] cpos) (yF g fa da):=
 let ⟨t0,q0,u0⟩:=ho;let ⟨t,q,u⟩:=ha
 ⟨tBM K "list" (ze K g) t0 t,λj=>by have:=U2 ET slot hty (hm j) (q0 j) (q j) (hbase j) (hfew j) hline (hs j) (hplain j);rw[M.K j]at this;exact this,gO u0 u⟩
@[simp] theorem sy{g:List CP->CP->Option Int}{fo:DE}{fa:DA}{Γ:En}:yF g fo fa Γ=(fo Γ).bind λp=>if (ux p.2 p.1).isSome=true then (fa p.2).bind λq=>match q.1 with
 | [.v t]=>(ux q.2 p.1).bind λts=>(we ts).bind λds=>(toD t).bind λd=>if Ax ds=true/\d.canLay0=true/\d.depth<=100 then (g ds d).map λj=>(mkI j,q.2) else none
 | _=>none
 else none:=(rfl)
end
end D
namespace L2
open PySem PySem.Spec PyProof.Rows
section
variable {κ:Type} [DecidableEq κ]
def xk (kvs:List (κ×V)) (k:κ):Option V:=(kvs.find? λkv=>decide (kv.1=k)).map (·.2)
def wL (kvs:List (κ×V)) (k:κ) (v:V):List (κ×V):=
 if (kvs.any λkv=>decide (kv.1=k))=true then kvs.map (λkv=>if kv.1=k then (kv.1,v) else kv) else kvs++[(k,v)]
def O0{r}{k:κ}(e:p.1=k):xk (p::r) k=some p.2:=by simp[xk,e]
def O4{r}{k:κ}(e:¬ p.1=k):xk (p::r) k=xk r k:=by simp[xk,e]
theorem RA(k:κ):∀ kvs,(kvs.any λkv=>decide (kv.1=k))=(xk kvs k).isSome
 | []=>rfl
 | p::r=>by
  rw[DY];by_cases e:p.1=k
  ·simp[O0 e,decide_eq_true e]
  ·rw[O4 e,decide_eq_false e];exact RA k r
def Rf kvs (k:κ) v:(wL kvs k v).length<=kvs.length+1:=by
 unfold wL;split
 ·rw[AV];lia
 ·simp_all
def Va{kvs:List (κ×V)}{k:κ}(v:V)(h:xk kvs k=none):wL kvs k v=kvs++[(k,v)]:=by
 unfold wL;rw[RA,h];exact if_neg ∅
theorem yR.isSome_eq(r:yR o u):o.isSome=u.isSome:=by
 cases o with
 | none=>cases u with
  | none=>rfl
  | some _=>exact r.elim
 | some _=>cases u with
  | none=>exact r.elim
  | some _=>rfl
theorem yR.getD(r:yR o u)(rd:RelV d d'):RelV (o.getD d) (u.getD d'):=by
 cases o with
 | none=>cases u with
  | none=>exact rd
  | some _=>exact (show False from r).elim
 | some _=>cases u with
  | none=>exact (show False from r).elim
  | some _=>exact r
theorem KV.val{vs}(r:KV kvs vs)(k:κ):yR (xk kvs k) (FU vs k):=by
 induction r with
 | nil=>exact DD
 | @cons p q ps qs h t ih =>
  obtain⟨h1,h2⟩:=h;by_cases e:p.1=k
  ·have e':=h1.symm.trans e;have b:FU (q::qs) k=some q.2:=by simp[FU,e']
   rw[O0 e,b];exact h2
  ·have e':¬ q.1=k:=λz=>e (h1.trans z)
   have b:FU (q::qs) k=FU qs k:=by simp[FU,e']
   rw[O4 e,b];exact ih
theorem KV.any{vs}(r:KV kvs vs)(k:κ):(kvs.any λkv=>decide (kv.1=k))=vs.any λkv=>decide (kv.1=k):=by
 induction r with
 | nil=>rfl
 | cons h t ih=>rw[DY,DY,ih,h.1]
theorem KV.repl{kvs vs}(r:KV kvs vs)(k:κ)(ry:RelV y u) :
  KV (kvs.map λkv=>if kv.1=k then (kv.1,y) else kv) (vs.map λkv=>if kv.1=k then (kv.1,u) else kv):=by
 induction r with
 | nil=>exact .nil
 | @cons p q ps qs h t ih =>
  rw[AO,AO];refine .cons ?_ ih;obtain⟨h1,h2⟩:=h;by_cases e:p.1=k
  ·rw[if_pos e,if_pos (h1.symm.trans e)];exact⟨h1,ry⟩
  ·rw[if_neg e,if_neg (λz=>e (h1.trans z))];exact⟨h1,h2⟩
def KV.put{kvs vs}(r:KV kvs vs)(k:κ)(ry:RelV y u):KV (wL kvs k y) (stored vs k u):=by
 unfold wL stored;rw[r.any k];by_cases e:(vs.any λkv=>decide (kv.1=k))=true
 ·rw[if_pos e,if_pos e];exact r.repl k ry
 ·rw[if_neg e,if_neg e];exact JX r ⟨rfl,ry⟩
theorem KV.length{vs:List (κ×AK)}(r:KV kvs vs):kvs.length=vs.length:=EM r
end
theorem M9(r:RelV (kV k) u):(ud P w).is k u=true:=by
 cases k with
 | inl i=>obtain⟨t,e⟩:=r;subst e;exact P2 P w i t
 | inr x=>obtain⟨t,e⟩:=r;subst e;exact kB P w x t
theorem Vi:∀ {ks us},uU (ks.map kV) us->ItemsAre (ud P w) ks us
 | [],_,r=>by rw[BN]at r;cases r;exact .nil
 | k::ks,_,r=>by
  cases r with
  | cons h t=>exact .cons (M9 h) (Vi t)
abbrev KT (H:Hp):List (List vT×V)->List (List vT×Addr×AK)->Prop:=Cu λp q=>p.1=q.1/\H q.2.1=some (.tup (p.1.map kV))/\RelV p.2 q.2.2
theorem KT.val(r:KT H kvs xs) k:yR (xk kvs k) ((IF xs k).map (·.2)):=by
 induction r with
 | nil=>exact DD
 | @cons p q ps qs h t ih =>
  obtain⟨h1,_,h2⟩:=h;by_cases e:p.1=k
  ·have e':=h1.symm.trans e;have b:IF (q::qs) k=some q.2:=by simp[IF,e']
   rw[O0 e,b];exact h2
  ·have e':¬ q.1=k:=λz=>e (h1.trans z)
   have b:IF (q::qs) k=IF qs k:=by simp[IF,e']
   rw[O4 e,b];exact ih
theorem KT.repl(r:KT H kvs xs) k (ry:RelV y u) :
  KT H (kvs.map λkv=>if kv.1=k then (kv.1,y) else kv) (xs.map (putAt k u)):=by
 induction r with
 | nil=>exact .nil
 | @cons p q ps qs h t ih =>
  rw[AO];refine .cons ?_ ih;obtain⟨h1,h2,h3⟩:=h;unfold putAt;by_cases e:p.1=k
  ·rw[if_pos e,if_pos (h1.symm.trans e)];exact⟨h1,h2,ry⟩
  ·rw[if_neg e,if_neg (λz=>e (h1.trans z))];exact⟨h1,h2,h3⟩
def KT.put(r:KT H kvs xs) k (hb:H b=some (.tup (k.map kV))) (ry:RelV y u) :
  KT H (wL kvs k y) (storedH xs k b u):=by
 have e:(kvs.any λkv=>decide (kv.1=k))=(IF xs k).isSome:=by
  rw[RA,(r.val k).isSome_eq,Option.isSome_map]
 unfold wL storedH;rw[e];by_cases q:(IF xs k).isSome=true
 ·rw[if_pos q,if_pos q];exact r.repl k ry
 ·rw[if_neg q,if_neg q];exact JX r ⟨rfl,hb,ry⟩
def KT.keeps(r:KT H kvs xs)(ht:∀ b ys,H b=some (.tup ys)->H' b=some (.tup ys)):KT H' kvs xs:=
 Paired.mapP r λ_ _ z=>⟨z.1,ht _ _ z.2.1,z.2.2⟩
section
variable {P:Ah}{w:A5}{H:Hp}{h:Heap}{a:Addr}
def UO(ok:wg P w H h)(e:Rd H a u):uy P w H h a u:=e.ok ok
def N3(ok:wg P w H h)(e:Rd H a (.dK kvs)):kvs.length<=AD/\(a == B8)=false/\∃ vs,KV kvs vs/\h.DictOf (ud P w) a vs:=
 show uy P w H h a (.dK kvs) from UO ok e
def UY(ok:wg P w H h)(e:H a=some (.dK kvs)):kvs.length<=AD/\(a == B8)=false/\∃ vs,KV kvs vs/\h.DictOf (ud P w) a vs:=N3 ok (.inl e)
def Pc(ok:wg P w H h)(e:H a=some (.tup (ks.map kV))):(Fz (ud P w)).is h ks a:=by
 obtain⟨_,its,r,o,h1,h2,⟨n,h3⟩,_⟩:=(ok a _ e)
 exact⟨o,its.toArray,n,h1,h2,h3,by simpa using Vi r⟩
def NV(ok:wg P w H h)(e:Rd H a (.dT kvs)):kvs.length<=AD/\(a == B8)=false /\
  ∃ xs,KT H kvs xs/\h.DictOfH (Fz (ud P w)) a xs:=by
 obtain⟨z,y,xs,r,o,es,ep,h1,h2,h3,h4,h5⟩:=(UO ok e)
 refine⟨z,y,xs,r,o,es,ep,h1,h2,h3,h4,λx hx=>?_,h5⟩;have all:∀ {l:List (List vT×V)} {m:List (List vT×Addr×AK)},KT H l m->∀ x∈m,(Fz (ud P w)).is h x.1 x.2.1:=by
  intro l m q;induction q with
  | nil=>intro x hx;exact nomatch hx
  | @cons p q ps qs hq t ih =>
   intro x hx;rcases AR.mp hx with e | hx
   ·exact Pc ok (by simp_all)
   ·exact ih x hx
 exact all r x hx
def fA(ok:wg P w H h)(e:H a=some (.dT kvs)):kvs.length<=AD/\(a == B8)=false /\
  ∃ xs,KT H kvs xs/\h.DictOfH (Fz (ud P w)) a xs:=NV ok (.inl e)
end
def xw (H:Hp) (a:Addr) (y:V) (r:Option V):Prop:=
 (∃ kvs k,Rd H a (.dK kvs)/\y=kV k/\r=xk kvs k)\/∃ kvs k b,Rd H a (.dT kvs)/\y=.ref b/\H b=some (.tup (k.map kV))/\r=xk kvs k
def za (H:Hp) (a:Addr) (y v:V) (H':Hp):Prop:=
 (∃ kvs k,H a=some (.dK kvs)/\y=kV k/\kvs.length < AD/\H'=upd H a (.dK (wL kvs k v))) \/
 ∃ kvs k b,H a=some (.dT kvs)/\y=.ref b/\H b=some (.tup (k.map kV))/\kvs.length < AD/\H'=upd H a (.dT (wL kvs k v))
theorem xw.k{a kvs k}(e:H a=some (.dK kvs)):xw H a (kV k) (xk kvs k):=.inl ⟨kvs,k,.inl e,rfl,rfl⟩
def xw.t{a b kvs k}(e:H a=some (.dT kvs))(eb:H b=some (.tup (k.map kV))):xw H a (.ref b) (xk kvs k):=.inr ⟨kvs,k,b,.inl e,rfl,eb,rfl⟩
theorem za.k{a kvs k v}(e:H a=some (.dK kvs))(hl:kvs.length < AD):za H a (kV k) v (upd H a (.dK (wL kvs k v))):=.inl ⟨kvs,k,e,rfl,hl,rfl⟩
def za.t{a b kvs k v}(e:H a=some (.dT kvs))(eb:H b=some (.tup (k.map kV)))(hl:kvs.length < AD) :
  za H a (.ref b) v (upd H a (.dT (wL kvs k v))):=.inr ⟨kvs,k,b,e,rfl,eb,hl,rfl⟩
section
variable {X:Cx}{pins:List (Addr×Obj)}{σ:St}{H:Hp}{s:Ab}{a:Addr}{y v:V}{u r:AK}{o:Option V}{A:BY}{E:AK->Ab->Prop}
def Inv.big(I:Inv X pins σ H s):B8 < s.heap.objs.size:=J7 ∅ ((I.mod.glob.keeps I.bk).lt)
def kI(hu:A.units+1 < EC)(I:Inv X pins σ H s)(g:xw H a y (some v))(ry:RelV y u)(h:∀ w' s',Inv X pins σ H s'->RelV v w'->Q w' s') :
  AW (model X.prog X.w) A (Em (.ref a) u) Q E s:=by
 rcases g with ⟨kvs,k,e,ey,l⟩ | ⟨kvs,k,b,e,ey,eb,l⟩
 ·subst ey;obtain⟨z,hd,vs,rel,dd⟩:=N3 I.hok e;obtain⟨w',hw,rw'⟩:=yR.some_of (by rw[l];exact rel.val k);exact KB (M9 ry) dd.mapOf hw (h w' _ (I.tok _) rw')
 ·subst ey;cases ry;obtain⟨z,hd,xs,rel,dd⟩:=NV I.hok e;obtain⟨w',hw,rw'⟩:=yR.some_of (by rw[l];exact rel.val k);obtain⟨p,hp,hp2⟩:=Option.map_eq_some_iff.mp hw;refine wpAny_getItem_heap (GN hu) (Pc I.hok eb) dd hp ?_;rw[hp2];exact h w' _ (I.tok _) rw'
def Qd(I:Inv X pins σ H s)(mu:Mut (H a))(hs:DK a s.heap h')(he:∃ q,h'.get? a=some q)(new:uy X.prog X.w (upd H a ob) h' a ob) :
  Inv X pins σ (upd H a ob) { s with heap:=h',toks:=t' }:=
 I.write mu (.inl rfl) (λb q hb z=>(hs.2 b hb).trans z) he new
def Pn(z:kvs.length<=AD)(hd:(a == B8)=false)(rel:KV kvs vs)(dd:h'.DictOf (ud P w) a vs) :
  uy P w H' h' a (.dK kvs):=⟨z,hd,vs,rel,dd⟩
def gp(hu:A.units+1 < EC)(I:Inv X pins σ H s)(g:za H a y v H')(ry:RelV y u)(rv:RelV v r)(h:∀ s',Inv X pins σ H' s'->Q () s') :
  AW (model X.prog X.w) A (Jd (.ref a) u r) Q E s:=by
 rcases g with ⟨kvs,k,e,ey,l,eH⟩ | ⟨kvs,k,b,e,ey,eb,l,eH⟩
 ·subst ey eH;obtain⟨z,hd,vs,rel,dd⟩:=UY I.hok e;have hz:vs.length<=AD:=by rw[← rel.length];exact z
  have hl:(wL kvs k v).length<=AD:=by have:=Rf kvs k v;lia
  refine wpAny_setItem_pairs (M9 ry) dd λh' dd' hs=>h _ ?_
  have he:∃ q,h'.get? a=some q:=let ⟨q,_,_,hq,_⟩:=dd';⟨q,hq⟩;exact Qd I (by rw[e];exact DD) hs he (Pn hl hd (rel.put k rv) dd')
 ·subst ey eH;cases ry;obtain⟨z,hd,xs,rel,dd⟩:=fA I.hok e;have hz:xs.length<=AD:=by rw[← EM rel];exact z
  have hl:(wL kvs k v).length<=AD:=by have:=Rf kvs k v;lia
  refine wpAny_setItem_heap (hsz:=hz) (GN hu) (Pc I.hok eb) dd λh' dd' hs=>h _ ?_
  obtain⟨q,es,ep,hq,h2,h3,h4,_,h5⟩:=dd';refine Qd I (by rw[e];exact DD) hs ⟨q,hq⟩ ⟨hl,hd,_,(rel.put k eb rv).keeps λc ys ec=>?_,q,es,ep,hq,h2,h3,h4,h5⟩;rw[Ll (oF ec e (λz=>nomatch z))];exact ec
end
def ABi (i:Expr):Prop:=∀ ov iv,subscripted i false ov iv=operate [ov,iv] (Em ov iv)
def W8{A E s env value slice pos T id Q}
  (hl:GM (.type T) "__getitem__"=pure (some (.builtin id))) (hs:ABi slice)
  (h:AW (model prog w) A (eval value env) (λo s₁=>AW (model prog w) A (eval slice env) (λi s₂=>s₂.TypeIs o T/\AW (model prog w) A (Em o i) Q E s₂) E s₁) E s) :
  AW (model prog w) A (eval (.Subscript value slice pos) env) Q E s:=by
 refine JT (Bd h (λo s₁ h₁=>Bd h₁ (λi s₂ h₂=>?_) λ_ _ x=>x) λ_ _ x=>x);obtain⟨hT,h₂⟩:=h₂;refine AB (AB (Bw hT hl ?_));have fin:AW (model prog w) A (subscripted slice false o i) (λr s₃=>AW (model prog w) A (letTemporaryGo value o r >>= λ_=>pure r) Q E s₃) E s₂:=by
  rw[hs o i];exact wpAny_operating (Bd h₂ (λr s₃ h₃=>AB (wpAny_letTemporaryGo (AF h₃))) λ_ _ x=>x)
 first
  | exact AF (AB fin)
  | exact AB (AF (AB fin))
  | exact AB fin
def Yj(I:Inv X pins σ H s)(g:xw H a y o):s.TypeIs (.ref a) "dict":=by
 rcases g with ⟨kvs,k,e,_,_⟩ | ⟨kvs,k,b,e,_,_,_⟩
 ·obtain⟨_,_,vs,_,dd⟩:=N3 I.hok e;exact dd.typeIs
 ·obtain⟨_,_,xs,_,dd⟩:=NV I.hok e;exact dd.typeIs
def AET (td ty:TE):TE:=λσ H Q=>td σ H λx H1=>ty σ H1 λy H2=>∃ a v,x=.ref a/\xw H2 a y (some v)/\Q v H2
def ACm (td ty tv:TE):TS:=λD σ H=>tv σ H λv H1=>td σ H1 λx H2=>ty σ H2 λy H3=>∃ a H4,x=.ref a/\za H3 a y v H4/\D.nx σ H4
section
variable {X:Cx}{o i e value:Expr}{pos pos' tpos:Pos}{td ty tv:TE}
def We(hu:X.A.units+1 < EC)(ho:PE X o td)(hi:PE X i ty)(hs:ABi i):PE X (.Subscript o i pos) (AET td ty):=by
 intro pins s σ H Q I h;refine W8 GU.lookup hs (vB (ho pins s σ H _ I h) λu s1 ⟨x,H1,I1,rx,q1⟩=>vB (hi pins s1 σ H1 _ I1 q1) λiv s2 ⟨y,H2,I2,ry,a,v,ex,g,q2⟩=>?_);subst ex;obtain rfl:u=BJ a:=rx;exact⟨Yj I2 g,kI hu I2 g ry λw' s3 I3 rw'=>⟨v,H2,I3,rw',q2⟩⟩
def Ym(hu:X.A.units+1 < EC)(ho:PE X o td)(hi:PE X i ty)(hv:PE X value tv)(hs:D4 value (some (.Subscript o i pos')) pos.line X.env=pure false) :
  PS X (.Assign [.Subscript o i pos'] value pos) (ACm td ty tv):=by
 intro pins s σ H D I h;refine wpAny_Assign_Subscript (vB (hv pins s σ H _ I h) λr s1 ⟨v,H1,I1,rv,q1⟩=>vB (ho pins s1 σ H1 _ I1 q1) λu s2 ⟨x,H2,I2,rx,q2⟩=>vB (hi pins s2 σ H2 _ I2 q2) λiv s3 ⟨y,H3,I3,ry,a,H4,ex,g,q3⟩=>?_) hs;subst ex;obtain rfl:u=BJ a:=rx;exact gp hu I3 g ry rv λs4 I4=>⟨σ,H4,I4,q3⟩
end
def jC(h:Heap)(hb:B8 < h.objs.size):uy P w H (h.push { cls:=.type "dict",data:=.dict #[] }) h.objs.size (.dK []):=
 ⟨BO _,beq_eq_false_iff_ne.mpr (Aw (AZ hb)),[],.nil,HV h⟩
def oH(h:Heap)(hb:B8 < h.objs.size):uy P w H (h.push { cls:=.type "dict",data:=.dict #[] }) h.objs.size (.dT []):=
 ⟨BO _,beq_eq_false_iff_ne.mpr (Aw (AZ hb)),[],.nil,_,#[],0,AN _ rfl,⟨rfl,rfl,rfl⟩,rfl,rfl,FJ⟩
def AAp:TE:=λ_ H Q=>∀ p,H p=none->Q (.ref p) (upd H p (.dT []))
section
variable {X:Cx}{pos:Pos}
def cj:PE X (.Dict [] [] pos) AAp:=λpins s σ H Q I h =>
 wpAny_Dict_empty ⟨.ref s.heap.objs.size,_,I.laid (λ_ _ q=>AC _ q) (AL _) (oH s.heap I.big),rfl,h _ (I.hok.fresh (AL _))⟩
end
def zZ:List (TE×TE)->St->Hp->(List (V×V)->Hp->Prop)->Prop
 | [],_,H,Q=>Q [] H
 | (tk,tv)::r,σ,H,Q=>tk σ H λx H1=>tv σ H1 λy H2=>zZ r σ H2 λps H3=>Q ((x,y)::ps) H3
abbrev VV:List (V×V)->List (AK×AK)->Prop:=Cu λp q=>RelV p.1 q.1/\RelV p.2 q.2
def PPs (X:Cx) (pos:Pos) (keys:List (Option Expr)) (values:List Expr) (trs:List (TE×TE)):Prop:=
 ∀ pins s (σ:St) H Q,Inv X pins σ H s->zZ trs σ H Q ->
  AW (model X.prog X.w) X.A (evalPairs (pairTrees keys values X.env pos)) (λvs s'=>∃ ps H',Inv X pins σ H' s'/\VV ps vs/\Q ps H') X.xe s
def jG:PPs X pos [] [] []:=λpins s σ H Q I h=>pairTrees_nil_walk ⟨[],H,I,.nil,h⟩
def bF(hk:PE X k tk)(hv:PE X v tv)(hr:PPs X pos ks vs trs) :
  PPs X pos (some k::ks) (v::vs) ((tk,tv)::trs):=λpins s σ H Q I h =>
 pairTrees_cons_walk (vB (hk pins s σ H _ I h) λu s1 ⟨x,H1,I1,rx,q1⟩=>vB (hv pins s1 σ H1 _ I1 q1) λw2 s2 ⟨y,H2,I2,ry,q2⟩ =>
  vB (hr pins s2 σ H2 _ I2 q2) λws s3 ⟨ps,H3,I3,rel,q3⟩=>⟨(x,y)::ps,H3,I3,.cons ⟨rx,ry⟩ rel,q3⟩)
def wG (kvs more:List (vT×V)):List (vT×V):=more.foldl (λacc kv=>wL acc kv.1 kv.2) kvs
theorem KV.merge:∀ {more rs kvs vs},KV more rs->KV kvs vs->KV (wG kvs more) (merged vs rs):=by
 intro more rs kvs vs r;induction r generalizing kvs vs with
 | nil=>intro q;exact q
 | @cons p q ps qs h t ih =>
  intro r0;have e:KV (wL kvs p.1 p.2) (stored vs q.1 q.2):=by
   have:=r0.put p.1 h.2;rw[← h.1];exact this
  exact ih e
theorem Rj:∀ more kvs,(wG kvs more).length<=kvs.length+more.length
 | [],kvs=>by show kvs.length<=kvs.length+0;lia
 | p::r,kvs=>by
  have h1:=Rj r (wL kvs p.1 p.2);have h2:=Rf kvs p.1 p.2;show (wG (wL kvs p.1 p.2) r).length<=_
  grind
theorem W5:∀ {kvs:List (vT×V)} {ws:List (AK×AK)},VV (kvs.map λkv=>(kV kv.1,kv.2)) ws->∃ rs,Carries (ud P w) ws rs/\KV kvs rs
 | [],_,r=>by rw[BN]at r;cases r;exact⟨[],DD,.nil⟩
 | p::kvs,_,r=>by
  rw[AO]at r;cases r with
  | @cons a b as bs h t =>
   obtain⟨rs,c,q⟩:=W5 (P:=P) (w:=w) t;obtain⟨b1,b2⟩:=b;exact⟨(p.1,b2)::rs,⟨M9 h.1,rfl,c⟩,.cons ⟨rfl,h.2⟩ q⟩
def ACj (trs:List (TE×TE)):TE:=λσ H Q=>∀ p,H p=none->zZ trs σ (upd H p (.dK [])) λps H2=>H2 p=some (.dK [])/\∃ kvs:List (vT×V),ps=kvs.map (λkv=>(kV kv.1,kv.2))/\kvs.length<=15/\Q (.ref p) (upd H2 p (.dK (wG [] kvs)))
def Xq(h:PPs X pos keys values trs)(hall:keys.all (·.isSome)=true)(hl:keys.length=values.length)(h0:keys≠[])
  (h15:keys.length<=15):PE X (.Dict keys values pos) (ACj trs):=by
 intro pins s σ H Q I q;have hn:=I.hok.fresh (AL s.heap.objs.size);have I1:=I.laid (a:=s.heap.objs.size) (o:=.dK []) (h':=s.heap.push { cls:=.type "dict",data:=.dict #[] }) (t':=s.toks) (λ_ _ q=>AC _ q) (AL _) (jC s.heap I.big);refine wpAny_Dict_walk (knd:=ud X.prog X.w) hall hl h0 h15 (vB (h pins _ σ _ _ I1 (q _ hn)) λws s2 ⟨ps,H2,I2,rel,e,kvs,ep,lk,q2⟩=>?_);subst ep;obtain⟨rs,c,rk⟩:=W5 (P:=X.prog) (w:=X.w) rel;obtain⟨z,hd,vs0,r0,dd⟩:=UY I2.hok e;cases r0;refine⟨rs,c,dd,λh' dd' hs=>⟨.ref s.heap.objs.size,_,?_,rfl,q2⟩⟩;have hz:(wG [] kvs).length<=AD:=by
  have h1:=Rj kvs [];rw[Cr]at h1;rw[BQ];lia
 have he:∃ q,h'.get? s.heap.objs.size=some q:=let ⟨q,_,_,hq,_⟩:=dd';⟨q,hq⟩;exact Qd I2 (by rw[e];exact DD) hs he (Pn hz hd (rk.merge .nil) dd')
structure M2(X:Cx)(o:Expr)(m:Str)(apos:Pos)(e f:Expr)(cpos:Pos):Prop where
 base:C9 o m X.env (eval o X.env)=eval o X.env
 few:((Bx cpos (AQ [e,f] X.env)).all (λx=>!x.1) && (Ge cpos (Eo [] X.env)).all (λx=>x.1.isSome)
  && decide (([e,f]:List Expr).length+([]:List D9).length+(if ([]:List D9).isEmpty then 0 else 1) < 30))=true
 line:(apos.endLine == cpos.line)=true
 trees:Bx cpos (AQ [e,f] X.env)=[(false,eval e X.env),(false,eval f X.env)]
def IsD (H:Hp) (a:Addr):Prop:=(∃ kvs,Rd H a (.dK kvs))\/∃ kvs,Rd H a (.dT kvs)
def kG(I:Inv X pins σ H s)(d:IsD H a) :
  s.TypeIs (.ref a) "dict"/\(∀ b,BJ a=.ref b->∃ ob,s.heap.get? b=some ob/\ob.dict=none)/\(a == B8)=false:=by
 rcases d with ⟨kvs,e⟩ | ⟨kvs,e⟩
 ·obtain⟨_,hd,vs,_,dd⟩:=N3 I.hok e;refine⟨dd.typeIs,λb q=>?_,hd⟩;cases q;obtain⟨ob,_,_,h1,h2,_⟩:=dd;exact⟨ob,h1,h2.2.1⟩
 ·obtain⟨_,hd,xs,_,dd⟩:=NV I.hok e;refine⟨dd.typeIs,λb q=>?_,hd⟩;cases q;obtain⟨ob,_,_,h1,h2,_⟩:=dd;exact⟨ob,h1,h2.2.1⟩
section
variable {X:Cx}{pins:List (Addr×Obj)}{σ:St}{H:Hp}{s:Ab}{a:Addr}{y d:V}{u r:AK}{o:Option V}{A:BY}{E:AK->Ab->Prop}
def iz(hu:A.units+1 < EC)(I:Inv X pins σ H s)(g:xw H a y o)(ry:RelV y u)(rd:RelV d r)(h:∀ w' s',Inv X pins σ H s'->RelV (o.getD d) w'->Q w' s') :
  AW (model X.prog X.w) A (call (.builtin "dict.get") [.ref a,u,r]) Q E s:=by
 rcases g with ⟨kvs,k,e,ey,l⟩ | ⟨kvs,k,b,e,ey,eb,l⟩
 ·subst ey;obtain⟨z,hd,vs,rel,dd⟩:=N3 I.hok e;refine Lj El dd.typeIs G7 (Gr _ _ _) (meets_dict_get_default (ud X.prog X.w) a (M9 ry) hd r) ⟨_,dd.mapOf,h _ _ (I.tok _) ?_⟩;rw[l];exact (rel.val k).getD rd
 ·subst ey;cases (show u=BJ b from ry);obtain⟨z,hd,xs,rel,dd⟩:=NV I.hok e;refine Lj El dd.typeIs G7 (Gr _ _ _) (meetsH_dict_get_default (Fz (ud X.prog X.w)) a b hd r) ⟨GN hu,k,xs,Pc I.hok eb,dd,h _ _ (I.tok _) ?_⟩;rw[l];exact (rel.val k).getD rd
end
def AAs (td ty tx:TE):TE:=λσ H Q=>td σ H λx H1=>∃ a,x=.ref a/\IsD H1 a/\ty σ H1 λy H2=>tx σ H2 λz H3=>∃ o,xw H3 a y o/\Q (o.getD z) H3
section
variable {X:Cx}{o e f:Expr}{apos cpos:Pos}{td ty tx:TE}
def kz(hu:X.A.units+1 < EC)(ho:PE X o td)(he:PE X e ty)(hf:PE X f tx)(m:M2 X o "get" apos e f cpos):PE X (.Call (.Attribute o "get" apos) [e,f] [] cpos) (AAs td ty tx):=by
 intro pins s σ H Q I h;refine wpAny_Call_method m.base m.few m.line PySem.F.plainAttrs_dict El PySem.F.type_dict_get (vB (ho pins s σ H _ I h) λu s1 ⟨x,H1,I1,rx,a,ex,d,q1⟩=>?_);subst ex;obtain rfl:u=BJ a:=rx;obtain⟨t1,t2,_⟩:=kG I1 d;refine⟨t1,t2,?_⟩;rw[m.trees];refine Df rfl (E9 (Cm (vB (he pins s1 σ H1 _ I1 q1) λiv s2 ⟨y,H2,I2,ry,q2⟩ =>
  Cm (vB (hf pins s2 σ H2 _ I2 q2) λfv s3 ⟨z,H3,I3,rz,ov,g,q3⟩=>Ct ?_))))
 exact iz hu I3 g ry rz λw' s4 I4 rw'=>⟨_,H3,I4,rw',q3⟩
end
end L2
namespace D
open PySem L2
noncomputable def yj:T->Option vT
 | .a (.int n)=>some (.inl n)
 | .a (.str x)=>some (.inr x)
 | _=>none
noncomputable def xa:List T->Option (List vT)
 | []=>some []
 | t::r=>(yj t).bind λk=>(xa r).map λks=>k::ks
def Pi(h:Im K H y t)(e:yj t=some k):y=kV k:=by
 unfold yj at e;split at e
 iterate 2
  ·cases e;exact h.inva
 ·cases e
theorem P6:∀ {vs ts ks},uh K H vs ts->xa ts=some ks->vs=ks.map kV
 | _,[],_,h,e=>by cases e;exact h.inv0
 | _,t::r,_,h,e=>by
  obtain⟨v,vs,rfl,h1,h2⟩:=h.inv;obtain⟨k,e1,e⟩:=uJ e;obtain⟨ks,e2,rfl⟩:=map_some e;rw[Pi h1 e1,P6 h2 e2];rfl
def KC (K:Fg) (cs:List (List vT)):Prop:=∀ p ks,KT K p (ks.map kV)->ks∈cs
section
variable {κ:Type} [DecidableEq κ]
noncomputable def xl (kvs:List (κ×T)) (k:κ):Option T:=(kvs.find? λkv=>decide (kv.1=k)).map (·.2)
noncomputable def zu (kvs:List (κ×T)) (k:κ) (t:T):List (κ×T):=
 if (kvs.any λkv=>decide (kv.1=k))=true then kvs.map (λkv=>if kv.1=k then (kv.1,t) else kv) else kvs++[(k,t)]
def PR (K:Fg) (H:Hp) (l:List (κ×V)) (kvs:List (κ×T)):Prop:=Cu (λa b=>a.1=b.1/\Im K H a.2 b.2) l kvs
variable {K:Fg}{H:Hp}
theorem PR.val{kvs}(h:PR K H l kvs)(k:κ):(xk l k=none/\xl kvs k=none)\/∃ v t,xk l k=some v/\xl kvs k=some t/\Im K H v t:=by
 induction h with
 | nil=>exact .inl ⟨rfl,rfl⟩
 | @cons a b l kvs hab _ ih =>
  by_cases e:a.1=k
  ·refine .inr ⟨a.2,b.2,O0 e,?_,hab.2⟩;simp[xl,← hab.1,e]
  ·rw[O4 e];have:xl (b::kvs) k=xl kvs k:=by simp[xl,← hab.1,e]
   rw[this];exact ih
theorem PR.any{kvs}(h:PR K H l kvs)(k:κ):(l.any λkv=>decide (kv.1=k))=kvs.any λkv=>decide (kv.1=k):=by
 induction h with
 | nil=>rfl
 | @cons a b l kvs hab _ ih=>rw[DY,DY,ih,hab.1]
theorem PR.app{kvs mvs:List (κ×T)}(h:PR K H l kvs)(h':PR K H m mvs):PR K H (l++m) (kvs++mvs):=by
 induction h with
 | nil=>exact h'
 | @cons a b l kvs hab _ ih=>exact .cons hab ih
def PR.put{l kvs}(h:PR K H l kvs)(k:κ)(hv:Im K H v t):PR K H (wL l k v) (zu kvs k t):=by
 unfold wL zu;rw[h.any k];split
 ·rename_i hx;clear hx;induction h with
  | nil=>exact .nil
  | @cons a b l kvs hab _ ih =>
   rw[AO,AO];refine .cons ?_ ih;by_cases e:a.1=k
   ·rw[if_pos e,if_pos (hab.1 ▸ e)];exact⟨hab.1,hv⟩
   ·rw[if_neg e,if_neg (hab.1 ▸ e)];exact hab
 ·exact h.app (.cons ⟨rfl,hv⟩ .nil)
def PR.len{kvs:List (κ×T)}(h:PR K H l kvs):l.length=kvs.length:=EM h
end
noncomputable def dictOf (Γ:En):S->Option Dk
 | .d d=>some d
 | .s i=>match Γ[i]? with
  | some (some (.d d))=>some d
  | some (some (.e d))=>some d
  | _=>none
 | _=>none
noncomputable def ABJ (cs:List (List vT)) (d:Dk) (t:T):Option (Option T):=match d,t with
 | .inl kvs,t=>(yj t).map λk=>xl kvs k
 | .inr kvs,.t ts=>(xa ts).bind λks=>if (cs.any λc=>decide (c=ks))=true then none else some (xl kvs ks)
 | _,_=>none
noncomputable def ACK (cs:List (List vT)) (d:Dk) (t v:T):Option Dk:=match d,t with
 | .inl kvs,t=>(yj t).bind λk=>if kvs.length < AD then some (.inl (zu kvs k v)) else none
 | .inr kvs,.t ts=>(xa ts).bind λks=>if (cs.any λc=>decide (c=ks))=true then none else if kvs.length < AD then some (.inr (zu kvs ks v)) else none
 | _,_=>none
section
variable {K:Fg}{C:Fr}{w:W}{Γ:En}{σ:St}{H:Hp}{cs:List (List vT)}
theorem Nx(R:ui K C w Γ σ H)(o:vJ K C w σ H x s)(e:dictOf Γ s=some d):∃ p ob,x=.ref p/\H p=some ob/\yM K H ob d:=by
 cases s with
 | v t | l _=>cases e
 | d d' =>
  cases e;obtain⟨p,ob,rfl,_,_,_,h1,h2⟩:=o;exact⟨p,ob,rfl,h1,h2⟩
 | s i =>
  unfold dictOf at e;have o':=o;dsimp only at e;split at e
  ·rename_i d' hi;cases e;obtain⟨v,e1,p,ob,rfl,_,h1,h2⟩:=R.val i _ hi;rw[o']at e1;cases e1;exact⟨p,ob,rfl,h1,h2⟩
  ·rename_i d' hi;cases e;obtain⟨v,e1,p,ob,rfl,h2,h1,_⟩:=R.val i _ hi;rw[o']at e1;cases e1;exact⟨p,ob,rfl,h1,h2⟩
  ·cases e
theorem yM.invK(h:yM K H ob (.inl kvs)):∃ l,ob=.dK l/\PR K H l kvs:=by
 cases ob with
 | dK l=>exact⟨l,rfl,h⟩
 | _=>exact h.elim
theorem yM.invT(h:yM K H ob (.inr kvs)):∃ l,ob=.dT l/\PR K H l kvs:=by
 cases ob with
 | dT l=>exact⟨l,rfl,h⟩
 | _=>exact h.elim
theorem yM.isD(h:yM K H ob d)(hp:H p=some ob):IsD H p:=by
 cases d with
 | inl kvs=>obtain⟨l,rfl,_⟩:=h.invK;exact .inl ⟨l,.inl hp⟩
 | inr kvs=>obtain⟨l,rfl,_⟩:=h.invT;exact .inr ⟨l,.inl hp⟩
def XU(hc:KC K cs)(h:Im K H y (.t ts))(e:xa ts=some ks)(n:¬ (cs.any λc=>decide (c=ks))=true):∃ b,y=.ref b/\H b=some (.tup (ks.map kV)):=by
 obtain⟨b,vs,rfl,h1,h2⟩:=h.inv;have:=P6 h2 e;subst this;rcases h1 with h1 | h1
 ·exact⟨b,rfl,h1⟩
 ·exact absurd (DQ.mpr ⟨ks,hc b ks h1,decide_eq_true rfl⟩) n
def Tx(hc:KC K cs)(hp:H p=some ob)(hd:yM K H ob d)(hy:Im K H y t)(e:ABJ cs d t=some r) :
  ∃ r',xw H p y r'/\((r=none/\r'=none)\/∃ t' v',r=some t'/\r'=some v'/\Im K H v' t'):=by
 unfold ABJ at e;split at e
 ·obtain⟨l,rfl,h1⟩:=hd.invK;obtain⟨k,e1,rfl⟩:=map_some e;rw[Pi hy e1];refine⟨_,xw.k hp,?_⟩;rcases h1.val k with ⟨a,b⟩ | ⟨v,t',a,b,c⟩
  ·exact .inl ⟨b,a⟩
  ·exact .inr ⟨t',v,b,a,c⟩
 ·obtain⟨l,rfl,h1⟩:=hd.invT;obtain⟨ks,e1,e⟩:=uJ e;split at e
  ·cases e
  ·rename_i n;cases e;obtain⟨b,rfl,h2⟩:=XU hc hy e1 n;refine⟨_,xw.t hp h2,?_⟩;rcases h1.val ks with ⟨a,b⟩ | ⟨v,t',a,b,c⟩
   ·exact .inl ⟨b,a⟩
   ·exact .inr ⟨t',v,b,a,c⟩
 ·cases e
def c9(hc:KC K cs)(hp:H p=some ob)(hd:yM K H ob d)(hy:Im K H y t)(hv:Im K H v tv)(e:ACK cs d t tv=some d') :
  ∃ ob',za H p y v (upd H p ob')/\yM K H ob' d':=by
 unfold ACK at e;split at e
 ·obtain⟨l,rfl,h1⟩:=hd.invK;obtain⟨k,e1,e⟩:=uJ e;split at e
  ·rename_i hl;cases e;rw[Pi hy e1];exact⟨_,za.k hp (by rw[h1.len];exact hl),h1.put k hv⟩
  ·cases e
 ·obtain⟨l,rfl,h1⟩:=hd.invT;obtain⟨ks,e1,e⟩:=uJ e;split at e
  ·cases e
  ·rename_i n;split at e
   ·rename_i hl;cases e;obtain⟨b,rfl,h2⟩:=XU hc hy e1 n;exact⟨_,za.t hp h2 (by rw[h1.len];exact hl),h1.put ks hv⟩
   ·cases e
 ·cases e
end
noncomputable def ABu (cs:List (List vT)):En->S->S->Option S:=λΓ a b=>(dictOf Γ a).bind λd=>match b with
 | .v t=>(ABJ cs d t).bind λr=>r.map .v
 | _=>none
noncomputable def ACt:R2:=λx y H Q=>∃ a v,x=.ref a/\xw H a y (some v)/\Q v H
section
variable {K:Fg}{cs:List (List vT)}
def Xw(hc:KC K cs):vD K ACt (ABu cs):=by
 intro C w Γ σ H x y a b s Q R ox oy e k;obtain⟨d,e1,e⟩:=uJ e;split at e
 ·obtain⟨r,e2,e⟩:=uJ e;obtain⟨p,ob,rfl,hp,hd⟩:=Nx R ox e1;obtain⟨r',g,z⟩:=Tx hc hp hd oy e2;rcases z with ⟨z,_⟩ | ⟨t2,v2,z1,z2,z3⟩
  ·subst z;cases e
  ·subst z1 z2;cases e;exact⟨p,v2,rfl,g,k _ H R .refl z3 trivial⟩
 ·cases e
noncomputable def ym (cs:List (List vT)) (fo fk fx:DE):DE:=λΓ=>(fo Γ).bind λp=>if (dictOf p.2 p.1).isSome=true then (fk p.2).bind λq=>(fx q.2).bind λz=>(dictOf z.2 p.1).bind λd=>match q.1,z.1 with
 | .v t,.v u=>(ABJ cs d t).map λr=>(.v (r.getD u),z.2)
 | _,_=>none
 else none
def dB(hc:KC K cs)(ho:uj K td fo)(hk:uj K ty fk)(hx:uj K tx fx):uj K (AAs td ty tx) (ym cs fo fk fx):=by
 intro C w Γ σ H s Γ' Q R e k;obtain⟨⟨a,G1⟩,e1,e⟩:=uJ e;dsimp only at e;split at e
 rotate_left
 ·cases e
 rename_i hs0;obtain⟨d0,hs0⟩:=CQ.mp hs0;obtain⟨⟨b,G2⟩,e2,e⟩:=uJ e;obtain⟨⟨c,G3⟩,e5,e⟩:=uJ e;obtain⟨d,e3,e⟩:=uJ e;dsimp only at e;split at e
 rotate_left
 ·cases e
 rename_i t u hb hu;obtain⟨r,e4,e⟩:=map_some e;cases e;refine ho C w Γ σ H a G1 _ R e1 λv H1 R1 ev1 o1 n1=>?_
 obtain⟨p,ob,rfl,hp,hd⟩:=Nx R1 o1 hs0;refine⟨p,rfl,hd.isD hp,?_⟩;refine hk C w G1 σ H1 _ _ _ R1 e2 λy H2 R2 ev2 o2 n2=>?_
 refine hx C w G2 σ H2 _ _ _ R2 e5 λz H3 R3 ev3 o3 n3=>?_
 obtain⟨p2,ob2,ep,hp2,hd2⟩:=Nx R3 ((o1.evo ev2 R1.lst).evo ev3 R2.lst) e3;cases ep;have o2':Im K H3 y t:=Im.evo ev3 R2.lst o2;obtain⟨r',g,z⟩:=Tx hc hp2 hd2 o2' e4;refine⟨r',g,?_⟩;rcases z with ⟨z1,z2⟩ | ⟨t2,v2,z1,z2,z3⟩
 ·subst z1 z2;exact k _ H3 R3 ((ev1.trans ev2).trans ev3) o3 trivial
 ·subst z1 z2;exact k _ H3 R3 ((ev1.trans ev2).trans ev3) z3 trivial
noncomputable def AAH (b:Bool):DE:=λΓ=>some (.d (if b then .inr [] else .inl []),Γ)
def ao:uj K AAp (AAH true):=by
 intro C w Γ σ H s Γ' Q R e k;cases e;exact λp hp=>k _ _ (R.new hp) (vG.new hp) (R.newd hp .nil) ⟨p,rfl,hp⟩
noncomputable def ACW (Γ:En) (i:Nat):Bool:=match Γ[i]? with
 | some (some (.d _))=>true
 | _=>false
noncomputable def AAQ (cs:List (List vT)) (i:Nat) (fk fv:DE):DS:=λΓ=>(fv Γ).bind λp=>match p.1 with
 | .v tv=>if ACW p.2 i=true then (fk p.2).bind λq=>match q.1,q.2[i]? with
  | .v tk,some (some (.d d))=>(ACK cs d tk tv).map λd'=>.nx (q.2.set i (some (.d d')))
  | _,_=>none
  else none
 | _=>none
theorem X5(hc:KC K cs)(hk:uj K ty fk)(hv:uj K tv fv):wU K ip (ACm (xJ i) ty tv) (AAQ cs i fk fv):=by
 intro C w Γ σ H D o hpin R e k;obtain⟨⟨a,G1⟩,e1,e⟩:=uJ e;dsimp only at e;cases a with
 | l _ | s _ | d _=>cases e
 | v t1 =>
  dsimp only at e;by_cases hl:ACW G1 i=true
  ·rw[if_pos hl]at e;obtain⟨⟨b,G2⟩,e2,e⟩:=uJ e;dsimp only at e;split at e
   rotate_left
   ·cases e
   rename_i tk d hi;obtain⟨d',e3,rfl⟩:=map_some e;refine hv C w Γ σ H _ G1 _ R e1 λv H1 R1 ev1 o1 n1=>?_
   obtain⟨d0,hd0⟩:∃ d0,G1[i]?=some (some (.d d0)):=by
    unfold ACW at hl;split at hl
    ·rename_i d0 h0;exact⟨d0,h0⟩
    ·cases hl
   obtain⟨v0,s1,p,ob,rfl,m0,h0,q0⟩:=R1.val i _ hd0;refine⟨.ref p,s1,hk C w G1 σ H1 _ G2 _ R1 e2 λy H2 R2 ev2 o2 n2=>?_⟩;obtain⟨v3,s3,p3,ob3,rfl,m3,h3,q3⟩:=R2.val i _ hi;rw[s1]at s3;cases s3;obtain⟨ob',g,z⟩:=c9 hc h3 q3 o2 (Im.evo ev2 R1.lst o1) e3;exact⟨p,_,rfl,g,k w σ _ (R2.putD hi s1 z).1⟩
  ·rw[if_neg hl]at e;cases e
end
section
variable {ι:Type}{K:Fg}{mg:Str->Option AK}{k:Nat}{X:ι->Cx}{cs:List (List vT)}{o i e f:Expr}{fo fk fx:DE}{pos apos cpos:Pos}{ip:Option Nat}
def Pd(M:Fm K mg k X) j:(X j).A.units+1 < EC:=by have:=(M.room j).un;lia
def kZ(M:Fm K mg k X)(hc:KC K cs)(ho:EX K X o fo)(hk:EX K X i fk)(hs:ABi i:=by intro _ _;rfl):EX K X (.Subscript o i pos) (uM (ABu cs) fo fk):=
 let ⟨_,p,s⟩:=ho;let ⟨_,q,u⟩:=hk;⟨_,λj=>We (Pd M j) (p j) (q j) hs,Na (Xw hc) s u⟩
def aP(M:Fm K mg k X)(hc:KC K cs)(ho:EX K X o fo)(hk:EX K X e fk)(hx:EX K X f fx)(m:∀ j,M2 (X j) o "get" apos e f cpos:=by intro _;exact⟨rfl,rfl,rfl,rfl⟩):EX K X (.Call (.Attribute o "get" apos) [e,f] [] cpos) (ym cs fo fk fx):=
 let ⟨_,p,s⟩:=ho;let ⟨_,q,u⟩:=hk;let ⟨_,r,v⟩:=hx;⟨_,λj=>kz (Pd M j) (p j) (q j) (r j) (m j),dB hc s u v⟩
def fR:EX K X (.Dict [] [] pos) (AAH true):=⟨_,λ_=>cj,ao⟩
def d9 n (M:Fm K mg k X) (hc:KC K cs) (ho:∀ j,PE (X j) (.Name y yp) (xJ n)) (hk:EX K X i fk) (hv:EX K X e fx) (hs:∀ j,D4 e (some (.Subscript (.Name y yp) i p2)) pos.line (X j).env=pure false:=by intro _;rfl) :
  SX K X ip (.Assign [.Subscript (.Name y yp) i p2] e pos) (AAQ cs n fk fx):=
 let ⟨_,q,u⟩:=hk;let ⟨_,r,v⟩:=hv;⟨_,λj=>Ym (Pd M j) (ho j) (q j) (r j) (hs j),X5 hc u v⟩
end
section
variable {Γ:En}{cs:List (List vT)}{fo fk fx:DE}{i:Nat}
@[simp] theorem tf:dictOf Γ (.d d)=some d:=(rfl)
@[simp] theorem tJ:dictOf Γ (.s i)=match Γ[i]? with
  | some (some (.d d)) | some (some (.e d))=>some d
  | _=>none:=(rfl)
@[simp] theorem sJ:ABu cs Γ a (.v t)=(dictOf Γ a).bind λd=>(ABJ cs d t).bind λr=>r.map .v:=(rfl)
@[simp] theorem qG:AAH b Γ=some (.d (if b then .inr [] else .inl []),Γ):=(rfl)
@[simp] theorem q9:ACW Γ i=match Γ[i]? with
 | some (some (.d _))=>true
 | _=>false:=(rfl)
@[simp] theorem tL:AAQ cs i fk fv Γ=(fv Γ).bind λp=>match p.1 with
 | .v tv=>if ACW p.2 i=true then (fk p.2).bind λq=>match q.1,q.2[i]? with
  | .v tk,some (some (.d d))=>(ACK cs d tk tv).map λd'=>.nx (q.2.set i (some (.d d')))
  | _,_=>none
  else none
 | _=>none:=(rfl)
@[simp] theorem qD:ym cs fo fk fx Γ=(fo Γ).bind λp=>if (dictOf p.2 p.1).isSome=true then (fk p.2).bind λq=>(fx q.2).bind λz=>(dictOf z.2 p.1).bind λd=>match q.1,z.1 with
 | .v t,.v u=>(ABJ cs d t).map λr=>(.v (r.getD u),z.2)
 | _,_=>none
 else none:=(rfl)
end
section
variable {K:Fg}{C:Fr}{w:W}{Γ:En}{σ:St}{H:Hp}
def ui.tmp(r:ui K C w Γ σ H)(n1:p∉w.L)(n2:¬ w.R p)(ow:Ow C p)(hp:H p=some ob)(m:Mu ob):ui K C w Γ σ (upd H p ob'):=by
 have ev:vG (p::w.L) H (upd H p ob'):=λc o e n=>by rw[Ll (λz:c=p=>n (by rw[z];exact AG))];exact e
 have hL:LL (p::w.L) H:=λq hq=>by
  rcases AR.mp hq with z | z
  ·subst z;exact⟨ob,hp,m⟩
  ·exact r.lst q z
 have nl:∀ {q:Addr},q∈w.L->q≠p:=λhq z=>n1 (z ▸ hq)
 have nr:∀ {q:Addr},w.R q->q≠p:=λhq z=>n2 (z ▸ hq)
 refine⟨r.len,λi g h=>?_,r.apart,λq hq=>?_,r.own,λq hq=>?_,r.rl,λb o hb n=>?_,r.tab.evo ev hL,r.pin⟩
 ·obtain⟨v,e1,e2⟩:=r.val i g h;refine⟨v,e1,?_⟩;cases g with
  | v t=>exact Im.evo ev hL e2
  | l xs=>obtain⟨q,vs,rfl,hq,hv,hi⟩:=e2;exact⟨q,vs,rfl,hq,by rw[Ll (nl hq)];exact hv,hi.evo ev hL⟩
  | r xs=>obtain⟨q,vs,rfl,hi,hv,a,b⟩:=e2;exact⟨q,vs,rfl,hi.evo ev hL,by rw[Ll (nr b)];exact hv,a,b⟩
  | k xs=>obtain⟨q,vs,rfl,hi,hk⟩:=e2;exact⟨q,vs,rfl,hi.evo ev hL,hk.evo ev hL⟩
  | d xs=>obtain⟨q,o,rfl,hq,hv,hi⟩:=e2;exact⟨q,o,rfl,hq,by rw[Ll (nl hq)];exact hv,hi.evo ev hL⟩
  | e xs=>obtain⟨q,o,rfl,hi,hv,a,b⟩:=e2;exact⟨q,o,rfl,hi.evo ev hL,by rw[Ll (nr b)];exact hv,a,b⟩
 ·obtain⟨o,e,m⟩:=r.lst q hq;exact⟨o,by rw[Ll (nl hq)];exact e,m⟩
 ·obtain⟨o,e⟩:=r.ra q hq;exact⟨o,by rw[Ll (nr hq)];exact e⟩
 ·have hb':=r.frame b o hb n;have:b≠p:=λz=>by
   subst z;rcases ow with ow | ow
   ·exact n ow
   ·rw[ow]at hb;cases hb
  rw[Ll this];exact hb'
end
end D
namespace L2
open PySem PySem.Spec PyProof.Rows
def X6:GM (.type "zip") "__getattr__"=pure none:=by rw[Dh];kernel_rfl
def Ya:GM (.type "zip") "keys"=pure none:=by rw[Dh];kernel_rfl
def bZ:Hf table "zip.__getattribute__"=some Builtin.«object.__getattribute__» :=
 K9 (id':="object.__getattribute__") rfl rfl ↥4 rfl
def bM(a:Addr) fs sl (u:Tok) :
  Iz (Builtin.«object.__getattribute__» ⟨[.ref a,.str "keys" u],[]⟩) (λA R s=>s.heap.get? a=some { cls:=.type "zip",dict:=none,data:=.fields fs,slots:=sl }/\raisesAttr (.ref a) "keys" A R s):=
 Meets.of_wp λprog w A R s hs=>by
  obtain⟨hp,g,d,tk,os⟩:=s;obtain⟨hx,hs⟩:=hs;have hT:(⟨hp,g,d,tk,os⟩:Ab).TypeIs (.ref a) "zip":=⟨_,hx,rfl⟩
  have hmiss:=Ya
  repeat (any_goals (first | assumption | wp_step))
  exact wpAny_raiseAttrError hs.1 hs.2 (attrMsg_fits ↥4 ↥4)
def getAttr?_miss_zip
  (hx:s.heap.get? a=some { cls:=.type "zip",data:=.fields fs }) (hA:A.handled=none)
  (h:∀ h' tk e,Heap.NewExcOf s.heap h' e "AttributeError"->Q none { s with heap:=h',toks:=tk }) :
  AW (model prog w) A (getAttr? (.ref a) "keys") Q E s:=by
 obtain⟨hp,g,d,tk,os⟩:=s;have hT:∀ tk',(⟨hp,g,d,tk',os⟩:Ab).TypeIs (.ref a) "zip":=λ_=>⟨_,hx,rfl⟩
 have f1:=sub_AttributeError;have f3:=Ey.lookup;have f4:=Ey.bind (.ref a);have f5:=X6
 repeat (any_goals (first | assumption | exact hT _ | ((with_reducible show AW _ _ (call (Value.builtin "zip.__getattribute__") _ _) _ _ _);refine DW Ey (hT _) bZ (F.args_zip_getattribute_2 _ _) (bM a fs #[] _) ⟨hx,hA,λh' tk' e hx'=>?_⟩) | wp_step))
 obtain⟨t',u',he⟩:=hx'.there;unfold getattributeRaised
 repeat (any_goals (first | assumption | wp_step))
 exact h _ _ _ hx'.of
abbrev AAx (h:Heap) (z TI TO T:Addr) (f:Bool):Prop:=
 h.get? z=some { cls:=.type "zip",dict:=none,data:=.fields #[D5 T,.bool f,.bool false,.ref TI,.ref TO],slots:=#[] }
section
variable {prog:Ah}{w:A5}{A:BY}{E:AK->Ab->Prop}{s:Ab}
def gI(ho:s.heap.get? a=some o)(h:Q (some o) s):AW (model prog w) A (loadIfAlive a) Q E s:=PySem.W.kdx_alive ho h
variable {z TI TO i1 i2 l1 l2 T:Addr}{S1 S2:Nat->Heap->Prop}{xs ys:Array AK}{k:Nat}{f:Bool}{oT:Obj}
theorem U9(hz:AAx s.heap z TI TO T f)(hT:s.heap.get? T=some oT)
  (h:∀ h1,AAx h1 z TI TO T true->DK z s.heap h1->Q false { s with heap:=h1 }):AW (model prog w) A (Ba (.ref z)) Q E s:=by
 refine AB (Ap hz rfl (x:=D5 T) rfl (AB (gI hT (AB (Ap hz rfl (x:=.bool f) rfl ?_)))));cases f with
 | true=>exact AF (h _ hz (Kn _ _))
 | false =>
  exact AB (A6 hz ↥1 λh1 z1 b1=>AF (h h1 z1 b1))
def Wc{Q:AK->Ab->Prop}(D:zk z TI TO i1 i2 l1 l2)(D1:wQ prog w i1 l1 xs S1)(D2:wQ prog w i2 l2 ys S2)(hz:AAx s.heap z TI TO T f)(hT:s.heap.get? T=some oT)(hTI:CZ s.heap TI (.ref i1) (.ref i2))(st1:S1 k s.heap)(st2:S2 k s.heap)(hx:xs[k]?=some x)(hy:ys[k]?=some y)
  (hQ:∀ h',AAx h' z TI TO T true->S1 (k+1) h'->S2 (k+1) h'->CZ h' s.heap.objs.size x y ->
   (∀ c o,c≠z->c≠i1->c≠i2->s.heap.get? c=some o->h'.get? c=some o)->Q (.ref s.heap.objs.size) { s with heap:=h' }) :
  AW (model prog w) A (Builtin.«zip.__next__» ⟨[.ref z],[]⟩) (λfin s'=>∃ v,fin=.done (.ret v)/\Q v s') E s:=by
 obtain⟨⟨TIz,TOz,i1z,i2z,TITO,TIi1,TIi2,TOi1,TOi2,i12,l1z,l1TO,l1i1,l1i2,l2z,l2TO,l2i1,l2i2⟩,_,_⟩:=D;show AW _ _ (field (.ref z) 2 >>= _) _ _ _;refine AB (Ap hz rfl (x:=.bool false) rfl ?_);show AW _ _ (field (.ref z) 3 >>= _) _ _ _;refine AB (Ap hz rfl (x:=.ref TI) rfl (AB (Be hTI rfl ?_)));refine AB (U9 hz hT λh1 z1 b1=>AB ?_);refine AB (AB (BU ?_));show AW _ _ (Aq (.ref i1) >>= _) _ _ _;refine AB (D1.item _ k _ x _ _ (D1.keep _ _ _ st1 (λo e=>b1.extBut _ _ i1z e) λo e=>b1.extBut _ _ l1z e) hx λh2 t1 b2=>AF ?_);refine AF (AB (AB (BU ?_)));show AW _ _ (Aq (.ref i2) >>= _) _ _ _;refine AB (D2.item _ k _ y _ _ (D2.keep _ _ _ st2 (λo e=>b2.extBut _ _ i12.symm (b1.extBut _ _ i2z e)) λo e=>b2.extBut _ _ l2i1 (b1.extBut _ _ l2z e)) hy λh4 t2 b4=>AF (AF (AF (AB (Ed ?_ (by show 2<=AD;decide))))));have hsz:h4.objs.size=s.heap.objs.size:=by rw[b4.1,b2.1,b1.1]
 have k4:∀ c o,c≠z->c≠i1->c≠i2->s.heap.get? c=some o->h4.get? c=some o:=λc o c1 c3 c4 e=>b4.extBut _ _ c4 (b2.extBut _ _ c3 (b1.extBut _ _ c1 e))
 refine AF ⟨_,rfl,?_⟩;rw[hsz];have up:∀ c o,h4.get? c=some o->(h4.push { cls:=.type "tuple",data:=.seq #[x,y] }).get? c=some o:=λc o e=>AC _ e
 refine hQ _ (up _ _ (b4.extBut _ _ i2z.symm (b2.extBut _ _ i1z.symm z1))) (D1.keep _ _ _ (D1.keep _ _ _ t1 (λo e=>b4.extBut _ _ i12 e) λo e=>b4.extBut _ _ l1i2 e) (λo e=>up _ o e) λo e=>up _ o e) (D2.keep _ _ _ t2 (λo e=>up _ o e) λo e=>up _ o e) ?_ λc o c1 c2 c3 e=>up _ _ (k4 c o c1 c2 c3 e)
 rw[← hsz];exact AN _ rfl
def U1(hh:A.handled=none)(D:zk z TI TO i1 i2 l1 l2)(D1:wQ prog w i1 l1 xs S1)(hz:AAx s.heap z TI TO T f)(hT:s.heap.get? T=some oT)(hTI:CZ s.heap TI (.ref i1) (.ref i2))(st1:S1 k s.heap)(hx:xs[k]?=none)
  (hE:∀ h' e,(∀ c o,c≠z->c≠i1->s.heap.get? c=some o->h'.get? c=some o)->(∃ o,h'.get? e=some o/\o.cls=.type "StopIteration")->E (.ref e) { s with heap:=h' }) :
  AW (model prog w) A (Builtin.«zip.__next__» ⟨[.ref z],[]⟩) Q E s:=by
 obtain⟨⟨TIz,TOz,i1z,i2z,TITO,TIi1,TIi2,TOi1,TOi2,i12,l1z,l1TO,l1i1,l1i2,l2z,l2TO,l2i1,l2i2⟩,_,_⟩:=D;show AW _ _ (field (.ref z) 2 >>= _) _ _ _;refine AB (Ap hz rfl (x:=.bool false) rfl ?_);show AW _ _ (field (.ref z) 3 >>= _) _ _ _;refine AB (Ap hz rfl (x:=.ref TI) rfl (AB (Be hTI rfl ?_)));refine AB (U9 hz hT λh1 z1 b1=>AB ?_);refine AB (AB (BU ?_));show AW _ _ (Aq (.ref i1) >>= _) _ _ _;exact AB (D1.fini _ k _ _ _ hh (D1.keep _ _ _ st1 (λo e=>b1.extBut _ _ i1z e) λo e=>b1.extBut _ _ l1z e) hx λh2 e b2 he=>hE h2 e (λc o c1 c2 q=>b2 _ _ c2 (b1.extBut _ _ c1 q)) he)
end
def So:Hf table "dict.update.loop"=some Builtin.«dict.update.loop»:=G6 rfl
def WA:plainId "dict.update.loop"=true:=↥4
structure ZL(z TI TO i1 i2 a1 a2 d:Addr)(xs ys:Array AK)(k:Nat)(h:Heap):Prop where
 zz:(HE h z TI TO .none/\∃ a b,CZ h TO a b)\/∃ T oT f,AAx h z TI TO T f/\h.get? T=some oT/\T≠z/\T≠i1/\T≠i2/\T≠d
 ti:CZ h TI (.ref i1) (.ref i2)
 s1:h.IsTupleIter i1 a1 k/\h.IsTuple a1 xs
 s2:h.IsTupleIter i2 a2 k/\h.IsTuple a2 ys
section
variable {prog:Ah}{w:A5}{A:BY}{E:AK->Ab->Prop}{s:Ab}{z TI TO i1 i2 a1 a2 d:Addr}{xs ys:Array AK}{k:Nat}
theorem ZL.type(st:ZL z TI TO i1 i2 a1 a2 d xs ys k h):∃ o,h.get? z=some o/\o.cls=.type "zip":=by
 rcases st.zz with ⟨q,_⟩ | ⟨T,oT,f,q,_⟩
 iterate 2
  ·exact⟨_,q,rfl⟩
def ZL.keep(st:ZL z TI TO i1 i2 a1 a2 d xs ys k h)(n1:z≠d)(n2:TI≠d)(n3:TO≠d)(n4:i1≠d)(n5:i2≠d)(n6:a1≠d)(n7:a2≠d)(kp:∀ c o,c≠d->h.get? c=some o->h'.get? c=some o):ZL z TI TO i1 i2 a1 a2 d xs ys k h' where
 zz:=by
  rcases st.zz with ⟨q,a,b,q2⟩ | ⟨T,oT,f,q,q2,q3,q4,q5,q6⟩
  ·exact .inl ⟨kp _ _ n1 q,a,b,kp _ _ n3 q2⟩
  ·exact .inr ⟨T,oT,f,kp _ _ n1 q,kp _ _ q6 q2,q3,q4,q5,q6⟩
 ti:=kp _ _ n2 st.ti
 s1:=⟨(let ⟨o,e,r⟩:=st.s1.1;⟨o,kp _ _ n4 e,r⟩),(let ⟨o,e,r⟩:=st.s1.2;⟨o,kp _ _ n6 e,r⟩)⟩
 s2:=⟨(let ⟨o,e,r⟩:=st.s2.1;⟨o,kp _ _ n5 e,r⟩),(let ⟨o,e,r⟩:=st.s2.2;⟨o,kp _ _ n7 e,r⟩)⟩
def bA(D:zk z TI TO i1 i2 a1 a2)(hd:d < s.heap.objs.size)(st:ZL z TI TO i1 i2 a1 a2 d xs ys k s.heap)(hx:xs[k]?=some x)(hy:ys[k]?=some y)
  (hQ:∀ h',ZL z TI TO i1 i2 a1 a2 d xs ys (k+1) h'->CZ h' s.heap.objs.size x y->(∀ c o,c≠z->c≠TO->c≠i1->c≠i2->s.heap.get? c=some o->h'.get? c=some o)->Q (some (.ref s.heap.objs.size)) { s with heap:=h' }) :
  AW (model prog w) A (Dl (.ref z)) Q E s:=by
 have hT:=st.type;have lz:z < s.heap.objs.size:=by obtain⟨o,e,_⟩:=st.type;exact AJ e
 have l1:i1 < s.heap.objs.size:=by obtain⟨o,e,_⟩:=st.s1.1;exact AJ e
 have l2:i2 < s.heap.objs.size:=by obtain⟨o,e,_⟩:=st.s2.1;exact AJ e
 refine AB (Bf (Al hT Bc (As Bc hT DX ?_ (DB _))));rcases st.zz with ⟨q,a,b,q2⟩ | ⟨T,oT,f,q,q2,q3,q4,q5,q6⟩
 ·exact QP D (Mv i1 a1 xs D.a.l1i1) (Mv i2 a2 ys D.a.l2i2) ⟨q,st.ti,⟨a,b,q2⟩,st.s1,st.s2⟩ hx hy λh' st' hp hk=>AF (hQ h' ⟨.inr ⟨_,_,false,st'.z,hp,BK lz,BK l1,BK l2,BK hd⟩,st'.ti,st'.s1,st'.s2⟩ hp hk)
 ·exact Wc D (Mv i1 a1 xs D.a.l1i1) (Mv i2 a2 ys D.a.l2i2) q q2 st.ti st.s1 st.s2 hx hy λh' z' t1 t2 hp hk=>AF (hQ h' ⟨.inr ⟨T,oT,true,z',hk _ _ q3 q4 q5 q2,q3,q4,q5,q6⟩,hk _ _ D.a.TIz D.a.TIi1 D.a.TIi2 st.ti,t1,t2⟩ hp λc o c1 _ c3 c4 e=>hk c o c1 c3 c4 e)
def j4(hh:A.handled=none)(D:zk z TI TO i1 i2 a1 a2)(st:ZL z TI TO i1 i2 a1 a2 d xs ys k s.heap)(hx:xs[k]?=none)
  (hQ:∀ h',(∀ c o,c≠z->c≠TO->c≠i1->c≠i2->s.heap.get? c=some o->h'.get? c=some o)->Q none { s with heap:=h' }) :
  AW (model prog w) A (Dl (.ref z)) Q E s:=by
 have hT:=st.type;refine AB (Bf (Al hT Bc (As Bc hT DX ?_ (DB _))));rcases st.zz with ⟨q,a,b,q2⟩ | ⟨T,oT,f,q,q2,q3,q4,q5,q6⟩
 ·refine RV hh D (Mv i1 a1 xs D.a.l1i1) (Mv i2 a2 ys D.a.l2i2) ⟨q,st.ti,⟨a,b,q2⟩,st.s1,st.s2⟩ (.inl hx) λh' e hk he=>?_
  obtain⟨o,ho,hcl⟩:=he;exact AB (Bh ⟨o,ho,hcl⟩ Cp (AF (hQ h' hk)))
 ·refine U1 hh D (Mv i1 a1 xs D.a.l1i1) q q2 st.ti st.s1 hx λh' e hk he=>?_
  obtain⟨o,ho,hcl⟩:=he;exact AB (Bh ⟨o,ho,hcl⟩ Cp (AF (hQ h' λc o c1 _ c3 _ e=>hk c o c1 c3 e)))
theorem d5{knd:Gv prog w vT}{R}(hh:A.handled=none)(D:zk z TI TO i1 i2 a1 a2)(n1:z≠d)(n2:TI≠d)(n3:TO≠d)(n4:i1≠d)(n5:i2≠d)(n6:a1≠d)(n7:a2≠d)
  rs (hx:∀ (j:Nat) p,rs[j]?=some p->∃ key,xs[j]?=some key/\knd.is p.1 key=true/\ys[j]?=some p.2) (hxe:xs[rs.length]?=none) (hsz:rs.length<=100000) {s0:Ab}
  (hR:∀ h' tk,h'.DictOf knd d (merged [] rs)->(∀ c o,c≠z->c≠TO->c≠i1->c≠i2->c≠d->s0.heap.get? c=some o->h'.get? c=some o)->R (.ok (.ret .none)) { s0 with heap:=h',toks:=tk }) :
  ∀ m k h tk t,rs.length - k=m->k<=rs.length->ZL z TI TO i1 i2 a1 a2 d xs ys k h->h.DictOf knd d (merged [] (rs.take k))->(∀ c o,c≠z->c≠TO->c≠i1->c≠i2->c≠d->s0.heap.get? c=some o->h.get? c=some o) ->
   DM (model prog w) A (.builtin "dict.update.loop" ⟨[.ref d,.ref z,.int k t,.none],[]⟩) R { s0 with heap:=h,toks:=tk }:=by
 intro m;induction m with
 | zero =>
  intro k h tk t hm hk st hD hkp;have hkn:k=rs.length:=by lia
  subst hkn;refine Dg So ?_;refine AB (j4 hh D st hxe λh' hk'=>AB (AF (AF ?_)));rw[List.take_length]at hD;refine hR h' tk (hD.at λo e=>hk' d o n1.symm n3.symm n4.symm n5.symm e) λc o c1 c2 c3 c4 c5 e=>hk' c o c1 c2 c3 c4 (hkp c o c1 c2 c3 c4 c5 e)
 | succ m ih =>
  intro k h tk t hm hk st hD hkp;have hlt:k < rs.length:=by lia
  obtain⟨key,e1,e2,e3⟩:=hx k rs[k] ↥1;refine Dg So ?_;have hdl:d < h.objs.size:=by obtain⟨o,_,_,e,_⟩:=hD;exact AJ e
  refine AB (bA D hdl st e1 e3 λh' st' hp hk'=>AB (BU (AB (wpAny_tryCatch ?_))));refine AB (Da (⟨_,hp,rfl⟩) (AB (Be hp rfl (AF ?_))));have hlm:(merged [] (rs.take k)).length<=AD:=by
   have:=merged_length_le ([]) (rs.take k);have e:(rs.take k).length<=100000:=by rw[Ef];lia
   rw[Cr]at this;exact Aa ⋯ (show 100000<=AD by decide)
  refine BU (wpAny_dictSet_pairs e2 (hD.at λo e=>hk' d o n1.symm n3.symm n4.symm n5.symm e) λh2 hD2 hs=>?_);rw[← merged_take_succ [] rs k rs[k] ↥1]at hD2;exact AF ⟨DC WA _,ih (k+1) h2 (tk+1) 0 ⋯ ⋯ (st'.keep n1 n2 n3 n4 n5 n6 n7 λc o hc e=>(hs.2 c hc).trans e) hD2 λc o c1 c2 c3 c4 c5 e=>(hs.2 c c5).trans (hk' c o c1 c2 c3 c4 (hkp c o c1 c2 c3 c4 c5 e))⟩
end
section
variable {prog:Ah}{w:A5}{A:BY}{E:AK->Ab->Prop}{s:Ab}{z TI TO i1 i2 a1 a2:Addr}{xs ys:Array AK}
def mN{knd:Gv prog w vT}{Q}(hh:A.handled=none)(D:zk z TI TO i1 i2 a1 a2)(hz:HE s.heap z TI TO .none)(hTO:∃ a b,CZ s.heap TO a b)(hTI:CZ s.heap TI (.ref i1) (.ref i2))
  (h1:s.heap.IsTupleIter i1 a1 0/\s.heap.IsTuple a1 xs) (h2:s.heap.IsTupleIter i2 a2 0/\s.heap.IsTuple a2 ys)
  rs (hx:∀ (j:Nat) p,rs[j]?=some p->∃ key,xs[j]?=some key/\knd.is p.1 key=true/\ys[j]?=some p.2) (hxe:xs[rs.length]?=none) (hsz:rs.length<=100000)
  (h:∀ h' tk,h'.DictOf knd s.heap.objs.size (merged [] rs)->(∀ c o,c≠z->c≠TO->c≠i1->c≠i2->s.heap.get? c=some o->h'.get? c=some o)->Q (.ref s.heap.objs.size) { s with heap:=h',toks:=tk }) :
  AW (model prog w) A (call (.type "dict") [.ref z]) Q E s:=by
 refine Hh (Q₁:=λobj s₁=>obj=.ref s.heap.objs.size/\s₁={ s with heap:=s.heap.push { cls:=.type "dict",data:=.dict #[] } }) PySem.F.kt_called_dict (PySem.F.kt_typeCall_dict_1 _) PySem.F.entry_dict_init (kt_code_dict_new _ ⟨rfl,rfl⟩) ?_;rintro obj s₁ ⟨rfl,rfl⟩;have hnew:(s.heap.push { cls:=.type "dict",data:=.dict #[] }).DictOf knd s.heap.objs.size []:=HV s.heap;have up:∀ c o,s.heap.get? c=some o->(s.heap.push { cls:=.type "dict",data:=.dict #[] }).get? c=some o:=λc o e=>AC _ e
 have hz':=up _ _ hz;refine⟨hnew.typeIs,PySem.F.args_dict_init_2 _ _,AB (AB (Io hnew.typeIs (AF ?_)))⟩;show AW _ _ (Ko "dict.__init__" s.heap.objs.size (.ref z) [] .none) _ _ _;refine AB (Da ⟨_,hz',rfl⟩ (AB (getAttr?_miss_zip hz' hh λh3 tk3 e3 x3=>?_)));refine AB (Cf (AB ?_));have up3:=λc o e=>x3.1 c o (up c o e)
 refine FB (up3 _ _ hz) ?_;have ne:∀ {c:Addr} {o:Obj},s.heap.get? c=some o->c≠s.heap.objs.size:=λe=>AZ (AJ e)
 obtain⟨pa,pb,hTO⟩:=hTO;obtain⟨⟨o1,q1,r1⟩,⟨o2,q2,r2⟩⟩:=h1;obtain⟨⟨o3,q3,r3⟩,⟨o4,q4,r4⟩⟩:=h2;exact AF ⟨DC WA _,d5 (A:=A.in1) (s0:={ s with heap:=h3,toks:=tk3 }) hh D (ne hz) (ne hTI) (ne hTO) (ne q1) (ne q3) (ne q2) (ne q4) rs hx hxe hsz (λh' tk hd hk=>⟨rfl,h h' tk hd λc o c1 c2 c3 c4 e=>hk c o c1 c2 c3 c4 (ne e) (up3 c o e)⟩) rs.length 0 h3 tk3 0 ⋯ (BO _) ⟨.inl ⟨up3 _ _ hz,pa,pb,up3 _ _ hTO⟩,up3 _ _ hTI,⟨⟨o1,up3 _ _ q1,r1⟩,⟨o2,up3 _ _ q2,r2⟩⟩,⟨⟨o3,up3 _ _ q3,r3⟩,⟨o4,up3 _ _ q4,r4⟩⟩⟩ (hnew.at λo e=>x3.1 _ o e) λc o _ _ _ _ _ e=>e⟩
end
def ABV (K:AY) (ta:TA):TE:=λσ H Q=>ta σ H λvs H1=>∃ (a1 a2:Addr) (ks:List vT) (us:List V),vs=[.ref a1,.ref a2]/\wo K H1 a1 (ks.map kV)/\wo K H1 a2 us/\us.length=ks.length/\ks.length<=100000/\∀ p,H1 p=none->Q (.ref p) (upd H1 p (.dK (wG [] (ks.zip us))))
def oB{e1 e2 ta p p0 pos pos0}(hr:X.A.handled=none)(hg:Gl X "zip")(hm:X.mg "zip"=none)(hg0:Gl X "dict")(hm0:X.mg "dict"=none)(ha:PA X [e1,e2] ta)(hs:AQ [e1,e2] X.env=[(false,eval e1 X.env),(false,eval e2 X.env)]:=by rfl)(hs2:AQ [e2] X.env=[(false,eval e2 X.env)]:=by rfl)
  (hs3:AQ [.Call (.Name "zip" p) [e1,e2] [] pos] X.env=[(false,eval (.Call (.Name "zip" p) [e1,e2] [] pos) X.env)]:=by rfl) :
  PE X (.Call (.Name "dict" p0) [.Call (.Name "zip" p) [e1,e2] [] pos] [] pos0) (ABV X.K ta):=by
 intro pins s σ H Q I h;refine F9 (L3 I hg0 hm0 Kp (An (Cm (F9 (L3 I hg hm K5 (An (vB (ha pos pins s σ H _ I h) λus s1 ⟨vs,H1,I1,r1,q1⟩=>?_) (by rw[hs,hs2]) (by rw[hs2];rfl))))) hs3 rfl));obtain⟨a1,a2,ks,ws,rfl,h1,h2,hlen,hsz,q⟩:=q1;obtain⟨u1,u2,rfl,r,r'⟩:=vals2 r1;cases r;cases r';obtain⟨its1,v1,o1,z1⟩:=I1.tuple h1;obtain⟨its2,v2,o2,z2⟩:=I1.tuple h2;have lt1:a1 < s1.heap.objs.size:=by obtain⟨o,e,_⟩:=o1;exact AJ e
 have lt2:a2 < s1.heap.objs.size:=by obtain⟨o,e,_⟩:=o2;exact AJ e
 have D:zk (s1.heap.objs.size+4) (s1.heap.objs.size+2) (s1.heap.objs.size+3) s1.heap.objs.size (s1.heap.objs.size+1) a1 a2:=
  ⟨IU lt1 lt2,AZ (AM lt1 (Av _ 2)),AZ (AM lt2 (Av _ 2))⟩
 refine Rl o1 o2 λh' st hk=>Ct ?_
 have hl1:=v1.length;have hl2:=v2.length;have lrs:(ks.zip its2).length=ks.length:=by rw[GV];lia
 obtain⟨t1o,t1e,t1r⟩:=o1;obtain⟨t2o,t2e,t2r⟩:=o2;refine mN (knd:=ud X.prog X.w) hr D st.z st.to st.ti ⟨st.s1,⟨t1o,hk _ _ t1e,t1r⟩⟩ ⟨st.s2,⟨t2o,hk _ _ t2e,t2r⟩⟩ (ks.zip its2) (λj pr hj=>?_) (by simp_all) (by rw[lrs];exact hsz) λh4 tk hd hk4=>?_
 ·obtain⟨g1,g2⟩:=CL.mp hj;obtain⟨key,e1,r1⟩:=v1.get (i:=j) (x:=kV pr.1) (by simp_all);exact⟨key,by simpa using e1,M9 r1,by simpa using g2⟩
 ·have old:∀ c o,s1.heap.get? c=some o->h4.get? c=some o:=λc o e=>by
   have hc:=AJ e;exact hk4 c o (AZ (AM hc (Av _ 4))) (AZ (AM hc (Av _ 3))) (AZ hc) (AZ (AM hc (Av _ 1))) (hk c o e)
  have hb:=Dj (EK (Av _ 4) (AJ st.z));have rel:=by
   have gen:∀ (ks:List vT) ws its2,uU ws its2->ws.length=ks.length->KV (ks.zip ws) (ks.zip its2):=by
    intro ks;induction ks with
    | nil=>intro ws its2 v2 hlen;simp;exact .nil
    | cons k r ih =>
     intro ws its2 v2 hlen;cases v2 with
     | nil=>cases hlen
     | cons a b=>exact .cons ⟨rfl,a⟩ (ih _ _ b (by simpa using hlen))
   exact gen ks ws its2 v2 hlen
  refine⟨.ref h'.objs.size,_,I1.laid old hb (Pn ?_ ?_ (rel.merge .nil) hd),rfl,q _ (I1.hok.fresh hb)⟩
  ·have e1:=Rj (ks.zip ws) [];have e2:(ks.zip ws).length<=ks.length:=by rw[GV];lia
   rw[Cr]at e1;exact Aa ⋯ (show 100000<=AD by decide)
  ·exact beq_eq_false_iff_ne.mpr (BK (AM I1.big hb))
end L2
namespace D
open PySem L2
noncomputable def AAU (fa:DA):DE:=λΓ=>(fa Γ).bind λp=>match p.1 with
 | [.v (.t xs),.v (.t ys)]=>(xa xs).bind λks=>if ys.length=ks.length/\ks.length<=100000 then some (.d (.inl ((ks.zip ys).foldl (λacc kv=>zu acc kv.1 kv.2) [])),p.2) else none
 | _=>none
theorem UT:∀ (ks:List vT) {us ys},uh K H us ys->PR K H (ks.zip us) (ks.zip ys)
 | [],_,_,_=>by simp;exact .nil
 | k::r,us,[],h=>by rw[h.inv0];exact .nil
 | k::r,us,y::ys,h=>by obtain⟨v,vs,rfl,h1,h2⟩:=h.inv;exact .cons ⟨rfl,h1⟩ (UT r h2)
theorem i7{H more mt}(h:PR K H more mt):∀ {l kvs},PR K H l kvs->PR K H (wG l more) (mt.foldl (λacc kv=>zu acc kv.1 kv.2) kvs):=by
 induction h with
 | nil=>intro l kvs q;exact q
 | @cons a b more mt hab _ ih =>
  intro l kvs q;have:=q.put a.1 hab.2;rw[hab.1]at this;show PR K H (wG (wL l a.1 a.2) more) _;rw[hab.1];exact ih this
def Ye(ha:wD K ta fa):uj K (ABV K ta) (AAU fa):=by
 intro C w Γ σ H s Γ' Q R e k;obtain⟨⟨as,G1⟩,e1,e⟩:=uJ e;dsimp only at e;split at e
 ·obtain⟨ks,e2,e⟩:=uJ e;split at e
  ·rename_i hl;cases e;refine ha C w Γ σ H _ _ _ R e1 λvs H1 R1 ev1 o1 n1=>?_
   obtain⟨v,u,rfl,o2,o3⟩:=wx o1;obtain⟨p,vs,rfl,h1,i1⟩:=o2.invt;obtain⟨q,us,rfl,h2,i2⟩:=o3.invt;have hv:=P6 i1 e2;subst hv;exact⟨p,q,ks,us,rfl,h1.sq,h2.sq,by rw[i2.len];exact hl.1,hl.2,λc hc=>k _ _ (R1.new hc) (ev1.trans (vG.new hc)) (R1.newd hc (i7 (UT ks i2) .nil)) ⟨c,rfl,by
    cases hz:H c with
    | none=>rfl
    | some o =>
     by_cases hL:c∈w.L
     ·exact absurd hL (R1.fresh hc).1
     ·rw[ev1 c o hz hL]at hc;cases hc⟩⟩
  ·cases e
 ·cases e
noncomputable def zL:En->S->S->Option S:=λΓ a b=>(dictOf Γ a).bind λd=>match d,b with
 | .inl kvs,.v t=>(yj t).bind λk=>(xl kvs k).map .v
 | _,_=>none
def ZW:vD K ACt zL:=by
 intro C w Γ σ H x y a b s Q R ox oy e k;obtain⟨d,e1,e⟩:=uJ e;split at e
 ·obtain⟨ky,e2,e⟩:=uJ e;obtain⟨p,ob,rfl,hp,hd⟩:=Nx R ox e1;obtain⟨l,rfl,h1⟩:=hd.invK;rcases h1.val ky with ⟨_,q⟩ | ⟨v,t',q1,q2,q3⟩
  ·rw[q]at e;cases e
  ·rw[q2]at e;cases e;have hy:=Pi oy e2;subst hy;exact⟨p,v,rfl,by rw[← q1];exact xw.k hp,k _ H R .refl q3 trivial⟩
 ·cases e
section
variable {ι:Type}{K:Fg}{mg:Str->Option AK}{k:Nat}{X:ι->Cx}{o i:Expr}{fo fk:DE}{pos:Pos}{Γ:En}
def lb(M:Fm K mg k X)(ho:EX K X o fo)(hk:EX K X i fk)(hs:ABi i:=by intro _ _;rfl):EX K X (.Subscript o i pos) (uM zL fo fk):=
 let ⟨_,p,s⟩:=ho;let ⟨_,q,u⟩:=hk;⟨_,λj=>We (Pd M j) (p j) (q j) hs,Na ZW s u⟩
@[simp] theorem rf:zL Γ a b=(dictOf Γ a).bind λd=>match d,b with
 | .inl kvs,.v t=>(yj t).bind λk=>(xl kvs k).map .v
 | _,_=>none:=(rfl)
end
section
variable {ι:Type}{K:Fg}{mg:Str->Option AK}{k:Nat}{X:ι->Cx}{a b:Expr}{da:DA}{p p0 pos pos0:Pos}{Γ:En}
def lD(M:Fm K mg k X)(hm:mg "zip"=none)(hm0:mg "dict"=none)(ha:AX K X [a,b] da)(hg:∀ j,Gl (X j) "zip":=by intro _;rfl)(hg0:∀ j,Gl (X j) "dict":=by intro _;rfl)(hs:∀ j,AQ [a,b] (X j).env=[(false,eval a (X j).env),(false,eval b (X j).env)]:=by intro _;rfl)
  (hs2:∀ j,AQ [b] (X j).env=[(false,eval b (X j).env)]:=by intro _;rfl) (hs3:∀ j,AQ [.Call (.Name "zip" p) [a,b] [] pos] (X j).env=[(false,eval (.Call (.Name "zip" p) [a,b] [] pos) (X j).env)]:=by intro _;rfl):EX K X (.Call (.Name "dict" p0) [.Call (.Name "zip" p) [a,b] [] pos] [] pos0) (AAU da):=
 let ⟨t,q,u⟩:=ha;⟨ABV K t,λj=>by have:=oB (p0:=p0) (pos0:=pos0) (M.room j).hd (hg j) (by rw[M.mg];exact hm) (hg0 j) (by rw[M.mg];exact hm0) (q j) (hs j) (hs2 j) (hs3 j);rw[M.K j]at this;exact this,Ye u⟩
end
end D
namespace L2
open PySem PySem.W PyProof.Rows
def vM {α:Type} (lt:Nat->Nat->Bool):KasT α->α
 | .ret a=>a
 | .ask i j k=>vM lt (k (lt i j))
def zm (P:Nat->Prop) (R:α->Prop):KasT α->Prop
 | .ret a=>R a
 | .ask i j k=>P i/\P j/\∀ b,zm P R (k b)
theorem zm.bind{P}{R:α->Prop}{R':β->Prop}{f}:∀ {t},zm P R t->(∀ a,R a->zm P R' (f a))->zm P R' (t.bind f)
 | .ret a,h,hf=>hf a h
 | .ask i j k,h,hf=>⟨h.1,h.2.1,λb=>(h.2.2 b).bind hf⟩
theorem zm.run{P R} lt:∀ {t:KasT α},zm P R t->R (vM lt t)
 | .ret a,h=>h
 | .ask i j k,h=>(h.2.2 (lt i j)).run lt
theorem zm.wp{P R cmp Q lt}{I:Ab->Prop}
  (hc:∀ i j C s,P i->P j->I s->(∀ s',I s'->C (lt i j) s')->cmp i j C s):∀ {t:KasT α},zm P R t->∀ s,I s->(∀ s',I s'->Q (vM lt t) s')->t.kasWp cmp Q s
 | .ret a,_,s,hi,hq=>hq s hi
 | .ask i j k,h,s,hi,hq=>hc i j _ s h.1 h.2.1 hi λs' hi'=>(h.2.2 (lt i j)).wp hc s' hi' hq
def wy (n:Nat) (p:Array Nat):Prop:=p.toList.Perm (AE n)
def wy.lt(h:wy n p)(h0:0 < n) i:p.getD i 0 < n:=by
 by_cases hi:i < p.size
 ·have e:p.getD i 0=p[i]:=by simp[KD,hi]
  rw[e];exact By.mp (h.subset ↥1)
 ·have e:p.getD i 0=0:=by simp[KD,hi]
  rw[e];exact h0
def wy.rev(h:wy n p) i j:wy n (kas_rev p i j):=((mirror_perm p i j _).toList).trans h
def wy.bub(h:wy n p) i j:wy n (bubble p i j):=((bubble_perm p i j).toList).trans h
section
variable {n:Nat}(h0:0 < n)
include h0
theorem Q0(h:wy n p):∀ f m,zm (· < n) (λ_=>True) (kas_asc p f m)
 | 0,m=>trivial
 | f+1,m=>⟨h.lt h0 _,h.lt h0 _,λb=>by
   cases b with
   | true=>exact trivial
   | false=>exact Q0 h f (m+1)⟩
theorem PY:∀ f {p},wy n p->∀ m q,zm (· < n) (λr=>wy n r.1) (kas_desc f p m q)
 | 0,p,h,m,q=>h
 | f+1,p,h,m,q=>⟨h.lt h0 _,h.lt h0 _,λb=>by
   cases b with
   | true =>
    show zm _ _ (if q > 0 then _ else _);split
    ·exact PY f (h.rev _ _) _ _
    ·exact PY f h _ _
   | false =>
    exact⟨h.lt h0 _,h.lt h0 _,λd=>by
     cases d with
     | true=>exact h
     | false=>exact PY f h _ _⟩⟩
theorem Ry m r (h:wy n p):zm (· < n) (λr=>wy n r.2) (kas_tail3 m r p):=
 (Q0 h0 (h.rev 0 m) _ _).bind λ_ _=>h.rev 0 m
theorem Tg m r (h:wy n p):zm (· < n) (λr=>wy n r.2) (kas_descPart m r p):=
 (PY h0 _ h _ _).bind λa ha=>by
  split
  ·exact Ry h0 _ _ (ha.rev _ _)
  ·exact Ry h0 _ _ ha
theorem ZO r (h:wy n p):zm (· < n) (λr=>wy n r.2) (kas_count r p):=
 (Q0 h0 h _ _).bind λm _=>by
  split
  ·exact h
  ·split
   ·exact⟨h.lt h0 _,h.lt h0 _,λb=>by
     cases b with
     | true=>exact h
     | false=>exact Tg h0 _ _ (h.rev _ _)⟩
   ·exact Tg h0 _ _ h
theorem Pq(h:wy n p) k:∀ f l r,zm (· < n) (λ_=>True) (kas_place p k f l r)
 | 0,l,r=>trivial
 | f+1,l,r=>by
  unfold kas_place;split
  ·exact trivial
  ·exact⟨h.lt h0 _,h.lt h0 _,λb=>by
    cases b with
    | true=>exact Pq h k f _ _
    | false=>exact Pq h k f _ _⟩
theorem S8:∀ f {p},wy n p->∀ k,zm (· < n) (wy n) (kas_bin f p k)
 | 0,p,h,k=>h
 | f+1,p,h,k=>(Pq h0 h k _ _ _).bind λl _=>S8 f (h.bub _ _) _
theorem M7:zm (· < n) (wy n) (kas_sort n):=
 (ZO h0 n (by show (HW (AE n)).toList.Perm _;simp)).bind λr hr=>by
  split
  ·exact S8 h0 _ hr _
  ·exact hr
end
open PySem PySem.W PyProof.Rows PySem.Calls
def zb (lt:Nat->Nat->Bool) (vs:List AK):List AK:=(vM lt (kas_sort vs.length)).toList.map λi=>vs.getD i CB
def Cn (n:Nat) (lt:Nat->Nat->Bool):Prop:=n < 1024/\(2<=n->∀ prog w A E s κ vs,vs.length=n ->
 (∀ i j,i < n->j < n->∀ C tk,(∀ tk',C (lt i j) { s with toks:=tk' })->kas_ask prog w A κ vs i j C { s with toks:=tk }) ->
 AW (model prog w) A ((sortRuns').run (Jo κ (vs.toArray.zip vs.toArray) #[] 7 none)) (λr s'=>∃ p,p.size=n/\arrOf r.2=p.map (kas_item (vs.toArray.zip vs.toArray))/\failedOf r.2=none/\p=vM lt (kas_sort n)/\∃ tk,s'={ s with toks:=tk }) E s)
def VW(h:n < 64):Cn n lt:=⟨by lia,λh2 prog w A E s κ vs hl hlt=>by
 subst hl;exact kat_run (Q:=λst' s'=>∃ p:Array Nat,p.size=vs.length/\arrOf st'=p.map (kas_item (vs.toArray.zip vs.toArray))/\failedOf st'=none/\p=vM lt (kas_sort vs.length)/\∃ tk,s'={ s with toks:=tk })
  rfl h2 h (λp' st' s' a1 a2 a3 a4=>⟨p',a1,a2,a3,a4⟩) ((M7 ⋯).wp (λi j C s' hi hj hI hC=>by
   obtain⟨tk,rfl⟩:=hI;exact hlt i j hi hj C tk λtk'=>hC _ ⟨tk',rfl⟩) _ ⟨s.toks,rfl⟩ λs' hI=>⟨rfl,hI⟩)⟩
section
variable {prog:Ah}{w:A5}{A:BY}{E:AK->Ab->Prop}{s:Ab}{a:Addr}{vs:List AK}{κ:LA}{lt:Nat->Nat->Bool}
def bz(ho:s.heap.get? a=some (B3 "list" vs.toArray n))(h2:2<=vs.length)(hcn:Cn vs.length lt)
  (hk:∀ h',(∀ b o,b≠a->s.heap.get? b=some o->h'.get? b=some o)->∀ C,C κ { s with heap:=h' }->AW (model prog w) A (JC vs.toArray) C (λ_ _=>False) { s with heap:=h' })
  (hlt:∀ h',(∀ b o,b≠a->s.heap.get? b=some o->h'.get? b=some o)->∀ i j,i < vs.length->j < vs.length->∀ C tk,(∀ tk',C (lt i j) { s with heap:=h',toks:=tk' })->kas_ask prog w A κ vs i j C { s with heap:=h',toks:=tk })
  (hP:∀ h'' tk c2,(∀ b o,b≠a->s.heap.get? b=some o->h''.get? b=some o)->h''.get? a=some (B3 "list" (zb lt vs).toArray c2)->P (.done (.ret .none)) { s with heap:=h'',toks:=tk }) :
  AW (model prog w) A (Builtin.«list.sort» ⟨[.ref a],[]⟩) P E s:=by
 have h64:=hcn.1;obtain⟨e1,ho1⟩:∃ e1,(s.heap.update a (Ay λ_=>(#[]))).get? a=some (B3 "list" #[] e1):=⟨_,Fd ho λ_=>#[]⟩
 have keep:∀ b o,b≠a->s.heap.get? b=some o->(((s.heap.update a (Ay λ_=>(#[]))).push (B3 "tuple" vs.toArray 0)).push (B3 "list" #[] 0)).get? b=some o:=λb o hb e =>
  AC _ (AC _ (((Bo s.heap a (Ay λ_=>(#[]))).2 b hb).trans e))
 rw[Kq];refine AB (Ic ho rfl (AB (GF ho rfl (AB (HI ho1 rfl (AB (Ed (AB (GC (BU ?_) (BO _))) (by show vs.length<=_;rw[BQ];lia))))) (by rw[Ae,BQ];lia) (BO _))));have hn2:¬ vs.toArray.size < 2:=by rw[Ae];lia
 rw[if_neg hn2,if_neg hn2];have ho3:=AC (o:=B3 "list" #[] 0) (AC (o:=B3 "tuple" vs.toArray 0) ho1);generalize hh3:((s.heap.update a (Ay λ_=>(#[]))).push (B3 "tuple" vs.toArray 0)).push (B3 "list" #[] 0)=h3 at keep ho3 ⊢;refine AB (Bd (hk h3 keep (λκ' s'=>κ'=κ/\s'={ s with heap:=h3 }) ⟨rfl,rfl⟩) (λκ' s0 hq=>?_) λ_ _ x=>x.elim);obtain⟨rfl,rfl⟩:=hq;refine AB (Bd (hcn.2 h2 prog w A _ { s with heap:=h3 } κ' vs rfl λi j hi hj C tk hC=>hlt h3 keep i j hi hj C tk hC) ?_ λ_ _ e=>e);rintro ⟨⟨⟩,st'⟩ s' ⟨p,hp,har,hf,rfl,tk,rfl⟩;dsimp only;have hsz:(zb lt vs).toArray.size=vs.length:=by rw[Ae];unfold zb;rw[AV,Br,hp]
 have hout':(arrOf st').map (·.2)=(zb lt vs).toArray:=(kat_snds rfl har)
 rw[hout'];obtain⟨c2,hc2⟩:∃ c2,(h3.update a (Ay λ_=>(zb lt vs).toArray)).get? a=some (B3 "list" (zb lt vs).toArray c2):=⟨_,Fd ho3 λ_=>(zb lt vs).toArray⟩
 refine AB (HI ho3 rfl (AB (GF ho3 rfl ?_ (BO _) (Aa (EG hsz) (by rw[BQ];lia)))));rw[hf];simp;exact AF (hP _ tk c2 (λb o hb e=>((Bo h3 a (Ay λ_=>(zb lt vs).toArray)).2 b hb).trans (keep b o hb e)) hc2)
end
section
variable {prog:Ah}{w:A5}{A:BY}{E:AK->Ab->Prop}{s:Ab}
def VG(p1:s.heap.IsTuple a xs)(p2:s.heap.IsTuple b ys)(i1:Bu xs.toList ns)(i2:Bu ys.toList ms)(hu:A.units < EC)(h:Q (HT.lexLt ns ms) s) :
  AW (model prog w) A (oneLt' false (.ref a) (.ref b)) Q E s:=AB (HT.lt_tupInts p1 p2 i1 i2 hu (B7 h))
end
open PySem PySem.W PyProof.Rows PySem.Calls PySem.SeqAt
def ltP (a b:List Int×Int):Bool:=if a.1=b.1 then decide (a.2 < b.2) else HT.lexLt a.1 b.1
section
variable {prog:Ah}{w:A5}{A:BY}{E:AK->Ab->Prop}{s:Ab}
def k9(hx:s.heap.get? x=some ox)(dx:ox.data=.seq #[.ref p,.int m t] nx)(hy:s.heap.get? y=some oy)(dy:oy.data=.seq #[.ref q,.int m' t'] ny)
  (p1:s.heap.IsTuple p xs) (p2:s.heap.IsTuple q ys) (i1:Bu xs.toList ns) (i2:Bu ys.toList ms) (he:EqAt A s (.ref p) (.ref q) (decide (ns=ms))) (hu:A.units < EC) (h:Q (ltP (ns,m) (ms,m')) s) :
  AW (model prog w) A (JY (tuples' false) (.ref x) (.ref y)) Q E s:=by
 refine kat_lt hx dx hy dy (kat_cons (he _ _ _ _ ?_));unfold ltP at h;by_cases hn:ns=ms
 ·rw[decide_eq_true hn];rw[if_pos hn]at h;refine kat_yes (kat_cons (Gw ?_));by_cases hm:m=m'
  ·subst hm;have e:(m == m)=true:=by simp
   rw[e];have e2:decide (m < m)=false:=decide_eq_false ⋯;rw[e2]at h;exact h
  ·have e:(m == m')=false:=by simpa using hm
   rw[e];exact kat_one _ _ (lt_int h)
 ·rw[decide_eq_false hn];rw[if_neg hn]at h;exact kat_no (VG p1 p2 i1 i2 hu h)
end
section
variable {prog:Ah}{w:A5}{A:BY}{E:AK->Ab->Prop}{s:Ab}{vs:List AK}{κ:LA}{lt:Nat->Nat->Bool}
def pI(ho:s.heap.get? a=some (B3 "list" vs.toArray n))(h2:vs.length < 2)
  (hP:∀ h'' tk c2,(∀ b o,b≠a->s.heap.get? b=some o->h''.get? b=some o)->h''.get? a=some (B3 "list" vs.toArray c2)->P (.done (.ret .none)) { s with heap:=h'',toks:=tk }) :
  AW (model prog w) A (Builtin.«list.sort» ⟨[.ref a],[]⟩) P E s:=by
 obtain⟨e1,ho1⟩:∃ e1,(s.heap.update a (Ay λ_=>(#[]))).get? a=some (B3 "list" #[] e1):=⟨_,Fd ho λ_=>#[]⟩
 have keep:∀ b o,b≠a->s.heap.get? b=some o->(((s.heap.update a (Ay λ_=>(#[]))).push (B3 "tuple" vs.toArray 0)).push (B3 "list" #[] 0)).get? b=some o:=λb o hb e =>
  AC _ (AC _ (((Bo s.heap a (Ay λ_=>(#[]))).2 b hb).trans e))
 rw[Kq];refine AB (Ic ho rfl (AB (GF ho rfl ?_ (by rw[Ae,BQ];lia) (BO _))));refine AB (HI ho1 rfl (AB (Ed (AB (GC (BU ?_) (BO _))) (by show vs.length<=_;rw[BQ];lia))));have hn2:vs.toArray.size < 2:=by rw[Ae];lia
 rw[if_pos hn2,if_pos hn2];have ho3:=AC (o:=B3 "list" #[] 0) (AC (o:=B3 "tuple" vs.toArray 0) ho1);generalize hh3:((s.heap.update a (Ay λ_=>(#[]))).push (B3 "tuple" vs.toArray 0)).push (B3 "list" #[] 0)=h3 at keep ho3 ⊢;refine AB (AF (AB (AF ?_)));dsimp only;have hout':(arrOf (Jo general' (vs.toArray.zip vs.toArray) #[] 7 none)).map (·.2)=vs.toArray:=by
  apply Array.toList_inj.mp;rw[Array.toList_map,Array.toList_zip];exact List.map_snd_zip (AL _)
 rw[hout'];obtain⟨c2,hc2⟩:∃ c2,(h3.update a (Ay λ_=>vs.toArray)).get? a=some (B3 "list" vs.toArray c2):=⟨_,Fd ho3 λ_=>vs.toArray⟩
 refine AB (HI ho3 rfl (AB (GF ho3 rfl ?_ (BO _) (by rw[ BQ];lia))));simp;exact AF (hP _ _ c2 (λb o hb e=>((Bo h3 a (Ay λ_=>vs.toArray)).2 b hb).trans (keep b o hb e)) hc2)
def ACT (lt:Nat->Nat->Bool) (vs:List AK):List AK:=if vs.length < 2 then vs else zb lt vs
def Rt(h64:Cn vs.length lt)
  (hcol:∀ C F,(∀ h1 tk,(∀ b o,s.heap.get? b=some o->h1.get? b=some o)->C vs { s with heap:=h1,toks:=tk })->AW (model prog w) A.in1 (collect it) C F s)
  (hk:2<=vs.length->∀ h' tk,(∀ b o,s.heap.get? b=some o->h'.get? b=some o)->∀ C,C κ { s with heap:=h',toks:=tk }->AW (model prog w) A.in1.in1 (JC vs.toArray) C (λ_ _=>False) { s with heap:=h',toks:=tk })
  (hlt:∀ h',(∀ b o,s.heap.get? b=some o->h'.get? b=some o)->∀ i j,i < vs.length->j < vs.length->∀ C tk,(∀ tk',C (lt i j) { s with heap:=h',toks:=tk' })->kas_ask prog w A.in1.in1 κ vs i j C { s with heap:=h',toks:=tk })
  (hQ:∀ (h1 h'':Heap) tk c2,(∀ b o,s.heap.get? b=some o->h1.get? b=some o)->(∀ b o,h1.get? b=some o->h''.get? b=some o)->h''.get? h1.objs.size=some (B3 "list" (ACT lt vs).toArray c2)->Q (.ref h1.objs.size) { s with heap:=h'',toks:=tk }) :
  AW (model prog w) A (call (.builtin "sorted") [it]) Q E s:=by
 have h128:=h64.1;refine Gp kind_sorted Le Lf (Lg _) ?_;unfold Builtin.«sorted»;refine AB (AF ?_);refine AB (hcol _ _ λh1 tk k1=>AB (GC ?_ (by rw[BQ];lia)));have hoL:(h1.push (B3 "list" vs.toArray 0)).get? h1.objs.size=some (B3 "list" vs.toArray 0):=AN _ rfl;have k2:∀ b o,h1.get? b=some o->(h1.push (B3 "list" vs.toArray 0)).get? b=some o:=λb o q=>AC _ q
 have nb:∀ b o,h1.get? b=some o->b≠h1.objs.size:=λb o q=>AZ (AJ q)
 generalize hh2:h1.push (B3 "list" vs.toArray 0)=h2 at hoL k2;refine AB (BU (As K3 ⟨_,hoL,rfl⟩ Kj ?body (K4 _)))
 case body =>
  by_cases hn:vs.length < 2
  ·refine pI (s:={ s with heap:=h2,toks:=tk }) hoL hn λh'' tk' c2 hkp hc=>⟨_,rfl,AF ⟨_,rfl,hQ h1 h'' tk' c2 k1 (λb o q=>hkp b o (nb b o q) (k2 b o q)) ?_⟩⟩
   unfold ACT;rw[if_pos hn];exact hc
  ·refine bz (s:={ s with heap:=h2,toks:=tk }) hoL ⋯ h64 (λh' hkp=>hk ⋯ h' tk λb o q=>hkp b o (nb _ _ (k1 b o q)) (k2 _ _ (k1 b o q))) (λh' hkp=>hlt h' λb o q=>hkp b o (nb _ _ (k1 b o q)) (k2 _ _ (k1 b o q))) λh'' tk' c2 hkp hc=>⟨_,rfl,AF ⟨_,rfl,hQ h1 h'' tk' c2 k1 (λb o q=>hkp b o (nb b o q) (k2 b o q)) ?_⟩⟩
   unfold ACT;rw[if_neg hn];exact hc
end
def zh (h:Heap) (u:AK) (ns:List Int):Prop:=∃ a xs,u=.ref a/\FW h a xs/\Bu xs.toList ns
def TuQ (h:Heap) (u:AK) (p:List Int×Int):Prop:=∃ a q t,u=.ref a/\FW h a #[q,.int p.2 t]/\zh h q p.1
def V9(k:∀ b o,h.get? b=some o->h'.get? b=some o)(x:FW h a xs):FW h' a xs:=by
 obtain⟨o,e,c,d⟩:=x;exact⟨o,k _ _ e,c,d⟩
def zh.keeps(k:∀ b o,h.get? b=some o->h'.get? b=some o)(x:zh h u ns):zh h' u ns:=by
 obtain⟨a,xs,e,i,j⟩:=x;exact⟨a,xs,e,V9 k i,j⟩
theorem TuQ.keeps(k:∀ b o,h.get? b=some o->h'.get? b=some o)(x:TuQ h u p):TuQ h' u p:=by
 obtain⟨a,q,t,e,i,j⟩:=x;exact⟨a,q,t,e,V9 k i,j.keeps k⟩
theorem SN:∀ {vs ns},Bu vs ns->K6 h vs (ns.map DZ) []
 | _,_,.nil=>.nil
 | _,_,.cons n t r=>IV (.int n t) (SN r)
def zh.reads(x:zh h u ns):JB h u (.tuple (ns.map DZ)) []:=by
 obtain⟨a,xs,rfl,⟨o,e,c,n,d⟩,j⟩:=x;exact .tuple e c d (SN j)
theorem Oe:∀ ns:List Int,Ax (ns.map DZ)=true
 | []=>by simp[Ax]
 | n::r=>by have:=Oe r;simp[Ax,Bi,this]
theorem Ti:∀ ns:List Int,Bk (ns.map DZ)=0
 | []=>by simp[Bk]
 | n::r=>by have:=Ti r;simp[Bk,CM,this]
theorem Tq:∀ ns ms:List Int,B6 (ns.map DZ) (ms.map DZ)=decide (ns=ms)
 | [],[] | [],_::_ | _::_,[]=>by simp[B6]
 | n::r,m::s=>by
  have:=Tq r s;simp[ B6,BI,this];by_cases h:n=m
  ·subst h;simp
  ·simp[h]
def kW(ns ms:List Int):BI (.tuple (ns.map DZ)) (.tuple (ms.map DZ))=decide (ns=ms):=by
 simp[BI,Tq]
def zh.eqAt(x:zh s.heap u ns)(y:zh s.heap v ms)(hu:A.units+1 < EC):EqAt A s u v (decide (ns=ms)):=by
 have:=eqAt_reads _ _ A s u v [] [] x.reads y.reads (by simp[Bi,Oe]) (by simp[Bi,Oe]) (by simp[CM,Ti];lia);rw[kW]at this;exact this
section
variable {prog:Ah}{w:A5}{A:BY}{E:AK->Ab->Prop}{s:Ab}
def YW(p1:FW s.heap a xs)(p2:FW s.heap b ys)(i1:Bu xs.toList ns)(i2:Bu ys.toList ms)(hu:A.units < EC)(h:Q (HT.lexLt ns ms) s) :
  AW (model prog w) A (oneLt' true (.ref a) (.ref b)) Q E s:=by
 refine AB (wpAny_cRoomFor hu ?_);obtain⟨⟨cls,dd,data,sl⟩,ho,hc,n,hd⟩:=id p1;obtain⟨⟨cls2,dd2,data2,sl2⟩,ho2,hc2,n2,hd2⟩:=id p2;simp only at hc hd hc2 hd2;subst hc hd hc2 hd2;refine AB (wpAny_callSpecialIfBound?_slot ⟨_,ho,rfl⟩ Ek (DW Ek ⟨_,ho,rfl⟩ Gx (Gn _ _) (HT.tuple_lt_ints a b xs ys n n2 dd dd2 sl sl2 ns ms i1 i2) ⟨ho,ho2,?_⟩));exact B7 h
def cy(p1:zh s.heap x ns)(p2:zh s.heap y ms)(hu:A.units < EC)(h:Q (HT.lexLt ns ms) s):AW (model prog w) A (JY general' x y) Q E s:=by
 obtain⟨a,xs,rfl,q1,i1⟩:=p1;obtain⟨b,ys,rfl,q2,i2⟩:=p2;exact VG q1 q2 i1 i2 hu h
def fC(p1:zh s.heap x ns)(p2:zh s.heap y ms)(hu:A.units < EC)(h:Q (HT.lexLt ns ms) s):AW (model prog w) A (JY oneType' x y) Q E s:=by
 obtain⟨a,xs,rfl,q1,i1⟩:=p1;obtain⟨b,ys,rfl,q2,i2⟩:=p2;exact YW q1 q2 i1 i2 hu h
theorem UD:∀ {vs ws ns ms} i,Bu vs ns->Bu ws ms->(∀ ns' ms',(ns'=[]\/ms'=[])->ns'.length+ms.length=ms'.length+ns.length->HT.lexLt ns' ms'=fin)->Q (HT.lexLt ns ms) s->KatLex prog w A true fin Q (vs.zip ws) i s
 | _,_,[],ms,i,.nil,iw,hf,h=>by
  refine kat_nil ?_;rw[← hf [] ms (.inl rfl) ↥1];exact h
 | _,_,ns,[],i,iv,.nil,hf,h=>by
  rw[IC];rw[← hf ns [] (.inr rfl) ↥1];exact h
 | _,_,n::ns,m::ms,i,.cons _ t iv,.cons _ t' iw,hf,h=>by
  refine kat_cons (Gw ?_);rw[HT.lexLt_cons]at h;by_cases e:n=m
  ·subst e;rw[if_pos rfl]at h;rw[show (n == n)=true from by simp];exact kat_yes (UD (i+1) iv iw (λns' ms' c l=>hf ns' ms' c ↥2) h)
  ·rw[if_neg e]at h;rw[show (n == m)=false from by simpa using e];refine kat_no ?_;by_cases hi:i=0
   ·subst hi;exact oneLt_int h
   ·rw[show (true && i == 0)=false from by simpa using hi];exact kat_one _ _ (lt_int h)
def eC(p1:zh s.heap x ns)(p2:zh s.heap y ms)(h:Q (HT.lexLt ns ms) s):AW (model prog w) A (JY (tuples' true) x y) Q E s:=by
 obtain⟨a,xs,rfl,⟨o,e,c,n,d⟩,i1⟩:=p1;obtain⟨b,ys,rfl,⟨o2,e2,c2,n2,d2⟩,i2⟩:=p2;refine kat_lt e d e2 d2 (UD 0 i1 i2 (λns' ms' c l=>?_) h);have z1:xs.size=ns.length:=by rw[← i1.length];simp
 have z2:ys.size=ms.length:=by rw[← i2.length];simp
 rcases c with rfl | rfl
 ·cases ms' with
  | nil=>rw[HT.lexLt_nil_nil];exact (decide_eq_false (by simp at l;lia)).symm
  | cons y r=>rw[HT.lexLt_nil_cons];exact (decide_eq_true (by simp_all)).symm
 ·cases ns' with
  | nil=>rw[HT.lexLt_nil_nil];exact (decide_eq_false (by simp at l;lia)).symm
  | cons y r=>rw[HT.lexLt_cons_nil];exact (decide_eq_false (by simp at l;lia)).symm
def hU(p1:TuQ s.heap x p)(p2:TuQ s.heap y q)(hu:A.units+1 < EC)(h:Q (ltP p q) s):AW (model prog w) A (JY (tuples' false) x y) Q E s:=by
 obtain⟨a,u,t,rfl,⟨o,e,c,n,d⟩,i1⟩:=p1;obtain⟨b,v,t',rfl,⟨o2,e2,c2,n2,d2⟩,i2⟩:=p2;have he:=i1.eqAt i2 hu;obtain⟨a',xs,rfl,q1,j1⟩:=i1;obtain⟨b',ys,rfl,q2,j2⟩:=i2;exact k9 e d e2 d2 q1 q2 j1 j2 he ⋯ h
end
inductive xy (h:Heap):List AK->List (List Int)->Prop
 | nil:xy h [] []
 | cons {v:AK} {ns:List Int} {vs:List AK} {nss:List (List Int)}:zh h v ns->xy h vs nss->xy h (v::vs) (ns::nss)
inductive yU (h:Heap):List AK->List (List Int×Int)->Prop
 | nil:yU h [] []
 | cons {v:AK} {p:List Int×Int} {vs:List AK} {ps:List (List Int×Int)}:TuQ h v p->yU h vs ps->yU h (v::vs) (p::ps)
theorem xy.keeps(k:∀ b o,h.get? b=some o->h'.get? b=some o)(r:xy h vs nss):xy h' vs nss:=by
 induction r with
 | nil=>exact .nil
 | cons a _ ih=>exact .cons (a.keeps k) ih
theorem yU.keeps(k:∀ b o,h.get? b=some o->h'.get? b=some o)(r:yU h vs nss):yU h' vs nss:=by
 induction r with
 | nil=>exact .nil
 | cons a _ ih=>exact .cons (a.keeps k) ih
theorem xy.at(r:xy h vs nss):∀ i,i < vs.length->zh h (vs.getD i CB) (nss.getD i []):=by
 induction r with
 | nil=>intro i hi;cases hi
 | cons a _ ih =>
  intro i hi;cases i with
  | zero=>exact a
  | succ i=>simpa using ih i (by simp_all)
theorem yU.at(r:yU h vs nss):∀ i,i < vs.length->TuQ h (vs.getD i CB) (nss.getD i ([],0)):=by
 induction r with
 | nil=>intro i hi;cases hi
 | cons a _ ih =>
  intro i hi;cases i with
  | zero=>exact a
  | succ i=>simpa using ih i (by simp_all)
theorem xy.tups(r:xy h vs nss)(hn:∀ ns∈nss,ns≠[]):∃ fs,KatTups h vs fs/\fs.length=vs.length/\∀ v∈fs,∃ n t,v=BS n t:=by
 induction r with
 | nil=>exact⟨[],trivial,rfl,λ_ hv=>nomatch hv⟩
 | cons hq r ih =>
  obtain⟨a,xs,rfl,⟨o,e,c,n,d⟩,j⟩:=hq;obtain⟨fs,k,l,f⟩:=ih λx hx=>hn x (AH _ hx)
  obtain⟨xs⟩:=xs;cases j with
  | nil=>exact absurd rfl (hn [] AG)
  | cons m t j'=>exact⟨.int m t::fs,⟨⟨a,o,_,n,rfl,e,c,d,by simp_all⟩,k⟩,by simp[l],λv hv=>(AR.mp hv).elim (λz=>⟨m,t,z⟩) (f v)⟩
theorem yU.tups(r:yU h vs nss):∃ fs,KatTups h vs fs/\fs.length=vs.length/\∀ v∈fs,∃ a o,v=BJ a/\h.get? a=some o/\o.cls=.type "tuple":=by
 induction r with
 | nil=>exact⟨[],trivial,rfl,λ_ hv=>nomatch hv⟩
 | cons hq r ih =>
  obtain⟨a,q,t,rfl,⟨o,e,c,n,d⟩,a',xs,rfl,⟨o',e',c',_⟩,_⟩:=hq;obtain⟨fs,k,l,f⟩:=ih;exact⟨.ref a'::fs,⟨⟨a,o,_,n,rfl,e,c,d,by simp⟩,k⟩,by simp[l],λv hv=>(AR.mp hv).elim (λz=>⟨a',o',z,e',c'⟩) (f v)⟩
def ABQ (nss:List (List Int)):LA:=if (nss.all λns=>!ns.isEmpty)=true then tuples' true else if (nss.headD []).isEmpty=true then oneType' else general'
section
variable {M:Model}{A:BY}{E:AK->Ab->Prop}{s:Ab}
def Qt(e:s.heap.get? a=some o)(c:o.cls=.type "tuple"):Looks M s.heap (Gz (.ref a)) (.type "tuple"):=by
 rw[← c];exact (Looks.ld e).andThen .now
def ZG(t:yU s.heap vs ps)(h2:2<=vs.length)(h:Q (tuples' false) s):AW M A (JC vs.toArray) Q E s:=by
 obtain⟨fs,k,l,f⟩:=t.tups;refine kat_kind (T:=.type "tuple") k ⋯ (λv hv=>?_) rfl h;obtain⟨a,o,rfl,e,c⟩:=f v hv;exact Qt e c
def Fst:List (Option AK)->List (List Int)->Prop
 | [],[]=>True
 | f::fs,ns::nss=>(f.isSome=!ns.isEmpty)/\Fst fs nss
 | _,_=>False
theorem WW:∀ {vs nss},xy s.heap vs nss->∃ fs,Fst fs nss/\∀ Q,Q fs s->AW M A (vs.mapM firstOfTuple') Q E s
 | _,_,.nil=>⟨[],trivial,λQ h=>by rw[List.mapM_nil];exact AF h⟩
 | _,_,.cons hq r=>by
  obtain⟨a,xs,rfl,⟨o,e,c,n,d⟩,j⟩:=hq;obtain⟨fs,k,f⟩:=WW r;refine⟨xs[0]?::fs,⟨?_,k⟩,λQ h=>?_⟩
  ·obtain⟨xs⟩:=xs;cases j with
   | nil | cons m t j'=>simp_all
  ·rw[List.mapM_cons];exact AB (AB ((Qt e c).here (AB (Ic e d (AF (AB (f _ (AF h))))))))
theorem V4:∀ {fs nss},Fst fs nss->(fs.all λx=>x.isSome)=nss.all λns=>!ns.isEmpty
 | [],[],_=>rfl
 | _::_,_::_,h=>by rw[EW,EW,h.1,V4 h.2]
 | [],_::_,h | _::_,[],h=>h.elim
def cE(t:xy s.heap vs nss)(h2:2<=vs.length)(h:Q (ABQ nss) s):AW M A (JC vs.toArray) Q E s:=by
 unfold ABQ at h;split at h
 ·rename_i hall;obtain⟨fs,k,l,f⟩:=t.tups λns hn e=>by have:=Au.mp hall ns hn;rw[e]at this;cases this
  refine kat_kind (T:=.type "int") k ⋯ (λv hv=>?_) rfl h;obtain⟨n,t,rfl⟩:=f v hv;exact Looks.of_pure rfl
 ·rename_i hall;rw[kat_kind_eq,Ie];obtain⟨fs,k,f⟩:=WW t;refine AB (AB (f _ (AF ?_)));have e1:¬ ((fs.toArray.all λx=>x.isSome)=true):=by rw[Ip,V4 k];exact hall
  rw[if_neg e1];cases t with
  | nil=>exact absurd h2 ∅
  | @cons v1 n1 vs1 nss1 t1 t2 =>
   cases fs with
   | nil=>exact k.elim
   | cons f0 fs =>
    have hf:=k.1;rw[List.headD_cons]at h;split at h
    ·rename_i he;rw[he]at hf;have e2:¬ (((f0::fs).toArray[0]?.bind id).isSome=true):=by simp;simpa using hf
     rw[if_neg e2];have each:∀ v∈v1::vs1,Looks M s.heap (Gz v) (.type "tuple"):=λv hv=>by
      obtain⟨i,hi,rfl⟩:=Fc hv;obtain⟨a,xs,e,⟨o,e',c,_⟩,_⟩:=(xy.cons t1 t2).at i hi;rw[Ak,BD hi,IG]at e;rw[e];exact Qt e' c
     rw[oneTypeOnly'_eq,Ie];refine AB (AB (AB (kas_mapM _ (λv hv Q' hq=>(each v hv).here hq) (AF ?_))));simp only[AO,Hi,List.getElem?_cons_zero];refine AF (AF ?_);have e3:((CD "tuple"::B5 (λ_=>CD "tuple") vs1).toArray.all λx=>x == CD "tuple")=true:=by
      simp only[Ip,EW,List.all_map,BE,Au];exact⟨rfl,λ_ _=>rfl⟩
     rw[e3];exact h
    ·rename_i he;have e2:((f0::fs).toArray[0]?.bind id).isSome=true:=by simp;rw[hf];simpa using he
     rw[if_pos e2];exact AF h
end
end L2
namespace D
open PySem L2 PyProof.Rows
noncomputable def tI (ns:List Int):T:=.t ((ns.map V.int).map T.a)
noncomputable def tQ (p:List Int×Int):T:=.t [tI p.1,.a (.int p.2)]
noncomputable def ltI (nss:List (List Int)) (i j:Nat):Bool:=HT.lexLt (nss.getD i []) (nss.getD j [])
noncomputable def ltQ (ps:List (List Int×Int)) (i j:Nat):Bool:=ltP (ps.getD i ([],0)) (ps.getD j ([],0))
noncomputable def u5 {α:Type} (lt:Nat->Nat->Bool) (d:α) (xs:List α):List α:=if xs.length < 2 then xs else (vM lt (Dn xs.length)).toList.map λi=>xs.getD i d
def cB lt vs:ACT lt vs=u5 lt CB vs:=rfl
def ZU lt (d:α) xs:(u5 lt d xs).length=xs.length:=by
 unfold u5;split
 ·rfl
 ·have:=(M7 (n:=xs.length) ⋯).run lt;rw[AV,HJ this,Ig]
def aD lt (d:α) xs:∃ is:List Nat,is.Perm (AE xs.length)/\u5 lt d xs=is.map λi=>xs.getD i d:=by
 unfold u5;split
 ·refine⟨AE xs.length,.refl _,Eg ↥1 λi h1 h2=>?_⟩;simp[ h1]
 ·exact⟨_,(M7 ⋯).run lt,rfl⟩
def dI{α:Type}(d:α) xs:((AE xs.length).map λi=>xs.getD i d)=xs:=by
 refine Eg ↥1 λi h1 h2=>?_
 simp[ h2]
def Zy lt (d:α) xs:(u5 lt d xs).Perm xs:=by
 obtain⟨is,p,e⟩:=aD lt d xs;rw[e];have:=p.map λi=>xs.getD i d
 rw[dI]at this;exact this
section
variable {X:Cx}{pins:List (Addr×Obj)}{σ:L2.St}{H:Hp}{s:Ab}
def Vu(I:Inv X pins σ H s)(h:Im X.K H v (tI ns))(r:RelV v u):zh s.heap u ns:=by
 obtain⟨p,vs,rfl,h1,h2⟩:=h.inv;cases r;have:=h2.of_atoms;subst this;obtain⟨its,rv,pl,_⟩:=I.tuple h1.sq;exact⟨p,its.toArray,rfl,pl,Tz rv⟩
theorem V6(I:Inv X pins σ H s):∀ {vs us} nss,uh X.K H vs (nss.map tI)->uU vs us->xy s.heap us nss
 | vs,us,[],h,r=>by have:=h.inv0;subst this;cases r;exact .nil
 | vs,us,ns::nss,h,r=>by
  obtain⟨v,r',rfl,h1,h2⟩:=h.inv;cases r with
  | cons r1 r2=>exact .cons (Vu I h1 r1) (V6 I nss h2 r2)
def eK(I:Inv X pins σ H s)(h:Im X.K H v (tQ p))(r:RelV v u):TuQ s.heap u p:=by
 obtain⟨a,vs,rfl,h1,h2⟩:=h.inv;cases r;obtain⟨v1,r1,rfl,i1,h3⟩:=h2.inv;obtain⟨v2,r2,rfl,i2,h4⟩:=h3.inv;have:=h4.inv0;subst this;have:=i2.inva;subst this;obtain⟨its,rv,pl,_⟩:=I.tuple h1.sq;obtain⟨w1,w2,rfl,q1,q2⟩:=vals2 rv;obtain⟨t,rfl⟩:=q2;exact⟨a,w1,t,rfl,pl,Vu I i1 q1⟩
theorem TV(I:Inv X pins σ H s):∀ {vs us} ps,uh X.K H vs (ps.map tQ)->uU vs us->yU s.heap us ps
 | vs,us,[],h,r=>by have:=h.inv0;subst this;cases r;exact .nil
 | vs,us,p::ps,h,r=>by
  obtain⟨v,r',rfl,h1,h2⟩:=h.inv;cases r with
  | cons r1 r2=>exact .cons (eK I h1 r1) (TV I ps h2 r2)
theorem XY(r:uU vs us):∀ (is:List Nat),(∀ i∈is,i < vs.length)->uU (is.map λi=>vs.getD i .non) (is.map λi=>us.getD i CB)
 | [],_=>.nil
 | i::is,h=>by
  have hi:=h i AG;obtain⟨u,e,q⟩:=r.get (i:=i) (x:=vs[i]) ↥1;refine .cons ?_ (XY r is λj hj=>h j (AH _ hj));simp_all
def mH(r:uU vs us) lt:uU (u5 lt .non vs) (u5 lt CB us):=by
 unfold u5;rw[← r.length];split
 ·exact r
 ·refine XY r _ λi hi=>?_
  have:=((M7 ⋯).run lt).subset hi;simp_all
theorem Vn{K H vs ts}(r:uh K H vs ts):∀ (is:List Nat),(∀ i∈is,i < vs.length)->uh K H (is.map λi=>vs.getD i .non) (is.map λi=>ts.getD i (.a .non))
 | [],_=>.nil
 | i::is,h=>by
  have hi':i < ts.length:=by rw[← r.len];exact (h i AG)
  obtain⟨u,e,q⟩:=r.get (i:=i) (t:=ts[i]) ↥1;refine .cons ?_ (Vn r is λj hj=>h j (AH _ hj));show Im K H (vs.getD i .non) (ts.getD i (.a .non));rw[Ak,e,Ak,BD hi'];exact q
def Xj{K H vs ts}(r:uh K H vs ts) lt:uh K H (u5 lt .non vs) (u5 lt (.a .non) ts):=by
 unfold u5;rw[← r.len];split
 ·exact r
 ·refine Vn r _ λi hi=>?_
  have:=((M7 ⋯).run lt).subset hi;simp_all
end
def Srt (ts:List T) (lt:Nat->Nat->Bool):Prop:=(∃ nss,ts=nss.map tI/\lt=ltI nss)\/∃ ps,ts=ps.map tQ/\lt=ltQ ps
def Z3(hr:vn k X.A)(I:Inv X pins σ H s)(rv:uU ws its)(hi:uh X.K H ws ts)(hs:Srt ts lt)(hl:Cn ts.length lt)
  (hcol:∀ C F,(∀ h1 tk,(∀ b o,s.heap.get? b=some o->h1.get? b=some o)->C its { s with heap:=h1,toks:=tk })->AW (model X.prog X.w) X.A.in1 (collect it) C F s)
  (q:∀ l,H l=none->Q (.ref l) (upd H l (.lst (u5 lt .non ws)))):AW (model X.prog X.w) X.A (call (.builtin "sorted") [it]) (EP X pins σ Q) X.xe s:=by
 have l2:=hi.len;have un:=hr.un;have hlc:=hl.1;rw[← l2,rv.length]at hl;have fin:∀ (h1 h'':Heap) tk c2,(∀ b o,s.heap.get? b=some o->h1.get? b=some o)->(∀ b o,h1.get? b=some o->h''.get? b=some o)->h''.get? h1.objs.size=some (B3 "list" (ACT lt its).toArray c2)->EP X pins σ Q (.ref h1.objs.size) { s with heap:=h'',toks:=tk }:=λh1 h'' tk c2 k1 k2 e=>by
  have I1:=I.kept (t':=s.toks) k1;exact⟨.ref h1.objs.size,_,I1.laid k2 (AL _) (show uy X.prog X.w _ h'' _ (.lst (u5 lt .non ws)) from ⟨by rw[ZU,BQ];lia,u5 lt CB its,c2,mH rv lt,by rw[cB]at e;simpa using e⟩),rfl,q _ (I1.hok.fresh (AL _))⟩
 rcases hs with ⟨nss,rfl,rfl⟩ | ⟨ps,rfl,rfl⟩
 ·have t:=V6 I nss hi rv;refine Rt hl hcol (λh2 h' tk kp C hC=>cE (t.keeps kp) h2 hC) (λh' kp i j hi hj C tk hC=>?_) fin;have a:=(t.keeps kp).at i hi;have b:=(t.keeps kp).at j hj;have hu:=by show X.A.units+1+1 < EC;lia
  unfold PySem.W.kas_ask ABQ;split
  ·exact eC a b (hC tk)
  ·split
   ·exact fC a b hu (hC tk)
   ·exact cy a b hu (hC tk)
 ·have t:=TV I ps hi rv;refine Rt hl hcol (λh2 h' tk kp C hC=>ZG (t.keeps kp) h2 hC) (λh' kp i j hi hj C tk hC=>?_) fin;exact hU ((t.keeps kp).at i hi) ((t.keeps kp).at j hj) (by show X.A.units+1+1+1 < EC;lia) (hC tk)
noncomputable def ADb:T->Option (List Int)
 | .t xs=>vq xs
 | _=>none
noncomputable def AAE:List T->Option (List (List Int))
 | []=>some []
 | t::r=>(ADb t).bind λns=>(AAE r).map λnss=>ns::nss
noncomputable def ADt:T->Option (List Int×Int)
 | .t [a,.a (.int n)]=>(ADb a).map λns=>(ns,n)
 | _=>none
noncomputable def ABS:List T->Option (List (List Int×Int))
 | []=>some []
 | t::r=>(ADt t).bind λp=>(ABS r).map λps=>p::ps
theorem Ub(h:ADb t=some ns):t=tI ns:=by
 cases t with
 | a v | l v | f v | x u v | m u v=>cases h
 | t xs=>exact congrArg T.t (Ou h)
theorem Wr:∀ {ts nss},AAE ts=some nss->ts=nss.map tI
 | [],_,h=>by cases h;rfl
 | t::r,_,h=>by
  obtain⟨ns,e1,h⟩:=uJ h;obtain⟨nss,e2,rfl⟩:=map_some h;rw[Ub e1,Wr e2];rfl
def Xt(h:ADt t=some p):t=tQ p:=by
 unfold ADt at h;split at h
 ·obtain⟨ns,e,rfl⟩:=map_some h;rw[Ub e];rfl
 ·cases h
theorem XG:∀ {ts:List T} {nss:List (List Int×Int)},ABS ts=some nss->ts=nss.map tQ
 | [],_,h=>by cases h;rfl
 | t::r,_,h=>by
  obtain⟨ns,e1,h⟩:=uJ h;obtain⟨nss,e2,rfl⟩:=map_some h;rw[Xt e1,XG e2];rfl
noncomputable def ABk (ts:List T):Option (List T):=match AAE ts with
 | some nss=>if nss.length < 64 then some (u5 (ltI nss) (.a .non) ts) else none
 | none=>match ABS ts with
  | some ps=>if ps.length < 64 then some (u5 (ltQ ps) (.a .non) ts) else none
  | none=>none
def gh(h:ABk ts=some ys):∃ lt,Srt ts lt/\Cn ts.length lt/\ys=u5 lt (.a .non) ts:=by
 unfold ABk at h;split at h
 ·rename_i nss e;split at h
  ·rename_i hl;cases h;have:=Wr e;exact⟨_,.inl ⟨nss,this,rfl⟩,VW (by rw[this,AV];exact hl),rfl⟩
  ·cases h
 ·split at h
  ·rename_i ps e;split at h
   ·rename_i hl;cases h;have:=XG e;exact⟨_,.inr ⟨ps,this,rfl⟩,VW (by rw[this,AV];exact hl),rfl⟩
   ·cases h
  ·cases h
end D
namespace L2
open PySem PySem.Spec PyProof.Rows
section
variable {prog:Ah}{w:A5}{A:BY}{E:AK->Ab->Prop}
def l6{h:Heap}{g:Array GenState}{dr:Drawn}{tk:Nat}{os:OsState}{it d:Addr}{i ep:Nat}{es:Array EZ}{od:Obj}{Q}
  (hit:h.get? it=some { cls:=.type "dict_keyiterator",data:=.fields #[.ref d,.int i 0,.int es.size 0,.int ep 0] }) (hod:h.get? d=some od) (hdd:od.data=.dict es ep) (hi:i < es.size)
  (hQ:∀ h',h'.get? it=some { cls:=.type "dict_keyiterator",data:=.fields #[.ref d,.int ((i+1:Nat):Int) 0,.int es.size 0,.int ep 0] }->DK it h h'->Q (some es[i].key) ⟨h',g,dr,tk,os⟩) :
  AW (model prog w) A (Dl (.ref it)) Q E ⟨h,g,dr,tk,os⟩:=by
 obtain⟨oc,odct,odat,osl⟩:=od;subst hdd;have hT:(⟨h,g,dr,tk,os⟩:Ab).TypeIs (.ref it) "dict_keyiterator":=⟨_,hit,rfl⟩
 unfold Dl;refine AB (Bf (Al hT Bl (As Bl hT FK ?_ (FG _))))
 repeat (any_goals (first | assumption | wp_step))
 have e0:(if (i:Int) < 0 then none else es[(i:Int).toNat]?)=some es[i]:=by rw[if_neg ⋯,C3,Bt hi]
 rw[e0]
 repeat (any_goals (first | assumption | wp_step))
 refine⟨_,rfl,AF (hQ _ ((BM _ hit rfl).trans (by kernel_rfl)) (Bo ..))⟩
def aO{h:Heap}{g:Array GenState}{dr:Drawn}{tk:Nat}{os:OsState}{it d:Addr}{ep:Nat}{es:Array EZ}{od:Obj}{Q}(hh:A.handled=none)
  (hit:h.get? it=some { cls:=.type "dict_keyiterator",data:=.fields #[.ref d,.int es.size 0,.int es.size 0,.int ep 0] }) (hod:h.get? d=some od) (hdd:od.data=.dict es ep)
  (hQ:∀ h',FI it h h'->Q none ⟨h',g,dr,tk,os⟩) :
  AW (model prog w) A (Dl (.ref it)) Q E ⟨h,g,dr,tk,os⟩:=by
 obtain⟨oc,odct,odat,osl⟩:=od;simp only at hdd;subst hdd;have hT:(⟨h,g,dr,tk,os⟩:Ab).TypeIs (.ref it) "dict_keyiterator":=⟨_,hit,rfl⟩
 unfold Dl;refine AB (Bf (Al hT Bl (As Bl hT FK ?_ (FG _))))
 repeat (any_goals (first | assumption | wp_step))
 have e0:(if (es.size:Int) < 0 then none else es[(es.size:Int).toNat]?)=none:=by rw[if_neg ⋯,C3];simp
 rw[e0]
 repeat (any_goals (first | assumption | wp_step))
 unfold raiseNew;refine AB (Hu ?_);rw[show A.in1.handled=none from hh];refine AB (AF (I0 ?_));refine AB (Bh (T:="StopIteration") (b:=true) ⟨_,AN _ rfl,rfl⟩ Cp (AF ?_));exact hQ _ (((Bo ..).extBut.push _).push _)
end
open PySem PySem.Spec PyProof.Rows PySem.W
def yh (h:Heap) (d:Addr) (es:Array EZ) (ep:Nat):Prop:=∃ o,h.get? d=some o/\o.ExactDict/\o.data=.dict es ep
def yh.lt(x:yh h d es ep):d < h.objs.size:=let ⟨_,e,_⟩:=x;AJ e
def yh.typeIs{s:Ab}{d es ep}(x:yh s.heap d es ep):s.TypeIs (.ref d) "dict":=let ⟨o,e,c,_⟩:=x;⟨o,e,c.1⟩
def yh.keep(x:yh h d es ep)(k:∀ o,h.get? d=some o->h'.get? d=some o):yh h' d es ep:=let ⟨o,e,c⟩:=x;⟨o,k o e,c⟩
abbrev ACc (d:Addr) (i n ep:Nat):Obj:={ cls:=.type "dict_keyiterator",data:=.fields #[.ref d,.int i 0,.int n 0,.int ep 0] }
section
variable {prog:Ah}{w:A5}{A:BY}{E:AK->Ab->Prop}{s:Ab}{d:Addr}{es:Array EZ}{ep:Nat}
def Zf(hd:(d == B8)=false)(hm:yh s.heap d es ep)(hQ:Q (.ref s.heap.objs.size) { s with heap:=s.heap.push (ACc d 0 es.size ep) }):AW (model prog w) A (GL (.ref d)) Q E s:=by
 have hT:=hm.typeIs;have ⟨o,ho,hc,hdat⟩:=hm;refine Jm hT G8 (As G8 hT PySem.F.entry_dict_iter ?_ (PySem.F.args_dict_iter_1 _));unfold Builtin.«dict.__iter__»;refine AB ?_;unfold Kr;refine AB (Io hT ?_);refine AF ?_;show AW _ _ (GO d >>= _) _ _ s;unfold GO;rw[if_neg (by rw[hd];exact Ac)];refine AB (AF ?_);refine AB (wpAny_dictEntries ho hdat (AB (wpAny_dictEpoch ho hdat ?_)));refine AB (BH (AF ⟨_,rfl,"dict_keyiterator",_,⟨_,AN _ rfl,rfl⟩,Bl.lookup,?_⟩));exact hQ
def ko(hh:A.handled=none) it (hne:d≠it):Walks prog w A it [it,d] [it] es.size (λi v=>∃ e,es[i]?=some e/\v=e.key) (λi h=>h.get? it=some (ACc d i es.size ep)/\yh h d es ep) where
 sub:=λb hb=>AR.mpr (.inl (AI.mp hb))
 frame:=λi h h' st k=>⟨k it AG _ st.1,st.2.keep λo e=>k d (AH _ AG) o e⟩
 item:=λi s Q E hi st hQ=>by
  obtain⟨h,g,dr,tk,os⟩:=s;obtain⟨o,ho,hc,hdat⟩:=st.2;exact l6 st.1 ho hdat hi λh' e1 e2=>hQ _ h' tk ⟨es[i],by simp,rfl⟩ ⟨e1,⟨o,(e2.2 d hne).trans ho,hc,hdat⟩⟩ λb o' hb e=>(e2.2 b (λz=>hb (AI.mpr z))).trans e
 done:=λs Q E st hQ=>by
  obtain⟨h,g,dr,tk,os⟩:=s;obtain⟨o,ho,hc,hdat⟩:=st.2;exact aO hh st.1 ho hdat λh' e=>hQ h' tk λb o' hb e'=>e b o' (λz=>hb (AI.mpr z)) e'
 self:=λi s Q E st hQ=>wpAny_pyIter_keyiter ⟨_,st.1,rfl,rfl⟩ hQ
def Yi(lo:(d == B8)=false):KdlSrc prog w "dict" d d es.size (λi v=>∃ e,es[i]?=some e/\v=e.key) (λh=>yh h d es ep) where
 type:=λ_ hm=>hm.typeIs
 there:=λ_ hm=>⟨hm.lt,hm.lt⟩
 keep:=λ_ _ hm hk=>hm.keep λo e=>hk d (.inl rfl) o e
 notList:=by decide
 notTuple:=by decide
 hint:=λ_ _ _ _ hm hq=>kdl_hint_dict hm.typeIs hq
 iter:=λA s hh hm=>⟨_,_,(λ_ _ hq=>Zf lo hm hq),ko hh _ (AZ hm.lt),⟨AN _ rfl,hm.keep λo e=>AC _ e⟩⟩
end
theorem UJ{R}:∀ {xs:List α} {ys:List β},Cu R xs ys->xs.length=ys.length
 | _,_,.nil=>rfl
 | _,_,.cons _ t=>by simp[UJ t]
end L2
namespace D
open PySem L2
noncomputable def xC (k:List vT):T:=.t ((k.map kV).map T.a)
noncomputable def ACz (kvs:List (List vT×T)):List T:=kvs.map λkv=>.t [xC kv.1,kv.2]
noncomputable def AGI (fo:DE):DE:=λΓ=>(fo Γ).bind λp=>(dictOf p.2 p.1).bind λd=>match d with
 | .inr kvs=>some (.l (ACz kvs),p.2)
 | .inl _=>none
def jU(h:H b=some (.tup (k.map kV))):Im K H (.ref b) (xC k):=Im.tup h (uh.atoms _)
noncomputable def zJ (kvs:List (List vT×T)):List T:=kvs.map λkv=>xC kv.1
noncomputable def AAn (K:Fg):List V->Hp->VK->Prop:=λxs H Q=>∃ p kvs lt,xs=[.ref p]/\Rd H p (.dT kvs)/\Srt (kvs.map λkv=>xC kv.1) lt/\Cn kvs.length lt/\∀ l us,H l=none->uh K H us (kvs.map λkv=>xC kv.1)->Q (.ref l) (upd H l (.lst (u5 lt .non us)))
def cA(hr:vn k X.A):vF X (.builtin "sorted") (AAn X.K):=by
 intro pins s σ H xs us Q I r h;obtain⟨p,kvs,lt,rfl,hq,hs,hl,q⟩:=h;obtain⟨u,rfl,rfl⟩:=vals1 r;obtain⟨hz,hsm,xs,hk,o',es,ep,e1,e2,e3,e4,_,_⟩:=NV I.hok hq;have hm:yh s.heap p es ep:=⟨o',e1,e2,e3⟩
 have rv:∀ xs:List (List vT×Addr×AK),uU (xs.map λx=>V.ref x.2.1) (xs.map λx=>BJ x.2.1):=λxs=>by
  induction xs with
  | nil=>exact .nil
  | cons a r ih=>exact .cons rfl ih
 have hi:∀ {kvs:List (List vT×V)} {xs:List (List vT×Addr×AK)},L2.KT H kvs xs->uh X.K H (xs.map λx=>V.ref x.2.1) (kvs.map λkv=>xC kv.1):=by
  intro kvs xs h;induction h with
  | nil=>exact .nil
  | @cons a b l m h t ih=>exact .cons (jU h.2.1) ih
 have hn:es.size=xs.length:=by rw[← Br,e4,AV]
 have hx:=(UJ hk).symm;refine Z3 hr I (rv xs) (hi hk) hs (by simp_all) (λC F hC=>PySem.W.kdu_collect (Yi hsm) (hr.hd) hm ⋯ λh' tk acc kp ha=>?_) λl hl'=>q l _ hl' (hi hk)
 have:acc.toList=xs.map λx=>BJ x.2.1:=by
  refine Eg (by rw[Br,ha.1,hn,AV]) λj h1 h2=>?_
  obtain⟨e,he,hv⟩:=ha.2 j acc[j] ↥1;rw[← Array.getElem?_toList,e4,Ag]at he;have hjx:=by simpa using h2
  rw[BD hjx]at he;cases he;simp;exact hv
 rw[this];exact hC h' tk kp
noncomputable def yy:En->List S->Option S:=λΓ as=>match as with
 | [a]=>(dictOf Γ a).bind λd=>match d with
  | .inr kvs=>(ABk (zJ kvs)).map .l
  | .inl _=>none
 | _=>none
theorem fj(h:Cu (λ(a:List vT×V) b=>a.1=b.1/\Im K H a.2 b.2) l kvs):(l.map λkv=>xC kv.1)=zJ kvs:=by
 induction h with
 | nil=>rfl
 | @cons a b l m h t ih=>simp only[AO,zJ]at ih ⊢;rw[h.1,ih]
def Ze:wk K (AAn K) yy:=by
 intro C w Γ σ H vs as s Q R o e k;unfold yy at e;split at e
 ·obtain⟨d,e1,e⟩:=uJ e;split at e
  ·rename_i kvs;obtain⟨ys,e2,rfl⟩:=map_some e;obtain⟨v,rfl,o1⟩:=vN o;obtain⟨p,ob,rfl,hp,hd⟩:=Nx R o1 e1;obtain⟨l,rfl,h1⟩:=hd.invT;obtain⟨lt,hs,hl,rfl⟩:=gh e2;have hkk:=fj h1;refine⟨p,l,lt,rfl,.inl hp,by rw[hkk];exact hs,?_,λl' us hl' hu=>?_⟩
   ·have:=congrArg FH hkk;rw[AV]at this;rw[this];exact hl
   ·rw[hkk]at hu;exact k _ _ (R.new hl') (vG.new hl') (R.newl hl' (Xj hu lt)) ⟨l',rfl,hl'⟩
  ·cases e
 ·cases e
section
variable {ι:Type}{K:Fg}{X:ι->Cx}{mg:Str->Option AK}{k:Nat}{o:Expr}{fo:DE}{Γ:En}
def YJ(M:Fm K mg k X):x5 K X (.builtin "sorted") yy:=⟨_,λj=>by have:=cA (X:=X j) (M.room j);rw[M.K j]at this;exact this,Ze⟩
@[simp] theorem qV:yy Γ [a]=(dictOf Γ a).bind λd=>match d with
  | .inr kvs=>(ABk (zJ kvs)).map .l
  | .inl _=>none:=(rfl)
end
end D
namespace L2
open PySem PySem.W PyProof.Rows
def v7 (p:Array Nat) (i:Nat):Nat:=p.getD i 0
def MP p i:v7 p i=(p[i]?).getD 0:=by unfold v7;rw[Array.getD_eq_getD_getElem?]
theorem NN lt {f:α->KasT β}:∀ t,vM lt (t.bind f)=vM lt (f (vM lt t))
 | .ret a=>rfl
 | .ask i j k=>NN lt (k (lt i j))
structure Tot(n:Nat)(lt:Nat->Nat->Bool):Prop where
 tot:∀ i j,i < n->j < n->i≠j->lt i j=false->lt j i=true
 asy:∀ i j,i < n->j < n->lt i j=true->lt j i=false
 tr:∀ i j k,i < n->j < n->k < n->lt i j=true->lt j k=true->lt i k=true
theorem wy.size(h:wy n p):p.size=n:=by
 have:=HJ h;simpa using this
def wy.inj(h:wy n p)(hi:i < n)(hj:j < n)(e:v7 p i=v7 p j):i=j:=by
 have hs:=h.size;rw[MP,MP,Bt ⋯,Bt ⋯]at e;have pw:=EN.mp ((Ez h).mpr DP);have hi':i < p.toList.length:=by rw[Br];lia
 have hj':j < p.toList.length:=by rw[Br];lia
 have e':=e;rcases F6 i j with z | z | z
 ·exact absurd e' (pw i j hi' hj' z)
 ·exact z
 ·exact absurd e'.symm (pw j i hj' hi' z)
def wy.atlt(h:wy n p)(h0:0 < n) i:v7 p i < n:=h.lt h0 i
def U3(hk:k < p.size)(hl:l<=k) i:v7 (bubble p k (k - l)) i=if i=l then v7 p k else if l < i/\i<=k then v7 p (i - 1) else v7 p i:=by
 have e:=getElem?_bubble hk (k - l) ⋯ i;rw[show k - (k - l)=l from by lia]at e;rw[MP,e];split
 ·rw[MP]
 ·split
  ·rw[MP]
  ·rw[MP]
def UK(hm:m<=p.size) i:v7 (kas_rev p 0 m) i=if i < m then v7 p (m - 1 - i) else v7 p i:=by
 unfold kas_rev;rw[MP,(getElem?_mirror_all hm i)];by_cases h:i < m
 ·rw[if_pos ⟨BO _,h⟩,if_pos h,EF,MP]
 ·rw[if_neg (λz=>h z.2),if_neg h,MP]
section
variable {n:Nat}{lt:Nat->Nat->Bool}
def Asc (lt:Nat->Nat->Bool) (p:Array Nat) (k:Nat):Prop:=∀ i j,i < j->j < k->lt (v7 p i) (v7 p j)=true
def Dsc (lt:Nat->Nat->Bool) (p:Array Nat) (k:Nat):Prop:=∀ i j,i < j->j < k->lt (v7 p j) (v7 p i)=true
def Asc.more(T:Tot n lt)(h:wy n p)(a:Asc lt p m)(hm:1<=m)(hmn:m < n)(hc:lt (v7 p (m - 1)) (v7 p m)=true):Asc lt p (m+1):=λi j hij hj=>by
 by_cases e:j=m
 ·subst e;by_cases e2:i=j - 1
  ·subst e2;exact hc
  ·exact T.tr _ _ _ (h.atlt ⋯ _) (h.atlt ⋯ _) (h.atlt ⋯ _) (a i (j - 1) ⋯ ⋯) hc
 ·exact a i j hij ⋯
def Dsc.more(T:Tot n lt)(h:wy n p)(a:Dsc lt p m)(hm:1<=m)(hmn:m < n)(hc:lt (v7 p m) (v7 p (m - 1))=true):Dsc lt p (m+1):=λi j hij hj=>by
 by_cases e:j=m
 ·subst e;by_cases e2:i=j - 1
  ·subst e2;exact hc
  ·exact T.tr _ _ _ (h.atlt ⋯ _) (h.atlt ⋯ _) (h.atlt ⋯ _) hc (a i (j - 1) ⋯ ⋯)
 ·exact a i j hij ⋯
theorem Q5(T:Tot n lt)(h:wy n p):∀ f m,1<=m->m+f<=n->Asc lt p m->m<=vM lt (kas_asc p f m)/\vM lt (kas_asc p f m)<=m+f/\Asc lt p (vM lt (kas_asc p f m))/\(vM lt (kas_asc p f m) < m+f->lt (v7 p (vM lt (kas_asc p f m))) (v7 p (vM lt (kas_asc p f m) - 1))=true)
 | 0,m,_,_,a=>⟨AL _,AL _,a,λz=>absurd z (A8 _)⟩
 | f+1,m,h1,h2,a=>by
  have e:vM lt (kas_asc p (f+1) m)=vM lt (if lt (v7 p m) (v7 p (m - 1))=true then .ret m else kas_asc p f (m+1)):=rfl;rw[e];by_cases hc:lt (v7 p m) (v7 p (m - 1))=true
  ·rw[if_pos hc];exact⟨AL _,Av _ _,a,λ_=>hc⟩
  ·rw[if_neg hc];have hne:v7 p m≠v7 p (m - 1):=λz=>by have:=h.inj ⋯ ⋯ z;lia
   have:=T.tot _ _ (h.atlt ⋯ _) (h.atlt ⋯ _) hne (by simpa using hc);obtain⟨b1,b2,b3,b4⟩:=Q5 T h f (m+1) ⋯ ⋯ (a.more T h h1 ⋯ this);exact⟨by lia,by lia,b3,λz=>b4 ⋯⟩
theorem Rx(T:Tot n lt)(h:wy n p):∀ f m,1<=m->m+f<=n->Dsc lt p m->∃ m',m<=m'/\m'<=m+f/\Dsc lt p m'/\vM lt (kas_desc f p m 0)=(p,m',0)
 | 0,m,_,_,a=>⟨m,AL _,AL _,a,rfl⟩
 | f+1,m,h1,h2,a=>by
  have e:vM lt (kas_desc (f+1) p m 0)=vM lt (if lt (v7 p m) (v7 p (m - 1))=true then (if 0 > 0 then kas_desc f (kas_rev p (m - (0+1)) m) (m+1) 0 else kas_desc f p (m+1) 0) else .ask (v7 p (m - 1)) (v7 p m) λd=>if d=true then .ret (p,m,0) else kas_desc f p (m+1) (0+1)):=rfl;rw[e];by_cases hc:lt (v7 p m) (v7 p (m - 1))=true
  ·rw[if_pos hc,if_neg (A8 _)];obtain⟨m',b1,b2,b3,b4⟩:=Rx T h f (m+1) ⋯ ⋯ (a.more T h h1 ⋯ hc);exact⟨m',by lia,by lia,b3,b4⟩
  ·rw[if_neg hc];have hne:v7 p m≠v7 p (m - 1):=λz=>by have:=h.inj ⋯ ⋯ z;lia
   have:=T.tot _ _ (h.atlt ⋯ _) (h.atlt ⋯ _) hne (by simpa using hc);refine⟨m,AL _,Av _ _,a,?_⟩;show vM lt (if lt (v7 p (m - 1)) (v7 p m)=true then _ else _)=_;rw[if_pos this];rfl
def cu(T:Tot n lt){p}(h:wy n p){m}(h1:1<=m)(h2:m<=n)(a:Dsc lt p m):∃ m' p',vM lt (kas_tail3 m n p)=(m',p')/\1<=m'/\m'<=n/\Asc lt p' m'/\wy n p':=by
 have hs:=h.size;have ha:Asc lt (kas_rev p 0 m) m:=λi j hij hj=>by
  rw[UK ⋯,UK ⋯,if_pos ⋯,if_pos hj];exact a _ _ ⋯ ⋯
 obtain⟨b1,b2,b3,_⟩:=Q5 T (h.rev 0 m) (n - m) m h1 ⋯ ha;refine⟨_,kas_rev p 0 m,?_,by lia,by lia,b3,h.rev 0 m⟩;unfold kas_tail3;rw[NN];rfl
def ZT(T:Tot n lt){p}(h:wy n p)(hn:1<=n):∃ m' p',vM lt (kas_count n p)=(m',p')/\1<=m'/\m'<=n/\Asc lt p' m'/\wy n p':=by
 obtain⟨b1,b2,b3,b4⟩:=Q5 T h (n - 1) 1 (AL _) ⋯ (λi j hij hj=>by lia);unfold kas_count;rw[NN];generalize vM lt (kas_asc p (n - 1) 1)=m at *;by_cases e:m=n
 ·rw[if_pos (by simpa using e)];exact⟨m,p,rfl,b1,by lia,b3,h⟩
 ·rw[if_neg (by simpa using e)];by_cases e1:m > 1
  ·rw[if_pos e1];have:=b3 0 (m - 1) ⋯ ⋯;refine⟨m,p,?_,b1,by lia,b3,h⟩;show vM lt (if lt (v7 p 0) (v7 p (m - 1))=true then _ else _)=_;rw[if_pos this];rfl
  ·rw[if_neg e1];have em:m=1:=by lia
   subst em;have hc:=b4 ⋯;unfold kas_descPart;rw[NN];obtain⟨m',c1,c2,c3,c4⟩:=Rx T h (n - 2) 2 ⋯ ⋯ (λi j hij hj=>by
    have:i=0/\j=1:=by lia
    rw[this.1,this.2];exact hc)
   rw[ c4];dsimp only;exact cu T h ⋯ ⋯ c3
theorem Po(T:Tot n lt)(h:wy n p)(hk:k < n)(a:Asc lt p k):∀ f l r,r<=k->l<=r->r - l<=f->(∀ i,i < l->lt (v7 p i) (v7 p k)=true)->(∀ i,r<=i->i < k->lt (v7 p k) (v7 p i)=true) ->
  vM lt (kas_place p k f l r)<=k/\(∀ i,i < vM lt (kas_place p k f l r)->lt (v7 p i) (v7 p k)=true)/\∀ i,vM lt (kas_place p k f l r)<=i->i < k->lt (v7 p k) (v7 p i)=true
 | 0,l,r,h1,h2,h3,h4,h5=>⟨by show l<=k;lia,h4,λi hi hik=>h5 i (by have:l<=i:=hi;lia) hik⟩
 | f+1,l,r,h1,h2,h3,h4,h5=>by
  unfold kas_place;by_cases hlr:l ≥ r
  ·rw[if_pos hlr];exact⟨by show l<=k;lia,h4,λi hi hik=>h5 i (by have:l<=i:=hi;lia) hik⟩
  ·rw[if_neg hlr];have e:vM lt (.ask (p.getD k 0) (p.getD ((l+r) / 2) 0) λc=>if c=true then kas_place p k f l ((l+r) / 2) else kas_place p k f ((l+r) / 2+1) r)=vM lt (if lt (v7 p k) (v7 p ((l+r) / 2))=true then kas_place p k f l ((l+r) / 2) else kas_place p k f ((l+r) / 2+1) r):=rfl;rw[e];have lts:=λi=>h.atlt (show 0 < n by lia) i
   by_cases hc:lt (v7 p k) (v7 p ((l+r) / 2))=true
   ·rw[if_pos hc];refine Po T h hk a f l ((l+r) / 2) ⋯ ⋯ ⋯ h4 λi hi hik=>?_
    by_cases ei:i=(l+r) / 2
    ·subst ei;exact hc
    ·exact T.tr _ _ _ (lts _) (lts _) (lts _) hc (a _ _ ⋯ hik)
   ·rw[if_neg hc];have hne:v7 p k≠v7 p ((l+r) / 2):=λz=>by have:=h.inj hk ⋯ z;lia
    have hc':=T.tot _ _ (lts _) (lts _) hne (by simpa using hc);refine Po T h hk a f ((l+r) / 2+1) r h1 ⋯ ⋯ (λi hi=>?_) h5;by_cases ei:i=(l+r) / 2
    ·subst ei;exact hc'
    ·exact T.tr _ _ _ (lts _) (lts _) (lts _) (a _ _ ⋯ ⋯) hc'
theorem U0(T:Tot n lt):∀ f k {p},wy n p->Asc lt p k->k+f=n->Asc lt (vM lt (kas_bin f p k)) n
 | 0,k,p,h,a,e=>by
  rw[KE]at e;subst e;exact a
 | f+1,k,p,h,a,e=>by
  unfold kas_bin;rw[NN];have hk:k < n:=by lia
  obtain⟨c1,c2,c3⟩:=Po T h hk a k 0 k (AL _) (BO _) ⋯ (λi hi=>absurd hi (Nat.not_lt_zero _)) (λi hi hik=>absurd hik (Fq.mpr hi));generalize vM lt (kas_place p k k 0 k)=l at *;refine U0 T f (k+1) (h.bub k (k - l)) (λi j hij hj=>?_) ⋯;have hs:=h.size;rw[U3 ⋯ c1,U3 ⋯ c1];by_cases ei:i=l
  ·grind
  ·rw[if_neg ei];by_cases ej:j=l
   ·rw[if_pos ej,if_neg ⋯];exact c2 _ ⋯
   ·rw[if_neg ej];by_cases hi2:l < i/\i<=k
    ·rw[if_pos hi2,if_pos ⋯];exact a _ _ ⋯ ⋯
    ·rw[if_neg hi2];by_cases hj2:l < j/\j<=k
     ·rw[if_pos hj2];exact a _ _ ⋯ ⋯
     ·rw[if_neg hj2];exact a _ _ hij ⋯
def kg(T:Tot n lt)(hn:1<=n):Asc lt (vM lt (kas_sort n)) n:=by
 have h0:wy n (HW (AE n)):=by show (HW (AE n)).toList.Perm _;simp
 obtain⟨m,p,e,h1,h2,a,h⟩:=ZT T h0 hn;unfold kas_sort;rw[NN,e];dsimp only;split
 ·rw[show max m 1=m from by lia];exact U0 T _ _ h a ⋯
 ·have:m=n:=by lia
  subst this;exact a
end
end L2
namespace D
open PySem L2
def eV{lt}{d:α}{xs}(T:Tot xs.length lt) R (hR:∀ i j,i < xs.length->j < xs.length->lt i j=true->R (xs.getD i d) (xs.getD j d)):(u5 lt d xs).Pairwise R:=by
 unfold u5;split
 ·rename_i h
  match xs,h with
  | [],_=>exact .nil
  | [a],_=>exact List.pairwise_singleton _ _
  | _::_::_,h=>simp at h;lia
 ·have hp:=(M7 (n:=xs.length) ⋯).run lt;have hs:=hp.size;refine EU.mpr (EN.mpr λi j hi hj hij=>?_);have hi':=by rw[Br,hs]at hi;exact hi
  have hj':=by rw[Br,hs]at hj;exact hj
  have ei:(vM lt (Dn xs.length)).toList[i]=v7 (vM lt (Dn xs.length)) i:=by
   rw[MP,Bt ⋯];simp
  have ej:(vM lt (Dn xs.length)).toList[j]=v7 (vM lt (Dn xs.length)) j:=by
   rw[MP,Bt ⋯];simp
  rw[ei,ej];exact hR _ _ (hp.atlt ⋯ _) (hp.atlt ⋯ _) ((kg T ⋯) i j hij hj')
noncomputable def AEI:List AK->Option (List vT)
 | []=>some []
 | .int i _::r=>(AEI r).map λks=>.inl i::ks
 | _=>none
theorem VS:∀ {ks us},uU (ks.map kV) us->∀ {js},AEI us=some js->js=ks
 | [],_,.nil,js,e=>by cases e;rfl
 | .inl m::r,_,.cons r1 r2,js,e=>by
  obtain⟨t,rfl⟩:=r1;obtain⟨js',e1,rfl⟩:=map_some e;rw[VS r2 e1]
 | .inr x::r,_,.cons r1 r2,js,e=>by
  obtain⟨t,rfl⟩:=r1;cases e
noncomputable def kcC (cs:List (List vT)) (o:Obj):Bool:=match o.cls with
 | .type n=>if n="tuple" then (match o.data with
  | .seq its _=>match its.toList with
   | .int i t::r=>match AEI (.int i t::r) with
    | some ks=>cs.any λc=>decide (c=ks)
    | none=>false
   | [.str x _]=>!(decide (x="yes") || decide (x="no")) || cs.any λc=>decide (c=[.inr x])
   | _=>true
  | _=>true) else true
 | _=>true
theorem fX(h:(K.all λq=>kcC cs q.2)=true):KC K cs:=by
 intro p ks hk;obtain⟨o,its,n,h1,h2,h3,h4,h5,h6,h7⟩:=hk;have hm:∀ {l:Fg},l.lookup p=some o->(p,o)∈l:=by
  intro l;induction l with
  | nil=>intro e;cases e
  | cons x r ih =>
   intro e;obtain⟨a,b⟩:=x;rw[Bb]at e;split at e
   ·rename_i hb;cases e;rw[eq_of_beq hb];exact AG
   ·exact AH _ (ih e)
 have hz:=Au.mp h _ (hm h1);simp only[kcC,h2,h4,if_true]at hz;cases ks with
 | nil=>cases h7
 | cons k r =>
  cases k with
  | inr x =>
   cases r with
   | cons _ _=>cases h7
   | nil =>
    generalize its.toList=L at h6 hz;cases h6 with
    | cons r1 r2 =>
     obtain⟨t,rfl⟩:=r1;cases r2;have h8:(decide (x="yes") || decide (x="no"))=true:=h7;dsimp only at hz;rw[h8]at hz;obtain⟨c,hc,e2⟩:=DQ.mp hz;rw[← of_decide_eq_true e2];exact hc
  | inl m =>
   generalize its.toList=L at h6 hz;cases h6 with
   | cons r1 r2 =>
    obtain⟨t,rfl⟩:=r1;dsimp only at hz;split at hz
    ·rename_i ks' e;obtain⟨c,hc,e2⟩:=DQ.mp hz;have e3:=of_decide_eq_true e2;have:=VS (ks:=.inl m::r) (.cons ⟨t,rfl⟩ r2) e;rw[← this,← e3];exact hc
    ·cases hz
end D
namespace L2
open PySem PySem.Spec PyProof.Rows
def KdE (K:AY) (p:Addr) (vs:List (Int×AK)):Prop:=∃ (es:List EZ) (ep:Nat),K.lookup p=some ⟨.type "dict",none,.dict es.toArray ep,#[]⟩/\(vs.map (·.1)).Nodup/\Cu (λ(e:EZ) (kv:Int×AK)=>(∃ t,e.key=.int kv.1 t)/\e.val=kv.2/\e.hash=(Lk id (λ_=>0) (EB kv.1:Int ⊕ Unit))) es vs
def Y3{P:Ah}{w:A5}{K:AY}{p:Addr}{vs:List (Int×AK)}{h:Heap}(hk:KdE K p vs)(hin:∀ o,K.lookup p=some o->h.get? p=some o)(hh:∀ kv∈vs,(ud P w).hash (.inl kv.1)=kv.1):h.DictOf (ud P w) p (vs.map λkv=>(.inl kv.1,kv.2)):=by
 obtain⟨es,ep,h1,h2,h3⟩:=hk;refine⟨_,es.toArray,ep,hin _ h1,⟨rfl,rfl,rfl⟩,rfl,?_,?_,?_⟩
 ·intro e he;have he':e∈es:=by simpa using he
  have gen:∀ {es:List EZ} {vs:List (Int×AK)},Cu (λ(e:EZ) (kv:Int×AK)=>(∃ t,e.key=.int kv.1 t)/\e.val=kv.2/\e.hash=(Lk id (λ_=>0) (EB kv.1:Int ⊕ Unit))) es vs->(∀ kv∈vs,(ud P w).hash (.inl kv.1)=kv.1)->∀ e∈es,∃ k,(ud P w).is k e.key=true/\e.hash=(ud P w).hash k:=by
   intro es vs q;induction q with
   | nil=>intro _ e he;exact nomatch he
   | @cons a b es vs hab _ ih =>
    intro hh e he;rcases AR.mp he with z | z
    ·subst z;obtain⟨⟨t,e1⟩,_,e3⟩:=hab;exact⟨.inl b.1,by rw[e1];exact P2 P w _ _,by rw[e3,hh b AG];rfl⟩
    ·exact ih (λkv hkv=>hh kv (AH _ hkv)) e z
  exact gen h3 hh e he'
 ·show Pairs (ud P w) es.toArray.toList _;rw[H9];clear h1 h2 hh hin;induction h3 with
  | nil=>exact .nil
  | @cons a b es vs hab _ ih =>
   obtain⟨⟨t,e1⟩,e2,_⟩:=hab;exact .cons (by rw[e1];exact P2 P w _ _) e2 ih
 ·rw[Bn];have:((λ(x:vT×AK)=>x.1) ∘ λ(kv:Int×AK)=>((EB kv.1:vT),kv.2))=(λi:Int=>(EB i:vT)) ∘ (λkv:Int×AK=>kv.1):=rfl;rw[this,← Bn];exact KG _ (λa b hab e=>hab (Sum.inl.inj e)) h2
def tKd (vs:List (Int×V)) (ti:TE):TE:=λσ H Q=>ti σ H λy H1=>∃ n v,y=.int n/\(vs.find? λkv=>decide (kv.1=n))=some (n,v)/\Q v H1
def cC{X:Cx}{o i:Expr}{ti:TE}{pos:Pos}{p:Addr}{vs:List (Int×V)}{ws:List (Int×AK)}(ho:PE X o (tC (.ref p)))(hi:PE X i ti)(hs:ABi i)(hd:KdE X.K p ws)(hr:Cu (λ(a:Int×V) (b:Int×AK)=>a.1=b.1/\RelV a.2 b.2) vs ws)(hh:∀ kv∈ws,(ud X.prog X.w).hash (.inl kv.1)=kv.1):PE X (.Subscript o i pos) (tKd vs ti):=by
 intro pins s σ H Q I h;refine W8 GU.lookup hs (vB (ho pins s σ H (λx H1=>x=.ref p/\ti σ H1 λy H2=>∃ n v,y=.int n/\(vs.find? λkv=>decide (kv.1=n))=some (n,v)/\Q v H2) I ⟨rfl,h⟩) λu s1 ⟨x,H1,I1,rx,ex,q1⟩=>vB (hi pins s1 σ H1 _ I1 q1) λiv s2 ⟨y,H2,I2,ry,n,v,ey,hf,q2⟩=>?_);subst ex ey;obtain rfl:u=BJ p:=rx;have dd:=Y3 (P:=X.prog) (w:=X.w) (h:=s2.heap) hd (λo e=>I2.kIn p o e) hh;have val:∀ {vs:List (Int×V)} {ws:List (Int×AK)},Cu (λ(a:Int×V) (b:Int×AK)=>a.1=b.1/\RelV a.2 b.2) vs ws->(vs.find? λkv=>decide (kv.1=n))=some (n,v)->∃ u,FU (ws.map λkv=>((EB kv.1:vT),kv.2)) (EB n)=some u/\RelV v u:=by
  intro vs ws q;induction q with
  | nil=>intro e;cases e
  | @cons a b vs ws hab _ ih =>
   intro e;rw[E3]at e;by_cases h1:a.1=n
   ·rw[decide_eq_true h1]at e;have:a=(n,v):=by simpa using e
    subst this;refine⟨b.2,?_,hab.2⟩;have hb:b.1=n:=hab.1.symm;simp[FU,hb]
   ·rw[decide_eq_false h1]at e;obtain⟨u,e1,r1⟩:=ih e;refine⟨u,?_,r1⟩;have hb:¬ b.1=n:=λz=>h1 (hab.1.trans z)
    rw[← e1];simp[FU,hb]
 obtain⟨u,hu,ru⟩:=val hr hf;refine⟨?_,KB (k:=.inl n) (M9 (k:=.inl n) ry) dd.mapOf hu ⟨v,H2,I2.tok _,ru,q2⟩⟩;exact dd.typeIs
end L2
namespace D
open PySem L2
noncomputable def dKd (tb:List (Int×T)) (fi:DE):DE:=λΓ=>(fi Γ).bind λp=>match p.1 with
 | .v (.a (.int n))=>(tb.find? λkv=>decide (kv.1=n)).map λkv=>(.v kv.2,p.2)
 | _=>none
def KDV (K:Fg) (mg:Str->Option AK) (x:Str) (tb:List (Int×T)):Prop:=∃ (p:Addr) (vs:List (Int×V)) (ws:List (Int×AK)),mg x=some (.ref p)/\KdE K p ws/\Cu (λ(a:Int×V) (b:Int×AK)=>a.1=b.1/\RelV a.2 b.2) vs ws/\(∀ (P:Ah) (w:A5),∀ kv∈ws,(ud P w).hash (.inl kv.1)=kv.1)/\∀ H:Hp,Cu (λ(a:Int×V) (b:Int×T)=>a.1=b.1/\Im K H a.2 b.2) vs tb
def Zo(hi:uj K ti fi)(h:∀ H:Hp,Cu (λ(a:Int×V) (b:Int×T)=>a.1=b.1/\Im K H a.2 b.2) vs tb):uj K (tKd vs ti) (dKd tb fi):=by
 intro C w Γ σ H s Γ' Q R e k;obtain⟨⟨s1,G1⟩,e1,e⟩:=uJ e;dsimp only at e;split at e
 ·rename_i n;obtain⟨kv,e2,e⟩:=map_some e;cases e;refine hi C w Γ σ H _ _ _ R e1 λv H1 R1 ev1 o1 n1=>?_
  have o1':Im K H1 v (.a (.int n)):=o1;have hv:v=.int n:=o1'.inva;subst hv;have go:∀ {vs:List (Int×V)} {tb:List (Int×T)},Cu (λ(a:Int×V) (b:Int×T)=>a.1=b.1/\Im K H1 a.2 b.2) vs tb->(tb.find? λkv=>decide (kv.1=n))=some kv->∃ u,(vs.find? λkv=>decide (kv.1=n))=some (n,u)/\Im K H1 u kv.2:=by
   intro vs tb q;induction q with
   | nil=>intro e;cases e
   | @cons a b vs tb hab _ ih =>
    intro e;rw[E3]at e ⊢;by_cases h1:b.1=n
    ·rw[decide_eq_true h1]at e;have:b=kv:=by simpa using e
     subst this;have ha:a.1=n:=hab.1.trans h1;rw[decide_eq_true ha];exact⟨a.2,by rw[← ha],hab.2⟩
    ·rw[decide_eq_false h1]at e;have ha:¬ a.1=n:=λz=>h1 (hab.1.symm.trans z)
     rw[decide_eq_false ha];exact ih e
  obtain⟨u,hu,iu⟩:=go (h H1) e2;exact⟨n,u,rfl,hu,k _ H1 R1 ev1 iu trivial⟩
 ·cases e
def jx(k1 k2:Int)(ns1 ns2:List Int)(hk:k1≠k2)(h1:mg x=some (.ref p))(h2:K.lookup p=some ⟨.type "dict",none,.dict [⟨k1,.int k1 t1,.ref p1⟩,⟨k2,.int k2 t2,.ref p2⟩].toArray ep,#[]⟩)
  (h3:K.lookup p1=some ⟨.type "tuple",none,.seq i1.toArray n1,s1⟩) (h4:K.lookup p2=some ⟨.type "tuple",none,.seq i2.toArray n2,s2⟩) (v1:uU (ns1.map V.int) i1) (v2:uU (ns2.map V.int) i2) (l1:i1.length<=AD) (l2:i2.length<=AD) (hh:∀ (P:Ah) (w:A5),(ud P w).hash (.inl k1)=k1/\(ud P w).hash (.inl k2)=k2) (c1:cOk (ns1.map V.int)=true:=by rfl) (c2:cOk (ns2.map V.int)=true:=by rfl) :
  KDV K mg x [(k1,.t ((ns1.map V.int).map T.a)),(k2,.t ((ns2.map V.int).map T.a))]:=
 ⟨p,[(k1,.ref p1),(k2,.ref p2)],[(k1,.ref p1),(k2,.ref p2)],h1,⟨_,ep,h2,by simp[hk],.cons ⟨⟨t1,rfl⟩,rfl,rfl⟩ (.cons ⟨⟨t2,rfl⟩,rfl,rfl⟩ .nil)⟩,.cons ⟨rfl,rfl⟩ (.cons ⟨rfl,rfl⟩ .nil),λP w kv hkv=>by
  rcases AR.mp hkv with z | z
  ·subst z;exact (hh P w).1
  ·have:=AI.mp z;subst this;exact (hh P w).2,
  λH=>.cons ⟨rfl,by unfold Im;exact⟨p1,ns1.map V.int,rfl,.inr ⟨_,i1.toArray,n1,h3,rfl,rfl,rfl,by simpa using l1,by simpa using v1,c1⟩,uh.atoms _⟩⟩ (.cons ⟨rfl,by unfold Im;exact⟨p2,ns2.map V.int,rfl,.inr ⟨_,i2.toArray,n2,h4,rfl,rfl,rfl,by simpa using l2,by simpa using v2,c2⟩,uh.atoms _⟩⟩ .nil)⟩
example (P:Ah) (w:A5):(ud P w).hash (.inl 1)=1/\(ud P w).hash (.inl 2)=2:=⟨by rfl,by rfl⟩
section
variable {ι:Type}{K:Fg}{X:ι->Cx}{mg:Str->Option AK}{k:Nat}{pos pos0:Pos}{x:Str}{i:Expr}{fi:DE}{Γ:En}
def ab(tb:List (Int×T))(M:Fm K mg k X)(c:KDV K mg x tb)(hi:EX K X i fi)(hs:ABi i:=by intro _ _;rfl)(hg:∀ j,Gl (X j) x:=by intro _;rfl)(hd:(x == ("__debug__":Str))=false:=by decide):EX K X (.Subscript (.Name x pos0) i pos) (dKd tb fi):=
 let ⟨p,vs,ws,h1,h2,h3,h4,h5⟩:=c;let ⟨t,q,u⟩:=hi
 ⟨tKd vs t,λj=>cC (p:=p) (ws:=ws) (Pt (hg j) (by rw[M.mg];exact h1) rfl hd) (q j) hs (by rw[M.K];exact h2) h3 (h4 _ _),Zo u h5⟩
@[simp] theorem rF:dKd tb fi Γ=(fi Γ).bind λp=>match p.1 with
 | .v (.a (.int n))=>(tb.find? λkv=>decide (kv.1=n)).map λkv=>(.v kv.2,p.2)
 | _=>none:=(rfl)
end
end D
namespace L2
open PySem PySem.Spec PyProof.Rows PySem.W
structure Kds(prog:Ah)(w:A5)(T:String)(r d:Addr)(n:Nat)(P:Nat->AK->Prop)(St:Nat->Heap->Prop):Prop where
 type:∀ s:Ab,St 0 s.heap->s.TypeIs (.ref r) T
 there:∀ h:Heap,St 0 h->r < h.objs.size/\d < h.objs.size
 notList:(CD T == CD "list")=false
 notTuple:(CD T == CD "tuple")=false
 hint:∀ (A:BY) (E:AK->Ab->Prop) (s:Ab) (Q:Bool->Ab->Prop),St 0 s.heap->(∀ b tk,Q b { s with toks:=tk })->AW (model prog w) A (Cj (.ref r)) Q E s
 iter:∀ (A:BY) (E:AK->Ab->Prop) (s:Ab) (Q:AK->Ab->Prop),St 0 s.heap->Q (.ref r) s->AW (model prog w) A (GL (.ref r)) Q E s
 walks:∀ (A:BY),A.handled=none->Walks prog w A r [r,d] [r] n P St
section
variable {prog:Ah}{w:A5}{A:BY}{E:AK->Ab->Prop}{s:Ab}{T:String}{r d:Addr}{n:Nat}{P:Nat->AK->Prop}{St:Nat->Heap->Prop}
def fJ(K:Kds prog w T r d n P St)(hh:A.handled=none)(hok:St 0 s.heap) S (hSr:S≠r) (hSd:S≠d) res c₀ (hS:s.heap.get? S=some { cls:=.type "list",data:=.seq #[] c₀ })
  (hR:∀ h' tk acc' c',(∀ b o,b≠S->b≠r->s.heap.get? b=some o->h'.get? b=some o)->h'.get? S=some { cls:=.type "list",dict:=none,data:=.seq acc' c',slots:=#[] }->FT P acc' n->R (.ok (.ret res)) { s with heap:=h',toks:=tk }) (hn:n<=AD) :
  AW (model prog w) A.in1 (Bz (.ref S) (.ref r) res)
   (λfin s'=>match fin with | .done f=>R (.ok f) s' | .again c'=>c'.quiet=true/\DM (model prog w) A c' R s') (λe s'=>R (.error e) s') s:=by
 have hSf:S∉[r,d]:=by simp;exact⟨hSr,hSd⟩
 have W:=K.walks A.in1 hh;have key:∀ h c₁ tk,St 0 h->(∀ b o,b≠S->b≠r->s.heap.get? b=some o->h.get? b=some o) ->
   h.get? S=some { cls:=.type "list",data:=.seq #[] c₁ }->DM (model prog w) A (.builtin "list.extend.loop" ⟨[.ref S,.ref r,res],[]⟩) R { s with heap:=h,toks:=tk }:=by
  intro h c₁ tk hst hk hS₁;refine codeAny_extend_loopS W.toS hn S hSf res n 0 _ #[] c₁ rfl (BO _) hst hS₁ (ItemsOf.nil _) λs' acc' c' hm hS' hacc=>?_
  rw[Moved.eq_with hm];refine hR s'.heap s'.toks acc' c' (λb o hb hb2 e=>hm.heap b o (λhmem=>?_) (hk b o hb hb2 e)) hS' hacc;rcases AR.mp hmem with e' | hmem
  ·exact hb e'
  ·exact hb2 (AI.mp hmem)
 refine AB (Da (K.type s hok) ?_);have h1:C4 (.ref S) (.ref r)=false:=by simp[C4,hSr]
 simp[h1,K.notList,K.notTuple];refine AB (K.iter _ _ _ _ hok ?_);refine AB (BU (K.hint _ _ _ _ hok λb tk=>Fe (λ_=>AB (Cf (AB ?_))) (λ_=>AF ⟨DC DG _,key _ c₀ _ hok (λb o _ _ e=>e) hS⟩)));refine AB (C7 hS rfl ?_);have hS₂:=BM (Ay (·.push CB)) hS rfl;refine C7 hS₂ rfl (AF ⟨DC DG _,key _ _ _ ?_ (λb o hb _ e=>?_) (BM (Ay (·.pop)) hS₂ rfl)⟩)
 ·refine W.frame 0 _ _ hok λb hb o e=>?_
  have hbS:b≠S:=λh=>hSf (h ▸ hb)
  exact (BC _ _ (Aw hbS)).trans ((BC _ _ (Aw hbS)).trans e)
 ·exact (BC _ _ (Aw hb)).trans ((BC _ _ (Aw hb)).trans e)
def bX(K:Kds prog w T r d n P St)(hh:A.handled=none)(hok:St 0 s.heap) S (hSr:S≠r) (hSd:S≠d) (hS:s.heap.get? S=some { cls:=.type "list",data:=.seq #[] })
  (hR:∀ h' tk acc' c',(∀ b o,b≠S->b≠r->s.heap.get? b=some o->h'.get? b=some o)->h'.get? S=some { cls:=.type "list",dict:=none,data:=.seq acc' c',slots:=#[] }->FT P acc' n->R (.ok (.ret .none)) { s with heap:=h',toks:=tk }) (hn:n<=AD) :
  AW (model prog w) A.in1 (Builtin.«list.__init__» ⟨[.ref S,.ref r],[]⟩)
   (λfin s'=>match fin with | .done f=>R (.ok f) s' | .again c'=>c'.quiet=true/\DM (model prog w) A c' R s') (λe s'=>R (.error e) s') s:=by
 refine AB (AB (Be hS rfl (AF (AB (C7 hS rfl ?_)))));have oth:∀ b o,b≠S->s.heap.get? b=some o->(s.heap.update S (Ay (λ_=>(#[])))).get? b=some o:=
  λb o hb e=>(BC _ _ (Aw hb)).trans e
 refine fJ K hh ((K.walks A hh).frame 0 _ _ hok λb hb o e=>oth b o (λz=>by
  subst z;simp at hb;rcases hb with q | q
  ·exact hSr q
  ·exact hSd q) e) S hSr hSd .none _ (BM (Ay (λ_=>(#[]))) hS rfl) (λh' tk acc' c' hk hS' hacc=>?_) hn
 exact hR h' tk acc' c' (λb o hb hb2 e=>hk b o hb hb2 (oth b o hb e)) hS' hacc
def Vw(K:Kds prog w T r d n P St)(hh:A.handled=none)(hok:St 0 s.heap)(hn:n<=AD)
  (hQ:∀ h' tk acc' c',(∀ b o,b≠r->s.heap.get? b=some o->h'.get? b=some o)->h'.get? s.heap.objs.size=some { cls:=.type "list",dict:=none,data:=.seq acc' c',slots:=#[] }->FT P acc' n->Q (.ref s.heap.objs.size) { s with heap:=h',toks:=tk }) :
  AW (model prog w) A (call (.type "list") [.ref r]) Q E s:=by
 refine Hh (Q₁:=λobj s₁=>obj=.ref s.heap.objs.size/\s₁={ s with heap:=s.heap.push { cls:=.type "list",data:=.seq #[] } }) HX (Gs _) Gu
  (LY _ ⟨rfl,rfl⟩) λobj s₁ h₁=>?_
 obtain⟨rfl,rfl⟩:=h₁;have hS:(s.heap.push { cls:=.type "list",data:=.seq #[] }).get? s.heap.objs.size=some { cls:=.type "list",data:=.seq #[] }:=AN _ rfl;have hlt:=K.there _ hok;refine⟨⟨_,hS,rfl⟩,Gi _ _,bX (A:=A.in1) K hh ((K.walks A hh).frame 0 _ _ hok λb _ o e=>AC _ e) _ (BK hlt.1) (BK hlt.2) hS (λh' tk acc' c' hk hS' hacc=>?_) hn⟩;exact⟨rfl,hQ h' tk acc' c' (λb o hb e=>hk b o (AZ (AJ e)) hb (AC _ e)) hS' hacc⟩
end
section
variable {prog:Ah}{w:A5}{A:BY}{E:AK->Ab->Prop}{s:Ab}
def iB(hT:s.TypeIs (.ref r) "list_reverseiterator")(h:Q false s):AW (model prog w) A (Cj (.ref r)) Q E s:=by
 refine AB (Bw (r:=none) hT (by rw[Dh];kernel_rfl) ?_)
 wp_delta
 refine AB (Bw (r:=some (.builtin "list_reverseiterator.__length_hint__")) hT rfl ?_);generalize hid:("list_reverseiterator.__length_hint__")=id0
 wp_delta
 rw[show splitId id0=some ("list_reverseiterator","__length_hint__") from by subst hid;decide +kernel];subst hid;refine AB (Bh (b:=true) hT rfl ?_);refine Fe (λhab=>absurd hab ∅) (λ_=>?_);exact AF h
def Tt:Slot "reversed" "__length_hint__" "reversed.__length_hint__" :=
 .of (owner:="reversed") (n:="__length_hint__") rfl rfl rfl rfl
  (by first | exact .inl rfl | exact .inr rfl) rfl
def lh:Hf table "reversed.__length_hint__"=some Builtin.«reversed.__length_hint__»:=G6 rfl
def fu a:IY "reversed.__length_hint__" ⟨[a],[]⟩:=by
 unfold IY;rw[Hx (n:=['_','_','t','n','i','h','_','h','t','g','n','e','l','_','_']) rfl Qp];kernel_rfl
def jz{r l:Addr}{i:Nat}{xs:Array AK}{Q}(he:yP s.heap r l ((i:Int) - 1))(hl:s.heap.IsTuple l xs)(hz:xs.size<=AD)(hi:i<=xs.size)(h:∀ b tk,Q b { s with toks:=tk }):AW (model prog w) A (Cj (.ref r)) Q E s:=by
 have hT:s.TypeIs (.ref r) "reversed":=⟨_,he,rfl⟩
 refine AB (Bw (r:=none) hT rfl ?_)
 wp_delta
 refine AB (Bw hT rfl ?_);generalize hid:("reversed.__length_hint__":String)=id0
 wp_delta
 subst hid;refine AB (Bh (b:=true) hT rfl ?_);refine AB (Cf ?_);refine AB (Cc (Tt.bind _) ?_);refine AB (Bf (As Tt hT lh ?_ (fu _)));refine AB (Cc rfl ?_);refine AB (Ap he rfl (x:=.ref l) rfl ?_);have h62:(AD:Int) < 2 ^ 62:=by decide
 refine AB (J4 hl (by have:=hz;rw[BQ]at this;lia) ?_);refine AB (Cc rfl ?_);refine AB (Ap he rfl rfl ?_);refine Fe (λhab=>?_) (λ_=>?_)
 ·exact absurd hab ⋯
 ·refine AB (HF ?_);refine AF ⟨_,rfl,?_⟩;refine AB (Cc rfl ?_)
  try dsimp only
  have e1:(i:Int) - 1+1=i:=by lia
  rw[e1];have e2:Fk (i:Int)=true:=by
   unfold Fk;rw[BE];exact⟨decide_eq_true ⋯,decide_eq_true ⋯⟩
  have e3:C0 (i:Int).toNat=false:=by
   exact decide_eq_false (by rw[C3];lia)
  rw[if_neg (by rw[e2];decide),if_neg ⋯,if_neg (by rw[e3];decide)];exact AF (h _ _)
end
section
variable {prog:Ah}{w:A5}{r l:Addr}
def dQ(hne:l≠r) items:Kds prog w "list_reverseiterator" r l items.size (λi v=>items[items.size - 1 - i]?=some v) (λi h=>i<=items.size/\h.IsRevIter r l ((items.size:Int) - 1 - i)/\h.IsList l items) where
 type:=λs st=>st.2.1.typeIs
 there:=λh st=>by
  obtain⟨_,⟨o,e,_⟩,⟨o2,e2,_⟩⟩:=st;exact⟨AJ e,AJ e2⟩
 notList:=by decide
 notTuple:=by decide
 hint:=λA E s Q st h=>iB st.2.1.typeIs (h false s.toks)
 iter:=λA E s Q st h=>Fw st.2.1 h
 walks:=λA hh=>Walks.listRev hh r l hne items
def aI(hne:l≠r) items (hz:items.size<=AD):Kds prog w "reversed" r l items.size (λi v=>items[items.size - 1 - i]?=some v) (λi h=>i<=items.size/\yP h r l ((items.size:Int) - 1 - i)/\h.IsTuple l items) where
 type:=λs st=>⟨_,st.2.1,rfl⟩
 there:=λh st=>by
  obtain⟨_,e,⟨o2,e2,_⟩⟩:=st;exact⟨AJ e,AJ e2⟩
 notList:=by decide
 notTuple:=by decide
 hint:=λA E s Q st h=>by
  have:=st.2.1;simp at this;exact jz this st.2.2 hz (AL _) h
 iter:=λA E s Q st h=>OP st.2.1 h
 walks:=λA hh=>{
  sub:=λb hb=>by simp at hb;simp[hb]
  frame:=λi h h' x hk=>⟨x.1,hk r ↥1 _ x.2.1,by
   obtain⟨o,e,q⟩:=x.2.2;exact⟨o,hk l ↥1 _ e,q⟩⟩
  item:=λi s Q E hi x hQ=>by
   have e:(items.size) - 1 - i=((items.size - 1 - i:Nat):Int):=by lia
   have hit:=x.2.1;rw[e]at hit;have hx:items[items.size - 1 - i]?=some (items[items.size - 1 - i]'⋯):=Bt ⋯;refine SR hit x.2.2 hz hx λh' tk hit' hs'=>?_
   have e2:(items.size - 1 - i:Nat) - 1=(items.size) - 1 - ((i+1):Int):=by lia
   rw[e2]at hit';refine hQ _ h' tk hx ⟨hi,hit',?_⟩ λb o hb eo=>hs'.extBut b o (λh=>hb (by simp[h])) eo
   obtain⟨o,eo,q⟩:=x.2.2;exact⟨o,(hs'.2 l hne).trans eo,q⟩
  done:=λs Q E x hQ=>by
   have e:(items.size:Int) - 1 - (items.size)=-1:=by lia
   have hit:=x.2.1;rw[e]at hit;exact V3 hh hit λh' he'=>hQ h' s.toks λb o hb eo=>he' b o (λh=>hb (by simp[h])) eo
  self:=λ_ _ _ _ x hQ=>OP x.2.1 hQ }
end
def TZ{items:List AK}{acc}(h:FT (λi v=>items.toArray[items.toArray.size - 1 - i]?=some v) acc items.toArray.size):acc.toList=items.reverse:=by
 have h1:=by have:=h.1;simpa using this
 refine Ih λi=>?_
 rcases Cq i items.length with hi | hi
 ·have hi':i < acc.size:=by lia
  have:=h.2 i acc[i] ↥1;rw[E5 hi];simp at this;rw[this];simp
 ·simp_all
theorem uU.rev:∀ {xs us},uU xs us->uU xs.reverse us.reverse
 | _,_,.nil=>.nil
 | _,_,.cons r t=>by
  simp;exact (uU.rev t).append (.cons r .nil)
section
variable {X:Cx}
def ABM (K:AY) (ta:TA):TE:=λσ H Q=>ta σ H λvs H1=>∃ (a:Addr) (xs:List V),vs=[.ref a]/\(vz K H1 a xs\/wo K H1 a xs)/\∀ l,H1 l=none->Q (.ref l) (upd H1 l (.lst xs.reverse))
def aE(hr:X.A.handled=none)(hg0:Gl X "list")(hm0:X.mg "list"=none)(hg1:Gl X "reversed")(hm1:X.mg "reversed"=none)(ha:PA X [e1] ta)
  (hs:AQ [e1] X.env=[(false,eval e1 X.env)]:=by rfl)
  (hs3:AQ [.Call (.Name "reversed" p1) [e1] [] pos1] X.env=[(false,eval (.Call (.Name "reversed" p1) [e1] [] pos1) X.env)]:=by rfl) :
  PE X (.Call (.Name "list" p0) [.Call (.Name "reversed" p1) [e1] [] pos1] [] pos0) (ABM X.K ta):=by
 intro pins s σ H Q I h;refine F9 (L3 I hg0 hm0 EI (An ?_ hs3 rfl));refine Cm (F9 (L3 I hg1 hm1 Hz (An (vB (ha pos1 pins s σ H _ I h) λus s1 ⟨vs,H1,I1,r1,q1⟩=>?_) (by rw[hs];rfl) (by rfl))));obtain⟨a,xs,rfl,hq,q⟩:=q1;obtain⟨u1,rfl,r⟩:=r1.one;cases r;have fin:∀ (s2:Ab) its h' tk acc c,s2.heap.objs.size=s1.heap.objs.size+1->s2={ s1 with heap:=s2.heap,toks:=s2.toks }->(∀ b o,s1.heap.get? b=some o->s2.heap.get? b=some o)->uU xs its->xs.length<=AD ->
   (∀ b o,b≠s1.heap.objs.size->s2.heap.get? b=some o->h'.get? b=some o)->h'.get? s2.heap.objs.size=some { cls:=.type "list",dict:=none,data:=.seq acc c,slots:=#[] }->acc.toList=its.reverse ->
   EP X pins σ Q (.ref s2.heap.objs.size) { s2 with heap:=h',toks:=tk }:=λs2 its h' tk acc c hz he k12 rv hl kp hS ea=>by
  have kk:=λb o e=>kp b o (AZ (AJ e)) (k12 b o e)
  have hf:H1 s2.heap.objs.size=none:=I1.hok.fresh ⋯;refine⟨.ref s2.heap.objs.size,upd H1 s2.heap.objs.size (.lst xs.reverse),?_,rfl,q _ hf⟩;rw[he];refine I1.laid kk (by show s1.heap.objs.size<=s2.heap.objs.size;lia) ⟨by simpa using hl,its.reverse,c,rv.rev,?_⟩;rw[← ea];exact hS
 rcases hq with h1 | h1
 ·obtain⟨its,rv,pl,z⟩:=I1.list h1;have l1:=rv.length;have hlist:=pl.isList;have lt1:a < s1.heap.objs.size:=by obtain⟨o,e,_⟩:=hlist;exact AJ e
  refine JZ hlist (Ct ?_);refine Vw (dQ (AZ lt1) its.toArray) hr ⟨BO _,⟨_,AN _ rfl,rfl,by simp[revObj]⟩,hlist.at λo e=>AC _ e⟩ (by rw[Ae];lia) λh' tk acc c kp hS hacc=>?_
  exact fin { s1 with heap:=s1.heap.push (revObj a ((its.toArray.size) - 1)) } its h' tk acc c (BW _ _) rfl (λb o e=>AC _ e) rv ⋯ kp hS (TZ hacc)
 ·obtain⟨its,rv,pl,z⟩:=I1.tuple h1;have l1:=rv.length;have htup:=pl;have lt1:a < s1.heap.objs.size:=by obtain⟨o,e,_⟩:=htup;exact AJ e
  refine FR Sw ∅ (ID _) (Ia _) (λobj=>D6 obj _) Ib (Wn a its.toArray (by rw[Ae];lia)) ⟨htup,?_⟩;have g:=AN s1.heap (o:={ cls:=.type "reversed",data:=.fields #[.ref a,D5 ((its.toArray.size) - 1)] }) rfl;refine⟨⟨_,g,rfl⟩,Ct (Vw (aI (AZ lt1) its.toArray (by rw[Ae];lia)) hr ⟨BO _,by simpa using g,by
   obtain⟨o,e,q⟩:=htup;exact⟨o,AC _ e,q⟩⟩ (by rw[Ae];lia) λh' tk acc c kp hS hacc=>?_)⟩
  exact fin _ its h' tk acc c (BW _ _) rfl (λb o e=>AC _ e) rv ⋯ kp hS (TZ hacc)
end
end L2
namespace D
open PySem L2
noncomputable def zH (fa:DA):DE:=λΓ=>(fa Γ).bind λp=>match p.1 with
 | [a]=>(xX p.2 a).map λxs=>(.l xs.reverse,p.2)
 | _=>none
def lx(ha:wD K ta fa):uj K (ABM K ta) (zH fa):=by
 intro C w Γ σ H s Γ' Q R e k;obtain⟨⟨as,G1⟩,e1,e⟩:=uJ e;dsimp only at e;split at e
 ·obtain⟨xs,e2,e⟩:=map_some e;cases e;refine ha C w Γ σ H _ _ _ R e1 λvs H1 R1 ev1 o1 n1=>?_
  obtain⟨v,rfl,o2⟩:=vN o1;obtain⟨p,us,rfl,h1,i1⟩:=Pb R1 o2 e2;exact⟨p,us,rfl,h1,λl hl=>k _ _ (R1.new hl) (ev1.trans (vG.new hl)) (R1.newl hl i1.rev) ⟨l,rfl,Me ev1 R1.lst hl⟩⟩
 ·cases e
section
variable {ι:Type}{K:Fg}{X:ι->Cx}{mg:Str->Option AK}{k:Nat}{a:Expr}{da:DA}{Γ:En}
def ZY(M:Fm K mg k X)(hm0:mg "list"=none)(hm1:mg "reversed"=none)(ha:AX K X [a] da)(hg0:∀ j,Gl (X j) "list":=by intro _;rfl)(hg1:∀ j,Gl (X j) "reversed":=by intro _;rfl)
  (hs:∀ j,AQ [a] (X j).env=[(false,eval a (X j).env)]:=by intro _;rfl)
  (hs3:∀ j,AQ [.Call (.Name "reversed" p1) [a] [] pos1] (X j).env=[(false,eval (.Call (.Name "reversed" p1) [a] [] pos1) (X j).env)]:=by intro _;rfl) :
  EX K X (.Call (.Name "list" p0) [.Call (.Name "reversed" p1) [a] [] pos1] [] pos0) (zH da):=
 let ⟨t,q,u⟩:=ha;⟨ABM K t,λj=>by have:=aE (p0:=p0) (pos0:=pos0) (M.room j).hd (hg0 j) (by rw[M.mg];exact hm0) (hg1 j) (by rw[M.mg];exact hm1) (q j) (hs j) (hs3 j);rw[M.K j]at this;exact this,lx u⟩
@[simp] theorem tK:zH da Γ=(da Γ).bind λp=>match p.1 with
 | [a]=>(xX p.2 a).map λxs=>(.l xs.reverse,p.2)
 | _=>none:=(rfl)
end
end D
namespace L2
open PySem PySem.Spec PyProof.Rows
def Itw (K:AY) (a1:Addr) (n:Nat):It:=
 ⟨λi H=>∃ xs x,vz K H a1 xs/\xs.length=n/\i < n/\xs[n - 1 - i]?=some x,
  λi H v H'=>H'=H/\∀ xs,vz K H a1 xs->xs[n - 1 - i]?=some v,
  λi H=>i=n⟩
def oY{K tg e a1} n (hle:a1≠e) :
  AAf P w K tg (Itw K a1 n) [e] e (λi h=>h.IsRevIter e a1 (n - 1 - i)) where
 mem:=by simp
 obj:=λi h st b hb=>by
  have q:=by simpa using hb
  subst q;obtain⟨o,e,c,d⟩:=st;exact⟨o,e,λv z=>by rw[d]at z;cases z⟩
 keep:=λi h h' st k=>st.at λo q=>k e ↥1 o q
 item:=by
  intro X hP hw hK hc i pins s σ H E I hf st hg;subst hP hw hK;obtain⟨xs,x,h1,hn,hi,hx⟩:=hg;obtain⟨its1,v1,o1,z1⟩:=I.list h1;obtain⟨u1,e1,r1⟩:=v1.get hx;have ei:n - 1 - i=((n - 1 - i:Nat):Int):=by lia
  have st':s.heap.IsRevIter e a1 (n - 1 - i:Nat):=by rw[← ei];exact st
  obtain⟨f0,f1,f2,f3,f4,f5⟩:=hf e ↥1;refine wpAny_pyNext_rev_item st' o1.isList (by simpa using e1) λh' he sb=>?_
  have he':h'.IsRevIter e a1 (n - 1 - (i+1:Nat)):=by
   have:n - 1 - (i+1:Nat)=((n - 1 - i:Nat):Int) - 1:=by lia
   rw[this];exact he
  obtain⟨o,q1,q2,q3⟩:=id he';exact⟨u1,rfl,OI q1 q2 q3 ∅ ⟨x,H,(I.turned (λb o hb q=>(sb.2 b hb).trans q) f0 f1 f3 f4 f5),r1,⟨rfl,λys hy=>by rw[I.list_inj hy h1];exact hx⟩,he',λb hb=>(hf b hb).1⟩⟩
 done:=by
  intro X hP hw hK hc i pins s σ H E I hf st hg;subst hg;obtain⟨f0,f1,f2,f3,f4,f5⟩:=hf e ↥1;have st':s.heap.IsRevIter e a1 (-1):=by
   have:i - 1 - (i:Int)=-1:=by lia
   rw[← this];exact st
  exact wpAny_pyNext_rev_end (I.ok.hd hc) st' λh' eb=>⟨rfl,I.turned (eb) f0 f1 f3 f4 f5⟩
 self:=λ_ _ _ _ _ st h=>Fw st h
section
variable {X:Cx}{tg:Expr}
def ABN (K:AY) (ta:TA):TI:=λσ H R=>ta σ H λvs H1=>∃ (a1:Addr) (xs:List V),vs=[.ref a1]/\vz K H1 a1 xs/\R (Itw K a1 xs.length) H1
def ZS{p pos}(hg:Gl X "reversed")(hm:X.mg "reversed"=none)(ha:PA X [e1] ta)(hs:AQ [e1] X.env=[(false,eval e1 X.env)]:=by rfl) :
  PI X tg (.Call (.Name "reversed" p) [e1] [] pos) (ABN X.K ta):=by
 intro pins s σ H R I h;refine F9 (L3 I hg hm Hz (An (vB (ha pos pins s σ H _ I h) λus s1 ⟨vs,H1,I1,r1,q1⟩=>?_) ‹_› (by rfl)));obtain⟨a1,xs,rfl,h1,q⟩:=q1;obtain⟨u1,rfl,rfl⟩:=r1.one;obtain⟨its1,v1,o1,z1⟩:=I1.list h1;have l1:=v1.length;have hlist:=o1.isList;have lt1:a1 < s1.heap.objs.size:=by obtain⟨o,e,_⟩:=hlist;exact AJ e
 refine JZ hlist ?_;have st':(s1.heap.push (revObj a1 ((its1.toArray.size) - 1))).IsRevIter s1.heap.objs.size a1 ((xs.length) - 1 - (0:Nat)):=by
  have:((xs.length) - 1 - (0:Nat))=(its1.toArray.size:Int) - 1:=by rw[Ae];lia
  rw[this];exact⟨_,AN _ rfl,rfl,rfl⟩
 refine Fw st' ⟨_,_,_,_,H1,rfl,I1.kept λb o e=>AC _ e,oY xs.length (AZ lt1),st',λc hc=>?_,q⟩;have e:=by simpa using hc
 subst e;exact I1.fpOk (AL _) (I1.hok.fresh (AL _))
end
end L2
namespace D
open PySem L2
noncomputable def AAC (fa:DA):DI:=λΓ=>(fa Γ).bind λp=>match p.1 with
 | [a]=>(ux p.2 a).bind λxs=>gd xs.length ((xs.reverse,yS p.2 a),p.2)
 | _=>none
section
variable {K:Fg}
def cT(ha:wD K ta fa):zC K (ABN K ta) (AAC fa):=by
 intro C w Γ σ H its src Γ' R Rp e k;obtain⟨⟨as,G1⟩,e1,e⟩:=uJ e;dsimp only at e;split at e
 ·obtain⟨xs,e2,e⟩:=uJ e;obtain⟨hz,e⟩:=L6 e;cases e;refine ha C w Γ σ H _ _ _ Rp e1 λvs H1 R1 ev1 o1 n1=>?_
  obtain⟨v,rfl,o2⟩:=vN o1;obtain⟨p,us,rfl,h1,i1,st⟩:=OA R1 o2 e2;refine⟨p,us,rfl,h1,k _ H1 R1 ev1 ⟨by simpa using hz,λL' hs av H2 ev=>?_⟩⟩;have hL:LL L' H1:=λq hq=>R1.lst q (hs q hq)
  have h2:=st L' hs av H2 ev;have i2:=i1.evo ev hL;have l2:=i2.len;refine⟨λi t e=>?_,by show _=_;simp[l2]⟩;have hi:=by simpa using (Af.mp e).1
  rw[E5 hi]at e;obtain⟨v,e3,hv⟩:=i2.get e;refine⟨⟨us,v,h2,rfl,by lia,by rw[l2];exact e3⟩,λx H3 y=>?_⟩;obtain⟨rfl,k1⟩:=y;have q1:=k1 us h2;rw[l2,e3]at q1;cases q1;exact⟨λb o e=>e,hv⟩
 ·cases e
end
section
variable {ι:Type}{K:Fg}{X:ι->Cx}{mg:Str->Option AK}{k:Nat}{a:Expr}{da:DA}{p pos:Pos}{Γ:En}
def aY(M:Fm K mg k X)(hm:mg "reversed"=none)(ha:AX K X [a] da)(hg:∀ j,Gl (X j) "reversed":=by intro _;rfl)(hs:∀ j,AQ [a] (X j).env=[(false,eval a (X j).env)]:=by intro _;rfl) :
  IX K X tg (.Call (.Name "reversed" p) [a] [] pos) (AAC da):=
 let ⟨t,q,u⟩:=ha;⟨ABN K t,λj=>by have:=ZS (tg:=tg) (p:=p) (pos:=pos) (hg j) (by rw[M.mg];exact hm) (q j) (hs j);rw[M.K j]at this;exact this,cT u⟩
@[simp] theorem t7:AAC da Γ=(da Γ).bind λp=>match p.1 with
 | [a]=>(ux p.2 a).bind λxs=>gd xs.length ((xs.reverse,yS p.2 a),p.2)
 | _=>none:=(rfl)
end
@[simp high,simp ↓ high] theorem qv{α:Type}{x y:α}:ifO (some 3) 3 x y=x:=rfl
end D
namespace L2
open PySem PySem.Spec PyProof.Rows
section
variable {X:Cx}{x:Str}{p pos:Pos}{e:Expr}{es:List Expr}{t:TA}{k:Nat}
def zV (i:Nat) (C:Addr->Sp->Prop) (t:TA):TE:=λσ H Q=>∃ f sp,σ[i]?=some (some (.ref f))/\C f sp/\t σ H λvs H1=>sp (vs++[]) H1 Q E0
def UU(hC:Mod X.K X.mg X.base->∀ f sp,C f sp->∃ fd ps,wM X.prog X.w X.K X.mg X.base yd k f fd ps sp/\BZ X.K (.ref f)=true/\Binds X.K fd ps [])
  (hr:vn k X.A) (hN:X.N[i]?=some x) (hv:Vis X.env.scope x) (ha:PA X (e::es) t) (hd:(x == ("__debug__":Str))=false:=by decide) (hcd:(x == ("__classdict__":Str))=false:=by decide)
  (he:AQ (e::es) X.env=(false,eval e X.env)::AQ es X.env:=by rfl) (hpl:(Bx pos (AQ es X.env)).any (·.1)=false:=by rfl) :
  PE X (.Call (.Name x p) (e::es) [] pos) (zV i C t):=by
 intro pins s σ H Q I h;obtain⟨f,sp,e1,c,h⟩:=h;obtain⟨fd,ps,F,hk,hb⟩:=hC I.mod f sp c;refine Cw (vB (OG hN hv hd hcd pins s σ H (λv H'=>v=.ref f/\H'=H) I ⟨.ref f,e1,rfl,rfl⟩) λu s1 ⟨v,H1,I1,r1,q1⟩=>?_);obtain⟨rfl,rfl⟩:=q1;obtain rfl:u=BJ f:=r1;exact FN I1.ok.mod.kin hk (vB (ha pos pins s1 σ _ _ I1 h) λus s2 ⟨vs,H2,I2,r,q⟩=>⟨I2.kIn,Rw F hr hb .nil zy I2 r q⟩) he hpl
end
end L2
namespace D
open PySem L2
abbrev Tb:=List (Str×Nat×DF)
def ACC (P:Ah) (wd:A5) (K:Fg) (mg:Str->Option AK) (base:Heap) (k:Nat) (tb:Tb):Prop:=∀ q∈tb,FD P wd K mg base k q.1 none q.2.1 q.2.2
section
variable {P:Ah}{wd:A5}{K:Fg}{mg:Str->Option AK}{base:Heap}{k:Nat}
theorem FD.mono(D0:FD P wd K mg base k' x ip n F)(h:k'<=k):FD P wd K mg base k x ip n F:=by
 obtain⟨f,fd,ps,h1,h2⟩:=D0.ex;exact⟨⟨f,fd,ps,h1.mono h,h2⟩,D0.len⟩
def Wf:ACC P wd K mg base k []:=λ_ h=>nomatch h
def OM(D0:FD P wd K mg base k' x none n F)(r:ACC P wd K mg base k tb)(h:k'<=k:=by first | exact AL _ | decide | lia):ACC P wd K mg base k ((x,n,F)::tb):=λq hq=>by
 rcases AR.mp hq with rfl | hq
 ·exact D0.mono h
 ·exact r q hq
end
noncomputable def dFn (n:Str):DE:=λΓ=>some (.v (.f n),Γ)
noncomputable def v8 (i:Nat) (tb:Tb) (fa:DA):DE:=λΓ=>match Γ[i]? with
 | some (some (.v (.f n)))=>match tb.find? λq=>decide (q.1=n) with
  | some q=>uL none q.2.2 [] fa Γ
  | none=>none
 | _=>none
def NK (K:Fg) (mg:Str->Option AK) (n:Str):Prop:=∃ f,Ci K Ao n=some (some (.ref f))/\mg n=some (.ref f)
def ZE(h:Ci K Ao n=some (some (.ref f))):uj K (tC (.ref f)) (dFn n):=by
 intro C w Γ σ H s Γ' Q R e k;cases e;exact k _ H R .refl (show Im K H _ (.f n) from Im.fn ⟨f,rfl,h⟩) trivial
def AAa (K:Fg) (tb:Tb) (f:Addr) (sp:Sp):Prop:=∃ q∈tb,Ci K Ao q.1=some (some (.ref f))/\sp=y8 K none q.2.1 q.2.2
def VN(hl:∀ q∈tb,∀ gs r,q.2.2 gs=some r->gs.length=q.2.1)(ha:wD K t fa):uj K (zV i (AAa K tb) t) (v8 i tb fa):=by
 intro C w Γ σ H s Γ' Q R e k;unfold v8 at e;split at e
 ·rename_i n hn;split at e
  ·rename_i q hq;obtain⟨v,e1,hv⟩:=R.val i _ hn;obtain⟨f,rfl,hf⟩:=(show Im K H v (.f n) from hv).invf;have hm:=List.mem_of_find?_eq_some hq;have hqn:=by simpa using GW hq
   exact⟨f,y8 K none q.2.1 q.2.2,e1,⟨q,hm,by rw[hqn];exact hf,rfl⟩,Qs (hl q hm) ha C w Γ σ H s Γ' Q R e k⟩
  ·cases e
 ·cases e
section
variable {ι:Type}{P:Ah}{wd:A5}{base:Heap}{K:Fg}{mg:Str->Option AK}{k k' n:Nat}{X:ι->Cx}{e:Expr}{es:List Expr}{pos p:Pos}{da:DA}{x:Str}{tb:Tb}{Γ:En}
def aq(M:Fm K mg k X)(h:NK K mg x)(hg:∀ j,Gl (X j) x:=by intro _;rfl)(hd:(x == ("__debug__":Str))=false:=by decide):EX K X (.Name x pos) (dFn x):=by
 obtain⟨f,h1,h2⟩:=h;exact⟨_,λj=>Pt (v:=.ref f) (hg j) (by rw[M.mg];exact h2) rfl hd,ZE h1⟩
def iN i (M:Fm K mg k X) (B:Fb P wd base X) (T0:ACC P wd K mg base k' tb) (ha:AX K X (e::es) da) (hk:k'<=k:=by first | exact AL _ | decide | lia)
  (hN:∀ j,(X j).N[i]?=some x:=by intro _;rfl) (hv:∀ j,Vis (X j).env.scope x:=by intro _;first | exact Ds rfl | exact C2 (Ds rfl) | exact C2 (C2 rfl)) (hd:(x == ("__debug__":Str))=false:=by decide) (hcd:(x == ("__classdict__":Str))=false:=by decide)
  (he:∀ j,AQ (e::es) (X j).env=(false,eval e (X j).env)::AQ es (X j).env:=by intro _;rfl) (hpl:∀ j,(Bx pos (AQ es (X j).env)).any (·.1)=false:=by intro _;rfl) :
  EX K X (.Call (.Name x p) (e::es) [] pos) (v8 i tb da):=by
 obtain⟨t,q,u⟩:=ha;refine⟨zV i (AAa K tb) t,λj=>UU (λhm f sp hc=>?_) ((M.room j).mono hk) (hN j) (hv j) (q j) hd hcd (he j) (hpl j),VN (λq hq=>(T0 q hq).len) u⟩;obtain⟨q,hq,h1,rfl⟩:=hc;obtain⟨f',fd,ps,g1,g2,g3,g4⟩:=(T0 q hq).ex;have hm':Mod K mg base:=by rw[← M.K j,← M.mg j,← B.b j];exact hm
 have e:=Gj hm'.kin hm'.glob h1;rw[g2]at e;cases e;exact⟨fd,ps,by rw[B.P,B.w,M.K,M.mg,B.b];exact g1,by rw[M.K];exact g3,by rw[M.K];exact g4⟩
@[simp,simp ↓] theorem sX{n:Str}:dFn n Γ=some (.v (.f n),Γ):=rfl
end
noncomputable def wY:Nat:=100000
def Nz:wY=100000:=rfl
inductive Rs where
 | mk (e v:T) (ks:List Rs)
noncomputable def Rs.e:Rs->T | .mk e _ _=>e
noncomputable def Rs.v:Rs->T | .mk _ v _=>v
mutual
noncomputable def Rs.pre:Rs->List Rs
 | .mk e v ks=>.mk e v ks::wj ks
noncomputable def wj:List Rs->List Rs
 | []=>[]
 | r::rs=>r.pre++wj rs
end
def ML:wj []=[]:=by unfold wj;rfl
def L4 r rs:wj (r::rs)=r.pre++wj rs:=by rw[wj]
def MD e v ks:(Rs.mk e v ks).pre=.mk e v ks::wj ks:=by rw[Rs.pre]
theorem P5:∀ a b,wj (a++b)=wj a++wj b
 | [],b=>by rw[ML];rfl
 | r::a,b=>by rw[GH,L4,L4,P5 a b,CT]
mutual
noncomputable def Rs.In (ins:DF):Rs->Prop
 | .mk e _ ks=>(ins [.v e]=some (.v (.t (ks.map Rs.e)),[])\/ins [.v e]=some (.l (ks.map Rs.e),[]))/\Ins ins ks
noncomputable def Ins (ins:DF):List Rs->Prop
 | []=>True
 | r::rs=>r.In ins/\Ins ins rs
end
def Lr:Ins ins (r::rs) ↔ r.In ins/\Ins ins rs:=by rw[Ins]
def L1:(Rs.mk e v ks).In ins ↔ (ins [.v e]=some (.v (.t (ks.map Rs.e)),[])\/ins [.v e]=some (.l (ks.map Rs.e),[]))/\Ins ins ks:=by rw[Rs.In]
def L9:Ins ins []:=by unfold Ins;trivial
theorem Wd:∀ {a b},Ins ins a->Ins ins b->Ins ins (a++b)
 | [],_,_,h=>h
 | _::_,_,h,h'=>Lr.mpr ⟨(Lr.mp h).1,Wd (Lr.mp h).2 h'⟩
def Sv(h:Γ[i]?=some (~~~(.f n)))(hf:tb.find? (λq=>decide (q.1=n))=some (n,a,F)):v8 i tb fa Γ=uL none F [] fa Γ:=by
 unfold v8;rw[h];dsimp only;rw[hf]
noncomputable def awC:DT:=wc (jV 3)
noncomputable def awB (tb:Tb):DS:=uO (uS 4 (vb 3 yV qQ)) (uO (wA (vb 2 vV (jW (jV 4) qQ))) (wA (vb 3 vi (jW (zH (jW (v8 1 tb (jW (jV 4) qQ)) qQ)) qQ))))
noncomputable def awD (tb:Tb):DS:=uO (uS 2 (vR qQ)) (uO (uS 3 (vR (jW (jV 0) qQ))) (uO (vH awC (awB tb) wY) (uT (jV 2))))
@[simp] theorem Zb(h:xs.length+ys.length<=AD):vi Γ xs [.l ys]=some (.a .non,xs++ys):=by
 unfold vi;dsimp only;simp[gj,gd,h]
section
variable {tb:Tb}{n:Str}{ka:Nat}{ins:DF}
theorem dz(hf:tb.find? (λq=>decide (q.1=n))=some (n,ka,ins)):∀ m st acc w p4 fuel,(wj st).length=m->m < fuel->acc.length+m<=90000->st.length<=90000->Ins ins st ->
  ∃ p4',vH awC (awB tb) fuel [some (.v w),some (.v (.f n)),some (.l acc),some (.l (st.reverse.map Rs.e)),p4]=some (.nx [some (.v w),some (.v (.f n)),some (.l (acc++(wj st).map Rs.e)),some (.l []),p4']):=by
 intro m;induction m with
 | zero =>
  intro st acc w p4 fuel hm hfu hb hs hi;cases st with
  | nil =>
   obtain⟨f,rfl⟩:∃ f,fuel=f+1:=⟨fuel - 1,by lia⟩
   exact⟨p4,by rw[Mn];simp[awC,ML]⟩
  | cons r rs =>
   cases r with
   | mk e v ks=>rw[L4,MD]at hm;simp at hm
 | succ m ih =>
  intro st acc w p4 fuel hm hfu hb hs hi;obtain⟨f,rfl⟩:∃ f,fuel=f+1:=⟨fuel - 1,by lia⟩
  cases st with
  | nil=>rw[ML]at hm;cases hm
  | cons r rs =>
   cases r with
   | mk e v ks =>
    obtain⟨h1,h2⟩:=Lr.mp hi;obtain⟨h3,h4⟩:=L1.mp h1;rw[L4,MD]at hm;have hlen:∀ l,l.length<=(wj l).length:=λl=>by
     induction l with
     | nil=>simp
     | cons x l ih =>
      cases x with
      | mk a b c=>rw[L4,MD];simp;lia
    have hk:=hlen ks;have hr:=hlen rs;simp at hm;obtain⟨p4',e4⟩:=ih (ks++rs) (acc++[e]) w (some (.v e)) f (by rw[P5,A4];lia) ⋯ ↥2 ↥2 (Wd h4 h2);refine⟨p4',?_⟩;have hl1:acc.length < AD:=AM (show acc.length < 100000 by lia) ∅;have hl2:rs.length+ks.length<=AD:=Aa (show rs.length+ks.length<=100000 by lia) ∅;have e0:(B5 Rs.e (Rs.mk e v ks::rs).reverse)=B5 Rs.e rs.reverse++[e]:=by simp[Rs.e]
    have pop:(awB tb) [some (.v w),some (.v (.f n)),some (.l acc),some (.l (B5 Rs.e rs.reverse++[e])),p4]=some (.nx [some (.v w),some (.v (.f n)),some (.l (acc++[e])),some (.l (B5 Rs.e rs.reverse++(ks.map Rs.e).reverse)),some (.v e)]):=by
     have cv:v8 1 tb (jW (jV 4) qQ) [some (.v w),some (.v (.f n)),some (.l (acc++[e])),some (.l (B5 Rs.e rs.reverse)),some (.v e)]=uL none ins [] (jW (jV 4) qQ) [some (.v w),some (.v (.f n)),some (.l (acc++[e])),some (.l (B5 Rs.e rs.reverse)),some (.v e)]:=Sv rfl hf;have ex:∀ Γ,vi Γ (B5 Rs.e rs.reverse) [.l (ks.map Rs.e).reverse]=some (.a .non,B5 Rs.e rs.reverse++(ks.map Rs.e).reverse):=λΓ=>Zb (by simp_all)
     have hs':rs.length+1<=AD:=Aa (show rs.length+1<=100000 by simp at hs;lia) ∅;have hq:(B5 Rs.e rs.reverse).length+1<=AD:=by simpa using hs'
     have hl0:=Dj hl1;generalize B5 Rs.e rs.reverse=RR at cv ex hq ⊢;have hq':RR.length<=AD:=by lia
     rcases h3 with h3 | h3
     iterate 2
      ·simp[awB,cv,h3,hl1,ex,gd,hq,hq',hl0]
    rw[Mn,e0];have tr:awC [some (.v w),some (.v (.f n)),some (.l acc),some (.l (B5 Rs.e rs.reverse++[e])),p4]=some (true,[some (.v w),some (.v (.f n)),some (.l acc),some (.l (B5 Rs.e rs.reverse++[e])),p4]):=by
     simp[awC]
    rw[tr,Ar,if_pos rfl,pop,Ar];dsimp only;have e5:B5 Rs.e rs.reverse++(ks.map Rs.e).reverse=B5 Rs.e (ks++rs).reverse:=by simp
    rw[e5,e4,P5];rw[L4,MD];simp[Rs.e]
def gR(hf:tb.find? (λq=>decide (q.1=n))=some (n,ka,ins))(r:Rs)(h:r.In ins)(hb:r.pre.length<=80000):ua none 2 5 (awD tb) [.v r.e,.v (.f n)]=some (.l (r.pre.map Rs.e),[]):=by
 have hp:wj [r]=r.pre:=by rw[L4,ML,Bm]
 obtain⟨p4',e⟩:=dz hf r.pre.length [r] [] r.e none wY (by rw[hp]) (by rw[Nz];lia) ↥2 ↥1 (Lr.mpr ⟨h,L9⟩);rw[hp]at e;simp at e;simp[ua,awD,e]
end
noncomputable def fwE:DE:=vb 1 yV qQ
theorem Vr:∀ es vs t0 o,es.length=vs.length->t0.length+vs.length<=100000->∃ o',vg (uP 0) vy fwE es [o,some (.l (t0++vs.reverse))]=some (vs,[o',some (.l t0)])
 | [],[],t0,o,_,_=>⟨o,by simp[MG]⟩
 | [],_::_,_,_,h,_ | _::_,[],_,_,h,_=>by cases h
 | e::es,v::vs,t0,o,h,hb=>by
  obtain⟨o',h2⟩:=Vr es vs t0 (some (.v e)) (by simpa using h) (by simp at hb;lia);refine⟨o',?_⟩;have e1:t0++(v::vs).reverse=(t0++vs.reverse)++[v]:=by simp
  have hq:(t0++vs.reverse).length+1<=AD:=Aa (show _<=100001 by simp at hb ⊢;lia) ∅;rw[e1,L7];generalize t0++vs.reverse=RR at h2 hq ⊢;unfold fwE at h2 ⊢;simp[gd,hq,h2]
def ACA (K:Fg) (trs:List (TE×TE)) (ks:List vT) (fa:DA):Prop:=∀ (C:Fr) (w:W) (Γ:En) (σ:St) (H:Hp) (ss:List S) (Γ':En) (Q:List (V×V)->Hp->Prop),ui K C w Γ σ H->fa Γ=some (ss,Γ') ->
 (∀ vs H',ui K C w Γ' σ H'->vG w.L H H'->wB K C w σ H' vs ss->vs.length=ks.length->Q ((ks.map kV).zip vs) H')->zZ trs σ H Q
def nE:ACA K [] [] qQ:=by
 intro C w Γ σ H ss Γ' Q R e k;cases e;exact k [] H R .refl trivial rfl
def oS(key:vT)(hv:uj K tv fv)(hr:ACA K trs ks fa):ACA K ((tC (kV key),tv)::trs) (key::ks) (jW fv fa):=by
 intro C w Γ σ H ss Γ' Q R e k;obtain⟨p,e1,e⟩:=uJ e;obtain⟨q,e2,e⟩:=uJ e;cases e;show tv σ H _;refine hv C w Γ σ H p.1 p.2 _ R e1 λv1 H1 R1 ev1 o1 _=>?_
 exact hr C w p.2 σ H1 q.1 q.2 _ R1 e2 λvs H2 R2 ev2 o2 hl=>k (v1::vs) H2 R2 (ev1.trans ev2) ⟨o1.evo ev2 R1.lst,o2⟩ (by simp[hl])
noncomputable def y6 (ks:List vT) (fa:DA):DE:=λΓ=>(fa Γ).bind λp=>(trees p.1).bind λts=>if ks.length<=15/\ks.Nodup then some (.d (.inl (ks.zip ts)),p.2) else none
def Va{kvs:List (vT×V)}{k:vT}{v:V}(h:k∉kvs.map (·.1)):wL kvs k v=kvs++[(k,v)]:=by
 unfold wL;rw[if_neg];intro z;obtain⟨a,ha,e⟩:=DQ.mp z;exact h (Am.mpr ⟨a,ha,of_decide_eq_true e⟩)
theorem XT:∀ (ks:List vT) {vs:List V} {ts:List T},uh K H vs ts->Cu (λ(a:vT×V) (b:vT×T)=>a.1=b.1/\Im K H a.2 b.2) (ks.zip vs) (ks.zip ts)
 | [],_,_,_=>.nil
 | a::r,vs,[],h=>by rw[h.inv0];exact .nil
 | a::r,vs,t::ts,h=>by
  obtain⟨v,us,rfl,h1,h2⟩:=h.inv;exact .cons ⟨rfl,h1⟩ (XT r h2)
theorem Ve:∀ (more kvs:List (vT×V)),((kvs++more).map (·.1)).Nodup->wG kvs more=kvs++more
 | [],kvs,_=>by simp[wG]
 | p::r,kvs,h=>by
  show wG (wL kvs p.1 p.2) r=_;have hn:p.1∉kvs.map (·.1):=λz=>by
   rw[A9,AO]at h;exact (EV.mp h).2.2 _ z _ AG rfl
  rw[Va hn,Ve r (kvs++[p]) (by simpa using h)];simp
def iJ(h:ACA K trs ks fa):uj K (ACj trs) (y6 ks fa):=by
 intro C w Γ σ H s Γ' Q R e k;obtain⟨⟨ss,G1⟩,e1,e⟩:=uJ e;obtain⟨ts,e2,e⟩:=uJ e;split at e
 ·rename_i hk;cases e;intro p hp;obtain⟨n1,n2,ow⟩:=R.fresh hp;refine h C w Γ σ _ ss G1 _ (R.new hp) e1 λvs H2 R2 ev2 o2 hl=>?_
  have hp2:H2 p=some (.dK []):=ev2 p _ Lq n1;have hi:=PK o2 e2;have hts:ts.length=ks.length:=by rw[← hi.len];exact hl
  refine⟨hp2,ks.zip vs,?_,by simp[GV,hl];exact hk.1,?_⟩
  ·refine Eg ↥1 λi h1 h2=>?_
   simp
  have em:wG [] (ks.zip vs)=ks.zip vs:=by
   rw[Ve _ _ (by
    rw[GS,List.map_fst_zip ⋯];exact hk.2)]
   rfl
  rw[em];refine k _ _ (R2.tmp n1 n2 ow hp2 trivial) (λc o hcc nn=>?_) ⟨p,_,rfl,n1,n2,ow,Lq,?_⟩ ⟨p,rfl,hp⟩
  ·have ne:=Lp hcc hp;rw[Ll ne];exact ev2 c o (by rw[Ll ne];exact hcc) nn
  ·have ev3:vG (p::w.L) H2 (upd H2 p (.dK (ks.zip vs))):=λc o e n=>by rw[Ll (λz:c=p=>n (by rw[z];exact AG))];exact e
   have hL3:LL (p::w.L) H2:=λq hq=>by
    rcases AR.mp hq with z | z
    ·subst z;exact⟨_,hp2,trivial⟩
    ·exact R2.lst q z
   have hi3:=hi.evo ev3 hL3;exact (show yM K _ (.dK (ks.zip vs)) (.inl (ks.zip ts)) from XT ks hi3)
 ·cases e
section
variable {ι:Type}{K:Fg}{mg:Str->Option AK}{k:Nat}{X:ι->Cx}{fa:DA}{pos:Pos}{Γ:En}
def PX (K:Fg) (X:ι->Cx) (pos:Pos) (keys:List (Option Expr)) (values:List Expr) (ks:List vT) (fa:DA):Prop:=∃ trs,(∀ j,PPs (X j) pos keys values trs)/\ACA K trs ks fa
def ZX:PX K X pos [] [] [] qQ:=⟨[],λ_=>jG,nE⟩
def ZA(hv:EX K X e fv)(hr:PX K X pos keys values ks fa):PX K X pos (some (.Constant (.str x) j0 p0)::keys) (e::values) (.inr x::ks) (jW fv fa):=
 let ⟨_,p,s⟩:=hv;let ⟨_,q,u⟩:=hr;⟨_,λj=>bF Wq (p j) (q j),oS (.inr x) s u⟩
def Xr(h:PX K X pos keys values ks fa)(hall:keys.all (·.isSome)=true:=by rfl)(hl:keys.length=values.length:=by rfl)(h0:keys≠[]:=by exact nofun)(h15:keys.length<=15:=by decide):EX K X (.Dict keys values pos) (y6 ks fa):=
 let ⟨_,p,s⟩:=h;⟨_,λj=>Xq (p j) hall hl h0 h15,iJ s⟩
@[simp,simp ↓] theorem sY:y6 ks fa Γ=vw (fa Γ) (f:=⟨λp=>vw (trees p.1) (f:=⟨λts=>if ks.length<=15/\ks.Nodup then some (.d (.inl (ks.zip ts)),p.2) else none⟩)⟩):=rfl
end
end D
namespace L2
open PySem PySem.Spec PyProof.Rows
structure ABF(K:AY)(x qual:Str)(st:Stmt)(T f:Addr)(fd:C6):Prop where
 ex:∃ (oc:AK) (od:Option Addr) (kV doc pm:AK) (an:Option Addr) (cdv ct:AK) (osl:Array (Option AK)),
  fd=Bj x qual (vL st) (uq st) (uK st) (.ref T) kV doc pm an cdv ct/\K.lookup f=some ⟨oc,od,.func fd,osl⟩/\CY K cdv qual=true
 kp:BZ K (.ref f)=true
section
variable {P:Ah}{w:A5}{K:AY}{mg:Str->Option AK}{base:Heap}
def ABF.ok{st T f fd N ps k sp}(F:ABF K x qual st T f fd)(S:uN N ps (uK st))(len:∀ vs H Q E,sp vs H Q E->vs.length=ps.length)
  (hbody:∀ cdv A outer s H vs Q E,vn k (A.deeper (Fo qual (uK st) s.heap.objs.size f cdv))->sp vs H Q E ->
   ∃ t,PSs (zw yd P w K mg base N qual (uK st) f cdv A outer s H E).nox (uq st) t/\t { nx:=λ_ H'=>Q .non H',rt:=Q } (start N vs) H):wM P w K mg base yd (k+1) f fd ps sp:=by
 obtain⟨oc,od,kV,doc,pm,an,cdv,ct,osl,rfl,lk,hcd⟩:=F.ex;refine P9 lk hcd S len λA outer s H vs Q E hr hsp=>?_
 obtain⟨t,h,q⟩:=hbody cdv A outer s H vs Q E hr hsp;exact⟨t,h.nox,q⟩
def ABF.binds{st T f fd ps ds o items n}(F:ABF K x qual st T f fd)(hT:K.lookup T=some o)(hs:o.data=.seq items n)
  (h:∀ kV doc pm an cdv ct us,(us++ds).length=ps.length->∃ k,Fl (Bj x qual (vL st) (uq st) (uK st) (.ref T) kV doc pm an cdv ct) ⟨us,[]⟩=J8 (.ref T) >>= k/\k (some items)=pure (ps.zip (us++ds))):Binds K fd ps ds:=by
 obtain⟨oc,od,kV,doc,pm,an,cdv,ct,osl,rfl,lk,hcd⟩:=F.ex;intro s us hK hl;obtain⟨k,h1,h2⟩:=h kV doc pm an cdv ct us hl;exact BindsTo.of_defaults rfl (hK T o hT) hs h1 h2
def Zr{st T f oc od an osl kV doc pm cdv ct}(l:K.lookup f=some ⟨oc,od,.func (Bj x qual (vL st) (uq st) (uK st) (.ref T) kV doc pm an cdv ct),osl⟩)
  (c:CY K cdv qual=true) (k:BZ K (.ref f)=true):ABF K x qual st T f (Bj x qual (vL st) (uq st) (uK st) (.ref T) kV doc pm an cdv ct):=⟨⟨oc,od,kV,doc,pm,an,cdv,ct,osl,rfl,l,c⟩,k⟩
end
end L2
namespace D
open PySem L2
structure FDd(P:Ah)(wd:A5)(K:Fg)(mg:Str->Option AK)(base:Heap)(k:Nat)(x:Str)(ip:Option Nat)(n:Nat)(F:DF)(dvs:List V):Prop where
 ex:∃ (f:Addr) (fd:C6) (ps:List Str) (ds:List AK),wM P wd K mg base yd k f fd ps (y8 K ip n F)/\mg x=some (.ref f)/\BZ K (.ref f)=true/\Binds K fd ps ds/\uU dvs ds
 len:∀ gs r,F gs=some r->gs.length=n
section
variable {ι:Type}{P:Ah}{wd:A5}{base:Heap}{K:Fg}{mg:Str->Option AK}{k k' n:Nat}{X:ι->Cx}{ip:Option Nat}{e:Expr}{es:List Expr}{pos p:Pos}{da:DA}{F:DF}{x:Str}{dvs:List V}
def i9(M:Fm K mg k X)(B:Fb P wd base X)(D0:FDd P wd K mg base k' x ip n F dvs)(ha:AX K X (e::es) da)(hk:k'<=k:=by first | exact AL _ | decide | lia)(hg:∀ j,Gl (X j) x:=by intro _;rfl)(hdb:(x == ("__debug__":Str))=false:=by decide)
  (he:∀ j,AQ (e::es) (X j).env=(false,eval e (X j).env)::AQ es (X j).env:=by intro _;rfl) (hpl:∀ j,(Bx pos (AQ es (X j).env)).any (·.1)=false:=by intro _;rfl) :
  EX K X (.Call (.Name x p) (e::es) [] pos) (uL ip F dvs da):=by
 obtain⟨f,fd,ps,ds,h1,h2,h3,h4,h5⟩:=D0.ex;obtain⟨t,q,u⟩:=ha;refine⟨AAR (y8 K ip n F) dvs E0 t,λj=>?_,Qs D0.len u⟩;have hF:wM (X j).prog (X j).w (X j).K (X j).mg (X j).base yd k' f fd ps (y8 K ip n F):=by rw[B.P,B.w,M.K,M.mg,B.b];exact h1
 exact VL hF ((M.room j).mono hk) (hg j) (by rw[M.mg];exact h2) (by rw[M.K];exact h3) (by rw[M.K];exact h4) h5 zy (q j) hdb (he j) (hpl j)
end
section
variable {P:Ah}{wd:A5}{base:Heap}{K:Fg}{mg:Str->Option AK}{k:Nat}
def mr{st T f fd N ps ip g dvs ds}(F:ABF K x x st T f fd)(S:uN N ps (uK st))(hm:mg x=some (.ref f))(hb:Binds K fd ps [])(hb2:Binds K fd ps ds)(hv:uU dvs ds)
  (body:∀ cdv A outer s H E,Fm K mg k (cx1 P wd K mg base N x (uK st) f cdv A outer s H E)->Fb P wd base (cx1 P wd K mg base N x (uK st) f cdv A outer s H E)->BX K (cx1 P wd K mg base N x (uK st) f cdv A outer s H E) ip (uq st) g) :
  FD P wd K mg base (k+1) x ip ps.length (ua ip ps.length N.length g)/\FDd P wd K mg base (k+1) x ip ps.length (ua ip ps.length N.length g) dvs:=by
 have ok:wM P wd K mg base yd (k+1) f fd ps (y8 K ip ps.length (ua ip ps.length N.length g)):=by
  refine F.ok S (λvs H Q E h=>h.1) λcdv A outer s H vs Q E hr h=>?_
  obtain⟨t,p,u⟩:=body cdv A outer s H E ⟨λ_=>rfl,λ_=>rfl,λ_=>rfl,λ_=>hr⟩ ⟨λ_=>rfl,λ_=>rfl,λ_=>rfl⟩;exact⟨t,p (),Og u h⟩
 exact⟨⟨⟨f,fd,ps,ok,hm,F.kp,hb⟩,O9⟩,⟨⟨f,fd,ps,ds,ok,hm,F.kp,hb2,hv⟩,O9⟩⟩
end
end D
namespace D
open PySem L2
variable {K:Fg}
end D
namespace D
open PySem L2
open PySem.SeqAt
end D
namespace D
open PySem L2
section
variable {K:Fg}
def lU(R1:ui K C w Γ1 σ H1)(o1:wB K C w σ H1 vs ss)(e2:vt none Γ1 0 ss=some gs) :
  ui K ⟨H1,[],[]⟩ ⟨[],λq=>∃ o,H1 q=some o⟩ (gs.map some) (vs.map some) H1:=by
 have hl:=o1.len;have hgl:=PJ e2;refine⟨by simp[hl,hgl],λj g h=>?_,λi j p ga gb ma mb h1 h2 h3 h4=>?_,λp hp=>(nomatch hp),λp hp=>(nomatch hp),λp hp=>hp,λp hp=>nofun,λb o h _=>h,R1.tab,λq hq=>(nomatch hq)⟩
 ·rw[Ag]at h;obtain⟨g',h',h⟩:=map_some h;cases h;obtain⟨s,a1,a2⟩:=Mt e2 h';obtain⟨v,b1,b2⟩:=o1.get a1;refine⟨v,by rw[Ag,b1];rfl,?_⟩;cases s with
  | v t=>cases a2;exact b2
  | l xs | d xs =>
   simp only[vx,reduceCtorEq,if_false,A7]at a2;subst a2;obtain⟨p,us,rfl,n1,n2,ow,h1,h2⟩:=b2;exact⟨p,us,rfl,h2,h1,nofun,⟨_,h1⟩⟩
  | s i =>
   have b2':σ[i]?=some (some v):=b2;unfold vx at a2;dsimp only at a2;split at a2
   ·rename_i xs hx;simp only[reduceCtorEq,if_false,A7]at a2;subst a2;obtain⟨v',c1,p,us,rfl,c2,c3,c4⟩:=R1.val i _ hx;rw[b2']at c1;cases c1;exact⟨p,us,rfl,c4,c3,nofun,⟨_,c3⟩⟩
   ·rename_i xs hx;simp only[reduceCtorEq,if_false,A7]at a2;subst a2;obtain⟨v',c1,p,us,rfl,c2,c3⟩:=R1.val i _ hx;rw[b2']at c1;cases c1;exact⟨p,us,rfl,c2,c3.1,nofun,R1.ra p c3.2.2⟩
   ·rename_i xs hx;simp only[reduceCtorEq,if_false,A7]at a2;subst a2;obtain⟨v',c1,c2⟩:=R1.val i _ hx;rw[b2']at c1;cases c1;exact c2
   ·rename_i xs hx;simp only[reduceCtorEq,if_false,A7]at a2;subst a2;obtain⟨v',c1,p,us,rfl,c2,c3,c4⟩:=R1.val i _ hx;rw[b2']at c1;cases c1;exact⟨p,us,rfl,c4,c3,nofun,⟨_,c3⟩⟩
   ·rename_i xs hx;simp only[reduceCtorEq,if_false,A7]at a2;subst a2;obtain⟨v',c1,p,us,rfl,c2,c3⟩:=R1.val i _ hx;rw[b2']at c1;cases c1;exact⟨p,us,rfl,c2,c3.1,nofun,R1.ra p c3.2.2⟩
   ·cases a2
 ·rw[Ag]at h1;obtain⟨g',h',h⟩:=map_some h1;cases h;obtain⟨s,a1,a2⟩:=Mt e2 h';cases s with
  | v t=>cases a2;cases ma
  | l xs | d xs=>simp[vx]at a2;subst a2;cases ma
  | s i =>
   unfold vx at a2;dsimp only at a2;split at a2 <;> simp at a2 <;> (subst a2;cases ma)
end
abbrev EE:=AK->Ab->Prop
end D
namespace D
open PySem L2
@[simp low] theorem sD{α:Type}{x y:α}:ifB b (x:=⟨x⟩) (y:=⟨y⟩)=if b=true then x else y:=rfl
end D
namespace L2
open PySem PySem.Spec PyProof.Rows
def yB (H:Hp) (c:Addr):Hp:=λb=>if b=c then none else H b
section
variable {P:Ah}{w:A5}{H:Hp}{h:Heap}{b c:Addr}{φ:Heap->Prop}
def N5:yB H c c=none:=if_pos rfl
def Lx(h:b≠c):yB H c b=H b:=if_neg h
def Zq(h:yB H c b=some o):b≠c/\H b=some o:=by
 by_cases e:b=c
 ·subst e;rw[N5]at h;cases h
 ·rw[Lx e]at h;exact⟨e,h⟩
def Nc(h:H b=none):yB H c b=none:=by
 by_cases e:b=c
 ·subst e;exact N5
 ·rw[Lx e];exact h
def wg.rm(x:wg P w H h)(hc:H c=some (.ext φ)):wg P w (yB H c) h:=λb o e=>by
 obtain⟨hb,e⟩:=Zq e;exact (x b o e).stay (λ_ _ _ q=>q) (λd q=>by rw[Lx (λz=>by rw[z,hc]at q;cases q)];exact q) (λd xs q=>by rw[Lx (λz=>by rw[z,hc]at q;cases xs <;> cases q)];exact q)
def wg.re(x:wg P w H h)(hc:H c=none)(new:uy P w (upd H c o') h c o'):wg P w (upd H c o') h:=λb o e=>by
 by_cases hb:b=c
 ·subst hb;rw[Lq]at e;cases e;exact new
 ·rw[Ll hb]at e;exact (x b o e).stay (λ_ _ _ q=>q) (λd q=>by rw[Ll (Lp q hc)];exact q) (λd xs q=>by rw[Ll (Lp q hc)];exact q)
end
end L2
namespace D
open PySem PySem.Spec PyProof.Rows L2
def Se(x:wK c v o h):uy P w H h c (.ext (wK c v o)):=by
 refine⟨x,⟨o,x.1⟩,λh1 h2 y k=>⟨k o y.1,y.2⟩⟩
def YX(x:xr L f c c' h):uy P w H h f (.ext (xr L f c c')):=by
 refine⟨x,?_,λh1 h2 y k=>?_⟩
 ·obtain⟨pm,ct,e⟩:=x;exact⟨_,e⟩
 ·obtain⟨pm,ct,e⟩:=y;exact⟨pm,ct,k _ e⟩
structure yq(L:zj)(p1 p2:Str):Prop where
 kind:L.scope.kind=.function
 co:L.scope.isCoroutine=false
 gen:L.scope.isGenerator=false
 nocell:∀ y∈L.scope.names,y.2≠.cell
 l1:L.scope.names.lookup p1=some .local
 l2:L.scope.names.lookup p2=some .local
 fr:L.scope.names.lookup L.x=some .free
 only:∀ y,L.scope.names.lookup y=some .free->y=L.x
 n12:p1≠p2
 bind:∀ (cl:List (Str×Addr)) (pm cd ct a b:AK),Fl (PySem.W.kla_fn "<lambda>" L.qual L.params L.body L.scope cl pm cd ct) ⟨[a,b],[]⟩=pure [(p1,a),(p2,b)]
noncomputable def yN (P:Ah) (w:A5) (K:Fg) (mg:Str->Option AK) (base:Heap) (L:zj) (p1 p2:Str) (f:Addr) (cd:AK) (c:Addr) (A:BY) (outer:List Env) (s:Ab) (H:Hp):Cx where
 prog:=P
 w:=w
 K:=K
 mg:=mg
 base:=base
 A:=A.deeper (Dx L.qual L.scope s.heap.objs.size f cd [(L.x,c)])
 N:=[p1,p2,L.x]
 s₀:=s
 H₀:=H
 env:=Dx L.qual L.scope s.heap.objs.size f cd [(L.x,c)]
 outer:=outer
 stack:=Dx L.qual L.scope s.heap.objs.size f cd [(L.x,c)]::outer
 ex:=[]
 calm:=true
 fn:=λ_=>false
 pn:=[]
 xe:=λ_ _=>False
section
variable {P:Ah}{w:A5}{K:Fg}{mg:Str->Option AK}{base:Heap}{k:Nat}{L:zj}{p1 p2:Str}{f c c':Addr}
def AAT(h:([(x,c)]:List (Str×Addr)).lookup y=some d):y=x/\d=c:=by
 rw[Bb]at h;by_cases e:y=x
 ·subst e;simp at h;exact⟨rfl,h.symm⟩
 ·have:(y == x)=false:=by simpa using e
  rw[this]at h;cases h
def Xe(S:yq L p1 p2)(hr:vn (k+1) A)(e0:ABv P w K mg base A outer s H)
  (hf:H f=some (.ext (xr L f c c'))) (hc:H c=some (.ext (wK c va oc))) (hd:H c'=some (.cod L.qual)) (r1:RelV a1 u1) (r2:RelV a2 u2)
  (hbody:vn k (A.deeper (Dx L.qual L.scope s.heap.objs.size f (.ref c') [(L.x,c)]))->∃ t,PE (yN P w K mg base L p1 p2 f (.ref c') c A outer s (yB H c)) L.body t/\t [some a1,some a2,some va] (yB H c) λv H'=>Q v (upd H' c (.ext (wK c va oc)))) :
  DM (model P w) A (.call (.ref f) ⟨[u1,u2],[]⟩) (CR yd outer P w H s Q E) s:=by
 obtain⟨⟨pm,ct,ho⟩,_,_⟩:=(show uy P w H s.heap f (.ext (xr L f c c')) from e0.hok f _ hf)
 obtain⟨⟨ec,uc,rc,dc⟩,_,_⟩:=(show uy P w H s.heap c (.ext (wK c va oc)) from e0.hok c _ hc)
 obtain⟨od,vs,td,ed,dd,qd⟩:=(show uy P w H s.heap c' (.cod L.qual) from e0.hok c' _ hd)
 have lim:s.heap.NoLimit:=e0.mod.nolimit.keeps λb o e=>(e0.bs b o e).1
 refine PySem.W.kla_callFunE hr.depth ho rfl S.co S.gen rfl ⟨c',od,vs,td,rfl,ed,dd,qd⟩ ?_;rw[S.bind];refine AF (wpAny_newFunctionEnv S.nocell (λy hy=>?_) (λh1 hns hsb=>⟨lim.fresh _ hsb,?_⟩) S.kind)
 ·rcases AR.mp hy with z | z
  ·rw[z];exact S.l1
  ·rw[AI.mp z];exact S.l2
 show DM _ _ (.expr L.body (Dx L.qual L.scope s.heap.objs.size f (.ref c') [(L.x,c)])) _ _;have hk:∀ b o,s.heap.get? b=some o->h1.get? b=some o:=λb o e=>hsb.extBut b o (AZ (AJ e)) (AC _ e)
 have hcb:c < s.heap.objs.size:=AJ ec;obtain⟨t,ht,hq⟩:=hbody (hr.deeper _);have hok1:=e0.hok.rm hc;have I:Inv (yN P w K mg base L p1 p2 f (.ref c') c A outer s (yB H c)) [] [some a1,some a2,some va] (yB H c) { s with heap:=h1,toks:=s.toks+[(p1,u1),(p2,u2)].length }:=by
  refine⟨⟨e0.mod,S.kind,rfl,rfl,AL _,λy z d q1 q2=>?_,λy hy=>?_,(λ_ _ z=>nomatch z),λ_=>hr.hd,HU e0.frames,.inr ⟨rfl,rfl⟩,(λb z=>nomatch z),λb o e=>⟨(e0.bs b o e).1,Nc (e0.bs b o e).2⟩,e0.bsz,(λb _ _ z=>nomatch z),(λb z=>nomatch z),e0.funs,λb hb=>Nc (e0.frf b hb)⟩,
   rfl,e0.bare,Un.kept hk,⟨_,hns,λi y v q1 q2 q3=>?_⟩,λy d q=>?_,Nc (e0.hok.fresh (AL _)),λy d q=>?_,(λp hp=>nomatch hp),hok1.kept hk,rfl⟩
  ·rw[(AAT q1).1,(AAT q2).1]
  ·have hy:L.scope.names.lookup y=some .cell\/L.scope.names.lookup y=some .free:=hy;rcases hy with z | z
   ·exact absurd rfl (S.nocell _ (BL z))
   ·rw[S.only y z];exact⟨c,by show ([(L.x,c)]:List (Str×Addr)).lookup L.x=_;simp⟩
  ·match i,q1,q2 with
   | 0,q1,q2 =>
    cases q1;cases q2;refine⟨u1,r1,.inl ⟨S.l1,?_⟩⟩;show ([(p1,u1),(p2,u2)]:List (Str×AK)).reverse.lookup p1=_;have:(p1 == p2)=false:=by simpa using S.n12
    simp[Bb,this]
   | 1,q1,q2 =>
    cases q1;cases q2;refine⟨u2,r2,.inl ⟨S.l2,?_⟩⟩;show ([(p1,u1),(p2,u2)]:List (Str×AK)).reverse.lookup p2=_;simp[Bb]
   | 2,q1,q2 =>
    cases q1;cases q2;exact⟨uc,rc,.inr ⟨.inr S.fr,c,by show ([(L.x,c)]:List (Str×Addr)).lookup L.x=_;simp,oc,hk _ _ ec,dc⟩⟩
   | i+3,q1,q2=>cases q1
  ·rw[(AAT q).2];exact⟨_,oc,hk _ _ ec,dc⟩
  ·rw[(AAT q).2];exact N5
 refine PySem.W.kla_codeExpr (Bd (ht [] _ _ _ _ I hq) (λu s' hs=>?_) λ_ _ z=>z.elim);obtain⟨v,H',J,rv,q⟩:=hs;have hcn:H' c=none:=J.freeC L.x c (by show ([(L.x,c)]:List (Str×Addr)).lookup L.x=_;simp);have un:=J.base;have cfs:c∉frs outer:=λz=>by have:=e0.frf c z;rw[hc]at this;cases this
 have ec':s'.heap.get? c=some oc:=un.keep c oc ec N5 cfs (by simp[yN]);have nof:(yN P w K mg base L p1 p2 f (.ref c') c A outer s (yB H c)).ex=[]:=rfl;refine⟨v,_,J.os,J.bare,?_,J.hok.re hcn (Se ⟨ec',uc,rc,dc⟩),rv,q⟩;exact {
  keep:=λb o e n hb hx=>un.keep b o e (Nc n) hb hx
  slot:=λb o e n hb hx=>un.slot b o e (Nc n) hb hx
  free:=λb o e n hx=>by
   have hbc:b≠c:=λz=>by rw[z,hc]at n;cases n
   rw[Ll hbc];exact un.free b o e (Nc n) hx
  there:=λb o e hx=>un.there b o e hx
  tups:=λb xs e=>by
   have hbc:b≠c:=λz=>by rw[z,hc]at e;cases e
   rw[Ll hbc];exact un.tups b xs ((Lx hbc).trans e)
  frzs:=λb o u e=>by
   have hbc:b≠c:=λz=>by rw[z,hc]at e;cases e
   rw[Ll hbc];exact un.frzs b o u ((Lx hbc).trans e)
  tbls:=λb ps e=>by
   have hbc:b≠c:=λz=>by rw[z,hc]at e;cases e
   rw[Ll hbc];exact un.tbls b ps ((Lx hbc).trans e) }
end
theorem mf(l:List AK)(h:Dz l):Dz (l++[.int a t,.int b u,c]):=by
 fun_induction Dz l with
 | case1=>simp[Dz]
 | case2 _ _ _ _ _ r ih=>simp only[GH,Dz];exact ih h
 | case3=>exact h.elim
theorem kH(l:List AK)(h:Dz l)(e:E8 pos (l++[.int a t,.int b u,c])=some cv):E8 pos l=some cv\/cv=c:=by
 fun_induction Dz l with
 | case1 =>
  simp only[GS,E8]at e;split at e
  ·cases e;exact .inr rfl
  ·cases e
 | case2 _ _ _ _ _ r ih =>
  simp only[GH,E8]at e ⊢;split at e
  ·rename_i z;rw[if_pos z];exact .inl e
  ·rename_i z;rw[if_neg z];exact ih h e
 | case3=>exact h.elim
section
variable {X:Cx}{L:zj}{pos:Pos}{c0 P0:Addr}
def Wo{pins:List (Addr×Obj)}{σ:L2.St}{H:Hp}{s:Ab}{h':Heap}{P c' c:Addr}{q:Str}{tk:Tok}{pm ct:AK}(I:Inv X pins σ H s)(hP:H P=some (.tbq q))(hq:q=L.qual)(hx:∀ b o,b≠P->s.heap.get? b=some o->h'.get? b=some o)(hs:s.heap.objs.size<=h'.objs.size)
  (hc:(H c'=some (.cod q))\/(s.heap.objs.size<=c'/\c' < h'.objs.size/\h'.CodeRec (.ref c') q)) (hp:∃ ps:Array AK,h'.get? P=some { cls:=.none,data:=.fields ps }/\Dz ps.toList/\∀ pos cv,E8 pos ps.toList=some cv->∃ d,cv=.ref d/\(d=c'\/H d=some (.cod q))) :
  ∃ H1,Inv X pins σ H1 { s with heap:=h'.push (F4 "<lambda>" L.qual L.params L.body L.scope [(L.x,c)] pm c' ct),toks:=tk }/\(∀ b o,H b=some o->H1 b=some o)/\H1 h'.objs.size=some (.ext (xr L h'.objs.size c c'))/\H1 c'=some (.cod q):=by
 subst hq;have hn:∀ {b},s.heap.objs.size<=b->H b=none:=λhb=>I.hok.fresh hb
 have hfn:H h'.objs.size=none:=hn hs;have hcf:c'≠h'.objs.size:=by
  rcases hc with z | ⟨_,z,_⟩
  ·exact λe=>by rw[e,hfn]at z;cases z
  ·exact AZ z
 let H1:Hp:=upd (upd H c' (.cod L.qual)) h'.objs.size (.ext (xr L h'.objs.size c c'));have e1:H1 h'.objs.size=some (.ext (xr L h'.objs.size c c')):=Lq;have e2:H1 c'=some (.cod L.qual):=by show upd _ _ _ _=_;rw[Ll hcf];exact Lq
 have old:∀ b o,H b=some o->H1 b=some o:=λb o e=>by
  show upd _ _ _ _=_;rw[Ll (Lp e hfn)];by_cases hb:b=c'
  ·subst hb;rcases hc with z | ⟨z,_,_⟩
   ·rw[z]at e;cases e;exact Lq
   ·rw[hn z]at e;cases e
  ·rw[Ll hb];exact e
 have get:∀ b o,b≠P->s.heap.get? b=some o->(h'.push (F4 "<lambda>" L.qual L.params L.body L.scope [(L.x,c)] pm c' ct)).get? b=some o:=λb o n e=>AC _ (hx b o n e)
 have nP:∀ b,H b=none->b≠P:=λb n z=>by rw[z,hP]at n;cases n
 obtain⟨ps,hp1,hp2,hp3⟩:=hp;refine⟨H1,I.un ?_ ?_,old,e1,e2⟩
 ·exact {
   keep:=λb o e n _ _=>get b o (nP b n) e
   slot:=λb o e n _ _=>⟨o.slots,get b o (nP b n) e⟩
   free:=λb o e n _=>by
    have hb:=AJ e;show upd _ _ _ _=_;have h1:b≠h'.objs.size:=AZ (AM hb hs);have h2:b≠c':=λz=>by
     rcases hc with y | ⟨y,_,_⟩
     ·rw[← z,n]at y;cases y
     ·rw[← z]at y;exact absurd hb (Fq.mpr y)
    rw[Ll h1,Ll h2];exact n
   there:=λb o e _=>by
    by_cases hb:b=P
    ·subst hb;exact⟨_,AC _ hp1⟩
    ·exact⟨o,get b o hb e⟩
   tups:=λb xs e=>old b _ e
   frzs:=λb o u e=>old b _ e
   tbls:=λb ps e=>⟨#[],by rw[old b _ e];simp⟩ }
 ·intro b o e;by_cases hb:b=h'.objs.size
  ·subst hb;rw[e1]at e;cases e;exact YX ⟨pm,ct,AN _ rfl⟩
  ·by_cases hb2:b=c'
   ·subst hb2;rw[e2]at e;cases e;rcases hc with z | ⟨z,z2,z3⟩
    ·obtain⟨o,vs,t,q1,q2⟩:=(show uy X.prog X.w H s.heap b (.cod L.qual) from I.hok b _ z)
     exact⟨o,vs,t,get b o (λy=>by rw[y,hP]at z;cases z) q1,q2⟩
    ·obtain⟨_,o,vs,t,q0,q1,q2,q3⟩:=z3;cases q0;exact⟨o,vs,t,AC _ q1,q2,q3⟩
   ·have e':H b=some o:=by
     have e:upd _ _ _ _=_:=e;rw[Ll hb,Ll hb2]at e;exact e
    by_cases hb3:b=P
    ·subst hb3;rw[hP]at e';cases e';refine⟨ps,AC _ hp1,hp2,λpos cv z=>?_⟩;obtain⟨d,hd,z⟩:=hp3 pos cv z;refine⟨d,hd,?_⟩;rcases z with z | z
     ·rw[z];exact e2
     ·exact old _ _ z
    ·exact (I.hok b o e').stay (λd u z q=>get d u (λy=>by
      rcases z with z | z
      ·exact hb3 (z ▸ y)
      ·rw[y,hP]at z;cases z) q) (λd q=>old _ _ q) (λd xs q=>old _ _ q)
theorem Xs(hcode:X.env.code=.ref c0)(hH:Ca X.K c0 P0=true)(hg:X.env.globals=Ao)
  (hcl:∀ c,X.env.cells.lookup L.x=some c->FQ L.scope X.env=pure [(L.x,c)]) (hq:X.env.qual++"<lambda>"=L.qual) (hdef:Ja L.params X.env=([],[])) :
  PE X (.Lambda L.params L.body L.scope pos) (λσ H Q=>∃ c,X.env.cells.lookup L.x=some c/\H P0=some (.tbq L.qual)/\∀ f c' H1,(∀ b o,H b=some o->H1 b=some o)->H1 f=some (.ext (xr L f c c'))->H1 c'=some (.cod L.qual)->Q (.ref f) H1):=by
 intro pins s σ H Q I h;obtain⟨c,hc,hP,h⟩:=h;refine PySem.W.kla_eval hdef ?_;rw[hq];have hm:=I.mod;have hns:s.heap.Ns Ao X.mg:=hm.glob.keeps I.bk;have C:=HY I.kIn hH;obtain⟨ps,g1,g2,g3⟩:=(show uy X.prog X.w H s.heap P0 (.tbq L.qual) from I.hok P0 _ hP)
 have hnb:∀ b o,X.base.get? b=some o->b≠P0:=λb o e z=>by
  have:=(I.bs b o e).2;rw[z,hP]at this;cases this
 have hgP:Ao≠P0:=by
  obtain⟨o,es,ep,e,_⟩:=hm.glob;exact hnb _ _ e
 obtain⟨bm,ob,b1,b2,b3,b4,b5,b6⟩:=hm.bmod;have hbG:bm≠Ao:=λz=>by
  obtain⟨o,es,ep,e,hd,_⟩:=hm.glob;rw[← z,b3]at e;cases e;rw[b6]at hd;cases hd
 have hb:s.heap.BuiltinsAt X.mg P0:=⟨bm,ob,b1,b2,hbG,hnb _ _ b3,I.bk _ _ b3,b4,b5,b6⟩
 cases hca:E8 pos ps.toList with
 | none =>
  refine PySem.W.kla_makeFunction (hcl c hc) hg hns hcode C g1 g2 hca hgP hb λc' ctv h' tk hx hge hlt hrec htb=>?_
  obtain⟨H1,J,k1,k2,k3⟩:=Wo (L:=L) (c:=c) (pm:=(X.mg "__name__").getD .none) (ct:=ctv) (tk:=tk) I hP rfl (λb o n e=>hx b o n e) ⋯ (.inr ⟨hge,hlt,hrec⟩) ⟨_,htb,by
   rw[Ho];exact mf _ g2,λpos cv z=>by
   rw[Ho]at z;rcases kH _ g2 z with z | z
   ·obtain⟨d,z1,z2⟩:=g3 pos cv z;exact⟨d,z1,.inr z2⟩
   ·exact⟨c',z,.inl rfl⟩⟩
  exact⟨.ref h'.objs.size,H1,J,rfl,h _ _ _ k1 k2 k3⟩
 | some cv =>
  obtain⟨c',rfl,hc'⟩:=g3 pos cv hca;refine PySem.W.kla_makeFunctionHit (hcl c hc) hg hns hcode C g1 g2 hca hb λctv h' tk hk hsz=>?_
  obtain⟨H1,J,k1,k2,k3⟩:=Wo (L:=L) (c:=c) (pm:=(X.mg "__name__").getD .none) (ct:=ctv) (tk:=tk) I hP rfl (λb o _ e=>hk b o e) hsz (.inl hc') ⟨ps,hk _ _ g1,g2,λpos cv z=>by
   obtain⟨d,z1,z2⟩:=g3 pos cv z;exact⟨d,z1,.inr z2⟩⟩
  exact⟨.ref h'.objs.size,H1,J,rfl,h _ _ _ k1 k2 k3⟩
end
mutual
noncomputable def T.pl:T->Bool
 | .a _=>true
 | .t ts=>T.pls ts
 | .l ts=>T.pls ts
 | .f _=>true
 | .x _ _=>false
 | .m _ _=>false
noncomputable def T.pls:List T->Bool
 | []=>true
 | y::r=>T.pl y && T.pls r
end
def ACB:T.pl (.a v)=true:=by unfold T.pl;rfl
def AEB:T.pl (.t ts)=T.pls ts:=by rw[T.pl]
def PM:T.pls []=true:=by unfold T.pls;rfl
def OF:T.pls (t::ts)=(t.pl && T.pls ts):=by rw[T.pls]
theorem QO:∀ {ts},(∀ t∈ts,t.pl=true)->T.pls ts=true
 | [],_=>PM
 | _::_,h=>by rw[OF,h _ AG,QO λt ht=>h t (AH _ ht)];rfl
noncomputable def G.pl:G->Bool
 | .v t=>t.pl
 | .r ts=>T.pls ts
 | .k ts=>T.pls ts
 | _=>false
section
variable {K:Fg}{H:Hp}{c:Addr}{φ:Heap->Prop}
def Tp.rm(hc:H c=some (.ext φ))(h:Tp K H p vs):Tp K (yB H c) p vs:=by
 rcases h with h | h
 ·exact .inl ((Lx λz=>by rw[z,hc]at h;cases h).trans h)
 ·exact .inr h
def KF.rm(hc:H c=some (.ext φ))(h:KF K H p vs):KF K (yB H c) p vs:=by
 rcases h with ⟨o,h⟩ | h
 ·exact .inl ⟨o,(Lx λz=>by rw[z,hc]at h;cases h).trans h⟩
 ·exact .inr h
mutual
theorem Im.rm(hc:H c=some (.ext φ)):∀ {v t},t.pl=true->Im K H v t->Im K (yB H c) v t
 | _,.a _,_,h=>h
 | _,.t _,q,h | _,.l _,q,h=>by
  obtain⟨p,vs,rfl,hs,hi⟩:=h;exact⟨p,vs,rfl,hs.rm hc,uh.rm hc q hi⟩
 | _,.f _,_,h=>by unfold Im at h ⊢;exact h
 | _,.x _ _,q,_ | _,.m _ _,q,_=>by unfold T.pl at q;cases q
theorem uh.rm(hc:H c=some (.ext φ)):∀ {vs:List V} {ts:List T},T.pls ts=true->uh K H vs ts->uh K (yB H c) vs ts
 | _,[],_,h=>h
 | _,_::_,q,h=>by
  rw[OF,BE]at q;obtain⟨v,r,rfl,h1,h2⟩:=h;exact⟨v,r,rfl,Im.rm hc q.1 h1,uh.rm hc q.2 h2⟩
end
def xI.rm(hc:H c=some (.ext φ))(h:xI K H):xI K (yB H c):=λa P z=>(Lx λe=>by have:=h a P z;rw[e,hc]at this;cases this).trans (h a P z)
theorem GOk.rm(hc:H c=some (.ext φ))(q:g.pl=true)(h:GOk K w H v g):GOk K ⟨[],λb=>∃ o,yB H c b=some o⟩ (yB H c) v g:=by
 cases g with
 | v t=>exact Im.rm hc q h
 | r ts =>
  obtain⟨p,vs,rfl,hi,h1,_⟩:=h;have e:=(Lx λz=>by rw[z,hc]at h1;cases h1).trans h1;exact⟨p,vs,rfl,uh.rm hc q hi,e,nofun,⟨_,e⟩⟩
 | k ts =>
  obtain⟨p,vs,rfl,hi,h1⟩:=h;exact⟨p,vs,rfl,uh.rm hc q hi,h1.rm hc⟩
 | l _ | d _ | e _=>cases q
def lN(h:g.pl=true):v9 g=false:=by cases g <;> first | rfl | cases h
def oO(hc:H c=some (.ext φ))(R1:ui K C w Γ1 σ H)(o1:wB K C w σ H [a1,a2] ss)(e2:vt none Γ1 0 ss=some [g1,g2])(q1:g1.pl=true)(q2:g2.pl=true)(q3:ta.pl=true)(ha:Im K H va ta) :
  ui K ⟨yB H c,[],[]⟩ ⟨[],λb=>∃ o,yB H c b=some o⟩ [some g1,some g2,some (.v ta)] [some a1,some a2,some va] (yB H c):=by
 have R:=lU R1 o1 e2;have get:∀ (i:Nat) g,[some g1,some g2,some (.v ta)][i]?=some (some g)->g.pl=true/\∃ v,[some a1,some a2,some va][i]?=some (some v)/\GOk K ⟨[],λb=>∃ o,yB H c b=some o⟩ (yB H c) v g:=λi g h=>by
  match i,h with
  | 0,h=>cases h;obtain⟨v,e,z⟩:=R.val 0 g1 rfl;cases e;exact⟨q1,_,rfl,z.rm hc q1⟩
  | 1,h=>cases h;obtain⟨v,e,z⟩:=R.val 1 g2 rfl;cases e;exact⟨q2,_,rfl,z.rm hc q2⟩
  | 2,h=>cases h;exact⟨q3,_,rfl,Im.rm hc q3 ha⟩
  | i+3,h=>cases h
 refine⟨rfl,λi g h=>(get i g h).2,λi j p g g' m _ h _ _ _=>?_,λp hp=>(nomatch hp),λp hp=>(nomatch hp),λp hp=>hp,λp hp=>nofun,λb o h _=>h,R1.tab.rm hc,λq hq=>(nomatch hq)⟩;rw[lN (get i g h).1]at m;cases m
end
noncomputable def ABc (dlx:DE) (ta:T) (gs:List G):Option V:=match gs with
 | [g1,g2]=>if g1.pl && g2.pl && ta.pl then match dlx [some g1,some g2,some (.v ta)] with
  | some (.v (.a u),_)=>some u
  | _=>none
  else none
 | _=>none
def LD (P:Ah) (wd:A5) (K:Fg) (mg:Str->Option AK) (base:Heap) (k:Nat) (L:zj) (dlx:DE):Prop:=∃ p1 p2,yq L p1 p2/\∀ f c cd A outer s H,
 vn k (A.deeper (Dx L.qual L.scope s.heap.objs.size f cd [(L.x,c)]))->∃ t,PE (yN P wd K mg base L p1 p2 f cd c A outer s H) L.body t/\uj K t dlx
end D
namespace L2
open PySem PySem.Spec PyProof.Rows D
section
variable {X:Cx}{x:Str}{p pos:Pos}{e:Expr}{es:List Expr}{t:TA}{k:Nat}
def AAu (K:Fg) (i:Nat) (L:zj) (dlx:DE) (t:TA):TE:=λσ H Q=>∃ f c c' va oc,σ[i]?=some (some (.ref f))/\H f=some (.ext (xr L f c c'))/\t σ H λvs H1=>∃ a1 a2,vs=[a1,a2] /\
 H1 f=some (.ext (xr L f c c'))/\H1 c=some (.ext (wK c va oc))/\H1 c'=some (.cod L.qual)/\∀ t':TE,uj K t' dlx->t' [some a1,some a2,some va] (yB H1 c) λv H'=>Q v (upd H' c (.ext (wK c va oc)))
def Tj(x:wg P w H h)(e:H f=some (.ext (xr L f c c'))):PySem.W.FnAt f h:=by
 obtain⟨⟨pm,ct,ho⟩,_,_⟩:=(x f _ e)
 exact⟨_,_,_,_,ho⟩
theorem YH{L dlx}(D0:LD X.prog X.w X.K X.mg X.base k L dlx)
  (hr:vn (k+1) X.A) (hN:X.N[i]?=some x) (hv:Vis X.env.scope x) (ha:PA X (e::es) t) (hd:(x == ("__debug__":Str))=false:=by decide) (hcd:(x == ("__classdict__":Str))=false:=by decide)
  (he:AQ (e::es) X.env=(false,eval e X.env)::AQ es X.env:=by rfl) (hpl:(Bx pos (AQ es X.env)).any (·.1)=false:=by rfl) :
  PE X (.Call (.Name x p) (e::es) [] pos) (AAu X.K i L dlx t):=by
 intro pins s σ H Q I h;obtain⟨f,c,c',va,oc,e1,e2,h⟩:=h;obtain⟨p1,p2,S,B⟩:=D0;refine Cw (vB (OG hN hv hd hcd pins s σ H (λv H'=>v=.ref f/\H'=H) I ⟨.ref f,e1,rfl,rfl⟩) λu s1 ⟨v,H1,I1,r1,q1⟩=>?_);obtain⟨rfl,rfl⟩:=q1;obtain rfl:u=BJ f:=r1;refine PySem.W.callWith_F (Tj I1.hok e2) (vB (ha pos pins s1 σ _ _ I1 h) λus s2 ⟨vs,H2,I2,r,q⟩=>?_) he hpl;obtain⟨a1,a2,rfl,f1,f2,f3,q⟩:=q;refine⟨Tj I2.hok f1,?_⟩;cases r with
 | cons r1 r =>
  cases r with
  | cons r2 r =>
   cases r;refine JR (ER (Xe (E:=E0) (Q:=Q) S hr I2.env0 f1 f2 f3 r1 r2 λhr'=>?_) λr s' hq=>?_)
   ·obtain⟨t',ht,hs⟩:=B f c (.ref c') X.A X.stack s2 (yB H2 c) hr';exact⟨t',ht,q t' hs⟩
   ·cases r with
    | error e=>exact zy pins σ H2 s2 e s' I2 hq
    | ok fl =>
     cases fl with
     | ret u=>exact I2.after hq
     | next | brk | cont=>exact CU hq
end
end L2
namespace D
open PySem L2
open Classical in
noncomputable def wV (i:Nat) (tb:Tb) (L:zj) (dlx:DE) (fa:DA):DE:=λΓ=>match Γ[i]? with
 | some (some (.v (.f n)))=>match tb.find? λq=>decide (q.1=n) with
  | some q=>uL none q.2.2 [] fa Γ
  | none=>none
 | some (some (.v (.m L' [ta])))=>if L'=L then (fa Γ).bind λp=>(vt none p.2 0 p.1).bind λgs=>(ABc dlx ta gs).map λu=>(.v (.a u),p.2) else none
 | _=>none
noncomputable def AAj (K:Fg) (i:Nat) (C:Addr->Sp->Prop) (L:zj) (dlx:DE) (t:TA):TE:=λσ H Q=>zV i C t σ H Q\/AAu K i L dlx t σ H Q
def Zt(h:ABc dlx ta gs=some u):∃ g1 g2 Γ',gs=[g1,g2]/\g1.pl=true/\g2.pl=true/\ta.pl=true/\dlx [some g1,some g2,~~~ta]=some (.v (.a u),Γ'):=by
 unfold ABc at h;split at h
 ·rename_i g1 g2;split at h
  ·rename_i hq;simp at hq;split at h
   ·rename_i z;cases h;exact⟨g1,g2,_,rfl,hq.1.1,hq.1.2,hq.2,z⟩
   ·cases h
  ·cases h
 ·cases h
def ax(hl:∀ q∈tb,∀ gs r,q.2.2 gs=some r->gs.length=q.2.1)(ha:wD K t fa):uj K (AAj K i (AAa K tb) L dlx t) (wV i tb L dlx fa):=by
 intro C w Γ σ H s Γ' Q R e k;unfold wV at e;split at e
 ·rename_i n hn;refine .inl (VN hl ha C w Γ σ H s Γ' Q R ?_ k);unfold v8;rw[hn];exact e
 ·rename_i L' ta hn;split at e
  ·rename_i hL;subst hL;obtain⟨⟨ss,Γ1⟩,e1,e⟩:=uJ e;obtain⟨gs,e2,e⟩:=uJ e;obtain⟨u,e3,e⟩:=map_some e;cases e;obtain⟨g1,g2,Γ2,rfl,q1,q2,q3,e4⟩:=Zt e3;obtain⟨v,s1,hv⟩:=R.val i _ hn;obtain⟨f,vs,rfl,hk,hi⟩:=hv.invm;obtain⟨c,c',va,oc,rfl,f1,f2,f3⟩:=id hk;obtain⟨_,_,hz,him,_⟩:=hi.inv;cases hz;refine .inr ⟨f,c,c',va,oc,s1,f1,ha C w Γ σ H ss Γ1 _ R e1 λvs H1 R1 ev o1 nw=>?_⟩;have hl2:=o1.len;have hl3:=PJ e2;obtain⟨a1,a2,rfl⟩:∃ a1 a2,vs=[a1,a2]:=by
    have:vs.length=2:=by simp at hl3;lia
    match vs,this with
    | [a,b],_=>exact⟨a,b,rfl⟩
   have n:∀ {b o},H b=some o->¬ Mu o->b∉w.L:=λ{b o} q m z=>by
    obtain⟨u,q',m'⟩:=R.lst b z;rw[q]at q';cases q';exact m m'
   have f2':=ev _ _ f2 (n f2 id);refine⟨a1,a2,rfl,(ev _ _ f1 (n f1 id)),f2',(ev _ _ f3 (n f3 id)),λt' hs=>hs _ _ _ _ _ _ _ _ (oO f2' R1 o1 e2 q1 q2 q3 (him.evo ev R.lst)) e4 λv H' R' ev' so _=>?_⟩;have hv':=so.inva;subst hv';have old:∀ b o,H1 b=some o->upd H' c (.ext (wK c va oc)) b=some o:=λb o h=>by
    by_cases hb:b=c
    ·subst hb;rw[f2']at h;cases h;exact Lq
    ·rw[Ll hb];exact ev' b o ((Lx hb).trans h) nofun
   exact k _ _ (R1.evo0 old) (ev.trans λb o h _=>old b o h) .atom trivial
  ·cases e
 ·cases e
section
variable {ι:Type}{P:Ah}{wd:A5}{base:Heap}{K:Fg}{mg:Str->Option AK}{k k' n:Nat}{X:ι->Cx}{e:Expr}{es:List Expr}{pos p:Pos}{da:DA}{x:Str}{tb:Tb}{Γ:En}{L:zj}{dlx:DE}
theorem LD.mono(D0:LD P wd K mg base k' L dlx)(h:k'<=k):LD P wd K mg base k L dlx:=by
 obtain⟨p1,p2,S,B⟩:=D0;exact⟨p1,p2,S,λf c cd A outer s H hr=>B f c cd A outer s H (hr.mono h)⟩
def YS(i:Nat)(M:Fm K mg k X)(B:Fb P wd base X)(T0:ACC P wd K mg base k' tb)(D0:LD P wd K mg base k' L dlx)(ha:AX K X (e::es) da)(hk:k'+1<=k:=by first | exact AL _ | decide | lia)
  (hN:∀ j,(X j).N[i]?=some x:=by intro _;rfl) (hv:∀ j,Vis (X j).env.scope x:=by intro _;first | exact Ds rfl | exact C2 (Ds rfl) | exact C2 (C2 rfl)) (hd:(x == ("__debug__":Str))=false:=by decide) (hcd:(x == ("__classdict__":Str))=false:=by decide)
  (he:∀ j,AQ (e::es) (X j).env=(false,eval e (X j).env)::AQ es (X j).env:=by intro _;rfl) (hpl:∀ j,(Bx pos (AQ es (X j).env)).any (·.1)=false:=by intro _;rfl) :
  EX K X (.Call (.Name x p) (e::es) [] pos) (wV i tb L dlx da):=by
 obtain⟨t,q,u⟩:=ha;refine⟨AAj K i (AAa K tb) L dlx t,λj=>?_,ax (λq hq=>(T0 q hq).len) u⟩;intro pins s σ H Q I h;rcases h with h | h
 ·refine UU (k:=k') (λhm f sp hc=>?_) ((M.room j).mono ⋯) (hN j) (hv j) (q j) hd hcd (he j) (hpl j) pins s σ H Q I h;obtain⟨q,hq,h1,rfl⟩:=hc;obtain⟨f',fd,ps,g1,g2,g3,g4⟩:=(T0 q hq).ex;have hm':Mod K mg base:=by rw[← M.K j,← M.mg j,← B.b j];exact hm
  have e:=Gj hm'.kin hm'.glob h1;rw[g2]at e;cases e;exact⟨fd,ps,by rw[B.P,B.w,M.K,M.mg,B.b];exact g1,by rw[M.K];exact g3,by rw[M.K];exact g4⟩
 ·have D1:LD (X j).prog (X j).w (X j).K (X j).mg (X j).base k' L dlx:=by rw[B.P,B.w,M.K,M.mg,B.b];exact D0
  rw[← M.K j]at h;exact YH D1 ((M.room j).mono hk) (hN j) (hv j) (q j) hd hcd (he j) (hpl j) pins s σ H Q I h
end
open PySem PySem.Spec L2
def TabAt (K:Fg) (fd:C6):Prop:=∃ c0 P0,fd.code=.ref c0/\CO K "is_so"=some (c0,P0)/\Ca K c0 P0=true
noncomputable def ABT (sp:Sp) (L:zj) (P0:Addr):TE:=λσ H Q=>∃ v0 va,σ[0]?=some (some v0)/\σ[1]?=some (some va)/\H P0=some (.tbq L.qual)/\∀ f c c' oc H2,H c=none->(∀ b o,H b=some o->H2 b=some o)->H2 f=some (.ext (xr L f c c'))->H2 c=some (.ext (wK c va oc)) ->
 H2 c'=some (.cod L.qual)->sp [v0,.ref f] H2 (λv H'=>H' c=some (.ext (wK c va oc))/\Q v (yB H' c)) E0
section
variable {X:Cx}{L:zj}{pos lp p p':Pos}{c0 P0 f:Addr}{x y:Str}{k:Nat}{fd:C6}{ps:List Str}{sp:Sp}
theorem Zl(F:wM X.prog X.w X.K X.mg X.base yd k f fd ps sp)(hr:vn k X.A)(hgl:Gl X x)(hm:X.mg x=some (.ref f))(hk:BZ X.K (.ref f)=true)(hb:Binds X.K fd ps [])
  (hcode:X.env.code=.ref c0) (hH:Ca X.K c0 P0=true) (hg:X.env.globals=Ao)
  (hcl:∀ c,X.env.cells.lookup L.x=some c->FQ L.scope X.env=pure [(L.x,c)]) (hq:X.env.qual++"<lambda>"=L.qual) (hdef:Ja L.params X.env=([],[]))
  (h0:PE X (.Name y p') (xJ 0)) (hN:X.N[1]?=some L.x) (hkd:X.env.kindOf L.x=some .cell) (hvis:Vis X.env.scope L.x) (hfn:X.fn L.x=true) (hdb:(x == ("__debug__":Str))=false:=by decide)
  (he:AQ [.Name y p',.Lambda L.params L.body L.scope lp] X.env=(false,eval (.Name y p') X.env)::AQ [.Lambda L.params L.body L.scope lp] X.env:=by rfl)
  (he2:AQ [.Lambda L.params L.body L.scope lp] X.env=(false,eval (.Lambda L.params L.body L.scope lp) X.env)::AQ [] X.env:=by rfl)
  (hpl:(Bx pos (AQ [.Lambda L.params L.body L.scope lp] X.env)).any (·.1)=false:=by rfl) :
  PE X (.Call (.Name x p) [.Name y p',.Lambda L.params L.body L.scope lp] [] pos) (ABT sp L P0):=by
 intro pins s σ H Q I h;obtain⟨v0,va,e0,e1,hP,h⟩:=h;obtain⟨c,hc⟩:=I.ok.has L.x (.inl hkd);refine Cw (QW I hgl hm (FN I.ok.mod.kin hk (vB ((N4 h0 (N4 (Xs hcode hH hg hcl hq hdef) O1 he2) he) pos pins s σ H (λvs H1=>∃ f c',vs=[v0,.ref f]/\(∀ b o,H b=some o->H1 b=some o)/\H1 f=some (.ext (xr L f c c'))/\H1 c'=some (.cod L.qual)) I ?_) λus s1 ⟨vs,H1,I1,r,q⟩=>⟨I1.kIn,?_⟩) he hpl) hdb)
 ·exact⟨v0,e0,c,hc,hP,λf c' H1 k1 k2 k3=>⟨f,c',rfl,k1,k2,k3⟩⟩
 obtain⟨f',c',rfl,k1,k2,k3⟩:=q;have hc1:=I1.freeC _ _ hc;obtain⟨m,hm1,hl⟩:=I1.loc;obtain⟨u,ru,lk⟩:=hl 1 L.x va hN e1 hvis;obtain⟨oc,ec,dc⟩:∃ oc,s1.heap.get? c=some oc/\oc.data=.cell (some u):=by
  rcases lk with ⟨z,_⟩ | ⟨_,c2,z1,oc,z2,z3⟩
  ·rw[hkd]at z;cases z
  ·rw[hc]at z1;cases z1;exact⟨oc,z2,z3⟩
 have cO:wK c va oc s1.heap:=⟨ec,u,ru,dc⟩
 have cab:=I1.ok.cab L.x c hfn hc;have ne2:∀ {b o},H1 b=some o->upd H1 c (.ext (wK c va oc)) b=some o:=λ{b o} e=>by
  rw[Ll (Lp e hc1)];exact e
 have no2:∀ {b},b≠c->H1 b=none->upd H1 c (.ext (wK c va oc)) b=none:=λ{b} n e=>by rw[Ll n];exact e
 have z1:=I1.env0;have fsn:∀ b∈frs X.stack,b≠c:=λb hb z=>by
  rcases AR.mp (I1.stkSub b hb) with e | e
  ·exact I1.cne _ _ hc (z.symm.trans e)
  ·obtain⟨_,o,ho,_⟩:=I1.ok.funs.mem e;rw[z]at ho;exact absurd (AJ ho) (Fq.mpr cab)
 have z2:ABv X.prog X.w X.K X.mg X.base X.A X.stack s1 (upd H1 c (.ext (wK c va oc))):=⟨z1.frames,z1.mod,λb o e=>⟨(z1.bs b o e).1,no2 (λz=>by
   rw[z]at e;exact absurd (AJ e) (Fq.mpr (Aa I1.ok.bsz cab))) (z1.bs b o e).2⟩,z1.bsz,z1.funs,λb hb=>no2 (fsn b hb) (z1.frf b hb),z1.hok.re hc1 (Se cO),z1.bare⟩
 have hsp:=h f' c c' oc (upd H1 c (.ext (wK c va oc))) (I.freeC _ _ hc) (λb o e=>ne2 (k1 b o e)) (ne2 k2) Lq (ne2 k3);have hl:(us++[]).length=ps.length:=by rw[Bm,← r.length];exact F.len _ _ _ _ hsp
 have hbs:=hb s1 us I1.kIn hl;rw[Bm]at hbs;refine JR (ER (F.run X.A X.stack s1 _ ⟨us,[]⟩ us [v0,.ref f'] _ E0 hr z2 hbs r hsp) λr s' hq=>?_);cases r with
 | error e=>exact zy pins σ H1 s1 e s' I1 hq
 | ok fl =>
  cases fl with
  | ret u =>
   obtain⟨v,H',os,bare,un,hok,rv,hcc,hQ⟩:=hq;have gc:=(hok c _ hcc).1.1;exact I1.after ⟨v,yB H' c,os,bare,{
    keep:=λb o e n hb hx=>by
     by_cases z:b=c
     ·subst z;rw[ec]at e;cases e;exact gc
     ·exact un.keep b o e (no2 z n) hb hx
    slot:=λb o e n hb hx=>un.slot b o e (no2 (fsn b hb) n) hb hx
    free:=λb o e n hx=>by
     by_cases z:b=c
     ·subst z;exact N5
     ·rw[Lx z];exact un.free b o e (no2 z n) hx
    there:=un.there
    tups:=λb xs e=>by
     have z:=Lp e hc1;rw[Lx z];exact un.tups b xs (ne2 e)
    frzs:=λb o w e=>by
     have z:=Lp e hc1;rw[Lx z];exact un.frzs b o w (ne2 e)
    tbls:=λb ps e=>by
     rw[Lx (Lp e hc1)];exact un.tbls b ps (ne2 e) },hok.rm hcc,rv,hQ⟩
  | next | brk | cont=>exact CU hq
end
noncomputable def yt (F:DF) (L:zj):DE:=λΓ=>match Γ with
 | [some (.v t0),some (.v ta)]=>match F [.v t0,.v (.m L [ta])] with
  | some (.v (.a u),[])=>some (.v (.a u),Γ)
  | _=>none
 | _=>none
section
variable {K:Fg}{F:DF}{L:zj}{c0 P0:Addr}
def nj(hT:CO K "is_so"=some (c0,P0))(hq:L.qual="is_so.<locals>.<lambda>"):uj K (ABT (y8 K none 2 F) L P0) (yt F L):=by
 intro C w Γ σ H s Γ' Q R e k;unfold yt at e;split at e
 ·rename_i t0 ta;split at e
  ·rename_i u eF;cases e;obtain⟨v0,s0,i0⟩:=R.val 0 _ rfl;obtain⟨va,s1,i1⟩:=R.val 1 _ rfl;refine⟨v0,va,s0,s1,by rw[hq];exact R.tab c0 P0 hT,λf c c' oc H2 hcn old f1 f2 f3=>?_⟩;have ev:vG [] H H2:=λb o h _=>old b o h
   have hL:LL [] H:=λp hp=>nomatch hp
   refine⟨rfl,⟨[],λb=>∃ o,H2 b=some o⟩,[.v t0,.v (.m L [ta])],.v (.a u),[],eF,?_,rfl,(λp hp=>nomatch hp),λv H' ev2 _ ro=>⟨ev2 _ _ f2 nofun,?_⟩⟩
   ·refine⟨rfl,λi g h=>?_,λi j p g g' m _ h _ _ _=>?_,λp hp=>(nomatch hp),λp hp=>(nomatch hp),λp hp=>hp,λp hp=>nofun,λb o h _=>h,λc P z=>old _ _ (R.tab c P z),λq hq=>(nomatch hq)⟩
    ·match i,h with
     | 0,h=>cases h;exact⟨_,rfl,(Im.evo ev hL i0)⟩
     | 1,h=>cases h;exact⟨_,rfl,(Im.lam ⟨c,c',va,oc,rfl,f1,f2,f3⟩ (.one (Im.evo ev hL i1)))⟩
     | i+2,h=>cases h
    ·match i,h with
     | 0,h | 1,h=>cases h;cases m
     | i+2,h=>cases h
   ·obtain rfl:v=u:=(show Im K H' v (.a u) from ro).inva;have old2:∀ b o,H b=some o->yB H' c b=some o:=λb o h=>by
     rw[Lx (Lp h hcn)];exact ev2 b o (old b o h) nofun
    exact k _ _ (R.evo0 old2) (λb o h _=>old2 b o h) .atom trivial
  ·cases e
 ·cases e
end
section
variable {P:Ah}{wd:A5}{base:Heap}{K:Fg}{mg:Str->Option AK}{k k':Nat}
def Yp(F:Fun K x x st f fd)(S:uN N ps (uK st))
  (body:∀ cdv A outer s H E,fd.code=cdv->Fm K mg k (cx1 P wd K mg base N x (uK st) f cdv A outer s H E)->Fb P wd base (cx1 P wd K mg base N x (uK st) f cdv A outer s H E)->BX K (cx1 P wd K mg base N x (uK st) f cdv A outer s H E) ip (uq st) g) :
  wM P wd K mg base yd (k+1) f fd ps (y8 K ip ps.length (ua ip ps.length N.length g)):=by
 obtain⟨oc,od,kV,doc,pm,an,cdv,ct,osl,rfl,lk,hcd⟩:=F.ex;refine P9 lk hcd S (λvs H Q E h=>h.1) λA outer s H vs Q E hr hsp=>?_
 obtain⟨t,p,u⟩:=body cdv A outer s H E rfl ⟨λ_=>rfl,λ_=>rfl,λ_=>rfl,λ_=>hr⟩ ⟨λ_=>rfl,λ_=>rfl,λ_=>rfl⟩;exact⟨t,(p ()).nox,Og u hsp⟩
end
section
variable {ι:Type}{P:Ah}{wd:A5}{base:Heap}{K:Fg}{mg:Str->Option AK}{k k':Nat}{X:ι->Cx}{F:DF}{L:zj}{pos lp p p':Pos}{x y:Str}{fd:C6}{cdv:AK}
def bS(M:Fm K mg k X)(B:Fb P wd base X)(D0:FD P wd K mg base k' x none 2 F)(hT:TabAt K fd)(hc:fd.code=cdv)(hcode:∀ j,(X j).env.code=cdv)(hk:k'<=k:=by first | exact AL _ | decide | lia)
  (hg:∀ j,(X j).env.globals=Ao:=by intro _;rfl) (hcl:∀ j c,(X j).env.cells.lookup L.x=some c->FQ L.scope (X j).env=pure [(L.x,c)]) (hq:∀ j,(X j).env.qual++"<lambda>"=L.qual:=by intro _;rfl) (hdef:∀ j,Ja L.params (X j).env=([],[]):=by intro _;rfl)
  (h0:∀ j,PE (X j) (.Name y p') (xJ 0)) (hN:∀ j,(X j).N[1]?=some L.x:=by intro _;rfl) (hkd:∀ j,(X j).env.kindOf L.x=some .cell:=by intro _;rfl) (hfn:∀ j,(X j).fn L.x=true:=by intro _;rfl) (hqq:L.qual="is_so.<locals>.<lambda>":=by rfl)
  (hgl:∀ j,Gl (X j) x:=by intro _;rfl) (hdb:(x == ("__debug__":Str))=false:=by decide)
  (he:∀ j,AQ [.Name y p',.Lambda L.params L.body L.scope lp] (X j).env=(false,eval (.Name y p') (X j).env)::AQ [.Lambda L.params L.body L.scope lp] (X j).env:=by intro _;rfl)
  (he2:∀ j,AQ [.Lambda L.params L.body L.scope lp] (X j).env=(false,eval (.Lambda L.params L.body L.scope lp) (X j).env)::AQ [] (X j).env:=by intro _;rfl)
  (hpl:∀ j,(Bx pos (AQ [.Lambda L.params L.body L.scope lp] (X j).env)).any (·.1)=false:=by intro _;rfl) :
  EX K X (.Call (.Name x p) [.Name y p',.Lambda L.params L.body L.scope lp] [] pos) (yt F L):=by
 obtain⟨c0,P0,t1,t2,t3⟩:=hT;obtain⟨f,fd',ps,g1,g2,g3,g4⟩:=D0.ex;refine⟨ABT (y8 K none 2 F) L P0,λj=>?_,nj t2 hqq⟩;have hkj:=hkd j;exact Zl (by rw[B.P,B.w,M.K,M.mg,B.b];exact g1) ((M.room j).mono hk) (hgl j) (by rw[M.mg];exact g2) (by rw[M.K];exact g3) (by rw[M.K];exact g4) (by rw[hcode j,← hc];exact t1) (by rw[M.K];exact t3) (hg j) (hcl j) (hq j) (hdef j) (h0 j) (hN j) hkj (.inr (.inl hkj)) (hfn j) hdb (he j) (he2 j) (hpl j)
end
open PySem PySem.Spec PyProof.Rows L2
theorem eM{K mg mb k fa a c0 P0 fd x sp s₁ vs ns}
  (KX:K.In s₁.heap) (hns:s₁.heap.Ns Ao mg) (hb:s₁.heap.Ns D3 mb) (hbb:∀ x:Str,x≠"__name__"->mb x=CH x) (hlim:s₁.heap.NoLimit) (hg:s₁.gens=#[])
  (hbm:∃ bm ob,mg "__builtins__"=some (.ref bm)/\bm≠D3/\s₁.heap.get? bm=some ob/\ob.cls=.type "module"/\ob.dict=some D3/\ob.data=.plain)
  (hT:CO K "is_so"=some (c0,P0)) (hH:Ca K c0 P0=true) (hNT:GP K=true) (hP:s₁.heap.get? P0=some { cls:=.none,data:=.fields #[] })
  (ha:s₁.heap.get? a=some { cls:=.type "list",data:=.seq vs.toArray }) (hi:Bu vs ns) (hl:ns.length<=AD) (hr:vn k Gf)
  (F:∀ base,K.In base->base.Ns Ao mg->wM P w K mg base yd k fa fd [x] sp) (hbind:∀ s u,Gc s fd ⟨[u],[]⟩ [(x,u)])
  (hsp:∀ H,(∀ us,H a≠some (.lst us))->xI K H->vz K H a (ns.map V.int)->sp [.ref a] H (λv H'=>v=.bl true/\∀ b o,H b=some o->H' b=some o) λ_ _ _=>False) :
  DM (model P w) Gf (.call (.ref fa) ⟨[.ref a],[]⟩) (λr s'=>r=.ok (.ret (.bool true))/\OldK s₁.heap s'.heap/\s'.os=s₁.os/\FL s'.gens) s₁:=by
 have rv:=Tc hi;have haP:a≠P0:=λz=>by rw[z,hP]at ha;cases ha
 have core:∀ H,(∀ b,H b=none\/(∃ o xs,H b=some (.frz o (.lst xs)))\/b=P0)->H P0=some (.tbq "is_so.<locals>.<lambda>")->vz K H a (ns.map V.int)->wg P w H s₁.heap->(∀ b,H b≠none->b=a\/b=P0)->(H a≠none->K.lookup a=none) ->
   DM (model P w) Gf (.call (.ref fa) ⟨[.ref a],[]⟩) (λr s'=>r=.ok (.ret (.bool true))/\OldK s₁.heap s'.heap/\s'.os=s₁.os/\FL s'.gens) s₁:=by
  intro H hO hHP hS hok hA hK;have base_of:∀ {b:Addr} {o:Obj},s₁.heap.get? b=some o->H b=none->(z9 s₁.heap H).get? b=some o:=cz;have noA:∀ {b:Addr} {o:Obj},s₁.heap.get? b=some o->(∀ its n,o.data≠.seq its n)->(∀ ps,o.data≠.fields ps)->H b=none:=λ{b o} e d1 d2=>by
   cases q:H b with
   | none=>rfl
   | some u =>
    rcases hA b (by rw[q];simp) with e' | e'
    ·subst e';rw[ha]at e;cases e;exact absurd rfl (d1 _ _)
    ·subst e';rw[hP]at e;cases e;exact absurd rfl (d2 _)
  have nsK:∀ {b:Addr} {m:Str->Option AK},s₁.heap.Ns b m->(z9 s₁.heap H).Ns b m:=λ{b m} ⟨o,es,ep,e,d,r⟩=>⟨o,es,ep,base_of e (noA e (λ_ _ z=>by rw[d]at z;cases z) (λ_ z=>by rw[d]at z;cases z)),d,r⟩
  have hKb:=λb o e=>base_of (KX b o e) (by
   cases q:H b with
   | none=>rfl
   | some u =>
    rcases hA b (by rw[q];simp) with e' | e'
    ·subst e';rw[hK (by rw[q];simp)]at e;cases e
    ·subst e';have h2:=Au.mp hNT (b,o) (PySem.W.mem_of_lookupK e);have e3:=KX b o e;rw[hP]at e3;cases e3;exact absurd h2 Ac)
  have hM:Mod K mg (z9 s₁.heap H):=⟨hKb,nsK hns,⟨mb,nsK hb,hbb⟩,let ⟨mc,h1,h2⟩:=hlim;⟨mc,nsK h1,h2⟩,by
   obtain⟨bm,ob,b1,b2,b3,b4,b5,b6⟩:=hbm;exact⟨bm,ob,b1,b2,base_of b3 (noA b3 (λ_ _ z=>by rw[b6]at z;cases z) (λ_ z=>by rw[b6]at z;cases z)),b4,b5,b6⟩⟩
  have e0:ABv P w K mg (z9 s₁.heap H) Gf [] s₁ H:=⟨rfl,hM,λb o e=>Xa e,EG (nq _ _),trivial,λb hb=>absurd (show b∈[] from hb) ↥1,hok,.of_eq hg⟩
  have hLs:∀ us,H a≠some (.lst us):=λus z=>by
   rcases hO a with y | ⟨o,xs,y⟩ | y
   iterate 2
    ·rw[z]at y;cases y
   ·exact haP y
  have hTb:xI K H:=λc P z=>by rw[hT]at z;cases z;exact hHP
  refine ER ((F _ hKb (nsK hns)).run Gf [] s₁ H ⟨[.ref a],[]⟩ [.ref a] [.ref a] _ _ hr e0 (hbind s₁ (.ref a)) (.cons rfl .nil) (hsp H hLs hTb hS)) λr s' h=>?_
  cases r with
  | error e=>exact CU h
  | ok fl =>
   cases fl with
   | next | brk | cont=>exact CU h
   | ret u =>
    obtain⟨v,H',os,bare,un,hok',r',rfl,ev⟩:=h;obtain rfl:u=Hr true:=r';have keep:=λb o n e=>by
     cases q:H b with
     | none=>exact un.keep b o e q (by intro z;exact absurd (show b∈[] from z) ↥1) ↥1
     | some u =>
      rcases hO b with z | ⟨ob,xs,z⟩ | z
      ·rw[q]at z;cases z
      ·obtain⟨e1,_⟩:=hok b _ z;obtain⟨e2,_⟩:=hok' b _ (un.frzs b ob _ z);rw[e]at e1;cases e1;exact e2
      ·exact absurd z n
    obtain⟨ps,p1,_⟩:=(hok' P0 _ (ev _ _ hHP))
    refine⟨rfl,⟨λb o e=>?_,λb o e=>?_⟩,os,bare⟩
    ·by_cases z:b=P0
     ·subst z;rw[hP]at e;cases e;exact .inr (.inl ⟨((HY KX hH).tab hP).isCodeTable,rfl,#[],ps,rfl,by rw[Array.empty_append];exact p1⟩)
     ·exact .inl (keep b o z e)
    ·by_cases z:b=P0
     ·subst z;exact⟨_,p1⟩
     ·exact⟨o,keep b o z e⟩
 have tbo:∀ {H:Hp},H P0=some (.tbq "is_so.<locals>.<lambda>")->uy P w H s₁.heap P0 (.tbq "is_so.<locals>.<lambda>"):=λ_=>⟨#[],hP,trivial,λpos cv z=>by cases z⟩
 cases hk:K.lookup a with
 | some o =>
  have e:=KX a o hk;rw[ha]at e;cases e;refine core (λb=>if b=P0 then some (.tbq "is_so.<locals>.<lambda>") else none) (λb=>?_) (if_pos rfl) (.inr ⟨_,vs.toArray,_,hk,rfl,rfl,rfl,by rw[Ae,hi.length];exact hl,by simpa using rv⟩) (λb u z=>?_) (λb z=>?_) λz=>absurd (if_neg haP) z
  ·by_cases hb:b=P0
   ·exact .inr (.inr hb)
   ·exact .inl (if_neg hb)
  ·by_cases hb:b=P0
   ·have z':=(if_pos hb).symm.trans z;cases z';subst hb;exact tbo z
   ·have z':=(if_neg hb).symm.trans z;cases z'
  ·by_cases hb:b=P0
   ·exact .inr hb
   ·exact absurd (if_neg hb) z
 | none =>
  refine core (λb=>if b=P0 then some (.tbq "is_so.<locals>.<lambda>") else if b=a then some (.frz { cls:=.type "list",data:=.seq vs.toArray } (.lst (ns.map V.int))) else none) (λb=>?_) (if_pos rfl) (.inl (.inr ⟨{ cls:=.type "list",data:=.seq vs.toArray },(if_neg haP).trans (if_pos rfl)⟩)) (λb u z=>?_) (λb z=>?_) λ_=>hk
  ·by_cases hb:b=P0
   ·exact .inr (.inr hb)
   ·by_cases hb2:b=a
    ·exact .inr (.inl ⟨_,_,(if_neg hb).trans (if_pos hb2)⟩)
    ·exact .inl ((if_neg hb).trans (if_neg hb2))
  ·by_cases hb:b=P0
   ·have z':=(if_pos hb).symm.trans z;cases z';subst hb;exact tbo z
   ·by_cases hb2:b=a
    ·have z':=((if_neg hb).trans (if_pos hb2)).symm.trans z;cases z';subst hb2;exact⟨ha,by rw[AV];exact hl,vs,_,rv,ha⟩
    ·have z':=((if_neg hb).trans (if_neg hb2)).symm.trans z;cases z'
  ·by_cases hb:b=P0
   ·exact .inr hb
   ·by_cases hb2:b=a
    ·exact .inl hb2
    ·exact absurd ((if_neg hb).trans (if_neg hb2)) z
def my{K F H a ns}(hO:∀ us,H a≠some (.lst us))(hT:xI K H)(hS:vz K H a (ns.map V.int))(h:F [.k (xK ns)]=some (.v (.a (.bl true)),[])):y8 K none 1 F [.ref a] H (λv H'=>v=.bl true/\∀ b o,H b=some o->H' b=some o) λ_ _ _=>False:=by
 refine⟨rfl,⟨[],λ_=>False⟩,_,_,_,h,⟨rfl,λi g e=>?_,λi j p ga gb ma mb e=>?_,λp hp=>(nomatch hp),λp hp=>(nomatch hp),λp hp=>hp.elim,λp hp=>hp.elim,λb o e _=>e,hT,λq hq=>(nomatch hq)⟩,rfl,(λp hp=>nomatch hp),λv H' ev _ hr=>⟨?_,λb o e=>ev b o e nofun⟩⟩
 ·match i,e with
  | 0,e =>
   cases e;refine⟨_,rfl,a,ns.map V.int,rfl,?_,(KF.of hS hO)⟩;have:xK ns=(ns.map V.int).map T.a:=by simp[xK]
   rw[this];exact uh.atoms _
  | i+1,e=>simp at e
 ·match i,e with
  | 0,e=>cases e;cases ma
  | i+1,e=>simp at e
 ·exact (show Im K H' v (.a (.bl true)) from hr).inva
def AAc{l:Eh}{n k q loose XP YP d}{K:Params->AY}{sp:AY->Sp}{x c0 P0}
  (hn:l.most=some n) (hn2:n<=AD) (hdf:d.params.defaults=[]) (hr:vn k Gf)
  (hY:∀ w h,YP w h->(K w.params).In h) (hYP:∀ w h,YP w h->h.get? P0=some { cls:=.none,data:=.fields #[] })
  (hT:∀ w:A5,CO (K w.params) "is_so"=some (c0,P0)) (hH:∀ w:A5,Ca (K w.params) c0 P0=true) (hNT:∀ w:A5,GP (K w.params)=true)
  (F:∀ w mg fa h,(K w.params).In h->h.Ns Ao mg->mg d.name=some (.ref fa) ->
   ∃ fd,(∀ s u,Gc s fd ⟨[u],[]⟩ [(x,u)]) /\
    ∀ base,(K w.params).In base->base.Ns Ao mg->wM l.prog w (K w.params) mg base yd k fa fd [x] (sp (K w.params)))
  (hsp:∀ (K:AY) H a (ns:List Int),ns.length<=n->(∀ us,H a≠some (.lst us))->xI K H->vz K H a (ns.map V.int)->sp K [.ref a] H (λv H'=>v=.bl true/\∀ b o,H b=some o->H' b=some o) λ_ _ _=>False) :
  Iq q loose XP YP l.row.toRowW d [] (λf vs=>Ht f vs):=by
 refine Att.AAA hn hdf λw s₀ s₁ mg mb fa o pm cd doc a vs ns G Y ho hd hcd hmg hobj hints hlen hg=>?_
 have KX:=hY w _ Y;obtain⟨fd,hb,hF⟩:=F w mg fa _ KX G.T.g hmg;exact eM KX G.T.g G.T.b G.T.builtins G.T.nolimit hg G.T.bmain (hT w) (hH w) (hNT w) (hYP w _ Y) hobj hints (Aa hlen hn2) hr hF hb λH h1 h2 h3=>hsp _ H a ns hlen h1 h2 h3
mutual
noncomputable def Rs.PutP (PP:T->List T->T->Prop):Rs->Prop
 | .mk e v ks=>PP e (ks.map Rs.v) v/\xt PP ks
noncomputable def xt (PP:T->List T->T->Prop):List Rs->Prop
 | []=>True
 | r::rs=>r.PutP PP/\xt PP rs
end
def Lz:xt PP (r::rs) ↔ r.PutP PP/\xt PP rs:=by rw[xt]
def MA:(Rs.mk e v ks).PutP PP ↔ PP e (ks.map Rs.v) v/\xt PP ks:=by rw[Rs.PutP]
def MF:xt PP []:=by unfold xt;trivial
noncomputable def ABE (tb1:Tb) (dp:DE):DS:=uO (uS 5 (u7 (some (1,3)) [none,some 3] (u9 (v8 1 tb1 (jW (jV 4) qQ))) (uP 0) vy fwE))
 (wA (vb 3 vV (jW dp qQ)))
noncomputable def ADj (FA:DF) (tb1:Tb) (dp:DE):DS:=uO (uS 3 (vR qQ))
 (uO (xY none (AAC (jW (uL none FA [] (jW (jV 0) (jW (jV 1) qQ))) qQ)) (uP 4) (ABE tb1 dp))
 (uT (uM uW (jV 3) (dC (.int 0)))))
section
variable {tb1:Tb}{dp:DE}{pv:T}{PP:T->List T->T->Prop}{n:Str}{ka:Nat}{ins:DF}
def zQ (n:Str) (dp:DE) (pv:T) (PP:T->List T->T->Prop):Prop:=∀ (w e v:T) (t0 vs:List T),PP e vs v->dp [some (.v w),some (.v (.f n)),some (.v pv),some (.l t0),some (.v e),some (.l vs)]=some (.v v,[some (.v w),some (.v (.f n)),some (.v pv),some (.l t0),some (.v e),some (.l vs)])
def kh(hf:tb1.find? (λq=>decide (q.1=n))=some (n,ka,ins))(hg:zQ n dp pv PP){e v:T}{ks:List Rs}{t0:List T}{w:T}{p5:Option G}(h1:ins [.v e]=some (.v (.t (ks.map Rs.e)),[])\/ins [.v e]=some (.l (ks.map Rs.e),[]))
  (h2:PP e (ks.map Rs.v) v) (hb:t0.length+ks.length<=90000) :
  ABE tb1 dp [some (.v w),some (.v (.f n)),some (.v pv),some (.l (t0++(ks.map Rs.v).reverse)),some (.v e),p5]=some (.nx [some (.v w),some (.v (.f n)),some (.v pv),some (.l (t0++[v])),some (.v e),some (.l (ks.map Rs.v))]):=by
 obtain⟨o',hc⟩:=Vr (ks.map Rs.e) (ks.map Rs.v) t0 none ↥1 ↥2;have cv:v8 1 tb1 (jW (jV 4) qQ) [some (.v w),some (.v (.f n)),some (.v pv),some (.l (t0++(ks.map Rs.v).reverse)),some (.v e),p5]=uL none ins [] (jW (jV 4) qQ) [some (.v w),some (.v (.f n)),some (.v pv),some (.l (t0++(ks.map Rs.v).reverse)),some (.v e),p5]:=Sv rfl hf;have cw:=hg w e v t0 _ h2;have hz:(ks.map Rs.e).length<=AD:=Aa (show (ks.map Rs.e).length<=100000 by simp;lia) ∅;have ht:t0.length < AD:=AM (show t0.length < 100000 by lia) ∅;have ht':t0.length<=AD:=Dj ht;generalize t0++(ks.map Rs.v).reverse=RR at hc cv ⊢;generalize ks.map Rs.e=EE at h1 hc hz ⊢;generalize ks.map Rs.v=VV at h2 hc cw ⊢;rcases h1 with h1 | h1
 iterate 2
  ·simp[ABE,cv,h1,hc,cw,gd,hz,ht,ht']
mutual
theorem Wu(hf:tb1.find? (λq=>decide (q.1=n))=some (n,ka,ins))(hg:zQ n dp pv PP)(w:T):∀ (r:Rs) (t0 more:List T) (p4 p5:Option G),r.In ins->r.PutP PP->t0.length+r.pre.length<=90000 ->
  ∃ p4' p5',vm (uP 4) (ABE tb1 dp) (r.pre.reverse.map Rs.e++more) [some (.v w),some (.v (.f n)),some (.v pv),some (.l t0),p4,p5]=vm (uP 4) (ABE tb1 dp) more [some (.v w),some (.v (.f n)),some (.v pv),some (.l (t0++[r.v])),p4',p5']
 | .mk e v ks,t0,more,p4,p5,hi,hp,hb=>by
  obtain⟨h1,h2⟩:=L1.mp hi;obtain⟨h3,h4⟩:=MA.mp hp;rw[MD]at hb ⊢;simp only[CA]at hb;have hlen:∀ l:List Rs,l.length<=(wj l).length:=λl=>by
   induction l with
   | nil=>simp
   | cons x l ih =>
    cases x with
    | mk a b c=>rw[L4,MD];simp;lia
  have hk:=hlen ks;obtain⟨q4,q5,e1⟩:=Si hf hg w ks t0 (e::more) p4 p5 h2 h4 ⋯;refine⟨some (.v e),some (.l (ks.map Rs.v)),?_⟩;rw[Ii,A9,CT,AO,BN];show vm _ _ (B5 Rs.e (wj ks).reverse++(e::more)) _=_;rw[e1,N9];simp only[VI];rw[show (List.set [some (G.v w),some (.v (.f n)),some (.v pv),some (.l (t0++(ks.map Rs.v).reverse)),q4,q5] 4 (some (.v e)))=[some (.v w),some (.v (.f n)),some (.v pv),some (.l (t0++(ks.map Rs.v).reverse)),some (.v e),q5] from rfl];rw[Ar,kh hf hg h1 h3 ⋯,Ar];rfl
theorem Si(hf:tb1.find? (λq=>decide (q.1=n))=some (n,ka,ins))(hg:zQ n dp pv PP)(w:T):∀ (ks:List Rs) (t0 more:List T) (p4 p5:Option G),Ins ins ks->xt PP ks->t0.length+(wj ks).length<=90000 ->
  ∃ p4' p5',vm (uP 4) (ABE tb1 dp) ((wj ks).reverse.map Rs.e++more) [some (.v w),some (.v (.f n)),some (.v pv),some (.l t0),p4,p5]=vm (uP 4) (ABE tb1 dp) more [some (.v w),some (.v (.f n)),some (.v pv),some (.l (t0++(ks.map Rs.v).reverse)),p4',p5']
 | [],t0,more,p4,p5,_,_,_=>⟨p4,p5,by simp[ML]⟩
 | r::rs,t0,more,p4,p5,hi,hp,hb=>by
  obtain⟨h1,h2⟩:=Lr.mp hi;obtain⟨h3,h4⟩:=Lz.mp hp;rw[L4]at hb ⊢;simp only[A4]at hb;have hlen:∀ l:List Rs,l.length<=(wj l).length:=λl=>by
   induction l with
   | nil=>simp
   | cons x l ih =>
    cases x with
    | mk a b c=>rw[L4,MD];simp;lia
  have hk:=hlen rs;obtain⟨q4,q5,e1⟩:=Si hf hg w rs t0 (r.pre.reverse.map Rs.e++more) p4 p5 h2 h4 ⋯;obtain⟨q6,q7,e2⟩:=Wu hf hg w r (t0++(rs.map Rs.v).reverse) more q4 q5 h1 h3 ↥2;refine⟨q6,q7,?_⟩;rw[List.reverse_append,A9,CT,e1,e2];simp
end
def P1(hf:tb1.find? (λq=>decide (q.1=n))=some (n,ka,ins))(hg:zQ n dp pv PP)(r:Rs)(h1:r.In ins)(h2:r.PutP PP)(hb:r.pre.length<=80000) :
  ua none 3 6 (ADj (ua none 2 5 (awD tb1)) tb1 dp) [.v r.e,.v (.f n),.v pv]=some (.v r.v,[]):=by
 have ha:=gR hf r h1 hb;obtain⟨q4,q5,e⟩:=Wu hf hg r.e r [] [] none none h1 h2 ↥2;rw[Bm,Mo]at e;have hz:(r.pre.map Rs.e).length<=AD:=Aa (show (r.pre.map Rs.e).length<=100000 by simp;lia) ∅;have e2:(B5 Rs.e r.pre).reverse=B5 Rs.e r.pre.reverse:=by simp
 generalize ua none 2 5 (awD tb1)=FA at ha ⊢;generalize r.pre.map Rs.e=EE at ha hz e2;rw[← e2]at e;simp[ua,ADj,ha,gd,hz,e]
end
def nX:zQ n (wV 2 tb2 L dlx (jW (jV 4) (jW (jV 5) qQ))) (.m L [ta]) (λe vs v=>∃ u,v=.a u/\ABc dlx ta [.v e,.r vs]=some u):=by
 rintro w e v t0 vs ⟨u,rfl,h⟩;unfold wV;have fa:jW (jV 4) (jW (jV 5) qQ) [some (.v w),some (.v (.f n)),some (.v (.m L [ta])),some (.l t0),some (.v e),some (.l vs)]=some ([.v e,.s 5],[some (.v w),some (.v (.f n)),some (.v (.m L [ta])),some (.l t0),some (.v e),some (.l vs)]):=rfl;have ag:vt none [some (.v w),some (.v (.f n)),some (.v (.m L [ta])),some (.l t0),some (.v e),some (.l vs)] 0 [.v e,.s 5]=some [.v e,.r vs]:=rfl;refine (if_pos rfl).trans ?_;rw[fa,Ar,ag,Ar,h];rfl
def Wl(hg:tb2.find? (λq=>decide (q.1=m))=some (m,kb,put)):zQ n (wV 2 tb2 L dlx (jW (jV 4) (jW (jV 5) qQ))) (.f m) (λe vs v=>put [.v e,.r vs]=some (.v v,[])):=by
 rintro w e v t0 vs h;have cv:wV 2 tb2 L dlx (jW (jV 4) (jW (jV 5) qQ)) [some (.v w),some (.v (.f n)),some (.v (.f m)),some (.l t0),some (.v e),some (.l vs)]=uL none put [] (jW (jV 4) (jW (jV 5) qQ)) [some (.v w),some (.v (.f n)),some (.v (.f m)),some (.l t0),some (.v e),some (.l vs)]:=by
  unfold wV;show (match tb2.find? λq=>decide (q.1=m) with | some q=>uL none q.2.2 [] _ _ | none=>none)=_;rw[hg]
 rw[cv];simp[h]
end D
namespace L2
open PySem PySem.Spec PyProof.Rows PySem.W
structure ZQ(z TI TO i1 i2 a1 a2 d:Addr)(xs ys:Array AK)(k:Nat)(h:Heap):Prop where
 zz:(HE h z TI TO .none/\∃ a b,CZ h TO a b)\/∃ T oT f,AAx h z TI TO T f/\h.get? T=some oT/\T≠z/\T≠i1/\T≠i2/\T≠d
 ti:CZ h TI (.ref i1) (.ref i2)
 s1:h.IsListIter i1 a1 k/\h.IsList a1 xs
 s2:h.IsListIter i2 a2 k/\h.IsList a2 ys
section
variable {prog:Ah}{w:A5}{A:BY}{E:AK->Ab->Prop}{s:Ab}{z TI TO i1 i2 a1 a2 d:Addr}{xs ys:Array AK}{k:Nat}
theorem ZQ.type(st:ZQ z TI TO i1 i2 a1 a2 d xs ys k h):∃ o,h.get? z=some o/\o.cls=.type "zip":=by
 rcases st.zz with ⟨q,_⟩ | ⟨T,oT,f,q,_⟩
 iterate 2
  ·exact⟨_,q,rfl⟩
def ZQ.keep(st:ZQ z TI TO i1 i2 a1 a2 d xs ys k h)(n1:z≠d)(n2:TI≠d)(n3:TO≠d)(n4:i1≠d)(n5:i2≠d)(n6:a1≠d)(n7:a2≠d)(kp:∀ c o,c≠d->h.get? c=some o->h'.get? c=some o):ZQ z TI TO i1 i2 a1 a2 d xs ys k h' where
 zz:=by
  rcases st.zz with ⟨q,a,b,q2⟩ | ⟨T,oT,f,q,q2,q3,q4,q5,q6⟩
  ·exact .inl ⟨kp _ _ n1 q,a,b,kp _ _ n3 q2⟩
  ·exact .inr ⟨T,oT,f,kp _ _ n1 q,kp _ _ q6 q2,q3,q4,q5,q6⟩
 ti:=kp _ _ n2 st.ti
 s1:=⟨st.s1.1.at λo e=>kp _ _ n4 e,st.s1.2.at λo e=>kp _ _ n6 e⟩
 s2:=⟨st.s2.1.at λo e=>kp _ _ n5 e,st.s2.2.at λo e=>kp _ _ n7 e⟩
def k7(D:zk z TI TO i1 i2 a1 a2)(hd:d < s.heap.objs.size)(st:ZQ z TI TO i1 i2 a1 a2 d xs ys k s.heap)(hx:xs[k]?=some x)(hy:ys[k]?=some y)
  (hQ:∀ h',ZQ z TI TO i1 i2 a1 a2 d xs ys (k+1) h'->CZ h' s.heap.objs.size x y->(∀ c o,c≠z->c≠TO->c≠i1->c≠i2->s.heap.get? c=some o->h'.get? c=some o)->Q (some (.ref s.heap.objs.size)) { s with heap:=h' }) :
  AW (model prog w) A (Dl (.ref z)) Q E s:=by
 have hT:=st.type;have lz:z < s.heap.objs.size:=by obtain⟨o,e,_⟩:=st.type;exact AJ e
 have l1:i1 < s.heap.objs.size:=by obtain⟨o,e,_⟩:=st.s1.1;exact AJ e
 have l2:i2 < s.heap.objs.size:=by obtain⟨o,e,_⟩:=st.s2.1;exact AJ e
 refine AB (Bf (Al hT Bc (As Bc hT DX ?_ (DB _))));rcases st.zz with ⟨q,a,b,q2⟩ | ⟨T,oT,f,q,q2,q3,q4,q5,q6⟩
 ·exact QP D (Mr i1 a1 xs D.a.l1i1) (Mr i2 a2 ys D.a.l2i2) ⟨q,st.ti,⟨a,b,q2⟩,st.s1,st.s2⟩ hx hy λh' st' hp hk=>AF (hQ h' ⟨.inr ⟨_,_,false,st'.z,hp,BK lz,BK l1,BK l2,BK hd⟩,st'.ti,st'.s1,st'.s2⟩ hp hk)
 ·exact Wc D (Mr i1 a1 xs D.a.l1i1) (Mr i2 a2 ys D.a.l2i2) q q2 st.ti st.s1 st.s2 hx hy λh' z' t1 t2 hp hk=>AF (hQ h' ⟨.inr ⟨T,oT,true,z',hk _ _ q3 q4 q5 q2,q3,q4,q5,q6⟩,hk _ _ D.a.TIz D.a.TIi1 D.a.TIi2 st.ti,t1,t2⟩ hp λc o c1 _ c3 c4 e=>hk c o c1 c3 c4 e)
def dU(hh:A.handled=none)(D:zk z TI TO i1 i2 a1 a2)(st:ZQ z TI TO i1 i2 a1 a2 d xs ys k s.heap)(hx:xs[k]?=none)
  (hQ:∀ h',(∀ c o,c≠z->c≠TO->c≠i1->c≠i2->s.heap.get? c=some o->h'.get? c=some o)->Q none { s with heap:=h' }) :
  AW (model prog w) A (Dl (.ref z)) Q E s:=by
 have hT:=st.type;refine AB (Bf (Al hT Bc (As Bc hT DX ?_ (DB _))));rcases st.zz with ⟨q,a,b,q2⟩ | ⟨T,oT,f,q,q2,q3,q4,q5,q6⟩
 ·refine RV hh D (Mr i1 a1 xs D.a.l1i1) (Mr i2 a2 ys D.a.l2i2) ⟨q,st.ti,⟨a,b,q2⟩,st.s1,st.s2⟩ (.inl hx) λh' e hk he=>?_
  obtain⟨o,ho,hcl⟩:=he;exact AB (Bh ⟨o,ho,hcl⟩ Cp (AF (hQ h' hk)))
 ·refine U1 hh D (Mr i1 a1 xs D.a.l1i1) q q2 st.ti st.s1 hx λh' e hk he=>?_
  obtain⟨o,ho,hcl⟩:=he;exact AB (Bh ⟨o,ho,hcl⟩ Cp (AF (hQ h' λc o c1 _ c3 _ e=>hk c o c1 c3 e)))
structure Tps(ts:List Addr)(xs ys:Array AK)(lo:Nat)(h:Heap):Prop where
 nd:ts.Nodup
 at_:∀ (i:Nat) t,ts[i]?=some t->lo<=t/\∃ x y,xs[i]?=some x/\ys[i]?=some y/\CZ h t x y
theorem eQ{R:Result->Ab->Prop}(hh:A.handled=none)(D:zk z TI TO i1 i2 a1 a2)(n1:z≠d)(n2:TI≠d)(n3:TO≠d)(n4:i1≠d)(n5:i2≠d)(n6:a1≠d)(n7:a2≠d){n:Nat}(hx:xs.size=n)(hy:ys.size=n)(hsz:n<=AD)(res:AK){s0:Ab}{lo:Nat}
  (lz:z < lo) (lT:TO < lo) (l1:i1 < lo) (l2:i2 < lo) (ld:d < lo)
  (hR:∀ h' tk ts c,ts.length=n->Tps ts xs ys lo h'->h'.get? d=some { cls:=.type "list",data:=.seq (ts.map BJ).toArray c }->(∀ c o,c≠z->c≠TO->c≠i1->c≠i2->c≠d->s0.heap.get? c=some o->h'.get? c=some o)->R (.ok (.ret res)) { s0 with heap:=h',toks:=tk }) :
  ∀ (m k:Nat) (h:Heap) (tk:Nat) (ts:List Addr) (c:Nat),n - k=m->k<=n->lo<=h.objs.size->ZQ z TI TO i1 i2 a1 a2 d xs ys k h->ts.length=k->Tps ts xs ys lo h->h.get? d=some { cls:=.type "list",data:=.seq (ts.map BJ).toArray c }->(∀ c o,c≠z->c≠TO->c≠i1->c≠i2->c≠d->s0.heap.get? c=some o->h.get? c=some o) ->
   DM (model prog w) A (.builtin "list.extend.loop" ⟨[.ref d,.ref z,res],[]⟩) R { s0 with heap:=h,toks:=tk }:=by
 have nn:∀ {t b:Addr},b < lo->lo<=t->t≠b:=λ{t b} q1 q2 e=>absurd (AM q1 q2) (by rw[e];exact A8 _)
 intro m;induction m with
 | zero =>
  intro k h tk ts c hm hk hlo st hl hts hd hkp;have hkn:k=n:=by lia
  subst hkn;refine Dg Ir ?_;rw[Dq Fx _];show AW _ A.in1 (Dl (.ref z) >>= _) _ _ _;refine AB (dU (s:={ s0 with heap:=h,toks:=tk }) (A:=A.in1) hh D st (Array.getElem?_eq_none ⋯) λh' hk'=>?_);refine AF (hR h' tk ts c hl ⟨hts.nd,λi t e=>?_⟩ (hk' _ _ n1.symm n3.symm n4.symm n5.symm hd) λc o c1 c2 c3 c4 c5 e=>hk' c o c1 c2 c3 c4 (hkp c o c1 c2 c3 c4 c5 e));obtain⟨q1,x,y,q2,q3,q4⟩:=hts.at_ i t e;exact⟨q1,x,y,q2,q3,hk' _ _ (nn lz q1) (nn lT q1) (nn l1 q1) (nn l2 q1) q4⟩
 | succ m ih =>
  intro k h tk ts c hm hk hlo st hl hts hd hkp;have hlt:k < n:=by lia
  have ex:xs[k]?=some xs[k]:=by simp
  have ey:ys[k]?=some ys[k]:=by simp
  refine Dg Ir ?_;rw[Dq Fx _];show AW _ A.in1 (Dl (.ref z) >>= _) _ _ _;refine AB (k7 (s:={ s0 with heap:=h,toks:=tk }) (A:=A.in1) D (show d < h.objs.size from AM ld hlo) st ex ey λh' st' hp hk'=>?_);have hd':=hk' _ _ n1.symm n3.symm n4.symm n5.symm hd;have hp:CZ h' h.objs.size xs[k] ys[k]:=hp;show AW _ A.in1 (IH d (·.push (.ref h.objs.size)) >>= _) _ _ _;refine AB ?_;have oth:∀ b o,b≠d->h'.get? b=some o->(h'.update d (Ay (·.push (BJ h.objs.size)))).get? b=some o:=λb o nb e=>(BC _ _ (Aw nb)).trans e
  have hsz2:(h'.update d (Ay (·.push (BJ h.objs.size)))).objs.size=h'.objs.size:=Ei _ _ _;have hlt2:h.objs.size < h'.objs.size:=AJ hp;refine C7 hd' rfl (AF ⟨DC Fx _,?_⟩) (by simp[hl];lia) (by show ((ts.map BJ).toArray.push _).size<=AD+1;simp[hl];lia);have key:=ih (k+1) (h'.update d (Ay (·.push (BJ h.objs.size)))) tk (ts++[h.objs.size]) (c+1) ⋯ ⋯ ⋯ (st'.keep n1 n2 n3 n4 n5 n6 n7 λc o nc e=>oth c o nc e) (by simp[hl]) ⟨?_,λi t e=>?_⟩ ?_ (λc o c1 c2 c3 c4 c5 e=>oth c o c5 (hk' c o c1 c2 c3 c4 (hkp c o c1 c2 c3 c4 c5 e)))
  ·exact key
  ·rw[EV];refine⟨hts.nd,by simp,λa ha b hb=>?_⟩;rw[AI.mp hb];obtain⟨i,hi⟩:=List.getElem?_of_mem ha;obtain⟨_,x,y,_,_,q⟩:=hts.at_ i a hi;exact AZ (AJ q)
  ·rcases F6 i k with hi | hi | hi
   ·rw[BA ⋯]at e;obtain⟨q1,x,y,q2,q3,q4⟩:=hts.at_ i t e;exact⟨q1,x,y,q2,q3,oth _ _ (nn ld q1) (hk' _ _ (nn lz q1) (nn lT q1) (nn l1 q1) (nn l2 q1) q4)⟩
   ·subst hi;rw[CF ⋯,hl]at e;simp at e;subst e;exact⟨hlo,_,_,ex,ey,oth _ _ (nn ld hlo) hp⟩
   ·rw[CJ ↥2]at e;cases e
  ·have:=BM (Ay (·.push (BJ h.objs.size))) hd' rfl;rw[this];simp[Ay]
end
section
variable {prog:Ah}{w:A5}{A:BY}{E:AK->Ab->Prop}{s:Ab}{z TI TO i1 i2 a1 a2 d:Addr}{xs ys:Array AK}{n:Nat}
def jX(hT:s.TypeIs (.ref r) "zip")(h:Q true s):AW (model prog w) A (Cj (.ref r)) Q E s:=by
 refine AB (Bw (r:=none) hT (by rw[Dh];kernel_rfl) ?_)
 wp_delta
 exact AB (Bw (r:=none) hT (by rw[Dh];kernel_rfl) (AF h))
structure zU(z TI TO i1 i2 a1 a2:Addr)(xs ys:Array AK)(h:Heap):Prop where
 z:HE h z TI TO .none
 to:∃ a b,CZ h TO a b
 ti:CZ h TI (.ref i1) (.ref i2)
 s1:h.IsListIter i1 a1 0/\h.IsList a1 xs
 s2:h.IsListIter i2 a2 0/\h.IsList a2 ys
def zU.zq(st:zU z TI TO i1 i2 a1 a2 xs ys h):ZQ z TI TO i1 i2 a1 a2 d xs ys 0 h:=⟨.inl ⟨st.z,st.to⟩,st.ti,st.s1,st.s2⟩
def zU.keep(st:zU z TI TO i1 i2 a1 a2 xs ys h)(n1:z≠d)(n2:TI≠d)(n3:TO≠d)(n4:i1≠d)(n5:i2≠d)(n6:a1≠d)(n7:a2≠d)(kp:∀ c o,c≠d->h.get? c=some o->h'.get? c=some o):zU z TI TO i1 i2 a1 a2 xs ys h':=
 ⟨kp _ _ n1 st.z,(let ⟨a,b,e⟩:=st.to;⟨a,b,kp _ _ n3 e⟩),kp _ _ n2 st.ti,⟨st.s1.1.at λo e=>kp _ _ n4 e,st.s1.2.at λo e=>kp _ _ n6 e⟩,⟨st.s2.1.at λo e=>kp _ _ n5 e,st.s2.2.at λo e=>kp _ _ n7 e⟩⟩
def X7(hh:A.handled=none)(D:zk z TI TO i1 i2 a1 a2)(n1:z≠d)(n2:TI≠d)(n3:TO≠d)(n4:i1≠d)(n5:i2≠d)(n6:a1≠d)(n7:a2≠d)(hx:xs.size=n)(hy:ys.size=n)(hsz:n<=AD)(res:AK)(c₀:Nat)
  (st:zU z TI TO i1 i2 a1 a2 xs ys s.heap) (hS:s.heap.get? d=some { cls:=.type "list",data:=.seq #[] c₀ })
  (hR:∀ h' tk ts c,ts.length=n->Tps ts xs ys s.heap.objs.size h'->h'.get? d=some { cls:=.type "list",data:=.seq (ts.map BJ).toArray c }->(∀ c o,c≠z->c≠TO->c≠i1->c≠i2->c≠d->s.heap.get? c=some o->h'.get? c=some o)->R (.ok (.ret res)) { s with heap:=h',toks:=tk }) :
  AW (model prog w) A.in1 (Bz (.ref d) (.ref z) res)
   (λfin s'=>match fin with | .done f=>R (.ok f) s' | .again c'=>c'.quiet=true/\DM (model prog w) A c' R s') (λe s'=>R (.error e) s') s:=by
 have lz:z < s.heap.objs.size:=AJ st.z;have lT:TO < s.heap.objs.size:=by obtain⟨a,b,e⟩:=st.to;exact AJ e
 have l1:i1 < s.heap.objs.size:=by obtain⟨o,e,_⟩:=st.s1.1;exact AJ e
 have l2:i2 < s.heap.objs.size:=by obtain⟨o,e,_⟩:=st.s2.1;exact AJ e
 have ld:d < s.heap.objs.size:=AJ hS;have key:∀ (h:Heap) (c₁ tk:Nat),h.objs.size=s.heap.objs.size->zU z TI TO i1 i2 a1 a2 xs ys h->(∀ b o,b≠d->s.heap.get? b=some o->h.get? b=some o) ->
   h.get? d=some { cls:=.type "list",data:=.seq #[] c₁ }->DM (model prog w) A (.builtin "list.extend.loop" ⟨[.ref d,.ref z,res],[]⟩) R { s with heap:=h,toks:=tk }:=by
  intro h c₁ tk hz hst hk hS₁;exact eQ (lo:=s.heap.objs.size) hh D n1 n2 n3 n4 n5 n6 n7 hx hy hsz res lz lT l1 l2 ld hR n 0 h tk [] c₁ rfl (BO _) (EG hz.symm) hst.zq rfl ⟨FJ,λi t e=>by simp at e⟩ hS₁ λc o _ _ _ _ c5 e=>hk c o c5 e
 have ty:s.TypeIs (.ref z) "zip":=⟨_,st.z,rfl⟩
 unfold Bz;refine AB (Da (T:="zip") ty ?_);have h1:C4 (.ref d) (.ref z)=false:=by simp[C4,n1.symm]
 have h2:(CD "zip" == CD "list")=false:=by decide
 have h3:(CD "zip" == CD "tuple")=false:=by decide
 simp only[h1,h2,h3,JU,II,if_false];refine AB (FB st.z ?_);refine AB (BU (jX ty ?_));refine Fe (λ_=>?_) (λ_=>AF ⟨DC DG _,key _ c₀ _ rfl st (λb o _ e=>e) hS⟩);refine AB (Cf ?_);refine AB ?_;show AW _ _ (IH d (·.push .none) >>= λ_=>IH d (·.pop)) _ _ _;refine AB (C7 hS rfl ?_);have hS₂:=BM (Ay (·.push CB)) hS rfl;refine C7 (hz:=by seq_fits) hS₂ rfl ?_;have hS₃:=BM (Ay (·.pop)) hS₂ rfl;have oth:∀ b o,b≠d->s.heap.get? b=some o->((s.heap.update d (Ay (·.push CB))).update d (Ay (·.pop))).get? b=some o:=λb o hb e=>(BC _ _ (Aw hb)).trans ((BC _ _ (Aw hb)).trans e)
 exact AF ⟨DC DG _,key _ _ _ (by rw[Ei,Ei]) (st.keep n1 n2 n3 n4 n5 n6 n7 λc o hc e=>oth c o hc e) oth hS₃⟩
def fq(hh:A.handled=none)(D:zk z TI TO i1 i2 a1 a2)(n1:z≠d)(n2:TI≠d)(n3:TO≠d)(n4:i1≠d)(n5:i2≠d)(n6:a1≠d)(n7:a2≠d)(hx:xs.size=n)(hy:ys.size=n)(hsz:n<=AD)
  (st:zU z TI TO i1 i2 a1 a2 xs ys s.heap) (hS:s.heap.get? d=some { cls:=.type "list",data:=.seq #[] })
  (hR:∀ h' tk ts c,ts.length=n->Tps ts xs ys s.heap.objs.size h'->h'.get? d=some { cls:=.type "list",data:=.seq (ts.map BJ).toArray c }->(∀ c o,c≠z->c≠TO->c≠i1->c≠i2->c≠d->s.heap.get? c=some o->h'.get? c=some o)->R (.ok (.ret .none)) { s with heap:=h',toks:=tk }) :
  AW (model prog w) A.in1 (Builtin.«list.__init__» ⟨[.ref d,.ref z],[]⟩)
   (λfin s'=>match fin with | .done f=>R (.ok f) s' | .again c'=>c'.quiet=true/\DM (model prog w) A c' R s') (λe s'=>R (.error e) s') s:=by
 show AW _ _ (do let old ← GI (.ref d);Ks (.ref d) (λ_=>#[]);letGo old.toList.reverse;Bz (.ref d) (.ref z) .none) _ _ s;refine AB ?_;unfold GI;refine AB (Be hS rfl (AF ?_));show AW _ _ (IH d (λ_=>#[]) >>= λ_=>letGo (#[]:Array AK).toList.reverse >>= λ_=>Bz (.ref d) (.ref z) .none) _ _ s;refine AB (C7 hS rfl ?_);have hS₂:=BM (Ay (λ_=>(#[]:Array AK))) hS rfl;have oth:∀ b o,b≠d->s.heap.get? b=some o->(s.heap.update d (Ay (λ_=>(#[]:Array AK)))).get? b=some o:=
  λb o hb e=>(BC _ _ (Aw hb)).trans e
 refine AB (Ft ?_);refine X7 hh D n1 n2 n3 n4 n5 n6 n7 hx hy hsz .none _ (st.keep n1 n2 n3 n4 n5 n6 n7 λc o hc e=>oth c o hc e) hS₂ λh' tk ts c hl ht hd hk=>?_
 exact hR h' tk ts c hl ⟨ht.nd,λi t e=>by have:=ht.at_ i t e;rw[Ei]at this;exact this⟩ hd λc o c1 c2 c3 c4 c5 e=>hk c o c1 c2 c3 c4 c5 (oth c o c5 e)
def oW(hh:A.handled=none)(D:zk z TI TO i1 i2 a1 a2)(hx:xs.size=n)(hy:ys.size=n)(hsz:n<=AD)(st:zU z TI TO i1 i2 a1 a2 xs ys s.heap)
  (hQ:∀ h' tk ts c,ts.length=n->Tps ts xs ys (s.heap.objs.size+1) h'->h'.get? s.heap.objs.size=some { cls:=.type "list",data:=.seq (ts.map BJ).toArray c }->(∀ c o,c≠z->c≠TO->c≠i1->c≠i2->s.heap.get? c=some o->h'.get? c=some o)->Q (.ref s.heap.objs.size) { s with heap:=h',toks:=tk }) :
  AW (model prog w) A (call (.type "list") [.ref z]) Q E s:=by
 refine Hh (Q₁:=λobj s₁=>obj=.ref s.heap.objs.size/\s₁={ s with heap:=s.heap.push { cls:=.type "list",data:=.seq #[] } }) HX (Gs _) Gu
  (LY _ ⟨rfl,rfl⟩) λobj s₁ h₁=>?_
 obtain⟨rfl,rfl⟩:=h₁;have hS:(s.heap.push { cls:=.type "list",data:=.seq #[] }).get? s.heap.objs.size=some { cls:=.type "list",data:=.seq #[] }:=AN _ rfl;have up:∀ c o,s.heap.get? c=some o->(s.heap.push { cls:=.type "list",data:=.seq #[] }).get? c=some o:=λc o e=>AC _ e
 have lt:∀ {b:Addr} {o:Obj},s.heap.get? b=some o->b≠s.heap.objs.size:=λe=>AZ (AJ e)
 have m1:=lt st.z;have m2:=lt st.ti;have m3:TO≠s.heap.objs.size:=by obtain⟨a,b,e⟩:=st.to;exact lt e
 have m4:i1≠s.heap.objs.size:=by obtain⟨o,e,_⟩:=st.s1.1;exact lt e
 have m5:i2≠s.heap.objs.size:=by obtain⟨o,e,_⟩:=st.s2.1;exact lt e
 have m6:a1≠s.heap.objs.size:=by obtain⟨o,e,_⟩:=st.s1.2;exact lt e
 have m7:a2≠s.heap.objs.size:=by obtain⟨o,e,_⟩:=st.s2.2;exact lt e
 refine⟨⟨_,hS,rfl⟩,Gi _ _,fq (A:=A.in1) hh D m1 m2 m3 m4 m5 m6 m7 hx hy hsz (st.keep m1 m2 m3 m4 m5 m6 m7 λc o _ e=>up c o e) hS λh' tk ts c hl ht hd hk=>?_⟩;refine⟨rfl,hQ h' tk ts c hl ⟨ht.nd,λi t e=>by have:=ht.at_ i t e;rw[BW]at this;exact this⟩ hd λc o c1 c2 c3 c4 e=>hk c o c1 c2 c3 c4 (lt e) (up c o e)⟩
end
open PySem PySem.Spec PyProof.Rows
section
variable {X:Cx}
def ABW (K:AY) (ta:TA):TE:=λσ H Q=>ta σ H λvs H1=>∃ (a1 a2:Addr) (xs ys:List V),vs=[.ref a1,.ref a2]/\vz K H1 a1 xs/\vz K H1 a2 ys/\xs.length=ys.length /\
 ∀ (l:Addr) (ts:List Addr) (H2:Hp),H1 l=none->(∀ b o,H1 b=some o->H2 b=some o)->ts.length=xs.length->(∀ (i:Nat) t x y,ts[i]?=some t->xs[i]?=some x->ys[i]?=some y->H2 t=some (.tup [x,y]))->H2 l=some (.lst (ts.map V.ref))->Q (.ref l) H2
theorem Uz{β:Type}:∀ (ts:List Addr) zs (i:Nat) t (z:β),ts.Nodup->ts[i]?=some t->zs[i]?=some z->(ts.zip zs).lookup t=some z
 | [],_,_,_,_,_,e,_ | _::_,[],_,_,_,_,_,e=>by simp at e
 | a::ts,b::zs,0,t,z,_,e,e'=>by simp at e e';subst e e';simp
 | a::ts,b::zs,i+1,t,z,nd,e,e'=>by
  have nd':=BG.mp nd;have ne:t≠a:=λq=>nd'.1 (q ▸ CS e)
  have:(t == a)=false:=by simpa using ne
  rw[EH,Bb,this];exact Uz ts zs i t z nd'.2 e e'
theorem OR{β:Type}:∀ (ts:List Addr) zs t (z:β),(ts.zip zs).lookup t=some z->∃ i:Nat,ts[i]?=some t/\zs[i]?=some z
 | [],_,_,_,e | _::_,[],_,_,e=>by simp at e
 | a::ts,b::zs,t,z,e=>by
  rw[EH,Bb]at e;by_cases h:t=a
  ·subst h;simp at e;subst e;exact⟨0,rfl,rfl⟩
  ·have:(t == a)=false:=by simpa using h
   rw[this]at e;obtain⟨i,h1,h2⟩:=OR ts zs t z e;exact⟨i+1,by simpa using h1,by simpa using h2⟩
theorem Uj:∀ ts:List Addr,uU (ts.map V.ref) (ts.map BJ)
 | []=>.nil
 | _::r=>.cons rfl (Uj r)
def Zd(hr:X.A.handled=none)(hg0:Gl X "list")(hm0:X.mg "list"=none)(hg1:Gl X "zip")(hm1:X.mg "zip"=none)(ha:PA X [e1,e2] ta)
  (hs:AQ [e1,e2] X.env=[(false,eval e1 X.env),(false,eval e2 X.env)]:=by rfl) (hs2:AQ [e2] X.env=[(false,eval e2 X.env)]:=by rfl)
  (hs3:AQ [.Call (.Name "zip" p1) [e1,e2] [] pos1] X.env=[(false,eval (.Call (.Name "zip" p1) [e1,e2] [] pos1) X.env)]:=by rfl) :
  PE X (.Call (.Name "list" p0) [.Call (.Name "zip" p1) [e1,e2] [] pos1] [] pos0) (ABW X.K ta):=by
 intro pins s σ H Q I h;refine F9 (L3 I hg0 hm0 EI (An (Cm (F9 (L3 I hg1 hm1 K5 (An (vB (ha pos1 pins s σ H _ I h) λus s1 ⟨vs,H1,I1,r1,q1⟩=>?_) (by simp_all) (by rw[hs2];rfl))))) hs3 rfl));obtain⟨a1,a2,xs,ys,rfl,h1,h2,hlen,q⟩:=q1;obtain⟨u1,u2,rfl,r,r'⟩:=vals2 r1;cases r;cases r';obtain⟨its1,v1,pl1,z1⟩:=I1.list h1;obtain⟨its2,v2,pl2,z2⟩:=I1.list h2;have o1:=pl1.isList;have o2:=pl2.isList;have lt1:a1 < s1.heap.objs.size:=by obtain⟨o,e,_⟩:=o1;exact AJ e
 have lt2:a2 < s1.heap.objs.size:=by obtain⟨o,e,_⟩:=o2;exact AJ e
 have D:zk (s1.heap.objs.size+4) (s1.heap.objs.size+2) (s1.heap.objs.size+3) s1.heap.objs.size (s1.heap.objs.size+1) a1 a2:=
  ⟨IU lt1 lt2,AZ (AM lt1 (Av _ 2)),AZ (AM lt2 (Av _ 2))⟩
 have l1:=v1.length;have l2:=v2.length;refine call_zip_2 o1 o2 λh' hz hTI hTO it1 it2 hsz5 hk=>Ct (oW hr D ↥2 ↥2 z1 ⟨hz,⟨_,_,hTO⟩,hTI,⟨it1,o1.at λo e=>hk _ _ e⟩,⟨it2,o2.at λo e=>hk _ _ e⟩⟩ λh2 tk ts c tl tp hd kp=>?_)
 have kk:∀ b o,s1.heap.get? b=some o->h2.get? b=some o:=λb o e=>by
  have hb:=AJ e;exact kp b o (AZ (AM hb (Av _ _))) (AZ (AM hb (Av _ _))) (AZ hb) (AZ (AM hb (Av _ _))) (hk b o e)
 have hlF:s1.heap.objs.size<=h'.objs.size:=by rw[hsz5];exact Av _ _
 have fl:=I1.hok.fresh hlF;have tge:=λi t e=>(tp.at_ i t e).1
 have ft:=λi t e=>I1.hok.fresh (Aa hlF (Aa (FO _) (tge i t e)))
 let H2:Hp:=λb=>if b=h'.objs.size then some (.lst (ts.map V.ref)) else match (ts.zip (xs.zip ys)).lookup b with
  | some p=>some (.tup [p.1,p.2])
  | none=>H1 b
 have eL:H2 h'.objs.size=some (.lst (ts.map V.ref)):=if_pos rfl;have eN:∀ b,b≠h'.objs.size->(ts.zip (xs.zip ys)).lookup b=none->H2 b=H1 b:=λb n1 n2=>by
  show (if b=h'.objs.size then _ else _)=_;rw[if_neg n1,n2]
 have eT:∀ b p,b≠h'.objs.size->(ts.zip (xs.zip ys)).lookup b=some p->H2 b=some (.tup [p.1,p.2]):=λb p n1 n2=>by
  show (if b=h'.objs.size then _ else _)=_;rw[if_neg n1,n2]
 have old:∀ b o,H1 b=some o->H2 b=some o:=λb o e=>by
  refine (eN b (λz=>by rw[z,fl]at e;cases e) ?_).trans e;cases hq:(ts.zip (xs.zip ys)).lookup b with
  | none=>rfl
  | some p =>
   obtain⟨i,q1,_⟩:=OR ts _ b p hq;rw[ft i b q1]at e;cases e
 have zget:∀ i x y,xs[i]?=some x->ys[i]?=some y->(xs.zip ys)[i]?=some (x,y):=λi x y e1 e2=>by
  rw[CL];exact⟨e1,e2⟩
 have tups:=λi t x y e0 e1 e2=>eT t (x,y) ((λi t e=>BK (tge i t e)) i t e0) (Uz ts _ i t (x,y) tp.nd e0 (zget i x y e1 e2))
 refine⟨.ref h'.objs.size,H2,I1.un ?_ ?_,rfl,q _ ts H2 fl old tl tups eL⟩
 ·exact {
   keep:=λb o e n _ _=>kk b o e
   slot:=λb o e n _ _=>⟨o.slots,kk b o e⟩
   free:=λb o e n _=>by
    have hb:=AJ e;refine (eN b (AZ (AM hb hlF)) ?_).trans n;cases hq:(ts.zip (xs.zip ys)).lookup b with
    | none=>rfl
    | some p =>
     obtain⟨i,q1,_⟩:=OR ts _ b p hq;exact absurd (AM hb (Aa hlF (Aa (FO _) (tge i b q1)))) (A8 _)
   there:=λb o e _=>⟨o,kk b o e⟩
   tups:=λb xs e=>old b _ e
   frzs:=λb o u e=>old b _ e
   tbls:=λb ps e=>⟨#[],by rw[old b _ e];simp⟩ }
 ·intro b o e;by_cases hb:b=h'.objs.size
  ·subst hb;rw[eL]at e;cases e;exact⟨by rw[AV,tl];exact z1,ts.map BJ,c,Uj ts,hd⟩
  ·cases hq:(ts.zip (xs.zip ys)).lookup b with
   | some p =>
    rw[eT b p hb hq]at e;cases e;obtain⟨i,q1,q2⟩:=OR ts _ b p hq;obtain⟨_,xv,yv,q3,q4,q5⟩:=tp.at_ i b q1;rw[CL]at q2;obtain⟨g1,g2⟩:=q2;obtain⟨uv,g3,g4⟩:=v1.get g1;obtain⟨wv,g5,g6⟩:=v2.get g2;rw[Hi]at q3 q4;rw[g3]at q3;cases q3;rw[g5]at q4;cases q4;exact⟨by show 2<=AD;decide,[_,_],.cons g4 (.cons g6 .nil),⟨_,q5,rfl,⟨_,rfl⟩,rfl⟩⟩
   | none =>
    rw[eN b hb hq]at e;exact (I1.hok b o e).stay (λd u _ q=>kk d u q) (λd q=>old _ _ q) (λd xs q=>old _ _ q)
end
end L2
namespace D
open PySem L2
noncomputable def zv (fa:DA):DE:=λΓ=>(fa Γ).bind λp=>match p.1 with
 | [a,b]=>(ux p.2 a).bind λxs=>(ux p.2 b).bind λys=>if xs.length=ys.length then some (.l (xW xs ys),p.2) else none
 | _=>none
theorem Vp:∀ {vs us xs ys} {ts:List Addr},uh K H vs xs->uh K H us ys->vs.length=us.length->ts.length=vs.length->(∀ (i:Nat) t x y,ts[i]?=some t->vs[i]?=some x->us[i]?=some y->H t=some (.tup [x,y]))->uh K H (ts.map V.ref) (xW xs ys)
 | _,_,[],_,ts,h1,_,_,hl,_=>by
  rw[h1.inv0]at hl;obtain rfl:ts=[]:=Cd.mp ‹_›;exact .nil
 | _,_,x::xs,[],ts,h1,h2,he,_,_=>by
  rw[h1.len,h2.len]at he;simp at he
 | _,_,x::xs,y::ys,[],h1,_,_,hl,_=>by
  rw[h1.len]at hl;simp at hl
 | _,_,x::xs,y::ys,t::ts,h1,h2,he,hl,hT=>by
  obtain⟨v,r,rfl,g1,g2⟩:=h1.inv;obtain⟨u,r',rfl,g3,g4⟩:=h2.inv;exact .cons (.tup (hT 0 t v u rfl rfl rfl) (.cons g1 (.cons g3 .nil))) (Vp g2 g4 (by simpa using he) (by simpa using hl) λi t' x' y' e1 e2 e3=>hT (i+1) t' x' y' ‹_› ‹_› ‹_›)
def Yy(ha:wD K ta fa):uj K (ABW K ta) (zv fa):=by
 intro C w Γ σ H s Γ' Q R e k;obtain⟨⟨as,G1⟩,e1,e⟩:=uJ e;dsimp only at e;split at e
 ·obtain⟨xs,e2,e⟩:=uJ e;obtain⟨ys,e3,e⟩:=uJ e;split at e
  ·rename_i hlen;cases e;refine ha C w Γ σ H _ _ _ R e1 λvs H1 R1 ev1 o1 n1=>?_
   obtain⟨v,u,rfl,o2,o3⟩:=wx o1;obtain⟨p,us,rfl,h1,i1⟩:=L8 R1 o2 e2;obtain⟨p',us',rfl,h2,i2⟩:=L8 R1 o3 e3;have hll:us.length=us'.length:=by rw[i1.len,i2.len];exact hlen
   refine⟨p,p',us,us',rfl,h1,h2,hll,λl ts H2 hl old tl tups eL=>?_⟩;have evo:vG w.L H1 H2:=λb o h _=>old b o h
   obtain⟨fa1,fb,fc⟩:=R1.fresh hl;refine k _ _ (R1.evo0 old) (ev1.trans evo) ⟨l,ts.map V.ref,rfl,fa1,fb,fc,eL,Vp (i1.evo evo R1.lst) (i2.evo evo R1.lst) hll tl tups⟩ ⟨l,rfl,Me ev1 R1.lst hl⟩
  ·cases e
 ·cases e
section
variable {ι:Type}{K:Fg}{X:ι->Cx}{mg:Str->Option AK}{k:Nat}{a b:Expr}{da:DA}{Γ:En}
def jl(M:Fm K mg k X)(hm0:mg "list"=none)(hm1:mg "zip"=none)(ha:AX K X [a,b] da)(hg0:∀ j,Gl (X j) "list":=by intro _;rfl)(hg1:∀ j,Gl (X j) "zip":=by intro _;rfl)
  (hs:∀ j,AQ [a,b] (X j).env=[(false,eval a (X j).env),(false,eval b (X j).env)]:=by intro _;rfl) (hs2:∀ j,AQ [b] (X j).env=[(false,eval b (X j).env)]:=by intro _;rfl)
  (hs3:∀ j,AQ [.Call (.Name "zip" p1) [a,b] [] pos1] (X j).env=[(false,eval (.Call (.Name "zip" p1) [a,b] [] pos1) (X j).env)]:=by intro _;rfl) :
  EX K X (.Call (.Name "list" p0) [.Call (.Name "zip" p1) [a,b] [] pos1] [] pos0) (zv da):=
 let ⟨t,q,u⟩:=ha;⟨ABW K t,λj=>by have:=Zd (p0:=p0) (p1:=p1) (pos0:=pos0) (pos1:=pos1) (M.room j).hd (hg0 j) (by rw[M.mg];exact hm0) (hg1 j) (by rw[M.mg];exact hm1) (q j) (hs j) (hs2 j) (hs3 j);rw[M.K j]at this;exact this,Yy u⟩
@[simp] theorem qj:zv da Γ=(da Γ).bind λp=>match p.1 with
 | [a,b]=>(ux p.2 a).bind λxs=>(ux p.2 b).bind λys=>if xs.length=ys.length then some (.l (xW xs ys),p.2) else none
 | _=>none:=(rfl)
end
noncomputable abbrev vh (x:Str) (s:Stmt):Str×Stmt:=(x,s)
def WrK (K:Fg) (q:Str×Stmt):Prop:=∃ f fd,Ci K Ao q.1=some (some (.ref f))/\Fun K q.1 q.1 q.2 f fd
noncomputable def AllK (K:Fg):List (Str×Stmt)->Prop
 | []=>True
 | q::r=>WrK K q/\AllK K r
noncomputable def ZK (K:Fg):List Str->Prop
 | []=>True
 | x::r=>Ci K Ao x=some none/\ZK K r
def Wx (K:Fg) (mg:Str->Option AK) (x:Str) (st:Stmt):Prop:=∃ f fd,Ci K Ao x=some (some (.ref f))/\Fun K x x st f fd/\mg x=some (.ref f)
noncomputable def WxO (K:Fg) (mg:Str->Option AK):Option (Str×Stmt)->Prop
 | some q=>Wx K mg q.1 q.2
 | none=>True
section
variable {P:Ah}{wd:A5}{base h:Heap}{K:Fg}{mg:Str->Option AK}{k:Nat}{x:Str}{st:Stmt}{ip:Option Nat}{N ps:List Str}{g:DS}
def wrK{oc od an osl kV doc pm cdv ct}(a:Ci K Ao x=some (some (.ref f)))(l:K.lookup f=some ⟨oc,od,.func (Bj x x (vL st) (uq st) (uK st) .none kV doc pm an cdv ct),osl⟩)
  (c:CY K cdv x=true) (k:BZ K (.ref f)=true):WrK K (x,st):=⟨f,_,a,XR l c k⟩
theorem AllK.at(X:K.In h)(G:h.Ns Ao mg):∀ {l} (_:AllK K l) (i:Nat),WxO K mg l[i]?
 | [],_,_=>trivial
 | _::_,⟨⟨f,fd,a,F⟩,_⟩,0=>⟨f,fd,a,F,Gj X G a⟩
 | _::_,⟨_,r⟩,i+1=>r.at X G i
theorem ZK.at(X:K.In h)(G:h.Ns Ao mg):∀ {l} (_:ZK K l) x,l.elem x=true->mg x=none
 | [],_,_,e=>nomatch e
 | y::r,⟨a,z⟩,x,e=>by
  rw[List.elem_cons]at e;split at e
  ·rename_i h;rw[eq_of_beq h];exact PySem.W.mg_none_of X G a
  ·exact z.at X G x e
def Wx.nk(w:Wx K mg x st):NK K mg x:=let ⟨f,_,a,_,m⟩:=w;⟨f,a,m⟩
def um(w:Wx K mg x st)(S:uN N ps (uK st))
  (body:∀ cdv f A outer s H E,N.Nodup->Fm K mg k (cx1 P wd K mg base N x (uK st) f cdv A outer s H E)->Fb P wd base (cx1 P wd K mg base N x (uK st) f cdv A outer s H E)->BX K (cx1 P wd K mg base N x (uK st) f cdv A outer s H E) ip (uq st) g:=by walk_at "d")
  (hb:∀ kV doc pm an cdv ct us,us.length=ps.length->Fl (Bj x x (vL st) (uq st) (uK st) .none kV doc pm an cdv ct) ⟨us,[]⟩=pure (ps.zip us):=by walk_at "b") :
  FD P wd K mg base (k+1) x ip ps.length (ua ip ps.length N.length g):=by
 obtain⟨f,fd,a,F,m⟩:=w;exact lj F S m (F.binds hb) λc A o s H E i j=>body c f A o s H E S.nd i j
theorem Mq{F:Nat->DF}{n}(w:Wx K mg x st)(S:uN N ps (uK st))(h0:F 0=λ_=>none)(hn:ps.length=n)(step:∀ m,FD P wd K mg base (k+m) x ip n (F m)->FD P wd K mg base (k+m+1) x ip n (F (m+1)))
  (hb:∀ kV doc pm an cdv ct us,us.length=ps.length->Fl (Bj x x (vL st) (uq st) (uK st) .none kV doc pm an cdv ct) ⟨us,[]⟩=pure (ps.zip us):=by walk_at "b"):∀ m,FD P wd K mg base (k+m) x ip n (F m)
 | 0=>by
  obtain⟨f,fd,a,F,m⟩:=w;rw[h0];exact bP F m (F.binds hb) hn
 | m+1=>step m (Mq w S h0 hn step hb m)
def pE{fa}{l:Eh}{v0}(w:Wx K mg x st)(hfa:mg x=some (.ref fa))(hb:∀ kV doc pm an cdv ct v,Fl (Bj x x (vL st) (uq st) (uK st) .none kV doc pm an cdv ct) ⟨[v],[]⟩=pure [(v0,v)])
  (body:∀ f fd base,Fun K x x st f fd->wM l.prog wd K mg base yd n f fd [v0] (y8 K none 1 F)) :
  ∃ fd,(∀ s v,Gc s fd ⟨[v],[]⟩ [(v0,v)])/\∀ base,K.In base->base.Ns Ao mg->wM l.prog wd K mg base yd n fa fd [v0] (y8 K none 1 F):=by
 obtain⟨f,fd,a,F0,m⟩:=w;rw[m]at hfa;cases hfa;refine⟨fd,λs v=>?_,λbase _ _=>body _ fd base F0⟩;obtain⟨oc,od,kV,doc,pm,an,cdv,ct,osl,rfl,lk,hcd⟩:=F0.ex;exact .of_eq (hb kV doc pm an cdv ct v)
end
end D
namespace Lw
open PySem.W (mg_of mg_none_of nsIn fnOf)
open PyProof.Rows (boot_all boot_bool boot_isinstance boot_list boot_max boot_min boot_sorted boot_sum boot_tuple)
open PySem L2 D
local macro_rules | `(%[$x|0]) => `(jW $x qQ) | `(%[$x,$xs,*|0]) => `(jW $x %[$xs,*|0])
local macro_rules | `(↑$n:num) => `(dC (.int $n))
def vc (i:Nat):Stmt:=PySem.Challenge.pw_fivecups_k66_whole_three_cups_and_five.main.body.getD i (.Pass ⟨0,0,0,0⟩)
noncomputable section
variable {P:Ah}{wd:A5}{K:AY}{mg:Str->Option AK}{base:Heap}
noncomputable def OD:T:=.t (([1,3,0,4,2]:List Int).map V.int |>.map T.a)
noncomputable def Mm:T:=.t (([0,2,1]:List Int).map V.int |>.map T.a)
noncomputable def Nj:T:=.t (([1,2,3,4,0]:List Int).map V.int |>.map T.a)
noncomputable def N7:List (Int×T):=[(1,.t (([1,2,0]:List Int).map V.int |>.map T.a)),(2,.t (([2,0,1]:List Int).map V.int |>.map T.a))]
noncomputable abbrev yw:List (List vT):=[[.inl 0,.inl 2,.inl 1],[.inl 1,.inl 2,.inl 0],[.inl 2,.inl 0,.inl 1],[.inl 1,.inl 2,.inl 3,.inl 4,.inl 0],[.inl 1,.inl 3,.inl 0,.inl 4,.inl 2],[.inl 128]]
abbrev Nr:Nat:=12
abbrev RC:Nat:=12
abbrev M3:Nat:=12
abbrev Rh:Nat:=12
abbrev Os:Nat:=12
abbrev NB:Nat:=12
abbrev N6:Nat:=12
local macro_rules | `(tactic| walk_at "s") => `(tactic| exact ⟨rfl,rfl,rfl,by decide +kernel,rfl,by decide +kernel,by decide +kernel⟩)
abbrev AFD:Stmt:=vc 71
def AGu:uN ["_law_script","_law_k","_law_cell","_law_seed"] ["_law_script","_law_k"] (uK AFD):=↥6
noncomputable def d_7:DS:=uO (uS 2 (uM ur (uM vp ↑7919 (jV 1)) ↑11))
 (uO (vd (uQ (uM ltS (jV 1) (vO vX %[jV 0|0]))) (uS 2 (uM uW (jV 0) (jV 1))) (vd (uQ (uM zo (vO vX %[jV 0|0]) ↑0)) (uS 2 (uM ur (jV 2) (uM vp (uM xV (uM uW (jV 0) (uM xV (jV 1) (vO vX %[jV 0|0]))) ↑2147483629) ↑69623))) uX))
 (uO (uS 3 (uM ur (uM xV (uM ur (uM vp (uM xV (jV 2) ↑2147483629) ↑48271) (uM vp ↑40692 (jV 1))) ↑2147483629) ↑1))
 (uT (vR %[uM uW (vR %[↑0,jV 2|0]) (vO ABD %[uM geS (jV 2) (uM ADS ↑10 ↑18)|0]),jV 3|0]))))
noncomputable def F_7:DF:=ua none 2 4 d_7
abbrev AFe:Stmt:=vc 72
def AGY:uN ["_law_box_here","_law_wide","_law_digit","_law_one"] ["_law_box_here","_law_wide"] (uK AFe):=↥6
noncomputable def d_8:DS:=uO (vd (uQ (uM zo (uM uW (jV 0) ↑0) ↑0)) (uO (uS 2 (uM xV (uM uW (jV 0) ↑0) (jV 1)))
 (uO (yH 0 (uM xP (uM uW (jV 0) ↑0) (jV 1)) ↑0)
 (uT (jV 2)))) uX)
 (uO (uS 3 (uM xV (uM vp (uM uW (jV 0) ↑1) ↑69623) ↑2147483647))
 (uO (yH 0 (uM ur (uM xV (uM ur (uM vp (jV 3) ↑48271) ↑30103) ↑2147483629) ↑1) ↑1)
 (uT (uM xV (uM xP (uM ur (uM vp (jV 3) ↑2147483647) (uM uW (jV 0) ↑1)) ↑8191) (jV 1)))))
noncomputable def zd:DF:=ua (some 0) 2 4 d_8
abbrev AEu:Stmt:=vc 78
def AFs:uN ["_law_box_here","_law_questions","_law_room","_law_down","_law_form","_law_first","_law_one","_law_second","_law_other","_law_head"] ["_law_box_here","_law_questions","_law_room","_law_down"] (uK AEu):=↥6
noncomputable def d_2 (rec:DF):DS:=uO (uS 4 (uL (some 0) zd [] %[jV 0,↑10|0]))
 (uO (vd (dOr (uQ (uM ltS (jV 2) ↑2)) (dOr (uQ (uM ltS (jV 3) ↑2)) (uQ (uM v5 (jV 4) ↑0)))) (uT (uM uW (vR %[(ue %[dC (.str "ask"),uL (some 0) zd [] %[jV 0,jV 1|0]|0]),ue %[dC (.str "yes")|0],ue %[dC (.str "no")|0]|0]) (vO ya %[↑0,uM vW (uL (some 0) zd [] %[jV 0,↑8|0]) ↑5|0]))) uX)
 (uO (vd (dOr (uQ (uM ltS (jV 4) ↑3)) (uQ (uM ltS (jV 2) ↑3))) (uT (ue %[dC (.str "not"),uL (some 0) rec [] %[jV 0,jV 1,uM vW (jV 2) ↑1,uM vW (jV 3) ↑1|0]|0])) uX)
 (uO (uS 5 (uM ur ↑1 (uL (some 0) zd [] %[jV 0,uM vW (jV 2) ↑2|0])))
 (uO (uS 6 (uL (some 0) rec [] %[jV 0,jV 1,jV 5,uM vW (jV 3) ↑1|0]))
 (uO (vd (yD (uQ (uM v5 (jV 4) ↑9)) (yD (uQ (uM zo (jV 2) ↑3)) (uQ (uM ltS (jV 5) (uM vW (jV 2) ↑2))))) (uO (uS 7 (uM ur ↑1 (uL (some 0) zd [] %[jV 0,uM vW (uM vW (jV 2) ↑2) (jV 5)|0])))
 (uO (uS 8 (uL (some 0) rec [] %[jV 0,jV 1,jV 7,uM vW (jV 3) ↑1|0]))
 (uT (ue %[dC (.str "most"),jV 6,jV 8,uL (some 0) rec [] %[jV 0,jV 1,uM vW (uM vW (uM vW (jV 2) ↑1) (jV 5)) (jV 7),uM vW (jV 3) ↑1|0]|0])))) uX)
 (uO (uS 9 (uM uW (vR %[dC (.str "and"),dC (.str "or"),dC (.str "either")|0]) (uM xV (jV 4) ↑3)))
 (uT (ue %[jV 9,jV 6,uL (some 0) rec [] %[jV 0,jV 1,uM vW (uM vW (jV 2) ↑1) (jV 5),uM vW (jV 3) ↑1|0]|0]))))))))
noncomputable def F_2:Nat->DF
 | 0=>λ_=>none
 | n+1=>ua (some 0) 4 10 (d_2 (F_2 n))
abbrev AEm:Stmt:=vc 81
def AEv:uN ["_law_box_here","_law_questions","_law_most","_law_down","_law_form","_law_head","_law_room","_law_last","_law_third","_law_first","_law_one"] ["_law_box_here","_law_questions","_law_most","_law_down"] (uK AEm):=↥6
noncomputable def d_4 (rec:DF):DS:=uO (uS 4 (uL (some 0) zd [] %[jV 0,↑8|0]))
 (uO (vd (dOr (uQ (uM ltS (jV 2) ↑4)) (dOr (uQ (uM ltS (jV 3) ↑2)) (uQ (uM v5 (jV 4) ↑0)))) (uT (uL (some 0) (F_2 M3) [] %[jV 0,jV 1,↑1,↑1|0])) uX)
 (uO (vd (uQ (uM v5 (jV 4) ↑1)) (uT (ue %[dC (.str "not"),uL (some 0) rec [] %[jV 0,jV 1,jV 2,uM vW (jV 3) ↑1|0]|0])) uX)
 (uO (AAZ 5 6 7 %[uM uW (vR %[dC (.str "and"),dC (.str "or")|0]) (uM xV (jV 4) ↑2),uM xP (jV 2) ↑2,ue qQ|0])
 (uO (vd (yD (uQ (uM v5 (jV 4) ↑4)) (uQ (uM zo (jV 2) ↑15))) (AAS 5 6 %[dC (.str "either"),uM xP (jV 2) ↑8|0]) uX)
 (uO (vd (yD (uQ (uM ltS (jV 4) ↑4)) (uQ (uM zo (jV 2) ↑27))) (uO (uS 8 (uM ur ↑1 (uL (some 0) zd [] %[jV 0,uM xP (uM vW (jV 2) ↑24) ↑4|0])))
 (uO (AAS 5 6 %[dC (.str "most"),uM xP (uM vW (jV 2) (uM vp ↑4 (jV 8))) ↑12|0])
 (uS 7 (ue %[uL (some 0) rec [] %[jV 0,jV 1,jV 8,uM vW (jV 3) ↑1|0]|0])))) uX)
 (uO (uS 9 (uM ur ↑1 (uL (some 0) zd [] %[jV 0,uM vW (jV 6) ↑1|0])))
 (uO (uS 10 (uL (some 0) rec [] %[jV 0,jV 1,jV 9,uM vW (jV 3) ↑1|0]))
 (uT (uM ur (ue %[jV 5,jV 10,uL (some 0) rec [] %[jV 0,jV 1,uM vW (jV 6) (jV 9),uM vW (jV 3) ↑1|0]|0]) (jV 7))))))))))
noncomputable def F_4:Nat->DF
 | 0=>λ_=>none
 | n+1=>ua (some 0) 4 11 (d_4 (F_4 n))
noncomputable def PL (rec:DF):DE:=uL none rec [] %[jV 0|0]
noncomputable def Qx (rec:DF):DT:=wc (vO xf %[jV 0,dC (.ty "tuple")|0])
abbrev AFA:Stmt:=vc 79
def ADz:uN ["_law_saying_here","_law_some"] ["_law_saying_here"] (uK AFA):=↥6
noncomputable def d_5 (rec:DF):DS:=uO (uS 1 (u7 none [none] (u9 (dSl (jV 0) (wq ↑1) vj)) (uP 0) ((Qx rec)) ((PL rec))))
 (uO (vd (uQ (uM (inS false) (uM uW (jV 0) ↑0) (ue %[dC (.str "yes"),dC (.str "no"),dC (.str "ask")|0]))) (uT ↑1) uX)
 (uO (vd (uQ (uM v5 (uM uW (jV 0) ↑0) (dC (.str "not")))) (uT (uM uW (jV 1) ↑0)) uX)
 (uO (vd (uQ (uM v5 (uM uW (jV 0) ↑0) (dC (.str "most")))) (uT (uM ur (uM vp ↑12 (uM ur (uM uW (jV 1) ↑0) (uM uW (jV 1) ↑1))) (uM vp ↑4 (uM uW (jV 1) ↑2)))) uX)
 (uT (uM vp (uM ur (uM uW (jV 1) ↑0) (uM uW (jV 1) ↑1)) (uM uW (vR %[↑2,↑8|0]) (vO ABD %[uM v5 (uM uW (jV 0) ↑0) (dC (.str "either"))|0])))))))
noncomputable def F_5:Nat->DF
 | 0=>λ_=>none
 | n+1=>ua none 1 2 (d_5 (F_5 n))
noncomputable def OY (rec:DF):DE:=uL none rec [] %[jV 0|0]
noncomputable def Q7 (rec:DF):DT:=wc (vO xf %[jV 0,dC (.ty "tuple")|0])
abbrev AFl:Stmt:=vc 80
def AFV:uN ["_law_saying_here"] ["_law_saying_here"] (uK AFl):=↥6
noncomputable def d_1 (rec:DF):DS:=uT (uM ur ↑1 (vO ABw %[u7 none [none] (u9 (dSl (jV 0) (wq ↑1) vj)) (uP 0) ((Q7 rec)) ((OY rec))|0]))
noncomputable def F_1:Nat->DF
 | 0=>λ_=>none
 | n+1=>ua none 1 1 (d_1 (F_1 n))
noncomputable def NP:DT:=dOr (uQ (uM zo (uL none (F_5 NB) [] %[jV 4|0]) (jV 3))) (uQ (uM zo (uL none (F_1 RC) [] %[jV 4|0]) (jV 2)))
noncomputable def OV:DS:=uS 4 (uM uW (jV 4) (uM ur ↑1 (uL (some 0) zd [] %[jV 0,uM vW (vO vX %[jV 4|0]) ↑1|0])))
abbrev AGC:Stmt:=vc 82
def AGZ:uN ["_law_box_here","_law_questions","_law_room","_law_most","_law_found"] ["_law_box_here","_law_questions","_law_room","_law_most"] (uK AGC):=↥6
noncomputable def d_9:DS:=uO (uS 4 (uL (some 0) (F_2 M3) [] %[jV 0,jV 1,jV 2,↑5|0]))
 (uO (vd (uQ (uM v5 (uL (some 0) zd [] %[jV 0,↑2|0]) ↑0)) (uS 4 (uL (some 0) (F_4 Os) [] %[jV 0,jV 1,jV 3,↑5|0])) uX)
 (uO (vH (NP) (OV) wY)
 (uT (jV 4))))
noncomputable def F_9:DF:=ua (some 0) 4 5 d_9
noncomputable def QN:DS:=yH 4 (uM uW (jV 3) (uM xV (uM ur (jV 5) ↑1) (jV 1))) (jV 6)
noncomputable def OJ:DT:=uQ (uM zo (vO vX %[jV 2|0]) ↑0)
noncomputable def Om:DS:=wA (vb 3 vV %[(vb 2 yb %[(uL (some 0) zd [] %[jV 0,vO vX %[jV 2|0]|0])|0])|0])
abbrev SI:Stmt:=vc 75
def lO:uN ["_law_box_here","_law_cups","_law_left","_law_row","_law_found","_law_k","_law_place"] ["_law_box_here","_law_cups"] (uK SI):=↥6
noncomputable def AFn:DS:=uO (uS 2 (wN %[↑1,jV 1|0]))
 (uO (uS 3 (vR %[↑0|0]))
 (uO (vH (OJ) (Om) wY)
 (uO (uS 4 (uM vp (vR %[↑0|0]) (jV 1)))
 (uO (xY (some 0) (AAD %[jV 3|0]) (xG 2 (vK (uP 5) (vK (uP 6) xc))) (QN))
 (uT (vO vC %[jV 4|0]))))))
noncomputable def ADf:DF:=ua (some 0) 2 7 AFn
abbrev SY:Stmt:=vc 30
def jN:uN ["cups","thing"] ["cups","thing"] (uK SY):=↥6
noncomputable def AGa:DS:=uT (uM v5 (vO sortedS %[jV 1|0]) (wN %[jV 0|0]))
noncomputable def AFK:DF:=ua none 2 2 AGa
noncomputable def gK:DT:=uQ (uM zE (uM uW (jV 0) (uM uW (jV 2) (dUn yQ ↑1))) (jV 1))
noncomputable def gv:DS:=wA (vb 2 vV %[uM uW (jV 0) (uM uW (jV 2) (dUn yQ ↑1))|0])
abbrev Uc:Stmt:=vc 6
def hG:uN ["turning","place","row"] ["turning","place"] (uK Uc):=↥6
noncomputable def AGX:DS:=uO (uS 2 (vR %[jV 1|0]))
 (uO (vH (gK) (gv) wY)
 (uT (vO vC %[jV 2|0])))
noncomputable def AFF:DF:=ua none 2 3 AGX
noncomputable def WG:DE:=jV 0
noncomputable def Yn:DT:=yD (uQ (uM zo (vO vX %[jV 0|0]) ↑1)) (uQ (uM v5 (uM uW (jV 0) ↑0) (vO AAX %[jV 0|0])))
noncomputable def S5:DE:=uL none AFF [] %[jV 1,jV 0|0]
abbrev Wg:Stmt:=vc 7
def WK:uN ["turning","rows"] ["turning"] (uK Wg):=↥6
noncomputable def AHK:DS:=uO (uS 1 (u7 none [none,some 0] (xE %[vO vX %[jV 0|0]|0]) (uP 0) vy (S5)))
 (uT (u7 none [none] (u9 (jV 1)) (uP 0) (Yn) (WG)))
noncomputable def ADB:DF:=ua none 1 2 AHK
noncomputable def SO:DE:=vO vX %[jV 0|0]
abbrev S9:Stmt:=vc 8
def ZI:uN ["turning"] ["turning"] (uK S9):=↥6
noncomputable def AGl:DS:=uT (uM v5 (u7 none [none] (u9 (uL none ADB [] %[jV 0|0])) (uP 0) vy (SO)) (vR %[vO vX %[jV 0|0]|0]))
noncomputable def AFa:DF:=ua none 1 1 AGl
abbrev Vd:Stmt:=vc 35
def ba:uN ["thing"] ["thing"] (uK Vd):=↥6
noncomputable def AGS:DS:=uT (yL (uL none AFK [] %[↑5,jV 0|0]) (uL none AFa [] %[jV 0|0]))
noncomputable def ADP:DF:=ua none 1 1 AGS
abbrev VU:Stmt:=vc 14
def km:uN ["saying"] ["saying"] (uK VU):=↥6
noncomputable def AFI:DS:=uT (yI (uQ (uM v5 (uM uW (jV 0) ↑0) (dC (.str "ask")))) (ue qQ) (dSl (jV 0) (wq ↑1) vj))
noncomputable def AAh:DF:=ua none 1 1 AFI
noncomputable def WT:DE:=uM zL (jV 1) (jV 0)
abbrev To:Stmt:=vc 9
def eG:uN ["one","other","led"] ["one","other"] (uK To):=↥6
noncomputable def AGN:DS:=uO (uS 2 (AAU %[uM uW (uL none ADB [] %[jV 0|0]) ↑0,uM uW (uL none ADB [] %[jV 1|0]) ↑0|0]))
 (uT (vO vC %[u7 none [none,some 2] (xE %[vO vX %[jV 0|0]|0]) (uP 0) vy (WT)|0]))
noncomputable def AFH:DF:=ua none 2 3 AGN
noncomputable def OT:DE:=uM uW (jV 1) (jV 0)
abbrev VE:Stmt:=vc 26
def il:uN ["one","other"] ["one","other"] (uK VE):=↥6
noncomputable def AEX:DS:=uT (vO vC %[u7 none [none,some 1] (u9 (jV 0)) (uP 0) vy (OT)|0])
noncomputable def yT:DF:=ua none 2 2 AEX
noncomputable def On:DE:=yG (jV 1) %[jV 0|0]
abbrev Um:Stmt:=vc 27
def dF:uN ["turning"] ["turning"] (uK Um):=↥6
noncomputable def AFW:DS:=uT (vO vC %[u7 none [none,some 0] (xE %[vO vX %[jV 0|0]|0]) (uP 0) vy (On)|0])
noncomputable def zg:DF:=ua none 1 1 AFW
abbrev V0:Stmt:=vc 29
def bp:uN ["a","b"] ["a","b"] (uK V0):=↥6
noncomputable def AHI:DS:=uT (uL none yT [] %[uL none yT [] %[jV 0,jV 1|0],(uL none yT [] %[uL none zg [] %[jV 0|0],uL none zg [] %[jV 1|0]|0])|0])
noncomputable def AGF:DF:=ua none 2 2 AHI
abbrev XI:Stmt:=vc 28
def Xn:uN ["turning","by"] ["turning","by"] (uK XI):=↥6
noncomputable def AEi:DS:=uT (uL none yT [] %[(uL none yT [] %[uL none zg [] %[jV 1|0],jV 0|0]),jV 1|0])
noncomputable def AAw:DF:=ua none 2 2 AEi
abbrev SU:Stmt:=vc 34
def ZV:uN ["ring","by"] ["ring"] (uK SU):=↥6
noncomputable def AGT:DS:=uO (uS 1 (uL none AFH [] %[uL none AGF [] %[dK Nj,dK OD|0],jV 0|0]))
 (uT (ue %[uL none AAw [] %[dK Nj,jV 1|0],uL none AAw [] %[dK OD,jV 1|0]|0]))
noncomputable def ACD:DF:=ua none 1 2 AGT
abbrev Vl:Stmt:=vc 37
def me:uN ["piece","saying","ring","pair","there"] ["piece"] (uK Vl):=↥6
noncomputable def AEL:DS:=uO (uS 1 (uM uW (jV 0) ↑0))
 (uO (uS 2 (uM uW (jV 0) ↑1))
 (uO (vd (uQ (uM v5 (uM uW (jV 1) ↑0) (dC (.str "not")))) (uT (vR %[(ue %[uM uW (jV 1) ↑1,uL none zg [] %[jV 2|0]|0])|0])) uX)
 (uO (vd (uQ (uM v5 (uM uW (jV 1) ↑0) (dC (.str "and")))) (uO (uS 3 (uL none ACD [] %[jV 2|0]))
 (uO (uS 4 (vR %[ue %[uM uW (jV 1) ↑1,uM uW (jV 3) ↑0|0],ue %[uM uW (jV 1) ↑2,uM uW (jV 3) ↑1|0]|0]))
 (uT (uM ur (jV 4) (vR %[(ue %[uM uW (jV 1) ↑1,uL none zg [] %[uM uW (jV 3) ↑0|0]|0]),(ue %[uM uW (jV 1) ↑2,uL none zg [] %[uM uW (jV 3) ↑1|0]|0])|0]))))) uX)
 (uT (vR qQ)))))
noncomputable def y7:DF:=ua none 1 5 AEL
noncomputable def Xi:DT:=wc (jV 3)
noncomputable def YV:DS:=uO (uS 4 (vb 3 yV qQ))
 (uO (wA (vb 2 vV %[jV 4|0]))
 (wA (vb 3 vi %[zH %[v8 1 [("inner",1,AAh),("pieces_in",1,y7)] %[jV 4|0]|0]|0])))
abbrev S0:Stmt:=vc 11
def nI:uN ["whole","inside_of","found","rest","part"] ["whole","inside_of"] (uK S0):=↥6
noncomputable def AGW:DS:=uO (uS 2 (vR qQ))
 (uO (uS 3 (vR %[jV 0|0]))
 (uO (vH (Xi) (YV) wY)
 (uT (jV 2))))
noncomputable def AGE:DF:=ua none 2 5 AGW
abbrev SZ:Stmt:=vc 18
def Xb:uN ["part","inside","word"] ["part","inside"] (uK SZ):=↥6
noncomputable def AGV:DS:=uO (uS 2 (uM uW (jV 0) ↑0))
 (uO (vd (uQ (uM v5 (jV 2) (dC (.str "not")))) (uT (uM uW (jV 1) ↑0)) uX)
 (uO (vd (uQ (uM (inS false) (jV 2) (ue %[dC (.str "and"),dC (.str "or")|0]))) (uT (uM vp ↑2 (uM ur (uM uW (jV 1) ↑0) (uM uW (jV 1) ↑1)))) uX)
 (uO (vd (uQ (uM v5 (jV 2) (dC (.str "either")))) (uT (uM vp ↑8 (uM ur (uM uW (jV 1) ↑0) (uM uW (jV 1) ↑1)))) uX)
 (uO (vd (uQ (uM v5 (jV 2) (dC (.str "most")))) (uT (uM ur (uM vp ↑12 (uM ur (uM uW (jV 1) ↑0) (uM uW (jV 1) ↑1))) (uM vp ↑4 (uM uW (jV 1) ↑2)))) uX)
 (uT ↑1)))))
noncomputable def ACL:DF:=ua none 2 3 AGV
abbrev Vm:Stmt:=vc 21
def lP:uN ["s","t"] ["s","t"] (uK Vm):=↥6
noncomputable def AHA:DS:=uT (ue %[dC (.str "not"),(ue %[dC (.str "and"),ue %[dC (.str "not"),jV 0|0],ue %[dC (.str "not"),jV 1|0]|0])|0])
noncomputable def ABh:DF:=ua none 2 2 AHA
abbrev Su:Stmt:=vc 22
def j5:uN ["part","inside","word","s","t"] ["part","inside"] (uK Su):=↥6
noncomputable def AFP:DS:=uO (uS 2 (uM uW (jV 0) ↑0))
 (uO (vd (uQ (uM (inS false) (jV 2) (ue %[dC (.str "yes"),dC (.str "no"),dC (.str "ask")|0]))) (uT (jV 0)) uX)
 (uO (vd (uQ (uM v5 (jV 2) (dC (.str "or")))) (uT (uL none ABh [] %[uM uW (jV 1) ↑0,uM uW (jV 1) ↑1|0])) uX)
 (uO (vd (uQ (uM v5 (jV 2) (dC (.str "either")))) (uO (uS 3 (uM uW (jV 1) ↑0))
 (uO (uS 4 (uM uW (jV 1) ↑1))
 (uT (uL none ABh [] %[(ue %[dC (.str "and"),jV 3,ue %[dC (.str "not"),jV 4|0]|0]),(ue %[dC (.str "and"),ue %[dC (.str "not"),jV 3|0],jV 4|0])|0])))) uX)
 (uO (vd (uQ (uM v5 (jV 2) (dC (.str "most")))) (uO (uS 3 (uM uW (jV 1) ↑0))
 (uO (uS 4 (uM uW (jV 1) ↑1))
 (uT (uL none ABh [] %[ue %[dC (.str "and"),jV 3,jV 4|0],(ue %[dC (.str "and"),uM uW (jV 1) ↑2,uL none ABh [] %[jV 3,jV 4|0]|0])|0])))) uX)
 (uT (vO vC %[uM ur (vR %[jV 2|0]) (jV 1)|0]))))))
noncomputable def ABq:DF:=ua none 2 5 AFP
abbrev VQ:Stmt:=vc 39
def Yd:uN ["steps","turning","last"] ["steps","turning"] (uK VQ):=↥6
noncomputable def AFg:DS:=uO (uS 2 (uM uW (jV 0) (dUn yQ ↑1)))
 (uT (uM ur (dSl (jV 0) vj (wq (dUn yQ ↑1))) (ue %[(ue %[uM uW (jV 2) ↑0,uL none yT [] %[uM uW (jV 2) ↑1,jV 1|0],uL none yT [] %[uM uW (jV 2) ↑2,jV 1|0]|0])|0])))
noncomputable def ADA:DF:=ua none 2 3 AFg
abbrev Uu:Stmt:=vc 25
def Xo:uN ["cups"] ["cups"] (uK Uu):=↥6
noncomputable def AFv:DS:=uT (wm %[jV 0|0])
noncomputable def zA:DF:=ua none 1 1 AFv
abbrev Sd:Stmt:=vc 38
def fH:uN ["saying","ring","turning"] ["saying","ring"] (uK Sd):=↥6
noncomputable def AGc:DS:=uO (vd (uQ (uM v5 (uM uW (jV 0) ↑0) (dC (.str "ask")))) (uT (ue %[uM uW (jV 0) ↑1,jV 1,uL none zA [] %[↑5|0]|0])) uX)
 (uO (uS 2 (yI (uQ (uM v5 (uM uW (jV 0) ↑0) (dC (.str "yes")))) (jV 1) (uL none zA [] %[↑5|0])))
 (uT (ue %[↑0,jV 2,jV 2|0])))
noncomputable def ADr:DF:=ua none 2 3 AGc
abbrev VZ:Stmt:=vc 40
def iy:uN ["piece","inside","word"] ["piece","inside"] (uK VZ):=↥6
noncomputable def AEF:DS:=uO (uS 2 (uM uW (uM uW (jV 0) ↑0) ↑0))
 (uO (vd (uQ (uM v5 (jV 2) (dC (.str "not")))) (uT (uL none ADA [] %[uM uW (jV 1) ↑0,uM uW (jV 0) ↑1|0])) uX)
 (uO (vd (uQ (uM v5 (jV 2) (dC (.str "and")))) (uT (uM ur (uM ur (uM ur (uM uW (jV 1) ↑0) (uM uW (jV 1) ↑1)) (uM uW (jV 1) ↑2)) (uM uW (jV 1) ↑3))) uX)
 (uT (ue %[uL none ADr [] %[uM uW (jV 0) ↑0,uM uW (jV 0) ↑1|0]|0]))))
noncomputable def zD:DF:=ua none 2 3 AEF
abbrev WY:Stmt:=vc 16
def cR:uN ["answers","part","inside","word"] ["answers","part","inside"] (uK WY):=↥6
noncomputable def ACQ:DS:=uO (uS 3 (uM uW (jV 1) ↑0))
 (uO (vd (uQ (uM v5 (jV 3) (dC (.str "ask")))) (uT (uM v5 (uM uW (jV 0) (uM uW (jV 1) ↑1)) ↑1)) uX)
 (uO (vd (uQ (uM v5 (jV 3) (dC (.str "not")))) (uT (zF (uM uW (jV 2) ↑0))) uX)
 (uO (vd (uQ (uM v5 (jV 3) (dC (.str "and")))) (uT (yL (uM uW (jV 2) ↑0) (uM uW (jV 2) ↑1))) uX)
 (uO (vd (uQ (uM v5 (jV 3) (dC (.str "or")))) (uT (ACF (uM uW (jV 2) ↑0) (uM uW (jV 2) ↑1))) uX)
 (uO (vd (uQ (uM v5 (jV 3) (dC (.str "either")))) (uT (uM zE (uM uW (jV 2) ↑0) (uM uW (jV 2) ↑1))) uX)
 (uO (vd (uQ (uM v5 (jV 3) (dC (.str "most")))) (uT (uM geS (yF yo (jV 2) %[dC (.bl true)|0]) ↑2)) uX)
 (uT (uM v5 (jV 3) (dC (.str "yes"))))))))))
noncomputable def AAi:DF:=ua none 3 4 ACQ
abbrev MJ:Stmt:=vc 17
noncomputable def AGf (s:Stmt):Expr:=match uq s with
 | [.Return (some (.Call _ [_,l] _ _)) _]=>l
 | _=>.Name "" ⟨0,0,0,0⟩
noncomputable def wb:zj:=match AGf MJ with
 | .Lambda ps b sc _=>⟨ps,b,sc,"is_so.<locals>.<lambda>","answers"⟩
 | e=>⟨vL MJ,e,uK MJ,"",""⟩
def gU:yq wb "part" "inside":=⟨rfl,rfl,rfl,by decide +kernel,rfl,rfl,rfl,λy h=>(show ∀ q∈wb.scope.names,q.2=Bg->q.1=wb.x by decide +kernel) (y,.free) (BL h) rfl,by decide,λ_ _ _ _ _ _=>rfl⟩
noncomputable def MZ:DE:=uL none AAi [] %[jV 2,jV 0,jV 1|0]
noncomputable def Sx:DE:=vb 1 yV qQ
noncomputable def X4:DS:=uO (uS 5 (u7 (some (1,3)) [none,some 3] (u9 (v8 1 [("inner",1,AAh),("pieces_in",1,y7)] %[jV 4|0])) (uP 0) vy (Sx)))
 (wA (vb 3 vV %[wV 2 [("weight_of",2,ACL),("spelled_of",2,ABq),("steps_of",2,zD)] wb MZ %[jV 4,jV 5|0]|0]))
abbrev V8:Stmt:=vc 12
def SA:uN ["whole","inside_of","put","told","part","inside"] ["whole","inside_of","put"] (uK V8):=↥6
noncomputable def AGt:DS:=uO (uS 3 (vR qQ))
 (uO (xY none (AAC %[uL none AGE [] %[jV 0,jV 1|0]|0]) (uP 4) (X4))
 (uT (uM uW (jV 3) ↑0)))
noncomputable def ADG:DF:=ua none 3 6 AGt
abbrev XX:Stmt:=vc 15
def YG:uN ["saying","put"] ["saying","put"] (uK XX):=↥6
noncomputable def AED:DS:=uT (uL none ADG [] %[jV 0,dFn "inner",jV 1|0])
noncomputable def yx:DF:=ua none 2 2 AED
abbrev XN:Stmt:=vc 19
def XZ:uN ["saying"] ["saying"] (uK XN):=↥6
noncomputable def AEp:DS:=uT (uL none yx [] %[jV 0,dFn "weight_of"|0])
noncomputable def ADM:DF:=ua none 1 1 AEp
abbrev TN:Stmt:=vc 36
def jD:uN ["saying","ring","most"] ["saying","ring","most"] (uK TN):=↥6
noncomputable def AFM:DS:=uO (vd (zY (wc (uL none ADP [] %[jV 1|0]))) (xm) uX)
 (vd (uQ (uM zo (uL none ADM [] %[jV 0|0]) (jV 2))) (xm) uX)
noncomputable def ADc:DF:=ua none 3 3 AFM
abbrev WQ:Stmt:=vc 23
def kR:uN ["saying"] ["saying"] (uK WQ):=↥6
noncomputable def AEe:DS:=uT (uL none yx [] %[jV 0,dFn "spelled_of"|0])
noncomputable def ADI:DF:=ua none 1 1 AEe
abbrev NC:Stmt:=vc 41
def VD:uN ["saying","questions","ring","most"] ["saying","questions","ring","most"] (uK NC):=↥6
noncomputable def AEY:DS:=uO (wA (uL none ADc [] %[jV 0,jV 2,jV 3|0]))
 (uT (ue %[↑5,jV 1,(uL none ADG [] %[(ue %[uL none ADI [] %[jV 0|0],jV 2|0]),dFn "pieces_in",dFn "steps_of"|0])|0]))
noncomputable def ACJ:DF:=ua none 4 4 AEY
noncomputable def Nt:DE:=ue %[jV 0,uM (ABu yw) (jV 1) (jV 0)|0]
noncomputable def OO:DT:=uQ (uM zE (uM (ABu yw) (jV 1) (jV 0)) ↑0)
noncomputable def Nl:DS:=AAQ yw 1 (uM uW (jV 2) ↑0) (uM xV (uM ur (ym yw (jV 1) (uM uW (jV 2) ↑0) ↑0) (uM uW (jV 2) ↑1)) ↑3)
abbrev Vq:Stmt:=vc 51
def aV:uN ["pairs","numbers","pair"] ["pairs"] (uK Vq):=↥6
noncomputable def AFN:DS:=uO (uS 1 (AAH true))
 (uO (xY none (u9 (jV 0)) (uP 2) (Nl))
 (uT (vO vC %[u7 none [none,some 1] (u9 (vO yy %[jV 1|0])) (uP 0) (OO) (Nt)|0])))
noncomputable def ABf:DF:=ua none 1 3 AFN
noncomputable def ACN:DF:=ua none 2 2 (uT (yt yx wb))
def Z9:uN ["saying","answers"] ["saying","answers"] (uK MJ):=↥6
def kJ{f:Addr}{cdv:AK}{n:Nat}(c:Addr)(h:(Gk "is_so" (uK MJ) n f cdv).cells.lookup wb.x=some c):FQ wb.scope (Gk "is_so" (uK MJ) n f cdv)=pure [(wb.x,c)]:=by
 cases h;rfl
noncomputable def Ol:DE:=uM ur (ue %[↑0|0]) (jV 0)
noncomputable def Oh:DE:=uM ur (ue %[↑1|0]) (jV 0)
noncomputable def O8:DS:=uS 1 (uM ur (u7 none [none] (u9 (jV 1)) (uP 0) vy (Ol)) (u7 none [none] (u9 (jV 1)) (uP 0) vy (Oh)))
abbrev Sg:Stmt:=vc 48
def WN:uN ["questions","told","question"] ["questions"] (uK Sg):=↥6
noncomputable def AFf:DS:=uO (uS 1 (vR %[ue qQ|0]))
 (uO (xY none (xE %[jV 0|0]) (uP 2) (O8))
 (uT (jV 1)))
noncomputable def ADV:DF:=ua none 1 3 AFf
noncomputable def Oj (rec:DF):DE:=ue %[uM ur (ue %[jV 1|0]) (uM uW (jV 0) ↑0),uM uW (jV 0) ↑1|0]
noncomputable def Ox (rec:DF):DE:=uM vp ↑2 (uM vW (uM uW (jV 0) ↑0) (uM uW (jV 0) ↑1))
noncomputable def Oa (rec:DF):DE:=uM vp ↑2 (uM ur (uM uW (jV 0) ↑0) (uM uW (jV 0) ↑1))
abbrev AFj:Stmt:=vc 57
def ADR:uN ["q","numbers","half","sides","bare","signed"] ["q","numbers"] (uK AFj):=↥6
noncomputable def d_6 (rec:DF):DS:=uO (vd (uQ (uM v5 (vO vX %[jV 1|0]) ↑1)) (uT (vR %[ue %[ue qQ,uM uW (jV 1) ↑0|0]|0])) uX)
 (uO (uS 2 (uM xP (vO vX %[jV 1|0]) ↑2))
 (uO (uS 3 (zv %[dSl (jV 1) vj (wq (jV 2)),dSl (jV 1) (wq (jV 2)) vj|0]))
 (uO (uS 4 (uL none rec [] %[uM ur (jV 0) ↑1,u7 none [none] (u9 (jV 3)) (uP 0) vy ((Oa rec))|0]))
 (uO (uS 5 (uL none rec [] %[uM ur (jV 0) ↑1,u7 none [none] (u9 (jV 3)) (uP 0) vy ((Ox rec))|0]))
 (uT (uM ur (jV 4) (u7 none [none,some 0] (u9 (jV 5)) (uP 0) vy ((Oj rec)))))))))
noncomputable def F_6:Nat->DF
 | 0=>λ_=>none
 | n+1=>ua none 2 6 (d_6 (F_6 n))
noncomputable def Ng:DE:=yI (wc (uL none ACN [] %[jV 1,jV 0|0])) ↑1 ↑0
abbrev WB:Stmt:=vc 58
def Ux:uN ["saying","questions","numbers"] ["saying","questions"] (uK WB):=↥6
noncomputable def AEy:DS:=uO (uS 2 (u7 none [none,some 0] (u9 (uL none ADV [] %[jV 1|0])) (uP 0) vy (Ng)))
 (uT (ue %[↑0,ue qQ,uL none ABf [] %[uL none (F_6 N6) [] %[↑0,jV 2|0]|0]|0]))
noncomputable def ABj:DF:=ua none 2 3 AEy
noncomputable def Nq:DE:=ue %[jV 0,dK Mm,uL none zA [] %[↑3|0]|0]
abbrev UL:Stmt:=vc 67
def cX:uN ["asked"] ["asked"] (uK UL):=↥6
noncomputable def AFS:DS:=uT (vO vC %[u7 none [none] (u9 (jV 0)) (uP 0) vy (Nq)|0])
noncomputable def ABx:DF:=ua none 1 1 AFS
abbrev Sj:Stmt:=vc 68
def mh:uN ["mark","turn"] ["mark"] (uK Sj):=↥6
noncomputable def AFq:DS:=uO (uS 1 (dKd N7 (uM uW (jV 0) ↑1)))
 (uT (uM ur (uM ur (uL none ABx [] %[uM uW (jV 0) ↑0|0]) (ue %[ue %[↑0,jV 1,jV 1|0]|0])) (uL none ABx [] %[uM uW (jV 0) ↑0|0])))
noncomputable def ADL:DF:=ua none 1 2 AFq
noncomputable def Nf:DS:=uS 2 (uM ur (jV 2) (uL none ADL [] %[jV 3|0]))
abbrev R6:Stmt:=vc 69
def cI:uN ["sums","questions","steps","mark"] ["sums","questions"] (uK R6):=↥6
noncomputable def AEA:DS:=uO (uS 2 (uL none ABx [] %[uM uW (jV 0) ↑1|0]))
 (uO (vd (uQ (uM v5 (uM uW (jV 0) ↑0) ↑1)) (uS 2 (uM ur (jV 2) (ue %[ue %[↑0,dK Mm,dK Mm|0]|0]))) uX)
 (uO (xY none (u9 (uM uW (jV 0) ↑2)) (uP 3) (Nf))
 (uT (ue %[↑3,jV 1,jV 2|0]))))
noncomputable def ACS:DF:=ua none 2 4 AEA
abbrev Th:Stmt:=vc 45
def ZM:uN ["one","other"] ["one","other"] (uK Th):=↥6
noncomputable def AFX:DS:=uT (ue %[uM uW (jV 0) ↑0,uL none yT [] %[uM uW (jV 0) ↑1,uM uW (jV 1) ↑1|0],uL none yT [] %[uM uW (jV 0) ↑2,uM uW (jV 1) ↑2|0]|0])
noncomputable def AAy:DF:=ua none 2 2 AFX
noncomputable def Np:DS:=uO (uS 4 (yI (yD (wc (jV 2)) (uQ (uM v5 (uM uW (uM uW (jV 2) (dUn yQ ↑1)) ↑0) (uM uW (jV 3) ↑0)))) (uL none AAy [] %[vb 2 yV qQ,jV 3|0]) (jV 3)))
 (vd (uQ (uM zE (dSl (jV 4) (wq ↑1) vj) (jV 1))) (wA (vb 2 vV %[jV 4|0])) uX)
abbrev Uk:Stmt:=vc 46
def iA:uN ["dance","nothing","kept","step","new"] ["dance"] (uK Uk):=↥6
noncomputable def AFm:DS:=uO (uS 1 (ue %[uL none zA [] %[uM uW (jV 0) ↑0|0],uL none zA [] %[uM uW (jV 0) ↑0|0]|0]))
 (uO (uS 2 (vR qQ))
 (uO (xY none (u9 (uM uW (jV 0) ↑2)) (uP 3) (Np))
 (uT (ue %[uM uW (jV 0) ↑0,uM uW (jV 0) ↑1,vO vC %[jV 2|0]|0]))))
noncomputable def ACV:DF:=ua none 1 5 AFm
noncomputable def O2:DE:=uM uW (jV 1) (jV 0)
abbrev Wj:Stmt:=vc 76
def YZ:uN ["_law_one","_law_other"] ["_law_one","_law_other"] (uK Wj):=↥6
noncomputable def AEg:DS:=uT (vO vC %[u7 none [none,some 1] (u9 (jV 0)) (uP 0) vy (O2)|0])
noncomputable def ABb:DF:=ua none 2 2 AEg
noncomputable def Oc:DS:=wA (vb 3 vi %[(vR %[uM ur (jV 4) (ue %[↑0|0]),uM ur (jV 4) (ue %[↑1|0])|0])|0])
noncomputable def Nu:DS:=uO (uS 3 (vR qQ))
 (uO (xY none (u9 (jV 1)) (uP 4) (Oc))
 (dMv 1 3))
abbrev XC:Stmt:=vc 84
def nh:uN ["_law_questions","_law_found","_law_k","_law_longer","_law_answers"] ["_law_questions"] (uK XC):=↥6
noncomputable def AFh:DS:=uO (uS 1 (vR %[ue qQ|0]))
 (uO (xY none (xE %[jV 0|0]) (uP 2) (Nu))
 (uT (jV 1)))
noncomputable def ADW:DF:=ua none 1 5 AFh
noncomputable def PZ (rec:DF):DE:=uL none rec [] %[jV 0,jV 1|0]
abbrev AEx:Stmt:=vc 83
def ADm:uN ["_law_saying_here","_law_answers","_law_head","_law_some","_law_many"] ["_law_saying_here","_law_answers"] (uK AEx):=↥6
noncomputable def d_3 (rec:DF):DS:=uO (uS 2 (uM uW (jV 0) ↑0))
 (uO (vd (uQ (uM v5 (jV 2) (dC (.str "ask")))) (uT (uM v5 (uM uW (jV 1) (uM uW (jV 0) ↑1)) ↑1)) uX)
 (uO (uS 3 (u7 none [none,some 1] (u9 (dSl (jV 0) (wq ↑1) vj)) (uP 0) vy ((PZ rec))))
 (uO (vd (uQ (uM v5 (jV 2) (dC (.str "not")))) (uT (zF (uM uW (jV 3) ↑0))) uX)
 (uO (uS 4 (yF yo (jV 3) %[dC (.bl true)|0]))
 (uT (uM zL (y6 [.inr "yes",.inr "no",.inr "and",.inr "or",.inr "either",.inr "most"] %[dC (.bl true),dC (.bl false),uM v5 (jV 4) ↑2,uM zo (jV 4) ↑0,uM v5 (jV 4) ↑1,uM zo (jV 4) ↑1|0]) (jV 2)))))))
noncomputable def F_3:Nat->DF
 | 0=>λ_=>none
 | n+1=>ua none 2 5 (d_3 (F_3 n))
noncomputable def OW:DS:=uS 2 (uL none ABb [] %[jV 2,uM uW (vR %[jV 5,jV 4|0]) (uM uW (jV 1) (jV 3))|0])
abbrev WZ:Stmt:=vc 85
def aF:uN ["_law_dance","_law_answers","_law_found","_law_q","_law_yes","_law_no"] ["_law_dance","_law_answers"] (uK WZ):=↥6
noncomputable def AFE:DS:=uO (uS 2 (wm %[uM uW (jV 0) ↑0|0]))
 (uO (xY none (u9 (uM uW (jV 0) ↑2)) (xG 3 (vK (uP 3) (vK (uP 4) (vK (uP 5) xc)))) (OW))
 (uT (jV 2)))
noncomputable def ADQ:DF:=ua none 2 6 AFE
noncomputable def N8:DS:=uO (uS 4 (wm %[uM uW (jV 0) ↑0|0]))
 (uO (vd (wc (uL none (F_3 Rh) [] %[jV 1,jV 3|0])) (uS 4 (jV 2)) uX)
 (vd (uQ (uM zE (uL none ADQ [] %[jV 0,jV 3|0]) (jV 4))) (uT (dC (.bl false))) uX))
abbrev TM:Stmt:=vc 86
def Zi:uN ["_law_dance","_law_saying_here","_law_ring_here","_law_answers","_law_due"] ["_law_dance","_law_saying_here","_law_ring_here"] (uK TM):=↥6
noncomputable def AFZ:DS:=uO (xY none (u9 (uL none ADW [] %[uM uW (jV 0) ↑1|0])) (uP 3) (N8))
 (uT (dC (.bl true)))
noncomputable def ABA:DF:=ua none 3 5 AFZ
noncomputable def PV:DE:=ue %[uM uW (jV 0) ↑0,uL none AAw [] %[uM uW (jV 0) ↑1,jV 1|0],uL none AAw [] %[uM uW (jV 0) ↑2,jV 1|0]|0]
abbrev WM:Stmt:=vc 43
def XA:uN ["dance","by","steps"] ["dance","by"] (uK WM):=↥6
noncomputable def AEd:DS:=uO (vd (uQ (uM zE (vO vX %[jV 1|0]) (uM uW (jV 0) ↑0))) (xm) uX)
 (uO (uS 2 (u7 none [none,some 1] (u9 (uM uW (jV 0) ↑2)) (uP 0) vy (PV)))
 (uT (ue %[uM uW (jV 0) ↑0,uM uW (jV 0) ↑1,vO vC %[jV 2|0]|0])))
noncomputable def ADZ:DF:=ua none 2 3 AEd
noncomputable def O5:DE:=yG (jV 1) %[jV 0|0]
abbrev VB:Stmt:=vc 77
def jR:uN ["_law_turning_here"] ["_law_turning_here"] (uK VB):=↥6
noncomputable def AFz:DS:=uT (vO vC %[u7 none [none,some 0] (xE %[vO vX %[jV 0|0]|0]) (uP 0) vy (O5)|0])
noncomputable def ADh:DF:=ua none 1 1 AFz
abbrev UZ:Stmt:=vc 87
def Xh:uN ["_law_dance","_law_saying_here","_law_ring_here","_law_by","_law_short","_law_goal"] ["_law_dance","_law_saying_here","_law_ring_here","_law_by"] (uK UZ):=↥6
noncomputable def AFi:DS:=uO (uS 4 (uL none ACV [] %[jV 0|0]))
 (uO (vd (dOr (uQ (uM zo (vO vX %[uM uW (jV 4) ↑2|0]) (vO vX %[uM uW (jV 0) ↑2|0]))) (zY (wc (uL none ABA [] %[jV 4,jV 1,jV 2|0])))) (uT (dC (.bl false))) uX)
 (uO (uS 5 (uL none ABb [] %[(uL none ABb [] %[uL none ADh [] %[jV 3|0],jV 2|0]),jV 3|0]))
 (uT (uL none ABA [] %[uL none ADZ [] %[jV 0,jV 3|0],jV 1,jV 5|0]))))
noncomputable def ACH:DF:=ua none 4 6 AFi
noncomputable def PF:DT:=uQ (uM zo (vO vX %[jV 2|0]) ↑0)
noncomputable def Qu:DS:=uS 3 (uM ur (jV 3) (ue %[(vb 2 yb %[(uL (some 0) zd [] %[jV 0,vO vX %[jV 2|0]|0])|0])|0]))
abbrev Vb:Stmt:=vc 74
def fD:uN ["_law_box_here","_law_cups","_law_left","_law_found"] ["_law_box_here","_law_cups"] (uK Vb):=↥6
noncomputable def AEc:DS:=uO (uS 2 (wN %[jV 1|0]))
 (uO (uS 3 (ue qQ))
 (uO (vH (PF) (Qu) wY)
 (uT (jV 3))))
noncomputable def ABz:DF:=ua (some 0) 2 4 AEc
abbrev Ru:Stmt:=vc 56
def b9:uN ["sums"] ["sums"] (uK Ru):=↥6
noncomputable def AEb:DS:=uT (vO ya %[uM xP (uM ur (vO vX %[uM uW (jV 0) ↑2|0]) ↑1) ↑2,vO vX %[uM uW (jV 0) ↑1|0]|0])
noncomputable def ACP:DF:=ua none 1 1 AEb
noncomputable def N1 (rec:DF):DE:=uL none rec [] %[jV 0,jV 1|0]
abbrev AEh:Stmt:=vc 73
def AEl:uN ["_law_found","_law_due"] ["_law_found","_law_due"] (uK AEh):=↥6
noncomputable def d_0 (rec:DF):DS:=uO (vd (wc (vO xf %[jV 1,ue %[dC (.ty "list"),dC (.ty "tuple")|0]|0])) (uO (vd (dOr (uQ (uM zE (vO xf %[jV 0,dC (.ty "tuple")|0]) (vO xf %[jV 1,dC (.ty "tuple")|0]))) (uQ (uM zE (vO xf %[jV 0,dC (.ty "list")|0]) (vO xf %[jV 1,dC (.ty "list")|0])))) (uT (dC (.bl false))) uX)
 (uT (yL (uM v5 (vO vX %[jV 0|0]) (vO vX %[jV 1|0])) (vO ACI %[u7 none [none,none] (ADU %[jV 0,jV 1|0]) (xG 2 (vK (uP 0) (vK (uP 1) xc))) vy ((N1 rec))|0])))) uX)
 (uT (yL (uM v5 (vO xf %[jV 0,dC (.ty "bool")|0]) (vO xf %[jV 1,dC (.ty "bool")|0])) (uM v5 (jV 0) (jV 1))))
noncomputable def F_0:Nat->DF
 | 0=>λ_=>none
 | n+1=>ua none 2 2 (d_0 (F_0 n))
noncomputable def PD:DE:=jV 0
noncomputable def Qn:DT:=uQ (uM zE (jV 0) (jV 1))
abbrev SD:Stmt:=vc 50
def mv:uN ["asked","q"] ["asked","q"] (uK SD):=↥6
noncomputable def AEG:DS:=uO (vd (uQ (uM (inS false) (jV 1) (jV 0))) (uT (vO vC %[u7 none [none,some 1] (u9 (jV 0)) (uP 0) (Qn) (PD)|0])) uX)
 (uT (vO vC %[vO sortedS %[uM ur (jV 0) (ue %[jV 1|0])|0]|0]))
noncomputable def ABs:DF:=ua none 2 2 AEG
abbrev UV:Stmt:=vc 52
def jh:uN ["step","begin","flips","yes","no","times"] ["step","begin","flips"] (uK UV):=↥6
noncomputable def AFb:DS:=uO (uS 3 (uM uW (uM uW (jV 0) ↑1) ↑0))
 (uO (uS 4 (uM uW (uM uW (jV 0) ↑2) ↑0))
 (uO (uS 5 (uM vp ↑2 (uM ur ↑1 (jV 1))))
 (uT (vR %[ue %[jV 2,uM vp (jV 5) (uM ur (jV 4) (jV 3))|0],(ue %[uL none ABs [] %[jV 2,uM uW (jV 0) ↑0|0],uM vp (jV 5) (uM vW (jV 4) (jV 3))|0])|0]))))
noncomputable def ADE:DF:=ua none 3 6 AFb
abbrev W1:Stmt:=vc 53
def i5:uN ["turning"] ["turning"] (uK W1):=↥6
noncomputable def AGR:DS:=uT (uM xV (uM vW (uM uW (jV 0) ↑1) (uM uW (jV 0) ↑0)) ↑3)
noncomputable def ACO:DF:=ua none 1 1 AGR
noncomputable def Ms:DS:=uO (wA (vb 3 vi %[uL none ADE [] %[jV 4,jV 1,jV 2|0]|0]))
 (uO (vd (uQ (uM v5 (uL none ACO [] %[uM uW (jV 4) ↑2|0]) ↑2)) (uS 1 (uM vW ↑1 (jV 1))) uX)
 (vd (uQ (uM zE (uL none ACO [] %[uM uW (jV 4) ↑1|0]) (uL none ACO [] %[uM uW (jV 4) ↑2|0]))) (uS 2 (uL none ABs [] %[jV 2,uM uW (jV 4) ↑0|0])) uX))
abbrev Rr:Stmt:=vc 54
def bx:uN ["dance","begin","flips","pairs","step"] ["dance"] (uK Rr):=↥6
noncomputable def AEa:DS:=uO (uS 1 ↑0)
 (uO (uS 2 (ue qQ))
 (uO (uS 3 (vR qQ))
 (uO (xY none (ADF %[uM uW (jV 0) ↑2|0]) (uP 4) (Ms))
 (uT (ue %[jV 1,jV 2,uL none ABf [] %[jV 3|0]|0])))))
noncomputable def zS:DF:=ua none 1 5 AEa
abbrev Td:Stmt:=vc 61
def Xm:uN ["asked","q","answer"] ["asked","q","answer"] (uK Td):=↥6
noncomputable def AHB:DS:=uT (yI (yD (uQ (uM v5 (jV 2) ↑1)) (uQ (uM (inS false) (jV 1) (jV 0)))) ↑2 ↑1)
noncomputable def ADy:DF:=ua none 3 3 AHB
noncomputable def UQ:DE:=jV 0
noncomputable def k8:DT:=uQ (uM zE (jV 0) (jV 1))
abbrev UM:Stmt:=vc 60
def Xv:uN ["asked","q"] ["asked","q"] (uK UM):=↥6
noncomputable def AGU:DS:=uT (vO vC %[u7 none [none,some 1] (u9 (jV 0)) (uP 0) (k8) (UQ)|0])
noncomputable def ADs:DF:=ua none 2 2 AGU
noncomputable def Vc:DE:=ue %[uL none ADs [] %[uM uW (jV 0) ↑0,jV 1|0],uM vp (uM uW (jV 0) ↑1) (uL none ADy [] %[uM uW (jV 0) ↑0,jV 1,jV 2|0])|0]
abbrev R9:Stmt:=vc 62
def U5:uN ["sums","q","answer","turned","begin","pairs"] ["sums","q","answer"] (uK R9):=↥6
noncomputable def AGM:DS:=uO (uS 3 (uM v5 (uL none ADy [] %[uM uW (jV 0) ↑1,jV 1,jV 2|0]) ↑2))
 (uO (uS 4 (yI (wc (jV 3)) (uM vW ↑1 (uM uW (jV 0) ↑0)) (uM uW (jV 0) ↑0)))
 (uO (uS 5 (u7 none [none,some 1,some 2] (u9 (uM uW (jV 0) ↑2)) (uP 0) vy (Vc)))
 (uT (ue %[jV 4,uL none ADs [] %[uM uW (jV 0) ↑1,jV 1|0],uL none ABf [] %[jV 5|0]|0]))))
noncomputable def AEM:DF:=ua none 3 6 AGM
noncomputable def Ww:DE:=uL none AEM [] %[jV 0,jV 1,jV 2|0]
noncomputable def UR:DE:=uL none AEM [] %[jV 0,jV 1,↑0|0]
noncomputable def mw:DS:=uO (uS 5 (u7 none [none,some 4] (u9 (jV 2)) (uP 0) vy (UR)))
 (uO (uS 6 (yI (uQ (uM zE (uM uW (jV 5) ↑0) (uM uW (jV 5) ↑1))) ↑0 ↑1))
 (uO (uS 2 (u7 none [none,some 4,some 6] (u9 (jV 2)) (uP 0) vy (Ww)))
 (wA (vb 3 vV %[jV 6|0]))))
abbrev UE:Stmt:=vc 63
def Qk:uN ["one","other","both","answers","q","by_no","answer"] ["one","other"] (uK UE):=↥6
noncomputable def AFQ:DS:=uO (vd (uQ (uM zE (uM uW (jV 0) ↑1) (uM uW (jV 1) ↑1))) (xm) uX)
 (uO (uS 2 (vR %[uL none zS [] %[jV 0|0],uL none zS [] %[jV 1|0]|0]))
 (uO (vd (uQ (uM v5 (uM uW (jV 2) ↑0) (uM uW (jV 2) ↑1))) (uT (dC .non)) uX)
 (uO (uS 3 (vR qQ))
 (uO (xY none (xE %[uM uW (jV 0) ↑1|0]) (uP 4) (mw))
 (uT (vO vC %[jV 3|0]))))))
noncomputable def ADC:DF:=ua none 2 7 AFQ
abbrev Qj:Stmt:=vc 88
def Tw:uN ["_law_script","_law_box_here","_law_questions","_law_saying_here","_law_ring_here","_law_five","_law_sums","_law_three","_law_short"] ["_law_script"] (uK Qj):=↥6
noncomputable def WE:DS:=uO (uS 1 (uL none F_7 [] %[jV 0,↑0|0]))
 (uO (uS 2 (uM ur ↑1 (uL (some 0) zd [] %[jV 1,↑4|0])))
 (uO (uS 3 (uL (some 0) F_9 [] %[jV 1,jV 2,↑14,↑128|0]))
 (uO (uS 1 (uL none F_7 [] %[jV 0,↑1|0]))
 (uO (uS 4 (uL (some 0) ADf [] %[jV 1,↑5|0]))
 (uO (uS 5 (uL none ACJ [.int 128] %[jV 3,jV 2,jV 4|0]))
 (uO (vd (dOr (uQ (uM zo (vO vX %[uM uW (jV 5) ↑2|0]) (uL none (F_5 NB) [] %[jV 3|0]))) (zY (wc (uL none ABA [] %[jV 5,jV 3,jV 4|0])))) (uT (dC (.bl false))) uX)
 (uO (uS 6 (uL none ABj [] %[jV 3,jV 2|0]))
 (uO (uS 7 (uL none ACS [] %[jV 6,jV 2|0]))
 (uO (uS 8 (uL none ACV [] %[jV 7|0]))
 (uO (vd (dOr (zY (wc (uL none ABA [] %[jV 7,jV 3,ue %[↑1,↑2,↑0|0]|0]))) (uQ (uM zo (uL none ACP [] %[jV 6|0]) (vO zK %[vO vX %[uM uW (jV 7) ↑2|0],vO vX %[uM uW (jV 8) ↑2|0]|0])))) (uT (dC (.bl false))) uX)
 (uO (vd (dOr (zY (wc (uL none (F_0 Nr) [] %[uL none zS [] %[jV 8|0],jV 6|0]))) (uQ (uM (xq true) (uL none ADC [] %[jV 7,jV 8|0]) (dC .non)))) (uT (dC (.bl false))) uX)
 (uO (vd (zY (wc (uL none ACH [] %[jV 5,jV 3,jV 4,uL (some 0) ABz [] %[jV 1,↑5|0]|0]))) (uT (dC (.bl false))) uX)
 (uT (uL none ACH [] %[jV 7,jV 3,ue %[↑1,↑2,↑0|0],uL (some 0) ABz [] %[jV 1,↑3|0]|0]))))))))))))))
noncomputable def M8:DF:=ua none 1 9 WE
noncomputable abbrev ADD:Tb:=[("inner",1,AAh),("pieces_in",1,y7)]
noncomputable abbrev ABp:Tb:=[("weight_of",2,ACL),("spelled_of",2,ABq),("steps_of",2,zD)]
end
open PySem L2 D
def Mz a b w (h0:0 < w) (h1:w < 1073741824):∃ r a' b',0<=r/\r < w/\zd [.l [iT a,iT b],.v (iT w)]=some (.v (iT r),[iT a',iT b']):=by
 have h2:yA a w:=⟨h0,h1⟩
 by_cases h:0 < a
 ·refine⟨a % w,a / w,b,B4 _ ⋯,Fy _ h0,?_⟩;simp[zd,ua,d_8,h,h0,h2,ixN]
 ·refine⟨(b * 69623 % 2147483647 * 2147483647+((b * 69623 % 2147483647 * 48271+30103) % 2147483629+1)) / 8191 % w,a,(b * 69623 % 2147483647 * 48271+30103) % 2147483629+1,B4 _ ⋯,Fy _ h0,?_⟩;simp[zd,ua,d_8,h,h0,ixN,vv,yA]
def NM a b w (h0:0 < w) (h1:w<=1000000000):∃ (r:Nat) (a' b':Int),r < w/\zd [.l [iT a,iT b],.v (iT w)]=some (.v (iT r),[iT a',iT b']):=by
 obtain⟨r,a',b',r0,r1,e⟩:=Mz a b w ⋯ ⋯;obtain⟨n,rfl⟩:∃ n:Nat,r=n:=⟨r.toNat,by lia⟩
 exact⟨n,a',b',by lia,e⟩
def Rn ns k (hk:0<=k) (hk1:k < 1000):∃ a b,F_7 [.k (xK ns),.v (iT k)]=some (.l [iT a,iT b],[]):=by
 have hl:(xK ns).length=ns.length:=by simp[xK]
 have fin:∀ c,∃ a,xn [T.a (V.int 0),T.a (V.int c)] (if 1000000000000000000<=c then 1 else 0)=some (iT a):=λc=>by
  split
  ·exact⟨c,rfl⟩
  ·exact⟨0,rfl⟩
 have c1:vv 7919 k:=.inl ⟨by decide,by decide⟩;have c2:vv 40692 k:=.inl ⟨by decide,by decide⟩;have c3:∀ m,vv m 69623:=λm=>.inr ⟨by decide,by decide⟩
 have c4:∀ m,vv m 48271:=λm=>.inr ⟨by decide,by decide⟩
 have c5:ABt 10 18:=⟨by decide,by decide,by decide⟩
 by_cases h1:k < ns.length
 ·obtain⟨z,hz⟩:=Uq ns hk h1;obtain⟨a,ha⟩:=fin z;refine⟨a,(z % 2147483629 * 48271+40692 * k) % 2147483629+1,?_⟩;simp[F_7,ua,d_7,hl,h1,c1,c2,c4,c5,hz,ha]
 ·by_cases h2:0 < ns.length
  ·obtain⟨z,hz⟩:=Uq ns (i:=k % ns.length) (B4 _ ⋯) (Fy _ ⋯);obtain⟨a,ha⟩:=fin (7919 * k+11+z % 2147483629 * 69623);refine⟨a,((7919 * k+11+z % 2147483629 * 69623) % 2147483629 * 48271+40692 * k) % 2147483629+1,?_⟩;simp[F_7,ua,d_7,hl,h1,h2,c1,c2,c3,c4,c5,hz,ha]
  ·obtain⟨a,ha⟩:=fin (7919 * k+11);simp[F_7,ua,d_7,hl,h1,h2,c1,c2,c4,c5,ha]
theorem ja:∀ m ls fs a b n fuel,ls.length=m->m < fuel->ls.length+fs.length<=5->∃ fs' a' b',fs'.Perm (fs++ls) /\
  vH PF Qu fuel [~~~[iT a,iT b],~~~(iT n),some (.l (wa ls)),~~~(uR fs)]=↥([~~~[iT a',iT b'],~~~(iT n),~~~[],~~~(uR fs')]):=by
 intro m;induction m with
 | zero =>
  intro ls fs a b n fuel hl hf h5;obtain rfl:ls=[]:=Cd.mp hl;obtain⟨f,rfl⟩:∃ f,fuel=f+1:=⟨fuel - 1,by lia⟩
  exact⟨fs,a,b,by simp,by rw[Mn];simp[PF]⟩
 | succ m ih =>
  intro ls fs a b n fuel hl hf h5;obtain⟨f,rfl⟩:∃ f,fuel=f+1:=⟨fuel - 1,by lia⟩
  obtain⟨r,a',b',hr,e⟩:=NM a b ls.length ⋯ ⋯;obtain⟨z,hz⟩:∃ z,ls[r]?=some z:=⟨ls[r],by simp⟩
  obtain⟨fs',a2,b2,hp,e2⟩:=ih (ls.eraseIdx r) (fs++[z]) a' b' n f (by rw[DH hr];lia) ⋯ (by rw[DH hr];simp;lia);refine⟨fs',a2,b2,hp.trans (UX hz),?_⟩;rw[← e2,Mn];have hb:inR 9223372036854775807 r=true:=NH ⋯;have g1:ls.length<=AD:=Lm ⋯;have g2:fs.length+1<=AD:=Lm ⋯;have g3:1<=AD:=by decide
  simp[PF,Qu,e,hb,SW hr,hz,gd,g1,g2,g3,show 0 < ls.length by lia,XS]
def UF a b n (hn:n<=5):∃ t a' b',IsT n t/\ABz [.l [iT a,iT b],.v (iT n)]=some (.v (uR t),[iT a',iT b']):=by
 obtain⟨t,a',b',hp,e⟩:=ja n (AE n) [] a b n wY ↥1 (by rw[Nz];lia) (by simp_all);refine⟨t,a',b',RG ‹_›,?_⟩;simp at e;simp[ABz,ua,AEc,Ml n ⋯,NZ,e]
def M6(h1:tg Γ t=some Γ1)(h2:b Γ1=some (.nx Γ2)):vm tg b (t::r) Γ=vm tg b r Γ2:=by
 rw[N9,h1,Ar,h2,Ar]
def RW(h:f Γ=some (.nx Γ')):uO f g Γ=g Γ':=by simp_all
noncomputable def Pl:Nat->T->Prop
 | 0,t=>∃ v,t=.a v/\(tyN [] (.v (.a v))).isSome=true
 | n+1,t=>(∃ v,t=.a v/\(tyN [] (.v (.a v))).isSome=true)\/∃ ts,t=.t ts/\ts.length<=10000/\∀ x∈ts,Pl n x
theorem Pl.atom(h:(tyN [] (.v (.a v))).isSome=true):Pl n (.a v):=by
 cases n with
 | zero=>exact⟨v,rfl,h⟩
 | succ n=>exact .inl ⟨v,rfl,h⟩
def Pl.int i:Pl n (iT i):=Pl.atom rfl
def Pl.tup(hl:ts.length<=10000)(h:∀ x∈ts,Pl n x):Pl (n+1) (.t ts):=.inr ⟨ts,rfl,hl,h⟩
def Pl.turn(h:t.length<=10000):Pl (n+1) (uR t):=Pl.tup (by simp_all) λx hx=>by
 obtain⟨k,_,rfl⟩:=Am.mp hx;exact Pl.int _
theorem iU xs:xW xs xs=xs.map λx=>.t [x,x]:=by
 unfold xW;induction xs with
 | nil=>rfl
 | cons x r ih=>simp[ih]
theorem gG(rec:DF)(v:V)(h:(tyN [] (.v (.a v))).isSome=true):ua none 2 2 (d_0 rec) [.v (.a v),.v (.a v)]=some (.v (bT true),[]):=by
 have g2:=sL 2;cases v with
 | int i | bl b | str x=>simp[ua,d_0,gd,g2,xf,ADO,tyN,zN,zt]
 | non =>
  have e:∀ Γ,v5 Γ (.v (.a .non)) (.v (.a .non))= ~~~(.a (.bl true)):=λΓ=>rfl
  kernel_rfl
 | byt _ | flt _ | ref _ | ty _=>cases h
def Yq(rec:DF)(ts:List T)(hl:ts.length<=10000)(h:∀ x∈ts,rec [.v x,.v x]=some (.v (bT true),[])):ua none 2 2 (d_0 rec) [.v (.t ts),.v (.t ts)]=some (.v (bT true),[]):=by
 have g2:=sL 2;have g3:ts.length<=AD:=Lm ⋯;obtain⟨o1,o2,e⟩:=SK (λx:T=>x) (λx=>x) (λ_=>bT true) (de:=N1 rec) (R:=[]) ts (λx hx=>by
  have:=h x hx;simp only[bT]at this;simp[N1,this]) none none
 have e':vg (xG 2 (vK (uP 0) (vK (uP 1) xc))) vy (N1 rec) (xW ts ts) [none,none]=some (Ad ts.length (T.a (V.bl true)),[o1,o2]):=by
  rw[iU,e,List.map_const']
 simp[ua,d_0,gd,g2,g3,xf,ADO,tyN,zN,zt,ADU,e']
theorem UN:∀ n t,Pl n t->F_0 (n+1) [.v t,.v t]=some (.v (bT true),[])
 | 0,_,⟨v,rfl,h⟩ | n+1,_,.inl ⟨v,rfl,h⟩=>gG _ v h
 | n+1,_,.inr ⟨ts,rfl,hl,h⟩=>Yq _ ts hl λx hx=>UN n x (h x hx)
def ABa t (h:Pl (Nr - 1) t):F_0 Nr [.v t,.v t]=some (.v (.a (.bl true)),[]):=UN (Nr - 1) t h
@[simp] theorem rj(a b:String):(F3 a=F3 b)=(a=b):=by
 refine propext ⟨λh=>?_,λh=>by rw[h]⟩;rw[Hj,Hj]at h;have h2:=congrArg (λs=>s.cps.toList) h;simp only[H9]at h2;refine String.toList_inj.mp (List.map_inj_right (λx y e=>?_) |>.mp h2);exact Char.ext (UInt32.toNat_inj.mp e)
inductive Sy where
 | yes | no | ask (q:Nat) | nt (a:Sy) | an (a b:Sy) | or (a b:Sy) | ei (a b:Sy) | mo (a b c:Sy)
noncomputable abbrev sT (x:Str):T:=.a (.str x)
noncomputable def Sy.t:Sy->T
 | .yes=>.t [sT "yes"]
 | .no=>.t [sT "no"]
 | .ask q=>.t [sT "ask",iT q]
 | .nt a=>.t [sT "not",a.t]
 | .an a b=>.t [sT "and",a.t,b.t]
 | .or a b=>.t [sT "or",a.t,b.t]
 | .ei a b=>.t [sT "either",a.t,b.t]
 | .mo a b c=>.t [sT "most",a.t,b.t,c.t]
noncomputable def Sy.kids:Sy->List Sy
 | .yes=>[]
 | .no=>[]
 | .ask _=>[]
 | .nt a=>[a]
 | .an a b=>[a,b]
 | .or a b=>[a,b]
 | .ei a b=>[a,b]
 | .mo a b c=>[a,b,c]
noncomputable def Sy.parts:Sy->Nat
 | .yes=>1
 | .no=>1
 | .ask _=>1
 | .nt a=>1+a.parts
 | .an a b=>1+a.parts+b.parts
 | .or a b=>1+a.parts+b.parts
 | .ei a b=>1+a.parts+b.parts
 | .mo a b c=>1+a.parts+b.parts+c.parts
noncomputable def Sy.down:Sy->Nat
 | .yes=>1
 | .no=>1
 | .ask _=>1
 | .nt a=>1+a.down
 | .an a b=>1+max a.down b.down
 | .or a b=>1+max a.down b.down
 | .ei a b=>1+max a.down b.down
 | .mo a b c=>1+max a.down (max b.down c.down)
noncomputable def Sy.wt:Sy->Nat
 | .yes=>1
 | .no=>1
 | .ask _=>1
 | .nt a=>a.wt
 | .an a b=>2 * (a.wt+b.wt)
 | .or a b=>2 * (a.wt+b.wt)
 | .ei a b=>8 * (a.wt+b.wt)
 | .mo a b c=>12 * (a.wt+b.wt)+4 * c.wt
noncomputable def Sy.qs (q:Nat):Sy->Prop
 | .yes=>True
 | .no=>True
 | .ask k=>k < q
 | .nt a=>a.qs q
 | .an a b=>a.qs q/\b.qs q
 | .or a b=>a.qs q/\b.qs q
 | .ei a b=>a.qs q/\b.qs q
 | .mo a b c=>a.qs q/\b.qs q/\c.qs q
theorem Sy.parts_pos:∀ s:Sy,1<=s.parts
 | .yes | .no | .ask _=>AL _
 | .nt a=>by simp only[Sy.parts];lia
 | .an a b | .or a b | .ei a b | .mo a b c=>by simp[Sy.parts];lia
theorem Sy.down_pos:∀ s:Sy,1<=s.down
 | .yes | .no | .ask _=>AL _
 | .nt a | .an a b | .or a b | .ei a b | .mo a b c=>by simp only[Sy.down];lia
noncomputable def Sy.rs (f:Sy->T):Sy->Rs
 | .yes=>.mk (Sy.t .yes) (f .yes) []
 | .no=>.mk (Sy.t .no) (f .no) []
 | .ask q=>.mk (Sy.t (.ask q)) (f (.ask q)) []
 | .nt a=>.mk (Sy.t (.nt a)) (f (.nt a)) [a.rs f]
 | .an a b=>.mk (Sy.t (.an a b)) (f (.an a b)) [a.rs f,b.rs f]
 | .or a b=>.mk (Sy.t (.or a b)) (f (.or a b)) [a.rs f,b.rs f]
 | .ei a b=>.mk (Sy.t (.ei a b)) (f (.ei a b)) [a.rs f,b.rs f]
 | .mo a b c=>.mk (Sy.t (.mo a b c)) (f (.mo a b c)) [a.rs f,b.rs f,c.rs f]
def Sy.rs_e f (s:Sy):(s.rs f).e=s.t:=by cases s <;> rfl
def Sy.rs_v f (s:Sy):(s.rs f).v=f s:=by cases s <;> rfl
theorem Sy.rs_pre f:∀ s:Sy,(s.rs f).pre.length=s.parts
 | .yes | .no | .ask _=>by kernel_rfl
 | .nt a=>by simp[Sy.rs,MD,ML,L4,Sy.parts,a.rs_pre f];lia
 | .an a b | .or a b | .ei a b=>by simp[Sy.rs,MD,ML,L4,Sy.parts,a.rs_pre f,b.rs_pre f];lia
 | .mo a b c=>by simp[Sy.rs,MD,ML,L4,Sy.parts,a.rs_pre f,b.rs_pre f,c.rs_pre f];lia
def yO x r:xB (x::r) (some 1) none=r:=W4 (x::r) 1
def Mp(s:Sy):AAh [.v s.t]=some (.v (.t (s.kids.map Sy.t)),[]):=by
 cases s <;> simp[AAh,ua,AFI,Sy.t,Sy.kids,yO]
theorem Sy.rs_in f:∀ s:Sy,(s.rs f).In AAh
 | .yes=>L1.mpr ⟨.inl (Mp .yes),L9⟩
 | .no=>L1.mpr ⟨.inl (Mp .no),L9⟩
 | .ask q=>L1.mpr ⟨.inl (Mp (.ask q)),L9⟩
 | .nt a=>L1.mpr ⟨.inl (by simpa [Sy.kids,Sy.rs_e] using Mp (.nt a)),Lr.mpr ⟨a.rs_in f,L9⟩⟩
 | .an a b=>L1.mpr ⟨.inl (by simpa [Sy.kids,Sy.rs_e] using Mp (.an a b)),Lr.mpr ⟨a.rs_in f,Lr.mpr ⟨b.rs_in f,L9⟩⟩⟩
 | .or a b=>L1.mpr ⟨.inl (by simpa [Sy.kids,Sy.rs_e] using Mp (.or a b)),Lr.mpr ⟨a.rs_in f,Lr.mpr ⟨b.rs_in f,L9⟩⟩⟩
 | .ei a b=>L1.mpr ⟨.inl (by simpa [Sy.kids,Sy.rs_e] using Mp (.ei a b)),Lr.mpr ⟨a.rs_in f,Lr.mpr ⟨b.rs_in f,L9⟩⟩⟩
 | .mo a b c=>L1.mpr ⟨.inl (by simpa [Sy.kids,Sy.rs_e] using Mp (.mo a b c)),Lr.mpr ⟨a.rs_in f,Lr.mpr ⟨b.rs_in f,Lr.mpr ⟨c.rs_in f,L9⟩⟩⟩⟩
noncomputable def orS (s t:Sy):Sy:=.nt (.an (.nt s) (.nt t))
noncomputable def Sy.spell:Sy->Sy
 | .yes=>.yes
 | .no=>.no
 | .ask q=>.ask q
 | .nt a=>.nt a.spell
 | .an a b=>.an a.spell b.spell
 | .or a b=>orS a.spell b.spell
 | .ei a b=>orS (.an a.spell (.nt b.spell)) (.an (.nt a.spell) b.spell)
 | .mo a b c=>orS (.an a.spell b.spell) (.an c.spell (orS a.spell b.spell))
def Z0 x y:ABh [.v x,.v y]=some (.v (.t [sT "not",.t [sT "and",.t [sT "not",x],.t [sT "not",y]]]),[]):=rfl
def aX(s:Sy):ABq [.v s.t,.r (s.kids.map λk=>k.spell.t)]=some (.v s.spell.t,[]):=by
 have g1:1<=AD:=by decide
 cases s <;> simp[ABq,ua,AFP,Sy.t,Sy.kids,Sy.spell,orS,Z0,inS,vU,vI,inV,yY]
def Re{f g:DS}{Γ Γ':En}{r:Option O}(h:f Γ=some (.nx Γ'))(k:g Γ'=r):uO f g Γ=r:=by rw[Qy,h];exact k
def jA{f g:DS}{Γ Γ':En}{s:S}(h:f Γ=some (.rt s Γ')):uO f g Γ=some (.rt s Γ'):=by rw[Qy,h];rfl
def AGJ{ta:DT}{f g:DS}{Γ Γ':En}{r:Option O}(h:ta Γ=some (true,Γ'))(k:f Γ'=r):vd ta f g Γ=r:=by rw[QS,h];exact k
def AFp{ta:DT}{f g:DS}{Γ Γ':En}{r:Option O}(h:ta Γ=some (false,Γ'))(k:g Γ'=r):vd ta f g Γ=r:=by rw[QS,h];exact k
def ll{np nN:Nat}{g:DS}{gs:List G}{s:S}{xs:List T}{rest:En}{r:G}(hl:gs.length=np)(h:g (gs.map some++Ad (nN - np) none)=some (.rt s (some (.l xs)::rest)))(hr:ABl (some 0) (some (.l xs)::rest) s=some r):ua (some 0) np nN g gs=some (r,xs):=by
 unfold ua;rw[if_pos hl,h,Ar];dsimp only;rw[hr];rfl
def xi (P:Sy->Prop) (o:Option O):Prop:=∃ (s:Sy) (a b:Int) (r:En),P s/\o=some (.rt (.v s.t) (some (.l [iT a,iT b])::r))
def MK{P f g Γ Γ'}(h:f Γ=some (.nx Γ'))(k:xi P (g Γ')):xi P (uO f g Γ):=by rw[Qy,h];exact k
def Nk{P f g Γ}(k:xi P (f Γ)):xi P (uO f g Γ):=let ⟨s,a,b,r,p,e⟩:=k;⟨s,a,b,r,p,jA e⟩
def ACU{P t f g Γ}(h:t Γ=some (true,Γ))(k:xi P (f Γ)):xi P (vd t f g Γ):=by rw[QS,h];exact k
def ACM{P t f g Γ}(h:t Γ=some (false,Γ))(k:xi P (f Γ)):xi P (uO (vd t g uX) f Γ):=MK (AFp h rfl) k
def TK{P np nN g}{gs:List G}(h:xi P (g (gs.map some++Ad (nN - np) none)))(hl:gs.length=np:=by rfl):∃ (s:Sy) (a b:Int),P s/\ua (some 0) np nN g gs=some (.v s.t,[iT a,iT b]):=let ⟨s,a,b,_,p,e⟩:=h;⟨s,a,b,p,ll hl e rfl⟩
def AFu{n:Nat}{m r d f:Int}(hd:d<=(n+1:Nat))(c:¬ (r < m\/d < 2\/f=0)):1<=n/\d - 1<=n/\¬ r < m/\¬ d < 2/\¬ f=0:=by lia
def AEn{x:Nat}{d:Int}(h:x<=max 1 (d - 1))(c:¬ d < 2):((1+x:Nat):Int)<=max 1 d:=by lia
def ABy{x y:Nat}{d:Int}(h:x<=max 1 (d - 1))(h':y<=max 1 (d - 1))(c:¬ d < 2):((1+max x y:Nat):Int)<=max 1 d:=by lia
def AGb{r f:Int}(h:r<=1000)(c:¬ (f < 3\/r < 3)):¬ f < 3/\¬ r < 3/\0 < r - 2/\r - 2 < 1073741824:=by lia
def AGO{r k:Int}(h:r<=1000)(h0:0<=k)(h1:k < r - 2):1<=1+k/\1+k<=1000/\1<=r - 1 - (1+k)/\r - 1 - (1+k)<=1000:=by lia
def AGP{r x k:Int}(h:r<=1000)(hx:1<=x)(h0:0<=k)(h1:k < r - 2 - x):1<=1+k/\1+k<=1000/\1<=r - 1 - x - (1+k)/\r - 1 - x - (1+k)<=1000:=by lia
theorem SC(q:Nat)(hq0:0 < q)(hq:q<=100):∀ (n:Nat) (a b room down:Int),1<=n->down<=n->1<=room->room<=1000->∃ (s:Sy) (a' b':Int),((s.down:Int)<=max 1 down/\(s.parts:Int)<=room/\s.qs q) /\
  F_2 n [.l [iT a,iT b],.v (iT (q:Int)),.v (iT room),.v (iT down)]=some (.v s.t,[iT a',iT b']):=by
 intro n;induction n with
 | zero=>intro _ _ _ _ h;cases h
 | succ n ih =>
  intro a b room down _ hd hr hr2;obtain⟨f,a1,b1,f0,f1,e1⟩:=Mz a b 10 ∅ ∅;refine TK ?_;unfold d_2;refine MK (by simp[e1];rfl) ?_;by_cases c:room < 2\/down < 2\/f=0
  ·obtain⟨k,a2,b2,hk,e2⟩:=NM a1 b1 q hq0 ⋯;obtain⟨g,a3,b3,g0,g1,e3⟩:=Mz a2 b2 8 ∅ ∅;refine Nk (ACU ↥2 ?_);obtain⟨s,i,mx,es,d1,p1,qs⟩:∃ (s:Sy) (i:Nat),(if (5:Int) < g then g - 5 else 0)=i/\[Sy.t (.ask k),Sy.t .yes,Sy.t .no][i]?=some s.t/\s.down=1/\s.parts=1/\s.qs q:=by
    by_cases h:5 < g
    ·rw[if_pos h];by_cases h6:g=6
     ·exact⟨.yes,1,by rw[h6];rfl,rfl,rfl,rfl,trivial⟩
     ·exact⟨.no,2,by lia,rfl,rfl,rfl,trivial⟩
    ·exact⟨.ask k,0,if_neg h,rfl,rfl,rfl,hk⟩
   simp only[Sy.t,iT]at es;exact⟨s,a3,b3,_,⟨by rw[d1];exact JM ..,by rw[p1];exact hr,qs⟩,by simp[e2,e3,mx,MW,es];rfl⟩
  ·obtain⟨n1,d1,l1,l2,l3⟩:=AFu hd c;refine ACM (by simp[l1,l2,l3]) ?_;by_cases t:f < 3\/room < 3
   ·obtain⟨s,a2,b2,⟨h1,h2,h3⟩,e2⟩:=ih a1 b1 (room - 1) (down - 1) n1 d1 ⋯ ⋯;exact Nk (ACU ↥2 ⟨.nt s,a2,b2,_,⟨AEn h1 l2,by simp only[Sy.parts];lia,h3⟩,by simp[e2,Sy.t];rfl⟩)
   ·obtain⟨t1,t2,t3,t4⟩:=AGb hr2 t;obtain⟨k,a2,b2,k0,k1,e2⟩:=Mz a1 b1 (room - 2) t3 t4;obtain⟨r1,r2,r3,r4⟩:=AGO hr2 k0 k1;obtain⟨s1,a3,b3,⟨h1,h2,h3⟩,e3⟩:=ih a2 b2 (1+k) (down - 1) n1 d1 r1 r2;refine ACM (by simp[t1,t2]) (MK (by simp[e2];rfl) (MK (by simp[e3];rfl) ?_));clear e1 e2 e3;generalize 1+k=x at *;by_cases m:f=9/\3 < room/\x < room - 2
    ·obtain⟨q1,q2,q3⟩:=m;obtain⟨k',a4,b4,k0',k1',e4⟩:=Mz a3 b3 (room - 2 - x) (Int.sub_pos_of_lt q3) ⋯;obtain⟨u1,u2,u3,u4⟩:=AGP hr2 r1 k0' k1';obtain⟨s2,a5,b5,⟨v1,v2,v3⟩,e5⟩:=ih a4 b4 (1+k') (down - 1) n1 d1 u1 u2;obtain⟨s3,a6,b6,⟨w1,w2,w3⟩,e6⟩:=ih a5 b5 (room - 1 - x - (1+k')) (down - 1) n1 d1 u3 u4;exact Nk (ACU (by simp[q1,q2,q3]) (MK (by simp[e4];rfl) (MK (by simp[e5];rfl) ⟨.mo s1 s2 s3,a6,b6,_,⟨ABy h1 ⋯ l2,by simp only[Sy.parts];lia,h3,v3,w3⟩,by simp[e6,Sy.t];rfl⟩)))
    ·obtain⟨s2,a4,b4,⟨v1,v2,v3⟩,e4⟩:=ih a3 b3 (room - 1 - x) (down - 1) n1 d1 r3 r4;refine ACM ↥2 ?_;obtain⟨s,w,i,ei,es,et,ed,ep,eq⟩:∃ (s:Sy) (w:Str) (i:Nat),f % 3=i/\[sT "and",sT "or",sT "either"][i]?=some (sT w)/\s.t=.t [sT w,s1.t,s2.t]/\s.down=1+max s1.down s2.down/\s.parts=1+s1.parts+s2.parts/\s.qs q=(s1.qs q/\s2.qs q):=by
      rcases (by lia:f % 3=0\/f % 3=1\/f % 3=2) with h | h | h
      ·exact⟨.an s1 s2,_,0,h,rfl,rfl,rfl,rfl,rfl⟩
      ·exact⟨.or s1 s2,_,1,h,rfl,rfl,rfl,rfl,rfl⟩
      ·exact⟨.ei s1 s2,_,2,h,rfl,rfl,rfl,rfl,rfl⟩
     simp only[sT]at es et;exact MK (by simp[ei,MW,es];rfl) ⟨s,a4,b4,_,⟨by rw[ed];exact ABy h1 v1 l2,by rw[ep];lia,eq ▸ ⟨h3,v3⟩⟩,by simp[e4,et];rfl⟩
def ku(q:Nat)(hq0:0 < q)(hq:q<=100)(n:Nat)(a b:Int)(room down:Nat)(h1:1<=n)(h2:down<=n)(h3:1<=room)(h4:room<=1000):∃ (s:Sy) (a' b':Int),s.down<=max 1 down/\s.parts<=room/\s.qs q /\
  F_2 n [.l [iT a,iT b],.v (iT (q:Int)),.v (iT (room:Int)),.v (iT (down:Int))]=some (.v s.t,[iT a',iT b']):=by
 obtain⟨s,a',b',⟨u1,u2,u3⟩,e⟩:=SC q hq0 hq n a b room down h1 ⋯ ⋯ ⋯;exact⟨s,a',b',by lia,by lia,u3,e⟩
def AGj(rec:DF)(s:Sy):Qx rec [~~~s.t]=some (true,[~~~s.t]):=by
 cases s <;> kernel_rfl
def AHJ(rec:DF)(i:Int):Qx rec [~~~(iT i)]=some (false,[~~~(iT i)]):=by kernel_rfl
def AGn rec (s:Sy) (m:Nat) (h:rec [.v s.t]=some (.v (iT m),[])):PL rec [~~~s.t]=some (.v (iT m),[~~~s.t]):=by
 simp[PL,h]
theorem VY:∀ (n:Nat) (s:Sy),s.down<=n->F_5 n [.v s.t]=some (.v (iT (s.wt:Int)),[]):=by
 intro n;induction n with
 | zero=>intro s h;have:=s.down_pos;lia
 | succ n ih =>
  intro s h;have g1:=sL 1;have g2:=sL 2;have g3:=sL 3;have c12:∀ x:Int,vv 12 x:=λx=>.inl ⟨by decide,by decide⟩
  have c4:∀ x:Int,vv 4 x:=λx=>.inl ⟨by decide,by decide⟩
  have c2:∀ x:Int,vv x 2:=λx=>.inr ⟨by decide,by decide⟩
  have c8:∀ x:Int,vv x 8:=λx=>.inr ⟨by decide,by decide⟩
  have ea:=λk hk=>AGn _ k _ (ih k hk)
  have qi:=λi:Int=>AHJ (F_5 n) i
  have qk:=AGj (F_5 n);simp only[iT]at qi;cases s with
  | yes | no=>kernel_rfl
  | ask q=>kernel_rfl
  | nt a =>
   have h1:=ea a (by simp only[Sy.down]at h;lia);simp[F_5,ua,d_5,Sy.t,Sy.wt,yO,L7,MG,gd,g1,g2,g3,inS,vU,vI,inV,yY,qk,h1]
  | an a b | or a b =>
   have h1:=ea a (by simp only[Sy.down]at h;lia);have h2:=ea b (by simp only[Sy.down]at h;lia);simp[F_5,ua,d_5,Sy.t,Sy.wt,yO,L7,MG,gd,g1,g2,g3,inS,vU,vI,inV,yY,qk,h1,h2,c2];lia
  | ei a b =>
   have h1:=ea a (by simp only[Sy.down]at h;lia);have h2:=ea b (by simp only[Sy.down]at h;lia);simp[F_5,ua,d_5,Sy.t,Sy.wt,yO,L7,MG,gd,g1,g2,g3,inS,vU,vI,inV,yY,qk,h1,h2,c8];lia
  | mo a b c =>
   have h1:=ea a (by simp only[Sy.down]at h;lia);have h2:=ea b (by simp only[Sy.down]at h;lia);have h3:=ea c (by simp only[Sy.down]at h;lia);simp[F_5,ua,d_5,Sy.t,Sy.wt,yO,L7,MG,gd,g1,g2,g3,inS,vU,vI,inV,yY,qk,h1,h2,h3,c12,c4]
def AGw(rec:DF)(s:Sy):Q7 rec [~~~s.t]=some (true,[~~~s.t]):=by
 cases s <;> kernel_rfl
def AGq(rec:DF)(i:Int):Q7 rec [~~~(iT i)]=some (false,[~~~(iT i)]):=by kernel_rfl
def AGp rec (s:Sy) (m:Nat) (h:rec [.v s.t]=some (.v (iT m),[])):OY rec [~~~s.t]=some (.v (iT m),[~~~s.t]):=by
 simp[OY,h]
theorem bE:∀ n (s:Sy),s.down<=n->F_1 n [.v s.t]=some (.v (iT (s.parts:Int)),[]):=by
 intro n;induction n with
 | zero=>intro s h;have:=s.down_pos;lia
 | succ n ih =>
  intro s h;have g1:1<=AD:=by decide
  have g2:2<=AD:=by decide
  have g3:3<=AD:=by decide
  have ea:=λk hk=>AGp _ k _ (ih k hk)
  have qi:=λi=>AGq (F_1 n) i
  have qk:=AGw (F_1 n);cases s with
  | yes | no=>kernel_rfl
  | ask q=>kernel_rfl
  | nt a =>
   have h1:=ea a (by simp[Sy.down]at h;lia);simp[F_1,ua,d_1,Sy.t,Sy.parts,yO,L7,MG,gd,g1,vq,qk,h1]
  | an a b | or a b | ei a b =>
   have h1:=ea a (by simp[Sy.down]at h;lia);have h2:=ea b (by simp[Sy.down]at h;lia);simp[F_1,ua,d_1,Sy.t,Sy.parts,yO,L7,MG,gd,g1,g2,vq,qk,h1,h2];lia
  | mo a b c =>
   have h2:=ea b (by simp only[Sy.down]at h;lia);have h3:=ea c (by simp only[Sy.down]at h;lia);simp[F_1,ua,d_1,Sy.t,Sy.parts,yO,L7,MG,gd,g1,g2,g3,ABw,vq,qk,(ea a (by simp only[Sy.down]at h;lia)),h2,h3];lia
def AGo{P:Sy->Prop}{Q:Int->Int->T->Int->List T->Option G->En->Prop}{A B C:DS}{Γ:En}(h:∃ a b w y s o Γ3,Q a b w y s o Γ3/\uO A B Γ=some (.nx Γ3))(k:∀ {a b w y s o Γ3},Q a b w y s o Γ3->xi P (C Γ3)):xi P (uO A (uO B C) Γ):=by
 obtain⟨_,_,_,_,_,_,Γ3,q,e⟩:=h;have k:=k q;have e':uO A (uO B C) Γ=C Γ3:=by
  simp only[uO]at e ⊢;cases h1:A Γ with
  | none=>rw[h1]at e;cases e
  | some o1 =>
   rw[h1]at e;cases o1 with
   | nx Γ1=>simp only[Ar]at e ⊢;rw[e];rfl
   | rt _ _ | bk _ | ct _=>cases e
 rw[e'];exact k
def ADJ{t:DT}{f:DS}{Γ:En}(h:t Γ=some (false,Γ)):vd t f uX Γ=some (.nx Γ):=AFp h rfl
def AFB{t:DT}{f g:DS}{Γ Γ':En}(h:t Γ=some (true,Γ))(k:f Γ=some (.nx Γ')):vd t f g Γ=some (.nx Γ'):=AGJ h k
def AHH{m:Int}(h:¬ m < 4)(h2:m<=1000):2<=m / 2/\m / 2<=1000/\(15 < m->2<=m / 8/\m / 8<=1000)/\(27 < m->0 < (m - 24) / 4/\(m - 24) / 4 < 1073741824):=by lia
def AHF{m k:Int}(h2:m<=1000)(h:0<=k)(h1:k < (m - 24) / 4):1<=1+k/\1+k<=1000/\2<=(m - 4 * (1+k)) / 12/\(m - 4 * (1+k)) / 12<=1000:=by lia
def AGh{y k:Int}(h2:y<=1000)(h:0<=k)(h1:k < y - 1):1<=1+k/\1+k<=1000/\1<=y - (1+k)/\y - (1+k)<=1000:=by lia
theorem ji(q:Nat)(hq0:0 < q)(hq:q<=100):∀ (n:Nat) (a b most down:Int),1<=n->down<=n->1<=most->most<=1000->∃ (s:Sy) (a' b':Int),((s.down:Int)<=max 1 down/\s.qs q) /\
  F_4 n [.l [iT a,iT b],.v (iT (q:Int)),.v (iT most),.v (iT down)]=some (.v s.t,[iT a',iT b']):=by
 intro n;induction n with
 | zero=>intro _ _ _ _ h;cases h
 | succ n ih =>
  intro a b most down _ hd hm hm2;obtain⟨f,a1,b1,f0,f1,e1⟩:=Mz a b 8 ∅ ∅;refine TK ?_;unfold d_4;refine MK (by simp[e1];rfl) ?_;by_cases c:most < 4\/down < 2\/f=0
  ·obtain⟨s,a2,b2,⟨h1,_,h3⟩,e2⟩:=SC q hq0 hq M3 a1 b1 1 1 ∅ ∅ ∅ ∅;exact Nk (ACU ↥2 ⟨s,a2,b2,_,⟨Int.le_trans h1 (JM ..),h3⟩,by simp[e2];rfl⟩)
  ·obtain⟨n1,d1,l1,l2,l3⟩:=AFu hd c;refine ACM (by simp[l1,l2,l3]) ?_;by_cases o:f=1
   ·obtain⟨s,a2,b2,⟨h1,h2⟩,e2⟩:=ih a1 b1 most (down - 1) n1 d1 hm hm2;exact Nk (ACU (by simp[o]) ⟨.nt s,a2,b2,_,⟨AEn h1 l2,h2⟩,by simp[e2,Sy.t];rfl⟩)
   ·obtain⟨y1,y2,y3,y4⟩:=AHH l1 hm2;have d2:yA most 2:=⟨by decide,by decide⟩
    have d8:yA most 8:=⟨by decide,by decide⟩
    have d4:yA (most - 24) 4:=⟨by decide,by decide⟩
    have d12:∀ z:Int,yA z 12:=λz=>⟨by decide,by decide⟩
    have cm:∀ z:Int,vv 4 z:=λz=>.inl ⟨by decide,by decide⟩
    obtain⟨w0,i,ei,ew,hw⟩:∃ (w:Str) (i:Nat),f % 2=i/\[sT "and",sT "or"][i]?=some (sT w)/\∀ s1 s2:Sy,s1.down<=max 1 (down - 1)->s2.down<=max 1 (down - 1)->s1.qs q->s2.qs q->∃ s:Sy,s.t=.t [sT w,s1.t,s2.t]/\s.down<=max 1 down/\s.qs q:=by
     rcases (by lia:f % 2=0\/f % 2=1) with h | h
     ·exact⟨_,0,h,rfl,λs1 s2 u v x z=>⟨.an s1 s2,rfl,ABy u v l2,x,z⟩⟩
     ·exact⟨_,1,h,rfl,λs1 s2 u v x z=>⟨.or s1 s2,rfl,ABy u v l2,x,z⟩⟩
    simp only[sT]at ew;refine ACM (by simp[o]) (MK (by simp[ei,MW,ew,d2];rfl) (AGo (Q:=λA B w y ks o8 Γ=>Γ=([~~~[iT A,iT B],~~~(iT (q:Int)),~~~(iT most),~~~(iT down),~~~(iT f),~~~w,~~~(iT y),~~~(.t ks),o8,none,none]:En)/\2<=y/\y<=1000/\ks.length<=1/\∀ s1 s2:Sy,s1.down<=max 1 (down - 1)->s2.down<=max 1 (down - 1)->s1.qs q->s2.qs q->∃ s:Sy,s.t=T.t (w::s1.t::s2.t::ks)/\s.down<=max 1 down/\s.qs q) ?_ ?_))
    ·by_cases m:f < 4/\27 < most
     ·obtain⟨m1,m2⟩:=m;obtain⟨k,a2,b2,k0,k1,e2⟩:=Mz a1 b1 ((most - 24) / 4) (y4 m2).1 (y4 m2).2;obtain⟨u1,u2,u3,u4⟩:=AHF hm2 k0 k1;obtain⟨s0,a3,b3,⟨v1,v2⟩,e3⟩:=ih a2 b2 (1+k) (down - 1) n1 d1 u1 u2;exact⟨a3,b3,sT "most",_,[s0.t],_,_,⟨rfl,u3,u4,AL _,λs1 s2 u v x z=>⟨.mo s1 s2 s0,rfl,ABy u ⋯ l2,x,z,v2⟩⟩,Re (ADJ ↥2) (AFB (by simp[m1,m2]) (by simp[e2,d4,d12,cm,e3,gd];rfl))⟩
     ·by_cases p:f=4/\15 < most
      ·exact⟨a1,b1,sT "either",_,[],_,_,⟨rfl,(y3 p.2).1,(y3 p.2).2,by decide,λs1 s2 u v x z=>⟨.ei s1 s2,rfl,ABy u v l2,x,z⟩⟩,Re (AFB (by simp[p.2];exact p.1) (by simp[d8];rfl)) (ADJ ↥2)⟩
      ·exact⟨a1,b1,_,_,[],_,_,⟨rfl,y1,y2,by decide,hw⟩,Re (ADJ ↥2) (ADJ ↥2)⟩
    ·rintro A B w y ks o8 _ ⟨rfl,h2,hy,hk,hs⟩;obtain⟨k,a2,b2,k0,k1,e2⟩:=Mz A B (y - 1) ⋯ ⋯;obtain⟨u1,u2,u3,u4⟩:=AGh hy k0 k1;obtain⟨s1,a3,b3,⟨v1,v2⟩,e3⟩:=ih a2 b2 (1+k) (down - 1) n1 d1 u1 u2;obtain⟨s2,a4,b4,⟨w1,w2⟩,e4⟩:=ih a3 b3 (y - (1+k)) (down - 1) n1 d1 u3 u4;obtain⟨s,et,g1,g2⟩:=hs s1 s2 v1 w1 v2 w2;have g3:3<=AD:=by decide
     have gk:3+ks.length<=AD:=Lm ⋯;exact MK (by simp[e2];rfl) (MK (by simp[e3];rfl) ⟨s,a4,b4,_,⟨g1,g2⟩,by simp[e4,et,gd,g3,gk];rfl⟩)
def cc(q:Nat)(hq0:0 < q)(hq:q<=100)(n:Nat)(a b:Int)(most down:Nat)(h1:1<=n)(h2:down<=n)(h3:1<=most)(h4:most<=1000):∃ (s:Sy) (a' b':Int),s.down<=max 1 down/\s.qs q /\
  F_4 n [.l [iT a,iT b],.v (iT (q:Int)),.v (iT (most:Int)),.v (iT (down:Int))]=some (.v s.t,[iT a',iT b']):=by
 obtain⟨s,a',b',⟨u1,u2⟩,e⟩:=ji q hq0 hq n a b most down h1 ⋯ ⋯ ⋯;exact⟨s,a',b',by lia,u2,e⟩
theorem Sy.head(s:Sy)(h:s.kids≠[]):∃ w,s.t=.t (sT w::s.kids.map Sy.t):=by
 cases s with
 | yes | no | ask q=>exact absurd rfl h
 | nt a | an a b | or a b | ei a b | mo a b c=>exact⟨_,rfl⟩
theorem Sy.leaf(s:Sy)(h:s.kids=[]):s.wt=1/\s.parts=1:=by
 cases s with
 | yes | no | ask q=>exact⟨rfl,rfl⟩
 | nt a | an a b | or a b | ei a b | mo a b c=>cases h
theorem Sy.kid{s k:Sy}(h:k∈s.kids):k.down < s.down/\(s.qs q->k.qs q):=by
 cases s with
 | yes | no | ask q=>cases h
 | nt a =>
  simp only[Sy.kids,AR,Bp,or_false]at h;subst h;exact⟨by simp only[Sy.down];lia,λz=>z⟩
 | an a b | or a b | ei a b =>
  simp only[Sy.kids,AR,Bp,or_false]at h;rcases h with rfl | rfl
  ·exact⟨by simp[Sy.down];omega,λz=>z.1⟩
  ·exact⟨by simp[Sy.down];omega,λz=>z.2⟩
 | mo a b c =>
  simp only[Sy.kids,AR,Bp,or_false]at h;rcases h with rfl | rfl | rfl
  ·exact⟨by simp[Sy.down];lia,λz=>z.1⟩
  ·exact⟨by simp[Sy.down];lia,λz=>z.2.1⟩
  ·exact⟨by simp[Sy.down];lia,λz=>z.2.2⟩
def Sy.kids3(s:Sy):s.kids.length<=3:=by cases s <;> simp[Sy.kids]
theorem SQ q room most (h1:1<=room) (h2:1<=most):∀ m (s:Sy) a b fuel,s.down<=m->s.down<=12->m < fuel->s.qs q->∃ (s':Sy) (a' b':Int),s'.down<=s.down/\s'.qs q/\s'.wt<=most/\s'.parts<=room /\
  vH NP OV fuel [~~~[iT a,iT b],~~~(iT q),~~~(iT room),~~~(iT most),~~~s.t]=↥([~~~[iT a',iT b'],~~~(iT q),~~~(iT room),~~~(iT most),~~~s'.t]):=by
 intro m;induction m with
 | zero=>intro s a b fuel h;have:=s.down_pos;lia
 | succ m ih =>
  intro s a b fuel hd h12 hf hq;obtain⟨f,rfl⟩:∃ f,fuel=f+1:=⟨fuel - 1,by omega⟩
  have ew:=VY NB s h12;have ep:=bE RC s h12;by_cases c:s.wt > most\/s.parts > room
  ·have hk:s.kids≠[]:=λz=>by have:=s.leaf z;omega
   obtain⟨w,et⟩:=s.head hk;obtain⟨j,a1,b1,hj,e1⟩:=NM a b s.kids.length (FZ.mpr hk) (by have:=s.kids3;lia);obtain⟨k,ek⟩:∃ k,s.kids[j]?=some k:=⟨s.kids[j],by simp⟩
   obtain⟨kd,kq⟩:=Sy.kid (CS ek);obtain⟨s',a',b',u1,u2,u3,u4,e2⟩:=ih k a1 b1 f ⋯ ⋯ ⋯ (kq hq);refine⟨s',a',b',by omega,u2,u3,u4,?_⟩;rw[← e2,Mn];have test:NP [~~~[iT a,iT b],~~~(iT q),~~~(iT room),~~~(iT most),~~~s.t]=some (true,[~~~[iT a,iT b],~~~(iT q),~~~(iT room),~~~(iT most),~~~s.t]):=by
    by_cases c1:s.wt > most
    ·have:=by omega
     simp[NP,ew,this]
    ·have:room < (s.parts):=by lia
     simp[NP,ew,ep,(by omega)]
   have body:OV [~~~[iT a,iT b],~~~(iT q),~~~(iT room),~~~(iT most),~~~s.t]=↥([~~~[iT a1,iT b1],~~~(iT q),~~~(iT room),~~~(iT most),~~~k.t]):=by
    have ei:xn (sT w::s.kids.map Sy.t) (1+j)=some k.t:=by
     rw[show 1+j=((j+1:Nat):Int) by lia,MW];simp[ek]
    rw[et];simp[OV,e1,ei]
   rw[test,Ar,if_pos rfl,body,Ar]
  ·have c1:¬ most < (s.wt):=by lia
   have c2:¬ room < (s.parts):=by omega
   refine⟨s,a,b,AL _,hq,by lia,by omega,?_⟩;rw[Mn];simp[NP,ew,ep,c1,c2]
def Yu q room most (hq0:0 < q) (hq:q<=100) (h1:1<=room) (h1':room<=1000) (h2:1<=most) (h2':most<=1000) a b:∃ (s:Sy) (a' b':Int),s.down<=6/\s.qs q/\s.wt<=most/\s.parts<=room /\
  F_9 [.l [iT a,iT b],.v (iT q),.v (iT room),.v (iT most)]=some (.v s.t,[iT a',iT b']):=by
 obtain⟨s,a1,b1,u1,u2,u3,e1⟩:=ku q hq0 hq M3 a b room 5 ∅ ∅ h1 h1';obtain⟨c,a2,b2,hc,e2⟩:=NM a1 b1 2 ∅ ∅;have e1':F_2 M3 [.l [⇑a,⇑b],.v (⇑q),.v (⇑room),.v (⇑5)]=some (.v s.t,[⇑a1,⇑b1]):=e1;have e2':zd [.l [⇑a1,⇑b1],.v (⇑2)]=some (.v (⇑c),[⇑a2,⇑b2]):=e2;by_cases c0:c=0
 ·obtain⟨s2,a3,b3,v1,v2,e3⟩:=cc q hq0 hq Os a2 b2 most 5 ∅ ∅ h2 h2';have e3':F_4 Os [.l [⇑a2,⇑b2],.v (⇑q),.v (⇑most),.v (⇑5)]=some (.v s2.t,[⇑a3,⇑b3]):=e3;obtain⟨s',a',b',w1,w2,w3,w4,e4⟩:=SQ q room most h1 h2 12 s2 a3 b3 wY (by omega) (by omega) (by rw[Nz];lia) v2;refine⟨s',a',b',by lia,w2,w3,w4,?_⟩;simp[F_9,ua,d_9,e1',e2',c0,e3',e4]
 ·obtain⟨s',a',b',w1,w2,w3,w4,e4⟩:=SQ q room most h1 h2 12 s a2 b2 wY (by omega) (by omega) (by rw[Nz];lia) u3;refine⟨s',a',b',by lia,w2,w3,w4,?_⟩;simp[F_9,ua,d_9,e1',e2',c0,e4]
noncomputable def AEC (n:Nat):Nat->List (List Nat)
 | 0=>[[]]
 | m+1=>(AEC n m).flatMap λr=>(AE n).map λk=>k::r
theorem W9:∀ {t},(∀ k∈t,k < n)->t∈AEC n t.length
 | [],_=>AI.mpr rfl
 | k::r,h=>Iu.mpr ⟨r,W9 λx hx=>h x (AH _ hx),Am.mpr ⟨k,By.mpr (h k AG),rfl⟩⟩
noncomputable def ndB:List Nat->Bool
 | []=>true
 | k::r=>!(r.contains k) && ndB r
theorem Ud:∀ {t},t.Nodup->ndB t=true
 | [],_=>rfl
 | k::r,h=>by
  have h':=BG.mp h;simp[ndB,h'.1,Ud h'.2]
noncomputable def AAY (n:Nat):List (List Nat):=(AEC n n).filter ndB
def Pw(h:IsT n t):t∈AAY n:=by
 refine Bs.mpr ⟨?_,Ud h.nd⟩;have:=W9 h.lt;rw[h.len]at this;exact this
noncomputable def ADw:Option (G×List T)->Bool
 | some (.v (.a v),[])=>decide (v=.bl true)
 | _=>false
def jn{x}(h:ADw x=true):x=some (.v (.a (.bl true)),[]):=by
 unfold ADw at h;split at h <;> simp_all
noncomputable def AAV (row:List Nat) (m:Nat):List (Nat×Nat)->List Nat->List Nat
 | [],f=>f
 | (p,k)::r,f=>AAV row m r (f.set p (row.getD ((k+1) % m) 0))
noncomputable def vY (n:Nat) (row:List Nat):List Nat:=AAV row n row.zipIdx (Ad n 0)
noncomputable def ADg (n:Nat) (t:List Nat):Bool:=t.length == n && (t.all λk=>decide (k < n)) && ndB t
theorem Uv:∀ {t},ndB t=true->t.Nodup
 | [],_=>FJ
 | k::r,h=>by
  simp only[ndB,BE,Bool.not_eq_true']at h;refine BG.mpr ⟨λhm=>?_,Uv h.2⟩
  grind
def Sb(h:ADg n t=true):IsT n t:=by
 simp[ADg]at h;exact⟨h.1.1,h.1.2,Uv h.2⟩
def bw:([3,4,5].all λn=>(AAY n).all λrow=>ADg n (vY n row) || row.getD 0 0 != 0)=true:=↥4
def lF t:xZ (wa t)=(t.zipIdx 0).map λq=>.t [iT (q.2:Int),iT (q.1:Int)]:=by
 unfold xZ;simp[List.zipIdx_map,Dc]
theorem gz:∀ m ls fs a b n o4 o5 o6 fuel,ls.length=m->m < fuel->ls.length+fs.length<=5->∃ fs' a' b',(fs'.Perm (fs++ls)/\(fs≠[]->fs'.getD 0 0=fs.getD 0 0)) /\
  vH OJ Om fuel [~~~[iT a,iT b],~~~(iT n),some (.l (wa ls)),some (.l (wa fs)),o4,o5,o6]=↥([~~~[iT a',iT b'],~~~(iT n),~~~[],some (.l (wa fs')),o4,o5,o6]):=by
 intro m;induction m with
 | zero =>
  intro ls fs a b n o4 o5 o6 fuel hl hf h5;obtain rfl:ls=[]:=Cd.mp hl;obtain⟨f,rfl⟩:∃ f,fuel=f+1:=⟨fuel - 1,by lia⟩
  exact⟨fs,a,b,⟨by simp,λ_=>rfl⟩,by rw[Mn];simp[OJ]⟩
 | succ m ih =>
  intro ls fs a b n o4 o5 o6 fuel hl hf h5;obtain⟨f,rfl⟩:∃ f,fuel=f+1:=⟨fuel - 1,by lia⟩
  obtain⟨r,a',b',hr,e⟩:=NM a b ls.length ⋯ ⋯;obtain⟨z,hz⟩:∃ z,ls[r]?=some z:=⟨ls[r],by simp⟩
  obtain⟨fs',a2,b2,⟨hp,hh⟩,e2⟩:=ih (ls.eraseIdx r) (fs++[z]) a' b' n o4 o5 o6 f (by rw[DH hr];lia) ⋯ (by rw[DH hr];simp;lia);refine⟨fs',a2,b2,⟨hp.trans (UX hz),λh0=>?_⟩,?_⟩
  ·rw[hh ↥1];cases fs with
   | nil=>exact absurd rfl h0
   | cons x r=>rfl
  rw[← e2,Mn];have hb:inR 9223372036854775807 r=true:=NH ⋯;have g1:ls.length<=AD:=Lm ⋯;have g2:fs.length<=AD:=Lm ⋯;have g3:fs.length < AD:=Qe ⋯;simp[OJ,Om,e,hb,SW hr,hz,gd,g1,g2,g3,show 0 < ls.length by lia,XS]
theorem YL(n:Nat) row (hn:0 < n) (hrow:row.length=n) b0 b2:∀ its f o5 o6,(∀ q∈its,q.1 < f.length/\q.2 < 100)->∃ o5' o6',
  vm (xG 2 (vK (uP 5) (vK (uP 6) xc))) QN (its.map λq=>.t [iT (q.2:Int),iT (q.1:Int)]) [b0,~~~(iT n),b2,some (.r (wa row)),some (.l (wa f)),o5,o6] =
   some (.nx [b0,~~~(iT n),b2,some (.r (wa row)),some (.l (wa (AAV row n its f))),o5',o6']):=by
 intro its;induction its with
 | nil=>intro f o5 o6 _;exact⟨o5,o6,by rw[BN];rfl⟩
 | cons q r ih =>
  intro f o5 o6 h;obtain⟨p,k⟩:=q;have hm:(k+1) % n < n:=Nat.mod_lt _ hn;have h2:xn (wa row) ((k+1) % n)=some (iT (row.getD ((k+1) % n) 0)):=by
   have e:(k+1) % n=(((k+1) % n:Nat):Int):=by simp
   rw[e];refine NI ?_;rw[Ak,BD ⋯];rfl
  obtain⟨o5',o6',e⟩:=ih (f.set p (row.getD ((k+1) % n) 0)) (~~~(iT k)) (~~~(iT p)) (λq hq=>by have:=h q (AH _ hq);simpa using this);refine⟨o5',o6',?_⟩;rw[AO,N9];have hs:(wa f).set p (iT ((row.getD ((k+1) % n) 0)))=wa (f.set p (row.getD ((k+1) % n) 0)):=by simp
  have h3':ixN (wa f).length p=some p:=by simpa using (T8 (h (p,k) AG).1)
  simp only[AAV];rw[← e,← hs];generalize row.getD ((k+1) % n) 0=z at *;generalize wa f=FF at *;simp[QN,hn,h2,h3']
def aM a b n (h3:3<=n) (hn:n<=5):∃ row a' b',IsT n (vY n row)/\row.Perm (AE n)/\row.getD 0 0=0/\ADf [.l [iT a,iT b],.v (iT n)]=some (.v (uR (vY n row)),[iT a',iT b']):=by
 obtain⟨row,a',b',⟨hp,hh⟩,e⟩:=gz (n - 1) (Dt 1 (n - 1)) [0] a b n none none none wY ↥1 (by rw[Nz];lia) ↥2;have hpr:row.Perm (AE n):=by
  have e0:[0]++Dt 1 (n - 1)=AE n:=by
   obtain⟨m,rfl⟩:∃ m,n=m+1:=⟨n - 1,by lia⟩
   rw[Hq,List.range'_succ];simp
  rw[← e0];exact hp
 have hrt:=RG hpr;have h0:=hh ↥1;have hT:IsT n (vY n row):=by
  have:=Au.mp bw n ↥2;have:=Au.mp this row (Pw hrt);simp at this;rcases this with z | z
  ·exact Sb z
  ·exact absurd h0 z
 refine⟨row,a',b',hT,hpr,h0,?_⟩;obtain⟨o5,o6,e2⟩:=YL n row ⋯ hrt.len (~~~[iT a',iT b']) (~~~[]) row.zipIdx (Ad n 0) none none (λq hq=>by
  have h:=List.mem_zipIdx hq;have hl:=hrt.len;refine⟨?_,by lia⟩;have:q.1∈row:=by rw[h.2.2];exact GB _
  simpa using hrt.lt _ this)
 have r1:x9 [.v (⇑1),.v (⇑n)]=some (ve 1 (n - 1)):=fF 1 n ⋯ ⋯;have r2:ve 1 (n - 1)=wa (Dt 1 (n - 1)):=by
  simp[ve,List.range'_eq_map_range,Dc]
 have m1:∀ Γ,vp Γ (.l [⇑0]) (.v (⇑n))=some (.l (wa (Ad n 0))):=λΓ=>by
  rw[pB [⇑0] n ↥2 ⋯];simp
 have gl:(wa row).length<=AD:=Lm (by simp[hrt.len];lia);have en:AAD %[jV 3|0] [~~~[iT a',iT b'],~~~(iT n),~~~[],some (.l (wa row)),some (.l (wa (Ad n 0))),none,none]=some (((row.zipIdx 0).map λq=>.t [iT (q.2),iT (q.1)],[3]),[~~~[iT a',iT b'],~~~(iT n),~~~[],some (.l (wa row)),some (.l (wa (Ad n 0))),none,none]):=by
  rw[← lF];generalize wa row=RR at *;simp[AAD,gd,gl]
 unfold vY;have e':vH OJ Om wY [~~~[iT a,iT b],~~~(iT n),some (.l (wa (Dt 1 (n - 1)))),~~~[⇑0],none,none,none]=↥([~~~[iT a',iT b'],~~~(iT n),~~~[],some (.l (wa row)),none,none,none]):=e;rw[← r2]at e';generalize wa (Ad n 0)=R0 at *;simp[ADf,ua,AFn,r1,e',m1,en,AAv,e2]
noncomputable def xO:List (List Nat):=[[1,2,3,4,0],[1,2,4,0,3],[1,3,4,2,0],[1,3,0,4,2],[1,4,3,0,2],[1,4,0,2,3],[2,3,1,4,0],[2,4,1,0,3],[2,4,3,1,0],[2,0,3,4,1],[2,3,4,0,1],[2,0,4,1,3],[3,2,4,1,0],[3,4,0,1,2],[3,4,1,2,0],[3,0,4,2,1],[3,2,0,4,1],[3,0,1,4,2],[4,2,3,0,1],[4,3,0,2,1],[4,3,1,0,2],[4,0,3,1,2],[4,2,0,1,3],[4,0,1,2,3]]
noncomputable def AFd:List Nat->Nat
 | []=>0
 | k::r=>(r.filter λx=>decide (x < k)).length+AFd r
noncomputable def evB (t:List Nat):Bool:=AFd t % 2 == 0
noncomputable def zf:List T->Option (List Nat)
 | []=>some []
 | .a (.int n)::r=>if 0<=n then (zf r).map λks=>n.toNat::ks else none
 | _=>none
theorem zO:∀ {ts ks},zf ts=some ks->ts=wa ks
 | [],ks,e=>by cases e;rfl
 | t::r,ks,e=>by
  unfold zf at e;split at e
  ·rename_i h;cases h
  ·rename_i n r' h;cases h;split at e
   ·obtain⟨ms,e1,rfl⟩:=map_some e;rw[zO e1];simp;lia
   ·cases e
  ·cases e
noncomputable def apT:T->Option (List Nat)
 | .t as=>zf as
 | _=>none
noncomputable def apG:G->Option (List Nat×List Nat)
 | .v (.t ts)=>match ts with
  | [x,y]=>(apT x).bind λa=>(apT y).map λb=>(a,b)
  | _=>none
 | _=>none
noncomputable def apO (r:List Nat):Option (List Nat×List Nat):=(ACD [.v (uR r)]).bind λx=>if x.2=[] then apG x.1 else none
def Sa(h:apT x=some a):x=uR a:=by
 unfold apT at h;split at h
 ·rw[zO h]
 ·cases h
noncomputable def wW (r:List Nat):List Nat×List Nat:=(apO r).getD ([],[])
def Zn(h:apO r=some p):ACD [.v (uR r)]=some (.v (.t [uR p.1,uR p.2]),[]):=by
 obtain⟨⟨g,l⟩,e,h⟩:=uJ h;split at h
 ·rename_i hl;dsimp only at hl h;subst hl;unfold apG at h;split at h
  ·split at h
   ·obtain⟨a,e1,h⟩:=uJ h;obtain⟨b,e2,h⟩:=map_some h;cases h;rw[e,Sa e1,Sa e2]
   ·cases h
  ·cases h
 ·cases h
noncomputable def AEt (r:List Nat):Bool:=match apO r with
 | some (a,b)=>xO.contains a && xO.contains b && (uV (uV a b) (uV (uZ a) (uZ b)) == r)
 | none=>false
def AEO:xO.all AEt=true:=↥4
def AEU:(xO.all λr=>xO.contains (uZ r) && ADg 5 r && evB r && ADw (ADP [.v (uR r)]))=true:=↥4
def AEQ:((AAY 5).all λrow=>row.getD 0 0 != 0 || xO.contains (vY 5 row))=true:=↥4
def AEP:((AAY 5).all λt=>!evB t || xO.all λr=>evB (uV t r))=true:=↥4
structure Rg(r:List Nat):Prop where
 mem:r∈xO
def Rg.facts(h:Rg r):Rg (uZ r)/\IsT 5 r/\evB r=true/\ADP [.v (uR r)]=some (.v (.a (.bl true)),[]):=by
 have:=Au.mp AEU r h.mem;simp only[BE]at this;exact⟨⟨by simpa using this.1.1.1⟩,Sb this.1.1.2,this.1.2,jn this.2⟩
def Rg.isT(h:Rg r):IsT 5 r:=h.facts.2.1
def Rg.back(h:Rg r):Rg (uZ r):=h.facts.1
def Rg.ap(h:Rg r):ACD [.v (uR r)]=some (.v (.t [uR (wW r).1,uR (wW r).2]),[])/\Rg (wW r).1/\Rg (wW r).2/\uV (uV (wW r).1 (wW r).2) (uV (uZ (wW r).1) (uZ (wW r).2))=r:=by
 have:=Au.mp AEO r h.mem;unfold AEt at this;unfold wW;split at this
 ·rename_i a b e;simp only[BE]at this;rw[e];exact⟨Zn e,⟨by simpa using this.1.1⟩,⟨by simpa using this.1.2⟩,by simpa using this.2⟩
 ·cases this
structure Ev(t:List Nat):Prop where
 isT:IsT 5 t
 ev:evB t=true
def Rg.even(h:Rg r):Ev r:=⟨h.isT,h.facts.2.2.1⟩
def RP:Ev (AE 5):=⟨MI 5,by decide⟩
def Ev.then(h:Ev t)(hr:Rg r):Ev (uV t r):=by
 refine⟨Lu h.isT hr.isT,?_⟩;have:=Au.mp AEP t (Pw h.isT);rw[h.ev]at this;exact Au.mp (by simpa using this) r hr.mem
def Nv{α:Type}{a b:List α}(hl:a.length=b.length)(h:∀ i,i < a.length->a[i]?=b[i]?):a=b:=by
 apply Ih;intro i;by_cases hi:i < a.length
 ·exact h i hi
 ·grind
def MN a b:(uV a b).length=a.length:=by simp[uV]
def Mi(ha:IsT n a)(hb:IsT n b)(hc:IsT n c):uV (uV a b) c=uV a (uV b c):=by
 refine Nv (by simp[MN]) λi hi=>?_
 obtain⟨k,e1,k1⟩:=ha.get (by rw[MN,MN,ha.len]at hi;exact hi);obtain⟨m,e2,m1⟩:=hb.get k1;obtain⟨z,e3,z1⟩:=hc.get m1;rw[Mw (Mw e1 e2) e3,Mw e1 (Mw e2 e3)]
def Oq(h:i < n):(AE n)[i]?=some i:=by simp[h]
def M4(ha:IsT n a):uV a (AE n)=a:=by
 refine Nv (by simp[MN]) λi hi=>?_
 obtain⟨k,e1,k1⟩:=ha.get (by rw[MN,ha.len]at hi;exact hi);rw[Mw e1 (Oq k1),e1]
def M0(ha:IsT n a):uV (AE n) a=a:=by
 refine Nv (by simp[MN,ha.len]) λi hi=>?_
 have hi':=by rw[MN,Ig]at hi;exact hi
 obtain⟨k,e1,k1⟩:=ha.get hi';rw[Mw (Oq hi') e1,e1]
def QD(ha:IsT n a):uV a (uZ a)=AE n:=by
 refine Nv (by simp[MN,ha.len]) λi hi=>?_
 have hi':=by rw[MN,ha.len]at hi;exact hi
 obtain⟨k,e1,k1⟩:=ha.get hi';rw[Mw e1 (T4 (by rw[ha.len];exact k1)),Qz ha e1,Oq hi']
def fP(ha:IsT n a)(hi:i < n):a[a.idxOf i]?=some i:=by
 rw[BD (CW.mpr (ha.mem hi))];simp
def Sh(ha:IsT n a):uV (uZ a) a=AE n:=by
 refine Nv (by simp[MN,uZ,ha.len]) λi hi=>?_
 have hi':=by rw[MN,(My ha).len]at hi;exact hi
 rw[Mw (T4 (by rw[ha.len];exact hi')) (fP ha hi'),Oq hi']
theorem Qr:∀ {st c d},IsT n c->IsT n d->vA n qs st->uY as (uV c d) st=uV c (uY as d st)
 | [],_,_,_,_,_=>rfl
 | s::r,c,d,hc,hd,hs=>by
  have hp:=Mf (as:=as) (hs s AG);simp[uY];rw[Mi hc hd hp];exact Qr hc (Lu hd hp) λx hx=>hs x (AH _ hx)
def QM(hs:vA n qs (s::r)):uY as (AE n) (s::r)=uV (ug as s) (uY as (AE n) r):=by
 have hp:=Mf (as:=as) (hs s AG);have hr:vA n qs r:=λx hx=>hs x (AH _ hx)
 show uY as (uV (AE n) (ug as s)) r=_;rw[M0 hp]
 conv=>lhs;rw[← M4 hp]
 exact Qr hp (MI n) hr
theorem QF as:∀ c st s,uY as c (st++[s])=uV (uY as c st) (ug as s)
 | _,[],_=>rfl
 | c,x::r,s=>QF as (uV c (ug as x)) r s
noncomputable def xu (st:List wF) (t:List Nat):List wF:=match st.getLast? with
 | some s=>st.dropLast++[(s.1,uV s.2.1 t,uV s.2.2 t)]
 | none=>[]
noncomputable def Sy.steps:Sy->List Nat->List wF
 | .yes,r=>[(0,r,r)]
 | .no,_=>[(0,AE 5,AE 5)]
 | .ask q,r=>[(q,r,AE 5)]
 | .nt a,r=>xu (a.steps (uZ r)) r
 | .an a b,r=>a.steps (wW r).1++b.steps (wW r).2++a.steps (uZ (wW r).1)++b.steps (uZ (wW r).2)
 | _,_=>[]
noncomputable def Sy.plain:Sy->Prop
 | .yes=>True
 | .no=>True
 | .ask _=>True
 | .nt a=>a.plain
 | .an a b=>a.plain/\b.plain
 | _=>False
theorem L5:∀ s:Sy,s.spell.plain
 | .yes | .no | .ask _=>trivial
 | .nt a=>L5 a
 | .an a b | .or a b=>⟨L5 a,L5 b⟩
 | .ei a b=>⟨⟨L5 a,L5 b⟩,⟨L5 a,L5 b⟩⟩
 | .mo a b c=>⟨⟨L5 a,L5 b⟩,⟨L5 c,⟨L5 a,L5 b⟩⟩⟩
theorem MR:∀ s:Sy,s.spell.wt=s.wt
 | .yes | .no | .ask _=>rfl
 | .nt a=>by have:=MR a;simp[Sy.spell,Sy.wt];try lia
 | .an a b=>by have:=MR a;have:=MR b;simp[Sy.spell,Sy.wt];try lia
 | .or a b | .ei a b=>by have:=MR a;have:=MR b;simp[Sy.spell,orS,Sy.wt];try lia
 | .mo a b c=>by have:=MR a;have:=MR b;have:=MR c;simp[Sy.spell,orS,Sy.wt];try lia
theorem MB:∀ s:Sy,s.qs q->s.spell.qs q
 | .yes,_ | .no,_=>trivial
 | .ask _,h=>h
 | .nt a,h=>MB a h
 | .an a b,h | .or a b,h=>⟨MB a h.1,MB b h.2⟩
 | .ei a b,h=>⟨⟨MB a h.1,MB b h.2⟩,⟨MB a h.1,MB b h.2⟩⟩
 | .mo a b c,h=>⟨⟨MB a h.1,MB b h.2.1⟩,⟨MB c h.2.2,⟨MB a h.1,MB b h.2.1⟩⟩⟩
theorem ki:(xu st t).length=st.length:=by
 unfold xu;cases h:st.getLast? with
 | none=>rw[EO.mp h];try rfl
 | some s =>
  have:st≠[]:=λz=>by rw[z]at h;cases h
  have:=FZ.mpr this;simp;lia
theorem Ma:∀ (s:Sy) r,s.plain->(s.steps r).length=s.wt
 | .yes,_,_ | .no,_,_ | .ask _,_,_=>rfl
 | .nt a,r,h=>by simp[Sy.steps,ki];exact Ma a _ h
 | .an a b,r,h=>by
  simp only[Sy.steps,A4,(λr=>Ma a r h.1),(λr=>Ma b r h.2),Sy.wt];lia
theorem NG:∀ s:Sy,1<=s.wt
 | .yes | .no | .ask _=>AL _
 | .nt a=>by simp[Sy.wt];exact NG a
 | .an a b | .or a b | .ei a b | .mo a b c=>by have:=NG a;simp only[Sy.wt];lia
def StE (q:Nat) (st:List wF):Prop:=∀ s∈st,s.1 < q/\Ev s.2.1/\Ev s.2.2
def StE.ok(h:StE q st):vA 5 q st:=λs hs=>⟨(h s hs).1,(h s hs).2.1.isT,(h s hs).2.2.isT⟩
def StE.app(h:StE q a)(h':StE q b):StE q (a++b):=λs hs=>(BF.mp hs).elim (h s) (h' s)
theorem mZ(h:StE q st)(ht:Rg t):StE q (xu st t):=by
 unfold xu;cases e:st.getLast? with
 | none=>exact λs hs=>nomatch hs
 | some s =>
  have hs:=h s (DJ e);refine StE.app (λx hx=>h x (Dv _ hx)) λx hx=>?_
  rw[AI.mp hx];exact⟨hs.1,hs.2.1.then ht,hs.2.2.then ht⟩
theorem MH(hq:0 < q):∀ (s:Sy) r,s.plain->s.qs q->Rg r->StE q (s.steps r)
 | .yes,r,_,_,hr=>λx hx=>by rw[AI.mp hx];exact⟨hq,hr.even,hr.even⟩
 | .no,r,_,_,hr=>λx hx=>by rw[AI.mp hx];exact⟨hq,RP,RP⟩
 | .ask k,r,_,h,hr=>λx hx=>by rw[AI.mp hx];exact⟨h,hr.even,RP⟩
 | .nt a,r,hp,h,hr=>mZ (MH hq a _ hp h hr.back) hr
 | .an a b,r,hp,h,hr=>by
  obtain⟨_,h1,h2,_⟩:=hr.ap;exact (((MH hq a _ hp.1 h.1 h1).app (MH hq b _ hp.2 h.2 h2)).app (MH hq a _ hp.1 h.1 h1.back)).app (MH hq b _ hp.2 h.2 h2.back)
noncomputable def Sy.so (as:List Nat):Sy->Bool
 | .yes=>true
 | .no=>false
 | .ask q=>as.getD q 0 == 1
 | .nt a=>!a.so as
 | .an a b=>a.so as && b.so as
 | .or a b=>a.so as || b.so as
 | .ei a b=>a.so as != b.so as
 | .mo a b c=>(a.so as && b.so as) || (c.so as && (a.so as || b.so as))
theorem Mc as:∀ s:Sy,s.spell.so as=s.so as
 | .yes | .no | .ask _=>rfl
 | .nt a=>by simp[Sy.spell,Sy.so,Mc as a]
 | .an a b=>by simp[Sy.spell,Sy.so,Mc as a,Mc as b]
 | .or a b | .ei a b=>by simp only[Sy.spell,orS,Sy.so,Mc as a,Mc as b];cases a.so as <;> cases b.so as <;> rfl
 | .mo a b c=>by simp only[Sy.spell,orS,Sy.so,Mc as a,Mc as b,Mc as c];cases a.so as <;> cases b.so as <;> cases c.so as <;> rfl
theorem OU as:∀ a b c,uY as c (a++b)=uY as (uY as c a) b
 | [],_,_=>rfl
 | s::a,b,c=>OU as a b _
def QR(ha:vA 5 q a)(hb:vA 5 q b):uY as (AE 5) (a++b)=uV (uY as (AE 5) a) (uY as (AE 5) b):=by
 have h1:=NL (as:=as) (MI 5) ha;rw[OU]
 conv=>lhs;rw[← M4 h1]
 exact Qr h1 (MI 5) hb
theorem jg(h:vA 5 q st)(hn:st≠[])(ht:IsT 5 t):uY as (AE 5) (xu st t)=uV (uY as (AE 5) st) t:=by
 unfold xu;cases e:st.getLast? with
 | none=>exact absurd (EO.mp e) hn
 | some s =>
  have es:st=st.dropLast++[s]:=by
   have:=List.dropLast_concat_getLast hn;rw[List.getLast?_eq_some_getLast hn]at e;rw[← Az e];exact this.symm
  have h1:=NL (as:=as) (MI 5) (λx hx=>h x (Dv _ hx))
  conv=>rhs;rw[es]
  rw[OU,OU];simp[uY];have ep:ug as (s.1,uV s.2.1 t,uV s.2.2 t)=uV (ug as s) t:=by
   unfold ug;split <;> rfl
  rw[ep,Mi h1 (Mf (as:=as) (h s (DJ e))) ht]
theorem NA(hq:0 < q) as:∀ (s:Sy) r,s.plain->s.qs q->Rg r->uY as (AE 5) (s.steps r)=cond (s.so as) r (AE 5)
 | .yes,r,_,_,hr=>by
  have hp:ug as (0,r,r)=r:=by unfold ug;dsimp only;split <;> rfl
  simp[Sy.steps,uY,hp];exact M0 hr.isT
 | .no,r,_,_,hr=>by
  have hp:ug as (0,AE 5,AE 5)=AE 5:=by unfold ug;dsimp only;split <;> rfl
  simp[Sy.steps,uY,hp];exact M0 (MI 5)
 | .ask k,r,_,_,hr=>by
  simp only[Sy.steps,uY,Sy.so];unfold ug;dsimp only;by_cases h:as.getD k 0=1
  ·rw[if_pos h,show (as.getD k 0 == 1)=true by rw[h];rfl];exact M0 hr.isT
  ·rw[if_neg h,show (as.getD k 0 == 1)=false by simpa using h];exact M0 (MI 5)
 | .nt a,r,hp,h,hr=>by
  have hn:a.steps (uZ r)≠[]:=λz=>by
   have:=Ma a (uZ r) hp;rw[z]at this;have:=NG a;simp at *;lia
  simp[Sy.steps,Sy.so];rw[jg ((MH hq a _ hp h hr.back).ok) hn hr.isT,NA hq as a _ hp h hr.back];cases a.so as with
  | true=>simp;exact Sh hr.isT
  | false=>simp;exact M0 hr.isT
 | .an a b,r,hp,h,hr=>by
  obtain⟨_,r1,r2,er⟩:=hr.ap;have a1:=(MH hq a _ hp.1 h.1 r1).ok;have b1:=(MH hq b _ hp.2 h.2 r2).ok;have a2:=(MH hq a _ hp.1 h.1 r1.back).ok;have app:∀ {x y:List wF},vA 5 q x->vA 5 q y->vA 5 q (x++y):=λhx hy s hs=>(BF.mp hs).elim (hx s) (hy s)
  simp only[Sy.steps,Sy.so];rw[QR (app (app a1 b1) a2) ((MH hq b _ hp.2 h.2 r2.back).ok),QR (app a1 b1) a2,QR a1 b1,NA hq as a _ hp.1 h.1 r1,NA hq as b _ hp.2 h.2 r2,NA hq as a _ hp.1 h.1 r1.back,NA hq as b _ hp.2 h.2 r2.back];have i1:=r1.isT;have i2:=r2.isT;have j1:=r1.back.isT;have s5:=MI 5;cases a.so as with
  | true =>
   cases b.so as with
   | true =>
    simp;rw[Mi (Lu i1 i2) j1 r2.back.isT];exact er
   | false =>
    simp;rw[M4 i1,M4 (Lu i1 j1),QD i1]
  | false =>
   cases b.so as with
   | true =>
    simp;rw[M0 i2,M4 i2,QD i2]
   | false =>
    kernel_rfl
def PQ(bs:List Bool):we (bs.map λb=>T.a (.bl b))=some (bs.map HZ)/\Ax (bs.map HZ)=true/\yo (bs.map HZ) (.bool true)=some ((bs.count true:Nat):Int):=by
 refine⟨?_,?_,?_⟩
 ·induction bs with
  | nil=>rfl
  | cons b r ih=>simp[ we,ih];rfl
 ·induction bs with
  | nil=>rfl
  | cons b r ih=>simp only[AO,Ax,ih];rfl
 ·unfold yo;congr 2;induction bs with
  | nil=>rfl
  | cons b r ih =>
   rw[AO,GE,ih,List.count_cons];cases b <;> rfl
theorem fg(ha:vE m as)(s:Sy)(hq:s.qs m):AAi [.v (uR as),.v s.t,.r (s.kids.map λk=>T.a (.bl (k.so as)))]=some (.v (.a (.bl (s.so as))),[]):=by
 cases s with
 | ask k =>
  have h0:=Qa ha (show k < m from hq);have h2:=NI h0;have e1:(decide (((as.getD k 0:Nat):Int)=1))=(as.getD k 0 == 1):=by
   by_cases c:as.getD k 0=1
   ·rw[c];rfl
   ·rw[decide_eq_false ⋯,show (as.getD k 0 == 1)=false by simpa using c]
  simp only[Sy.so,Sy.kids,BN];generalize as.getD k 0=x at *;unfold uR;generalize wa as=AS at *;simp only[iT]at h2;simp[AAi,ua,ACQ,Sy.t,h2,e1]
 | yes | no | nt a=>generalize uR as=AS;simp[AAi,ua,ACQ,Sy.t,Sy.so,Sy.kids]
 | an a b | or a b | ei a b=>generalize uR as=AS;cases ea:a.so as <;> cases eb:b.so as <;> simp[AAi,ua,ACQ,Sy.t,Sy.so,Sy.kids,ea,eb]
 | mo a b c =>
  obtain⟨h1,h2,h3⟩:=PQ [a.so as,b.so as,c.so as];have e1:toD (T.a (V.bl true))=some (.bool true):=rfl;have e2:Bi (.bool true)=true/\CM (.bool true)<=100:=⟨rfl,by decide⟩
  have hb:decide ((2:Int)<=(([a.so as,b.so as,c.so as].count true:Nat):Int))=(Sy.mo a b c).so as:=by
   simp only[Sy.so];cases a.so as <;> cases b.so as <;> cases c.so as <;> rfl
  generalize (Sy.mo a b c).so as=B at *;generalize uR as=AS at *;simp only[AO,BN]at h1 h2 h3;simp[AAi,ua,ACQ,Sy.t,Sy.kids,h1,h2,h3,e1,e2,hb]
theorem Sy.plT:∀ s:Sy,s.t.pl=true
 | .yes | .no | .ask _=>by kernel_rfl
 | .nt a=>by simp[Sy.t,AEB,OF,PM,ACB,a.plT]
 | .an a b | .or a b | .ei a b=>by simp[Sy.t,AEB,OF,PM,ACB,a.plT,b.plT]
 | .mo a b c=>by simp[Sy.t,AEB,OF,PM,ACB,a.plT,b.plT,c.plT]
def YN as:(uR as).pl=true:=QO λt h=>by obtain⟨k,_,rfl⟩:=Am.mp h;exact ACB
def gq(ha:vE m as)(s:Sy)(hq:s.qs m):ABc MZ (uR as) [.v s.t,.r (s.kids.map λk=>T.a (.bl (k.so as)))]=some (.bl (s.so as)):=by
 have p2:T.pls (s.kids.map λk=>T.a (.bl (k.so as)))=true:=QO λt h=>by obtain⟨k,_,rfl⟩:=Am.mp h;exact ACB
 have d:MZ [~~~s.t,some (.r (s.kids.map λk=>T.a (.bl (k.so as)))),~~~(uR as)]=some (.v (.a (.bl (s.so as))),[~~~s.t,some (.r (s.kids.map λk=>T.a (.bl (k.so as)))),~~~(uR as)]):=by
  simp[MZ,(fg ha s hq)]
 unfold ABc;simp[G.pl,s.plT,p2,YN];rw[d]
theorem Sy.rs_putP f (h:∀ s:Sy,s.qs m->PP s.t (s.kids.map f) (f s)):∀ s:Sy,s.qs m->(s.rs f).PutP PP
 | .yes,z=>MA.mpr ⟨h .yes z,MF⟩
 | .no,z=>MA.mpr ⟨h .no z,MF⟩
 | .ask q,z=>MA.mpr ⟨h (.ask q) z,MF⟩
 | .nt a,z=>MA.mpr ⟨by simpa [Sy.kids,Sy.rs_v] using h (.nt a) z,Lz.mpr ⟨a.rs_putP f h z,MF⟩⟩
 | .an a b,z=>MA.mpr ⟨by simpa [Sy.kids,Sy.rs_v] using h (.an a b) z,Lz.mpr ⟨a.rs_putP f h z.1,Lz.mpr ⟨b.rs_putP f h z.2,MF⟩⟩⟩
 | .or a b,z=>MA.mpr ⟨by simpa [Sy.kids,Sy.rs_v] using h (.or a b) z,Lz.mpr ⟨a.rs_putP f h z.1,Lz.mpr ⟨b.rs_putP f h z.2,MF⟩⟩⟩
 | .ei a b,z=>MA.mpr ⟨by simpa [Sy.kids,Sy.rs_v] using h (.ei a b) z,Lz.mpr ⟨a.rs_putP f h z.1,Lz.mpr ⟨b.rs_putP f h z.2,MF⟩⟩⟩
 | .mo a b c,z=>MA.mpr ⟨by simpa [Sy.kids,Sy.rs_v] using h (.mo a b c) z,Lz.mpr ⟨a.rs_putP f h z.1,Lz.mpr ⟨b.rs_putP f h z.2.1,Lz.mpr ⟨c.rs_putP f h z.2.2,MF⟩⟩⟩⟩
def QC:ADG=ua none 3 6 (ADj (ua none 2 5 (awD ADD)) ADD (wV 2 ABp wb MZ %[jV 4,jV 5|0])):=rfl
def XF:ADD.find? (λq=>decide (q.1=("inner":Str)))=some (("inner":Str),1,AAh):=by rfl
def mK(ha:vE m as)(s:Sy)(hq:s.qs m)(hp:s.parts<=80000):ACN [.v s.t,.v (uR as)]=some (.v (.a (.bl (s.so as))),[]):=by
 have:=P1 XF (nX (tb2:=ABp) (L:=wb) (dlx:=MZ) (ta:=uR as)) (s.rs λk=>T.a (.bl (k.so as))) (s.rs_in _) (s.rs_putP _ (λk hk=>⟨_,rfl,gq ha k hk⟩) hq) (by rw[Sy.rs_pre];exact hp);rw[← QC,Sy.rs_e,Sy.rs_v]at this;have e:yx [.v s.t,.v (.m wb [uR as])]=some (.v (.a (.bl (s.so as))),[]):=by
  generalize uR as=AS at *;generalize s.so as=B at *;simp[yx,ua,AED,this]
 have d:yt yx wb [~~~s.t,~~~(uR as)]=some (.v (.a (.bl (s.so as))),[~~~s.t,~~~(uR as)]):=by
  unfold yt;dsimp only;rw[e]
 unfold ACN ua;rw[if_pos (show ([.v s.t,.v (uR as)]:List G).length=2 from rfl)];show (uT (yt yx wb) [~~~s.t,~~~(uR as)]).bind _=_;unfold uT;rw[d];rfl
def YR(s:Sy):ACL [.v s.t,.r (s.kids.map λk=>iT (k.wt:Int))]=some (.v (iT (s.wt:Int)),[]):=by
 have c2:∀ x,vv 2 x:=λx=>.inl ⟨by decide,by decide⟩
 have c8:∀ x,vv 8 x:=λx=>.inl ⟨by decide,by decide⟩
 have c12:∀ x,vv 12 x:=λx=>.inl ⟨by decide,by decide⟩
 have c4:∀ x,vv 4 x:=λx=>.inl ⟨by decide,by decide⟩
 cases s <;> kernel_rfl
def yX{x K n:Nat}(h:x<=K+n):1+x<=K+(n+1):=by lia
def sdq{x y k:Nat}(h:x<=k)(h':y<=k):max x y<=k:=Nat.max_le.mpr ⟨h,h'⟩
def sdw{x K:Nat}(h:x<=K) n:x<=K+n:=Aa h (Av _ _)
def sdz{x M n:Nat}(h:x<=7 * M+n)(hn:n<=7:=by decide):x<=7 * (1+M):=by lia
def sda{x A:Nat}(h:x<=7 * A) B:x<=7 * max A B:=Aa h (EA 7 (JN A B))
def sdb{x B:Nat}(h:x<=7 * B) A:x<=7 * max A B:=Aa h (EA 7 (JD A B))
theorem MQ:∀ s:Sy,s.spell.down<=7 * s.down
 | .yes | .no | .ask _=>by simp[Sy.spell,Sy.down]
 | .nt a=>sdz (yX (sdw (MQ a) 0))
 | .an a b=>sdz (yX (sdq (sdw (sda (MQ a) _) 0) (sdw (sdb (MQ b) _) 0)))
 | .or a b=>sdz (yX (yX (sdq (yX (sdw (sda (MQ a) _) 0)) (yX (sdw (sdb (MQ b) _) 0)))))
 | .ei a b =>
  have x:=sda (MQ a) b.down;have y:=sdb (MQ b) a.down
  sdz (yX (yX (sdq (yX (yX (sdq (sdw x 1) (yX (sdw y 0))))) (yX (yX (sdq (yX (sdw x 0)) (sdw y 1)))))))
 | .mo a b c =>
  have x:=sda (MQ a) (max b.down c.down);have y:=sdb (sda (MQ b) c.down) a.down;have z:=sdb (sdb (MQ c) b.down) a.down
  sdz (yX (yX (sdq (yX (yX (sdq (sdw x 3) (sdw y 3)))) (yX (yX (sdq (sdw z 3) (yX (yX (sdq (yX (sdw x 0)) (yX (sdw y 0)))))))))))
def Yl:ABp.find? (λq=>decide (q.1=("weight_of":Str)))=some (("weight_of":Str),2,ACL):=by rfl
def az:ABp.find? (λq=>decide (q.1=("spelled_of":Str)))=some (("spelled_of":Str),2,ABq):=by rfl
def AAo(hg:ABp.find? (λq=>decide (q.1=m))=some (m,kb,put))(f:Sy->T)(hf:∀ s:Sy,put [.v s.t,.r (s.kids.map f)]=some (.v (f s),[]))(s:Sy)(hq:s.qs q)(hp:s.parts<=80000):yx [.v s.t,.v (.f m)]=some (.v (f s),[]):=by
 have:=P1 XF (Wl (L:=wb) (dlx:=MZ) hg) (s.rs f) (s.rs_in _) (s.rs_putP f (m:=q) (λk _=>hf k) hq) (by rw[Sy.rs_pre];exact hp);rw[← QC,Sy.rs_e,Sy.rs_v]at this;generalize f s=V at *;generalize s.t=ST at *;simp[yx,ua,AED,this]
def fh(s:Sy)(hq:s.qs q)(h:s.parts<=80000):ADM [.v s.t]=some (.v (iT (s.wt:Int)),[]):=by
 have:=AAo Yl (λk=>iT (k.wt:Int)) YR s hq h;simp only[iT]at this ⊢;generalize s.t=ST at *;simp[ADM,ua,AEp,this]
def nO(s:Sy)(hq:s.qs q)(h:s.parts<=80000):ADI [.v s.t]=some (.v s.spell.t,[]):=by
 have:=AAo az (λk=>k.spell.t) aX s hq h;generalize s.spell.t=SP at *;generalize s.t=ST at *;simp[ADI,ua,AEe,this]
noncomputable abbrev vZ (n qs:Nat) (st:List wF):T:=.t [iT (n:Int),iT (qs:Int),.t (st.map uk)]
def NQ n a b (ha:IsT n a) (hb:IsT n b) (hn:n<=5):yT [.v (uR a),.v (uR b)]=some (.v (uR (uV a b)),[]):=by
 have hl:=ha.len;obtain⟨o',e⟩:=MC (λ(k:Nat)=>iT k) (λk=>iT (b.getD k 0)) (de:=OT) (R:=[~~~(uR b)]) a (λk hk=>by
  obtain⟨m,hm,_⟩:=hb.get (ha.lt k hk);have:=NI hm;simp[OT,this,hm]) none
 have g:a.length<=AD:=Lm ⋯;simp[yT,ua,AEX,gd,g,e,uV]
def OS n t (h:IsT n t) (hn:n<=5):zg [.v (uR t)]=some (.v (uR (uZ t)),[]):=by
 obtain⟨o',e⟩:=MC (λ(i:Nat)=>iT i) (λi=>iT (t.idxOf i)) (de:=On) (R:=[~~~(uR t)]) (AE n) (λi hi=>by
  simp[On,Ph t,Vx t,(Sl (h.mem (show i < n by simpa using hi))),vI]) none
 simp[zg,ua,AFW,h.len,Ml n ⋯,(NZ n),e,uZ]
def P8(n:Nat)(hn:n<=5):zA [.v (iT n)]=some (.v (uR (AE n)),[]):=by
 simp[zA,ua,AFv,Ml n ⋯,NZ]
noncomputable abbrev yW (s:Sy) (r:List Nat):T:=.t [s.t,uR r]
noncomputable abbrev spT (st:List wF):T:=.t (st.map uk)
noncomputable def Sy.prs:Sy->List Nat->Rs
 | .yes,r=>.mk (yW .yes r) (spT (Sy.steps .yes r)) []
 | .no,r=>.mk (yW .no r) (spT (Sy.steps .no r)) []
 | .ask q,r=>.mk (yW (.ask q) r) (spT (Sy.steps (.ask q) r)) []
 | .nt a,r=>.mk (yW (.nt a) r) (spT (Sy.steps (.nt a) r)) [a.prs (uZ r)]
 | .an a b,r=>.mk (yW (.an a b) r) (spT (Sy.steps (.an a b) r)) [a.prs (wW r).1,b.prs (wW r).2,a.prs (uZ (wW r).1),b.prs (uZ (wW r).2)]
 | s,r=>.mk (yW s r) (spT []) []
def Pz s r:(s.prs r).e=yW s r:=by cases s <;> rfl
theorem PC(s:Sy) r (h:s.plain):(s.prs r).v=spT (s.steps r):=by
 cases s with
 | or a b | ei a b | mo a b c=>exact h.elim
 | _=>rfl
theorem NU:∀ (s:Sy) r,s.plain->(s.prs r).pre.length<=s.wt * s.down
 | .yes,r,_ | .no,r,_ | .ask _,r,_=>by simp[Sy.prs,MD,ML,Sy.wt,Sy.down]
 | .nt a,r,h=>by
  have h1:=NU a (uZ r) h;have h2:=NG a;simp only[Sy.prs,MD,L4,ML,Bm,CA,Sy.wt,Sy.down];lia
 | .an a b,r,h=>by
  have a1:=NU a (wW r).1 h.1;have a2:=NU a (uZ (wW r).1) h.1;have b1:=NU b (wW r).2 h.2;have b2:=NU b (uZ (wW r).2) h.2;have pa:=NG a;have ma:a.wt * a.down<=a.wt * max a.down b.down:=EA _ (JN _ _);have mb:b.wt * b.down<=b.wt * max a.down b.down:=EA _ (JD _ _);simp only[Sy.prs,MD,L4,ML,Bm,CA,A4,Sy.wt,Sy.down];lia
theorem QL s r (h:s.kids=[]):y7 [.v (yW s r)]=some (.l [],[]):=by
 cases s with
 | yes | no | ask q=>kernel_rfl
 | _=>cases h
def eI a r (hr:Rg r):y7 [.v (yW (.nt a) r)]=some (.l [yW a (uZ r)],[]):=by
 have e:=OS 5 r hr.isT ∅;unfold yW;simp only[Sy.t];generalize uR r=R at *;generalize uR (uZ r)=BR at *;simp[y7,ua,AEL,e]
def Y4 a b r (hr:Rg r):y7 [.v (yW (.an a b) r)]=some (.l [yW a (wW r).1,yW b (wW r).2,yW a (uZ (wW r).1),yW b (uZ (wW r).2)],[]):=by
 obtain⟨e0,r1,r2,_⟩:=hr.ap;have e1:=OS 5 _ r1.isT ∅;have e2:=OS 5 _ r2.isT ∅;unfold yW;simp only[Sy.t];generalize uR r=R at *;generalize uR (uZ (wW r).1)=B1 at *;generalize uR (uZ (wW r).2)=B2 at *;generalize uR (wW r).1=A1 at *;generalize uR (wW r).2=A2 at *;simp[y7,ua,AEL,e0,e1,e2]
theorem NJ:∀ (s:Sy) r,s.plain->Rg r->(s.prs r).In y7
 | .yes,r,_,_=>L1.mpr ⟨.inr (QL .yes r rfl),L9⟩
 | .no,r,_,_=>L1.mpr ⟨.inr (QL .no r rfl),L9⟩
 | .ask q,r,_,_=>L1.mpr ⟨.inr (QL (.ask q) r rfl),L9⟩
 | .nt a,r,h,hr=>L1.mpr ⟨.inr (by rw[AO,Pz];exact eI a r hr),Lr.mpr ⟨NJ a _ h hr.back,L9⟩⟩
 | .an a b,r,h,hr=>by
  obtain⟨_,r1,r2,_⟩:=hr.ap;exact L1.mpr ⟨.inr (by simp only[AO,Pz];exact Y4 a b r hr),Lr.mpr ⟨NJ a _ h.1 r1,Lr.mpr ⟨NJ b _ h.2 r2,Lr.mpr ⟨NJ a _ h.1 r1.back,Lr.mpr ⟨NJ b _ h.2 r2.back,L9⟩⟩⟩⟩⟩
theorem nM(s:Sy) r (h:s.kids=[]):ADr [.v s.t,.v (uR r)]=some (.v (.t [iT ((match s with | .ask q=>q | _=>0:Nat):Int),(match s with | .no=>uR (AE 5) | _=>uR r),(match s with | .yes=>uR r | _=>uR (AE 5))]),[]):=by
 have e':zA [.v (⇑5)]=some (.v (uR (AE 5)),[]):=(P8 5 ∅)
 cases s with
 | yes=>kernel_rfl
 | no | ask q=>kernel_rfl
 | _=>cases h
theorem RS s r (h:s.kids=[]):zD [.v (yW s r),.r []]=some (.v (spT (s.steps r)),[]):=by
 have e:=nM s r h;have g1:1<=AD:=by decide
 unfold yW spT;cases s with
 | yes =>
  kernel_rfl
 | no =>
  kernel_rfl
 | ask q =>
  kernel_rfl
 | _=>cases h
def oj xs (h:xs≠[]):xB xs none (some (-1))=xs.dropLast:=by
 have:HT.sIx xs.length xs.length (some (-1))=xs.length - 1:=by
  show (if (-1) < 0 then ((-1)+(xs.length:Int)).toNat else min (-1).toNat xs.length)=_
  grind
 unfold xB;rw[this,HT.sIx_none];simp[E4]
theorem bB st t (h:vA 5 q st) (hn:st≠[]) (ht:IsT 5 t) (hl:st.length<=5000):ADA [.v (spT st),.v (uR t)]=some (.v (spT (xu st t)),[]):=by
 unfold xu;cases e:st.getLast? with
 | none=>exact absurd (EO.mp e) hn
 | some s =>
  have hs:=h s (DJ e);have e1:=NQ 5 s.2.1 t hs.2.1 ht ∅;have e2:=NQ 5 s.2.2 t hs.2.2 ht ∅;have e3:xn (st.map uk) (-1)=some (uk s):=by
   rw[Ui (by simpa using hn),Ag,AV,← List.getLast?_eq_getElem?,e];rfl
  have e4:xB (st.map uk) none (some (-1))=st.dropLast.map uk:=by rw[oj _ (by simpa using hn),List.map_dropLast]
  have g1:1<=AD:=by decide
  have g3:3<=AD:=by decide
  have gl:(st.dropLast.map uk).length+1<=AD:=Lm ↥2;unfold spT;rw[A9,AO];generalize st.dropLast.map (λs=>T.t [iT (s.1),uR s.2.1,uR s.2.2])=DL at *;simp[ADA,ua,AFg,gd,g1,g3,gl,e1,e2,e3,e4]
def dW(hq:0 < q) a r (hp:a.plain) (h:a.qs q) (hw:a.wt<=1000) (hr:Rg r):zD [.v (yW (.nt a) r),.r [spT (a.steps (uZ r))]]=some (.v (spT (Sy.steps (.nt a) r)),[]):=by
 have hl:=Ma a (uZ r) hp;have hn:a.steps (uZ r)≠[]:=λz=>by
  rw[z]at hl;have:=NG a;simp at hl;lia
 have e:=bB (a.steps (uZ r)) r (MH hq a _ hp h hr.back).ok hn hr.isT ⋯;simp[Sy.steps];unfold yW;simp only[Sy.t];generalize uR r=R at *;simp[zD,ua,AEF,e]
def Zm a b r (hp:a.plain/\b.plain) (hw:a.wt+b.wt<=1000):zD [.v (yW (.an a b) r),.r [spT (a.steps (wW r).1),spT (b.steps (wW r).2),spT (a.steps (uZ (wW r).1)),spT (b.steps (uZ (wW r).2))]]=some (.v (spT (Sy.steps (.an a b) r)),[]):=by
 have l3:=Ma a (uZ (wW r).1) hp.1;simp only[Sy.steps];unfold yW spT;simp only[Sy.t,A9];have k1:((a.steps (wW r).1).map uk).length=a.wt:=by rw[AV,(Ma a (wW r).1 hp.1)]
 have k2:((b.steps (wW r).2).map uk).length=b.wt:=by rw[AV,(Ma b (wW r).2 hp.2)]
 have k3:((a.steps (uZ (wW r).1)).map uk).length=a.wt:=by rw[AV,l3]
 have k4:((b.steps (uZ (wW r).2)).map uk).length=b.wt:=by rw[AV,(Ma b (uZ (wW r).2) hp.2)]
 generalize (a.steps (wW r).1).map uk=S1 at *;generalize (b.steps (wW r).2).map uk=S2 at *;generalize (a.steps (uZ (wW r).1)).map uk=S3 at *;generalize (b.steps (uZ (wW r).2)).map uk=S4 at *;generalize uR r=R;have g1:S1.length+S2.length<=AD:=Lm ⋯;have g2:S1.length+S2.length+S3.length<=AD:=Lm ⋯;have g3'':S1.length+(S2.length+S3.length)+S4.length<=AD:=Lm ⋯;simp[zD,ua,AEF,gd,g1,g2,g3'']
def dS:a.wt<=(Sy.an a b).wt/\b.wt<=(Sy.an a b).wt/\a.wt+b.wt<=(Sy.an a b).wt:=by simp[Sy.wt];lia
theorem NT(hq:0 < q):∀ (s:Sy) (r:List Nat),s.plain->s.qs q->s.wt<=1000->Rg r->(s.prs r).PutP (λe vs v=>zD [.v e,.r vs]=some (.v v,[]))
 | .yes,r,_,_,_,_=>MA.mpr ⟨RS .yes r rfl,MF⟩
 | .no,r,_,_,_,_=>MA.mpr ⟨RS .no r rfl,MF⟩
 | .ask q,r,_,_,_,_=>MA.mpr ⟨RS (.ask q) r rfl,MF⟩
 | .nt a,r,hp,h,hw,hr=>MA.mpr ⟨by rw[AO,BN,PC _ _ (show a.plain from hp)];exact dW hq a r hp h hw hr,Lz.mpr ⟨NT hq a _ hp h hw hr.back,MF⟩⟩
 | .an a b,r,hp,h,hw,hr=>by
  obtain⟨_,r1,r2,_⟩:=hr.ap;have w:=dS (a:=a) (b:=b);exact MA.mpr ⟨by simp only[AO,BN,PC _ _ hp.1,PC _ _ hp.2];exact Zm a b r hp ⋯,Lz.mpr ⟨NT hq a _ hp.1 h.1 ⋯ r1,Lz.mpr ⟨NT hq b _ hp.2 h.2 ⋯ r2,Lz.mpr ⟨NT hq a _ hp.1 h.1 ⋯ r1.back,Lz.mpr ⟨NT hq b _ hp.2 h.2 ⋯ r2.back,MF⟩⟩⟩⟩⟩
def Zg:ADD.find? (λq=>decide (q.1=("pieces_in":Str)))=some (("pieces_in":Str),1,y7):=by rfl
def mC:ABp.find? (λq=>decide (q.1=("steps_of":Str)))=some (("steps_of":Str),2,zD):=by rfl
def ee(s:Sy)(q most:Nat)(r:List Nat)(hq:0 < q)(h:s.qs q)(hr:Rg r)(hw:s.wt<=most)(hm:most<=128)(hd:s.down<=60)(hp:s.parts<=80000) :
  ACJ [.v s.t,.v (iT (q:Int)),.v (uR r),.v (iT (most:Int))]=some (.v (vZ 5 q (s.spell.steps r)),[]):=by
 have e1:=fh s h ⋯;have e2:=nO s h ⋯;have pl:=L5 s;have hb:(s.spell.prs r).pre.length<=80000:=by
  have h1:=NU s.spell r pl;rw[MR]at h1;have h2:=MQ s;have h3:s.wt * s.spell.down<=128 * 420:=Nat.mul_le_mul ⋯ ⋯;lia
 have e3:=P1 Zg (Wl (L:=wb) (dlx:=MZ) mC) (s.spell.prs r) (NJ _ r pl hr) (NT hq _ r pl (MB s h) (by rw[MR];lia) hr) hb;rw[← QC,Pz,PC _ _ pl]at e3;have e4:=hr.facts.2.2.2;have c:¬ (most:Int) < (s.wt:Int):=by lia
 have g2:=sL 2;have g3:=sL 3;unfold yW at e3;have e5:ADc [.v s.t,.v (uR r),.v (iT (most:Int))]=some (.v (.a .non),[]):=by
  simp only[iT]at e1 ⊢;generalize uR r=R at *;generalize s.t=ST at *;simp[ADc,ua,AFM,e4,e1,c]
 unfold vZ;show _=some (G.v (.t [iT ((5:Nat):Int),iT (q:Int),spT (s.spell.steps r)]),([]:List T));generalize spT (s.spell.steps r)=SP at *;generalize uR r=R at *;generalize s.t=ST at *;generalize s.spell.t=SS at *;simp only[iT]at e5 ⊢;simp[ACJ,ua,AEY,e5,e2,e3,gd,g2,g3]
noncomputable def uo:Nat->List (List Nat)
 | 0=>[[]]
 | q+1=>(uo q).map (0::·)++(uo q).map (1::·)
noncomputable def ABg (a:List Nat):List (List Nat):=[a++[0],a++[1]]
theorem Ur x (l:List (List Nat)):(l.map (x::·)).flatMap ABg=(l.flatMap ABg).map (x::·):=by
 induction l with
 | nil=>rfl
 | cons a r ih=>simp only[AO,Di,ih];rfl
theorem RD:∀ q,(uo q).flatMap ABg=uo (q+1)
 | 0=>rfl
 | q+1=>by
  rw[uo,List.flatMap_append,Ur,Ur,RD q];rfl
theorem Ny:∀ q,(uo q).length=2 ^ q
 | 0=>rfl
 | q+1=>by rw[uo];simp[Ny q];lia
def ON(h:q<=10):(uo q).length<=1024:=by
 rw[Ny];exact Aa (Dy ∅ h) ∅
theorem Mx:∀ q a,a∈uo q->vE q a
 | 0,a,h=>by
  simp[uo]at h;subst h;exact⟨rfl,λx hx=>nomatch hx⟩
 | q+1,a,h=>by
  simp[uo]at h;rcases h with ⟨b,hb,rfl⟩ | ⟨b,hb,rfl⟩
  iterate 2
   ·have:=Mx q b hb;exact⟨by simp[this.len],λx hx=>(AR.mp hx).elim (λz=>by lia) (this.lt x)⟩
theorem SJ q x1 x2:∀ (L:List (List Nat)) acc o4,acc.length+2 * L.length<=5000->(∀ a∈L,a.length<=1000)->∃ o4',vm (uP 4) Oc (L.map uR) [q,x1,x2,some (.l acc),o4]=↥([q,x1,x2,some (.l (acc++(L.flatMap ABg).map uR)),o4'])
 | [],acc,o4,_,_=>⟨o4,by rw[BN,Mo];simp⟩
 | a::r,acc,o4,hl,ha=>by
  obtain⟨o4',e⟩:=SJ q x1 x2 r (acc++[uR (a++[0]),uR (a++[1])]) (~~~(uR a)) (by simp at hl ⊢;lia) λz hz=>ha z (AH _ hz)
  refine⟨o4',?_⟩;have g1:1<=AD:=by decide
  have g2:2<=AD:=by decide
  have g3:a.length+1<=AD:=Lm (by have:=ha a AG;lia);have g4:acc.length+2<=AD:=Lm ⋯;have g5:acc.length<=AD:=Lm ⋯;have turn:Oc [q,x1,x2,some (.l acc),~~~(uR a)]=↥([q,x1,x2,some (.l (acc++[uR (a++[0]),uR (a++[1])])),~~~(uR a)]):=by
   simp[Oc,gd,g1,g2,g3,g4,g5]
  rw[AO,M6 ↥1 turn,e];rw[ CT];rfl
theorem UI q:∀ its k o2 o3 o4,its.length+k<=10->∃ o2' o3' o4',vm (uP 2) Nu its [q,some (.l ((uo k).map uR)),o2,o3,o4]=↥([q,some (.l ((uo (its.length+k)).map uR)),o2',o3',o4'])
 | [],k,o2,o3,o4,_=>⟨o2,o3,o4,by rw[Mo,Cr,EF]⟩
 | t::r,k,o2,o3,o4,h=>by
  have hk:=ON (q:=k) ⋯;obtain⟨p4,e1⟩:=SJ q (some (.r ((uo k).map uR))) (~~~t) (uo k) [] o4 ↥2 λa ha=>by have:=(Mx k a ha).len;simp at h;lia
  rw[ RD]at e1;obtain⟨o2',o3',o4',e⟩:=UI q r (k+1) (~~~t) none p4 (by simp at h ⊢;lia);refine⟨o2',o3',o4',?_⟩;have g1:(uo k).length<=AD:=Lm ⋯;have turn:Nu [q,some (.l ((uo k).map uR)),~~~t,o3,o4]=↥([q,some (.l ((uo (k+1)).map uR)),~~~t,none,p4]):=by
   simp[Nu,gd,g1,AAv,e1,dMv,ADH]
  rw[M6 ↥1 turn,e];have:r.length+(k+1)=(t::r).length+k:=by simp;lia
  rw[this]
def kX(q:Nat)(hq:q<=10):ADW [.v (iT q)]=some (.l ((uo q).map uR),[]):=by
 have hr:(ve 0 q).length=q:=by simp[ve]
 obtain⟨o2,o3,o4,e⟩:=UI (~~~(iT q)) (ve 0 q) 0 none none none ⋯;rw[hr]at e;have e':vm (uP 2) Nu (ve 0 q) [~~~(iT q),~~~[.t []],none,none,none]=↥([~~~(iT q),some (.l ((uo q).map uR)),o2,o3,o4]):=e;simp[ADW,ua,AFh,(Ml q ⋯),e']
theorem YY(ha:vE m as):∀ (n:Nat) (s:Sy),s.down<=n->s.qs m->F_3 n [.v s.t,.v (uR as)]=some (.v (.a (.bl (s.so as))),[]):=by
 intro n;induction n with
 | zero=>intro s h;have:=s.down_pos;lia
 | succ n ih =>
  intro s h hq;have g0:0<=AD:=by decide
  have g1:1<=AD:=by decide
  have g2:2<=AD:=by decide
  have g3:3<=AD:=by decide
  have nd:([.inr "yes",.inr "no",.inr "and",.inr "or",.inr "either",.inr "most"]:List vT).Nodup:=by decide +kernel
  have t1:toD (T.a (V.bl true))=some (.bool true):=rfl;have t2:Bi (.bool true)=true/\CM (.bool true)<=100:=⟨rfl,by decide⟩
  have ea:∀ k:Sy,k.down<=n->k.qs m->PZ (F_3 n) [~~~k.t,~~~(uR as)]=some (.v (.a (.bl (k.so as))),[~~~k.t,~~~(uR as)]):=λk hk hkq=>by
   have:=ih k hk hkq;generalize uR as=AS at *;simp[PZ,this]
  have c0:=PQ [];have c2:=λx y=>PQ [x,y]
  have c3:=λx y z=>PQ [x,y,z]
  simp only[AO,BN]at c0 c2 c3;cases s with
  | ask k =>
   have h0:=Qa ha (show k < m from hq);have h2:=NI h0;have e1:(decide (((as.getD k 0:Nat):Int)=1))=(as.getD k 0 == 1):=by
    by_cases c:as.getD k 0=1
    ·rw[c];rfl
    ·rw[decide_eq_false ⋯,show (as.getD k 0 == 1)=false by simpa using c]
   simp only[Sy.so];generalize as.getD k 0=x at *;unfold uR;generalize wa as=AS at *;simp only[iT]at h2;simp[F_3,ua,d_3,Sy.t,h2,e1]
  | nt a =>
   have e:=ea a (by simp only[Sy.down]at h;lia) hq;generalize uR as=AS at *;simp[F_3,ua,d_3,Sy.t,Sy.so,yO,L7,MG,gd,g1,e]
  | yes | no =>
   generalize uR as=AS;simp[F_3,ua,d_3,Sy.t,Sy.so,yO,MG,gd,g0,c0,t1,t2,nd,yj,xl]
  | an a b | or a b | ei a b =>
   have e:=ea a (by simp only[Sy.down]at h;lia) hq.1;have e':=ea b (by simp only[Sy.down]at h;lia) hq.2;simp only[Sy.so];generalize a.so as=x,b.so as=y,uR as=AS at *;simp[F_3,ua,d_3,Sy.t,yO,L7,MG,gd,g2,e,e',c2,t1,t2,nd,yj,xl]
   try (cases x <;> cases y <;> rfl)
  | mo a b c =>
   have e:=ea a (by simp only[Sy.down]at h;lia) hq.1;have e':=ea b (by simp only[Sy.down]at h;lia) hq.2.1;have e2:=ea c (by simp only[Sy.down]at h;lia) hq.2.2;simp only[Sy.so];generalize a.so as=x,b.so as=y,c.so as=z,uR as=AS at *;simp[F_3,ua,d_3,Sy.t,yO,L7,MG,gd,g3,e,e',e2,c3,t1,t2,nd,yj,xl];cases x <;> cases y <;> cases z <;> rfl
def Py n a b (ha:IsT n a) (hb:IsT n b) (hn:n<=5):ABb [.v (uR a),.v (uR b)]=some (.v (uR (uV a b)),[]):=by
 have hl:=ha.len;obtain⟨o',e⟩:=MC (λ(k:Nat)=>iT k) (λk=>iT (b.getD k 0)) (de:=O2) (R:=[~~~(uR b)]) a (λk hk=>by
  obtain⟨m,hm,_⟩:=hb.get (ha.lt k hk);have:=NI hm;simp[O2,this,hm]) none
 have g:a.length<=AD:=Lm ⋯;simp[ABb,ua,AEg,gd,g,e,uV]
theorem Zp n qs (hn:n<=5) as (ha:vE qs as) d:∀ st c o3 o4 o5,IsT n c->vA n qs st->∃ o3' o4' o5',vm (xG 3 (vK (uP 3) (vK (uP 4) (vK (uP 5) xc)))) OW (st.map uk) [~~~d,~~~(uR as),~~~(uR c),o3,o4,o5] =
  some (.nx [~~~d,~~~(uR as),~~~(uR (uY as c st)),o3',o4',o5']):=by
 intro st;induction st with
 | nil=>intro c o3 o4 o5 _ _;exact⟨o3,o4,o5,by simp[Mo,uY]⟩
 | cons s r ih =>
  intro c o3 o4 o5 hc hs;have h1:=hs s AG;have hp:=Mf (as:=as) h1;have e2:=Py n c (ug as s) hc hp hn;obtain⟨o3',o4',o5',e3⟩:=ih (uV c (ug as s)) (~~~(iT (s.1))) (~~~(uR s.2.1)) (~~~(uR s.2.2)) (Lu hc hp) (λx hx=>hs x (AH _ hx));refine⟨o3',o4',o5',?_⟩;have turn:OW [~~~d,~~~(uR as),~~~(uR c),~~~(iT (s.1)),~~~(uR s.2.1),~~~(uR s.2.2)] =
    some (.nx [~~~d,~~~(uR as),~~~(uR (uV c (ug as s))),~~~(iT (s.1)),~~~(uR s.2.1),~~~(uR s.2.2)]):=by
   have h0:=Qa ha h1.1;have hx:=ha.lt _ (CS h0);have g2:2<=AD:=by decide
   unfold ug at e2 ⊢;generalize as.getD s.1 0=x at h0 hx e2 ⊢;have h2:=NI h0
   match x,hx with
   | 0,_ | 1,_ =>
    simp at h2 e2 ⊢;simp[OW,h2,gd,g2,e2]
  rw[AO,M6 rfl turn];exact e3
def Yz n qs (hn:n<=5) st as (ha:vE qs as) (hs:vA n qs st) (hl:st.length<=5000):ADQ [.v (vZ n qs st),.v (uR as)]=some (.v (uR (uY as (AE n) st)),[]):=by
 obtain⟨o3',o4',o5',e⟩:=Zp n qs hn as ha (vZ n qs st) st (AE n) none none none (MI n) hs;have g:st.length<=AD:=Lm ⋯;simp[ADQ,ua,AFE,Ml n ⋯,(NZ n),gd,g,e]
def dm n t (h:IsT n t) (hn:n<=5):ADh [.v (uR t)]=some (.v (uR (uZ t)),[]):=by
 obtain⟨o',e⟩:=MC (λ(i:Nat)=>iT i) (λi=>iT (t.idxOf i)) (de:=O5) (R:=[~~~(uR t)]) (AE n) (λi hi=>by
  simp[O5,Ph t,Vx t,(Sl (h.mem (show i < n by simpa using hi))),vI]) none
 simp[ADh,ua,AFz,h.len,Ml n ⋯,(NZ n),e,uZ]
theorem Nh:∀ a c,B6 (vf a) (vf c)=decide (a=c)
 | [],[] | [],y::s | x::r,[]=>by kernel_rfl
 | x::r,y::s=>by
  have:=Nh r s;simp only[vf,AO]at this ⊢;rw[B6,this];have e:BI (.int x) (.int y)=decide (x=y):=by
   by_cases h:x=y
   ·subst h;simp[BI]
   ·have h':¬ (x:Int)=y:=by lia
    simp[BI,h,h']
  rw[e];by_cases h:x=y <;> by_cases h2:r=s <;> simp
def XH Γ t:zR Γ (.v (uR t))=some (.tuple (vf t)):=by
 have:=ND t;simp[zR,toD,this]
def mF Γ a c:zE Γ (.v (uR a)) (.v (uR c))= ~~~(.a (.bl (!decide (a=c)))):=by
 have e1:yK (λa b=>!PyData.eqv a b) Γ (.v (uR a)) (.v (uR c))= ~~~(.a (.bl (!decide (a=c)))):=by
  unfold yK;rw[XH,XH];simp only[Ar,Bi,OK,CM,N0,BI,Nh];rfl
 show (none.or (yK (λa b=>!PyData.eqv a b) Γ (.v (uR a)) (.v (uR c))))=_;rw[E6,e1]
def Xk Γ a b c d:zE Γ (.v (.t [uR a,uR b])) (.v (.t [uR c,uR d]))= ~~~(.a (.bl (!decide (a=c/\b=d)))):=by
 have dt:∀ x y,zR Γ (.v (.t [uR x,uR y]))=some (.tuple [.tuple (vf x),.tuple (vf y)]):=λx y=>by
  have h2:=ND y;simp[zR,toD,we,(ND x),h2]
 have ev:BI (.tuple [.tuple (vf a),.tuple (vf b)]) (.tuple [.tuple (vf c),.tuple (vf d)])=decide (a=c/\b=d):=by
  simp only[BI,B6,Nh];by_cases h:a=c <;> by_cases h2:b=d <;> simp
 have e1:yK (λa b=>!PyData.eqv a b) Γ (.v (.t [uR a,uR b])) (.v (.t [uR c,uR d]))= ~~~(.a (.bl (!decide (a=c/\b=d)))):=by
  unfold yK;rw[dt,dt];simp only[Ar,ev];simp only[Bi,Ax,OK,CM,Bk,N0];rfl
 show (none.or (yK (λa b=>!PyData.eqv a b) Γ (.v (.t [uR a,uR b])) (.v (.t [uR c,uR d]))))=_;rw[E6,e1]
noncomputable def yf (x s:wF):wF:=(x.1,uV x.2.1 s.2.1,uV x.2.2 s.2.2)
noncomputable def yn (n:Nat) (kept:List wF) (s:wF):List wF:=if s.2.1=AE n/\s.2.2=AE n then kept else kept++[s]
noncomputable def yr (n:Nat) (kept:List wF) (s:wF):List wF:=match kept.getLast? with
 | some x=>if x.1=s.1 then yn n kept.dropLast (yf x s) else yn n kept s
 | none=>yn n kept s
noncomputable def w6 (n:Nat):List wF->List wF->List wF
 | kept,[]=>kept
 | kept,s::r=>w6 n (yr n kept s) r
def Ql(hk:vA n qs kept)(hs:s.1 < qs/\IsT n s.2.1/\IsT n s.2.2):vA n qs (yn n kept s):=by
 unfold yn;split
 ·exact hk
 ·exact λx hx=>(BF.mp hx).elim (hk x) λz=>AI.mp z ▸ hs
def Qh(hk:vA n qs kept)(hs:s.1 < qs/\IsT n s.2.1/\IsT n s.2.2):vA n qs (yr n kept s):=by
 unfold yr;split
 ·rename_i x hx;split
  ·have hx':=hk x (DJ hx);exact Ql (λy hy=>hk y (Dv _ hy)) ⟨hx'.1,Lu hx'.2.1 hs.2.1,Lu hx'.2.2 hs.2.2⟩
  ·exact Ql hk hs
 ·exact Ql hk hs
def Qv n kept s:(yn n kept s).length<=kept.length+1:=by
 unfold yn;split <;> simp
def VR n kept s:(yr n kept s).length<=kept.length+1:=by
 unfold yr;split
 ·split
  ·have:=Qv n kept.dropLast (yf ‹_› s);simp at this ⊢;lia
  ·exact Qv n kept s
 ·exact Qv n kept s
theorem Qq n:∀ kept st,(w6 n kept st).length<=kept.length+st.length
 | _,[]=>by simp[w6]
 | kept,s::r=>by
  have:=Qq n (yr n kept s) r;have:=VR n kept s;rw[w6,CA];lia
theorem RM:∀ {kept st},vA n qs kept->vA n qs st->vA n qs (w6 n kept st)
 | _,[],hk,_=>hk
 | kept,s::r,hk,hs=>RM (st:=r) (Qh hk (hs s AG)) λx hx=>hs x (AH _ hx)
def RB(hk:vA n qs kept)(hs:s.1 < qs/\IsT n s.2.1/\IsT n s.2.2):uY as (AE n) (yn n kept s)=uV (uY as (AE n) kept) (ug as s):=by
 unfold yn;split
 ·rename_i h;have e:ug as s=AE n:=by unfold ug;split;exact h.1;exact h.2
  rw[e,M4 (NL (MI n) hk)]
 ·exact QF as _ kept s
def bq as (h:x.1=s.1):ug as (yf x s)=uV (ug as x) (ug as s):=by
 unfold ug yf;rw[h];split <;> rfl
def jm(hk:vA n qs kept)(hs:s.1 < qs/\IsT n s.2.1/\IsT n s.2.2):uY as (AE n) (yr n kept s)=uV (uY as (AE n) kept) (ug as s):=by
 unfold yr;split
 ·rename_i x hx;split
  ·rename_i e;have hx':=hk x (DJ hx);have hd:vA n qs kept.dropLast:=λy hy=>hk y (Dv _ hy)
   have hk':kept=kept.dropLast++[x]:=by
    obtain⟨l,rfl⟩:=List.getLast?_eq_some_iff.mp hx;simp
   rw[RB (s:=yf x s) hd ⟨hx'.1,Lu hx'.2.1 hs.2.1,Lu hx'.2.2 hs.2.2⟩,bq as e]
   conv=>rhs;rw[hk',QF]
   rw[Mi (NL (MI n) hd) (Mf hx') (Mf hs)]
  ·exact RB hk hs
 ·exact RB hk hs
theorem Qf:∀ {kept st},vA n qs kept->vA n qs st->uY as (AE n) (w6 n kept st)=uY as (uY as (AE n) kept) st
 | _,[],_,_=>rfl
 | kept,s::r,hk,hs=>by
  have h1:=hs s AG;rw[w6,Qf (Qh hk h1) λx hx=>hs x (AH _ hx),jm hk h1];rfl
def iH n (hn:n<=5) x s (hx:IsT n x.2.1/\IsT n x.2.2) (hs:IsT n s.2.1/\IsT n s.2.2):AAy [.v (uk x),.v (uk s)]=some (.v (uk (yf x s)),[]):=by
 have e1:=NQ n _ _ hx.1 hs.1 hn;simp[ yf];simp[AAy,ua,AFX,e1,(NQ n _ _ hx.2 hs.2 hn)]
theorem mV(n qs:Nat)(hn:n<=5)(d:T):∀ (st kept:List wF) (o3 o4:Option G),vA n qs st->vA n qs kept->st.length+kept.length<=10000->∃ o3' o4',vm (uP 3) Np (st.map uk) [~~~d,~~~(.t [uR (AE n),uR (AE n)]),some (.l (kept.map uk)),o3,o4] =
  some (.nx [~~~d,~~~(.t [uR (AE n),uR (AE n)]),some (.l ((w6 n kept st).map uk)),o3',o4']):=by
 intro st;induction st with
 | nil=>intro kept o3 o4 _ _ _;exact⟨o3,o4,by simp[Mo,w6]⟩
 | cons s r ih =>
  intro kept o3 o4 hs hk hl;have h1:=hs s AG;have hlen:=VR n kept s;have g1:kept.length<=AD:=Lm (by simp at hl;lia);have g2:kept.length < AD:=Qe (by simp at hl;lia);have c0:∀ t:wF,xB [iT (t.1:Int),uR t.2.1,uR t.2.2] (some 1) none=[uR t.2.1,uR t.2.2]:=λt=>rfl
  have put:∀ (K2:List wF) (new:wF),K2.length<=kept.length->(vd (uQ (uM zE (dSl (jV 4) (wq ↑1) vj) (jV 1))) (wA (vb 2 vV %[jV 4|0])) uX) [~~~d,~~~(.t [uR (AE n),uR (AE n)]),some (.l (K2.map uk)),~~~(uk s),~~~(uk new)] =
    some (.nx [~~~d,~~~(.t [uR (AE n),uR (AE n)]),some (.l ((yn n K2 new).map uk)),~~~(uk s),~~~(uk new)]):=λK2 new hK=>by
   have c1:=c0 new;have q:=λΓ=>Xk Γ new.2.1 new.2.2 (AE n) (AE n)
   have g3:K2.length<=AD:=Aa hK g1;have g4:K2.length < AD:=EK hK g2;unfold yn;simp only[uk]at c1 ⊢;generalize hX:uR new.2.1=X1 at *;generalize hY:uR new.2.2=X2 at *;generalize uR (AE n)=Z at *;simp only[iT]at c1;by_cases hh:new.2.1=AE n/\new.2.2=AE n
   ·simp only[hh,and_self,decide_true,Jb]at q;simp[c1,q,hh]
   ·simp only[hh,decide_false,Bool.not_false]at q;simp[c1,q,hh,gd,g3,g4,vV,hX,hY]
  obtain⟨o4n,turn⟩:∃ o4n,Np [~~~d,~~~(.t [uR (AE n),uR (AE n)]),some (.l (kept.map uk)),~~~(uk s),o4] =
    some (.nx [~~~d,~~~(.t [uR (AE n),uR (AE n)]),some (.l ((yr n kept s).map uk)),~~~(uk s),o4n]):=by
   rcases List.eq_nil_or_concat kept with hk0 | ⟨l,x,hk0⟩
   ·subst hk0;refine⟨some (.v (uk s)),?_⟩;have p:=put [] s (AL _);unfold Np;have first:uS 4 (yI (yD (wc (jV 2)) (uQ (uM v5 (uM uW (uM uW (jV 2) (dUn yQ ↑1)) ↑0) (uM uW (jV 3) ↑0)))) (uL none AAy [] %[vb 2 yV qQ,jV 3|0]) (jV 3)) [~~~d,~~~(.t [uR (AE n),uR (AE n)]),some (.l (([]:List wF).map uk)),~~~(uk s),o4] =
      some (.nx [~~~d,~~~(.t [uR (AE n),uR (AE n)]),some (.l (([]:List wF).map uk)),~~~(uk s),~~~(uk s)]):=by
     kernel_rfl
    rw[RW first,p];rfl
   ·have hx:=hk x (by rw[hk0];simp);have lastx:xn (kept.map uk) (-1)=some (uk x):=by
     rw[Ui (by rw[hk0];simp),hk0];simp
    have ne:(kept.map uk).isEmpty=false:=by rw[hk0];simp
    have gl:kept.getLast?=some x:=by rw[hk0];simp
    have dlx:(kept.map uk).dropLast=l.map uk:=by rw[hk0];simp
    have la:(kept.map uk)[(kept.map uk).length - 1]?=some (uk x):=by rw[hk0];simp
    have kl:(kept.map uk).length<=AD:=by simpa using g1
    unfold Np;unfold yr;rw[gl];dsimp only;by_cases hq:x.1=s.1
    ·rw[if_pos hq];have kd:kept.dropLast=l:=by rw[hk0];simp
     rw[kd];refine⟨some (.v (uk (yf x s))),?_⟩;have p:=put l (yf x s) (by rw[hk0];simp);have tg:=iH n hn x s ⟨hx.2.1,hx.2.2⟩ ⟨h1.2.1,h1.2.2⟩;have first:uS 4 (yI (yD (wc (jV 2)) (uQ (uM v5 (uM uW (uM uW (jV 2) (dUn yQ ↑1)) ↑0) (uM uW (jV 3) ↑0)))) (uL none AAy [] %[vb 2 yV qQ,jV 3|0]) (jV 3)) [~~~d,~~~(.t [uR (AE n),uR (AE n)]),some (.l (kept.map uk)),~~~(uk s),o4] =
       some (.nx [~~~d,~~~(.t [uR (AE n),uR (AE n)]),some (.l (l.map uk)),~~~(uk s),~~~(uk (yf x s))]):=by
      have hq':(x.1:Int)=(s.1:Int):=by lia
      generalize uR (AE n)=Z;generalize l.map uk=LL at *;generalize kept.map uk=KK at *;generalize hM:uk (yf x s)=M at *;simp only[uk]at lastx la tg ⊢;generalize uR x.2.1=X1 at *;generalize uR x.2.2=X2 at *;generalize uR s.2.1=Y1 at *;generalize uR s.2.2=Y2 at *;simp only[iT]at *;rw[hq']at lastx la tg;simp[ne,lastx,gd,kl,yV,la,dlx,tg]
     rw[RW first,p]
    ·rw[if_neg hq];refine⟨some (.v (uk s)),?_⟩;have p:=put kept s (AL _);have first:uS 4 (yI (yD (wc (jV 2)) (uQ (uM v5 (uM uW (uM uW (jV 2) (dUn yQ ↑1)) ↑0) (uM uW (jV 3) ↑0)))) (uL none AAy [] %[vb 2 yV qQ,jV 3|0]) (jV 3)) [~~~d,~~~(.t [uR (AE n),uR (AE n)]),some (.l (kept.map uk)),~~~(uk s),o4] =
       some (.nx [~~~d,~~~(.t [uR (AE n),uR (AE n)]),some (.l (kept.map uk)),~~~(uk s),~~~(uk s)]):=by
      have hq':¬ (x.1:Int)=(s.1:Int):=by lia
      generalize uR (AE n)=Z;generalize kept.map uk=KK at *;simp only[uk]at lastx la ⊢;generalize uR x.2.1=X1 at *;generalize uR x.2.2=X2 at *;generalize uR s.2.1=Y1 at *;generalize uR s.2.2=Y2 at *;simp only[iT]at *;simp[ne,lastx,hq']
     rw[RW first,p]
  obtain⟨o3',o4',e3⟩:=ih (yr n kept s) (~~~(uk s)) o4n (λx hx=>hs x (AH _ hx)) (Qh hk h1) (by simp at hl ⊢;lia);refine⟨o3',o4',?_⟩;rw[AO,N9];simp only[VI,Ar,List.set_cons_succ,List.set_cons_zero];rw[turn];simp only[Ar];rw[e3];rfl
def WO(n qs:Nat)(hn:n<=5)(st:List wF)(hs:vA n qs st)(hl:st.length<=5000):ACV [.v (vZ n qs st)]=some (.v (vZ n qs (w6 n [] st)),[]):=by
 obtain⟨o3,o4,e⟩:=mV n qs hn (vZ n qs st) st [] none none hs (λx hx=>nomatch hx) ↥2;have e1:=P8 n hn;have g0:=sL 0;have g2:=sL 2;have g3:=sL 3;have gL:(st.map uk).length<=AD:=Lm ↥2;simp only[vZ,BN]at e ⊢;generalize (w6 n [] st).map uk=C at *;generalize st.map uk=L at *;generalize uR (AE n)=Z at *;simp only[iT]at e e1;simp[ACV,ua,AFm,e1,gd,g0,g2,g3,gL,e]
noncomputable def abT (by' t:List Nat):List Nat:=uV (uV (uZ by') t) by'
noncomputable def abS (by':List Nat) (s:wF):wF:=(s.1,abT by' s.2.1,abT by' s.2.2)
def Vk(hb:IsT n b)(ht:IsT n t):IsT n (abT b t):=Lu (Lu (My hb) ht) hb
def SG(hb:IsT n b)(hs:vA n qs st):vA n qs (st.map (abS b)):=λx hx=>by
 obtain⟨s,h,rfl⟩:=Am.mp hx;have:=hs s h;exact⟨this.1,Vk hb this.2.1,Vk hb this.2.2⟩
def cU(as b:List Nat)(s:wF):ug as (abS b s)=abT b (ug as s):=by
 unfold ug abS;dsimp only;split <;> rfl
def Xz(hb:IsT n b)(hx:IsT n x)(hy:IsT n y):uV (abT b x) (abT b y)=abT b (uV x y):=by
 unfold abT;have hk:=My hb;rw[Mi (Lu hk hx) hb (Lu (Lu hk hy) hb),← Mi hb (Lu hk hy) hb,← Mi hb hk hy,QD hb,M0 hy,← Mi (Lu hk hx) hy hb,Mi hk hx hy]
def WJ(hb:IsT n b):abT b (AE n)=AE n:=by
 unfold abT;rw[M4 (My hb),Sh hb]
theorem UG(hb:IsT n b):∀ {st:List wF},vA n qs st->uY as (AE n) (st.map (abS b))=abT b (uY as (AE n) st)
 | [],_=>(WJ hb).symm
 | s::r,hs=>by
  have hr:vA n qs r:=λx hx=>hs x (AH _ hx)
  have hp:=Mf (as:=as) (hs s AG);have hab:=SG hb hs;rw[AO]at hab ⊢;rw[QM hab,QM hs,UG hb hr,cU,Xz hb hp (NL (MI n) hr)]
def Sn(n:Nat)(t b:List Nat)(ht:IsT n t)(hb:IsT n b)(hn:n<=5):AAw [.v (uR t),.v (uR b)]=some (.v (uR (abT b t)),[]):=by
 have e1:=OS n b hb hn;have e2:=NQ n _ t (My hb) ht hn;have e3:=NQ n _ b (Lu (My hb) ht) hb hn;unfold abT;generalize uR (uV (uV (uZ b) t) b)=X at *;generalize uR (uV (uZ b) t)=Y at *;generalize uR (uZ b)=Z at *;generalize uR b=B at *;generalize uR t=U at *;simp[AAw,ua,AEi,e1,e2,e3]
def aj(n qs:Nat)(hn:n<=5)(st:List wF)(b:List Nat)(hb:IsT n b)(hs:vA n qs st)(hl:st.length<=5000):ADZ [.v (vZ n qs st),.v (uR b)]=some (.v (vZ n qs (st.map (abS b))),[]):=by
 have g3:=sL 3;have hbl:=hb.len;obtain⟨o',e⟩:=MC uk (λs=>uk (abS b s)) (de:=PV) (R:=[~~~(uR b)]) st (λs hm=>by
  have h:=hs s hm;have k1:=Sn n s.2.1 b h.2.1 hb hn;have k2:=Sn n s.2.2 b h.2.2 hb hn;simp only[uk,abS];generalize uR (abT b s.2.1)=X1 at *;generalize uR (abT b s.2.2)=X2 at *;generalize uR s.2.1=Y1 at *;generalize uR s.2.2=Y2 at *;generalize uR b=B at *;simp[PV,k1,k2,gd,g3]) none
 have gL:(st.map uk).length<=AD:=Lm ↥2;have gM:((st.map (abS b)).map uk).length<=AD:=Lm ↥2;have hm:st.map (λs=>uk (abS b s))=(st.map (abS b)).map uk:=by rw[Bn];rfl
 have hB:(wa b).length=n:=by simpa using hbl
 rw[hm]at e;simp only[vZ,uR]at e ⊢;generalize (st.map (abS b)).map uk=M at *;generalize st.map uk=L at *;generalize wa b=B at *;subst hB;simp[ADZ,ua,AEd,gd,g3,gL,gM,e]
def fG(n:Nat):T.t (ve 0 n)=uR (AE n):=by rw[NZ]
theorem XD(hn:n<=5)(hq:q<=4)(s:Sy)(hs:s.qs q)(hd:s.down<=12)(r:List Nat)(st:List wF)(ho:vA n q st)(hl:st.length<=5000)(hw:∀ as,vE q as->uY as (AE n) st=if s.so as then r else AE n):∀ (L:List (List Nat)) (o3 o4:Option G),(∀ as∈L,vE q as)->∃ o3' o4',
  vm (uP 3) N8 (L.map uR) [~~~(vZ n q st),~~~s.t,~~~(uR r),o3,o4]=↥([~~~(vZ n q st),~~~s.t,~~~(uR r),o3',o4'])
 | [],o3,o4,_=>⟨o3,o4,by rw[BN,Mo]⟩
 | as::L,o3,o4,h=>by
  have ha:=h as AG;obtain⟨o3',o4',e⟩:=XD hn hq s hs hd r st ho hl hw L (~~~(uR as)) (~~~(uR (if s.so as then r else AE n))) λx hx=>h x (AH _ hx)
  refine⟨o3',o4',?_⟩;have e1:=YY ha Rh s hd hs;have e2:=Yz n q hn st as ha ho hl;have n1:=λΓ=>mF Γ (if s.so as then r else AE n) (if s.so as then r else AE n)
  rw[hw as ha]at e2;simp only[decide_true,Jb]at n1;have r1:=Ml n ⋯;have gn:(ve 0 n).length<=AD:=Lm (by simp[ve];lia);have rt:=fG n;have turn:N8 [~~~(vZ n q st),~~~s.t,~~~(uR r),~~~(uR as),o4]=↥([~~~(vZ n q st),~~~s.t,~~~(uR r),~~~(uR as),~~~(uR (if s.so as then r else AE n))]):=by
   generalize uR as=AS at *;generalize s.t=ST at *;unfold vZ at *;generalize st.map uk=SS at *;cases hb:s.so as
   ·rw[hb]at e1 e2 n1;rw[if_neg Ac]at e2 n1 ⊢;rw[← rt]at e2 n1 ⊢;generalize uR r=R at *;generalize ve 0 n=RN at *;simp only[iT]at *;simp[N8,e1,e2,n1,r1,gd,gn]
   ·rw[hb]at e1 e2 n1;rw[if_pos rfl]at e2 n1 ⊢;generalize uR r=R at *;generalize ve 0 n=RN at *;simp only[iT]at *;simp[N8,e1,e2,n1,r1,gd,gn]
  rw[AO,M6 ↥1 turn];exact e
def PB(hn:n<=5)(hq:q<=4)(s:Sy)(hs:s.qs q)(hd:s.down<=12)(r:List Nat)(st:List wF)(ho:vA n q st)(hl:st.length<=5000)(hw:∀ as,vE q as->uY as (AE n) st=if s.so as then r else AE n):ABA [.v (vZ n q st),.v s.t,.v (uR r)]=some (.v (.a (.bl true)),[]):=by
 obtain⟨o3,o4,e⟩:=XD hn hq s hs hd r st ho hl hw (uo q) none none (Mx q);have e5:=kX q ⋯;have gA:((uo q).map uR).length<=AD:=Lm (by have:=ON (q:=q) ⋯;rw[AV];lia);generalize (uo q).map uR=AA at *;generalize s.t=ST at *;generalize uR r=R at *;unfold vZ at *;generalize st.map uk=SS at *;simp only[iT]at *;simp[ABA,ua,AFZ,e5,gd,gA,e]
def Wh(hn:n<=5)(hq:q<=4)(s:Sy)(hs:s.qs q)(hd:s.down<=12)(r b:List Nat)(hr:IsT n r)(hb:IsT n b)(st:List wF)(ho:vA n q st)(hl:st.length<=2000)(hw:∀ as,vE q as->uY as (AE n) st=if s.so as then r else AE n):ACH [.v (vZ n q st),.v s.t,.v (uR r),.v (uR b)]=some (.v (.a (.bl true)),[]):=by
 have e1:=WO n q hn st ho ⋯;have c1:=Qq n [] st;have c2:=RM (n:=n) (qs:=q) (kept:=[]) (st:=st) (λ_ h=>nomatch h) ho;have d1:=PB hn hq s hs hd r (w6 n [] st) c2 (by simp at c1;lia) λas ha=>by rw[Qf (kept:=[]) (λ_ h=>nomatch h) ho];exact hw as ha
 have t1:=aj n q hn st b hb ho ⋯;have t2:=SG hb ho;have d2:=PB hn hq s hs hd (abT b r) (st.map (abS b)) t2 ↥2 λas ha=>by
  rw[UG hb ho,hw as ha];split
  ·rfl
  ·exact WJ hb
 have k1:=dm n b hb hn;have k2:=Py n _ r (My hb) hr hn;have k3:=Py n _ b (Lu (My hb) hr) hb hn;have lt:¬ ((w6 n [] st).map uk).length > (st.map uk).length:=by simp at c1 ⊢;exact c1
 unfold abT at d2;clear c1 c2 t2 hw;generalize uR (uV (uV (uZ b) r) b)=GG at *;generalize uR (uV (uZ b) r)=X at *;generalize uR (uZ b)=Y at *;generalize uR b=B at *;generalize uR r=R at *;generalize s.t=ST at *;unfold vZ at *;generalize (w6 n [] st).map uk=CC at *;generalize (st.map (abS b)).map uk=TT at *;generalize st.map uk=SS at *;simp only[iT]at *;simp[ACH,ua,AFi,e1,d1,t1,d2,k1,k2,k3,lt]
abbrev Mk:=List Nat×Nat
@[simp] noncomputable abbrev yi (m:Mk):T:=.t [uR m.1,iT (m.2:Int)]
@[simp] noncomputable abbrev xp (bg:Nat) (fl:List Nat) (mk:List Mk):T:=.t [iT (bg:Int),uR fl,.t (mk.map yi)]
def uf (qs:Nat) (s:List Nat):Prop:=s.Sublist (AE qs)
def uf.lt(h:uf qs s)(hq:q∈s):q < qs:=By.mp (h.subset hq)
def uf.len(h:uf qs s):s.length<=qs:=by have:=h.length_le;simpa using this
def AAe (qs:Nat) (m:Mk):Prop:=uf qs m.1/\1<=m.2/\m.2<=2
theorem PU{a b:List Nat}(h:(a.map λ(k:Nat)=>(.inl k:vT))=b.map λ(k:Nat)=>(.inl k:vT)):a=b:=by
 induction a generalizing b with
 | nil=>cases b with
  | nil=>rfl
  | cons _ _=>simp at h
 | cons x r ih=>cases b with
  | nil=>simp at h
  | cons y s =>
   simp at h;obtain⟨h1,h2⟩:=h;rw[show x=y by lia,ih h2]
noncomputable def xh (t:List Nat):List vT:=t.map λ(k:Nat)=>(.inl (k:Int):vT)
theorem RJ:∀ t,xa (wa t)=some (xh t)
 | []=>rfl
 | x::r=>by
  have:=RJ r;simp[xa,yj,this,xh]
noncomputable def wO (D:List Mk):List (List vT×T):=D.map λp=>(xh p.1,iT (p.2:Int))
noncomputable def zr (D:List Mk) (s:List Nat) (m:Nat):List Mk:=if (D.any λp=>decide (p.1=s))=true then D.map (λp=>if p.1=s then (p.1,m) else p) else D++[(s,m)]
def ir D s (m:Nat):zu (wO D) (xh s) (iT m)=wO (zr D s m):=by
 have e:((wO D).any λkv=>decide (kv.1=xh s))=D.any λp=>decide (p.1=s):=by
  unfold wO;rw[Jp];congr 1;funext p;by_cases h:p.1=s
  ·simp[h]
  ·have h':¬ xh p.1=xh s:=λz=>h (PU z)
   simp[h,h']
 unfold zu zr;rw[e];split
 ·unfold wO;rw[Bn,Bn];congr 1;funext p;by_cases h:p.1=s
  ·simp[h]
  ·have h':¬ xh p.1=xh s:=λz=>h (PU z)
   simp[h,h']
 ·simp[wO]
theorem Qw:∀ t,vq (wa t)=some (t.map λ(k:Nat)=>(k:Int))
 | []=>rfl
 | k::r=>by
  have:=Qw r;simp[vq,this]
noncomputable def AGH:List (List Nat):=[[0,2,1],[1,2,0],[2,0,1],[1,2,3,4,0],[1,3,0,4,2],[128]]
def Vh(hq:qs<=100)(h:uf qs s):(yw.any λc=>decide (c=xh s))=false:=by
 have e:yw=AGH.map (λc=>c.map λk=>(.inl k)):=rfl;rw[e,Jp,List.any_eq_false];intro c hc;have hn:∀ c∈AGH,¬ c.Pairwise (· < ·)\/128∈c:=by decide
 simp;intro z;have e2:=PU z;rcases hn c hc with h1 | h1
 ·exact h1 (by rw[e2];exact (GJ h Ha))
 ·rw[e2]at h1;have:=h.lt h1;lia
noncomputable def uz (s:List Nat) (q:Nat):Bool:=decide (q∈s)
noncomputable def wR (qs:Nat) (s:List Nat) (q:Nat):List Nat:=(AE qs).filter λx=>uz s x != decide (x=q)
theorem P4:∀ {s l:List Nat},s.Sublist l->l.Nodup->l.filter (uz s)=s
 | _,_,.slnil,_=>rfl
 | s,_,.cons a h,nd=>by
  obtain⟨n1,n2⟩:=BG.mp nd;have:uz s a=false:=decide_eq_false λz=>n1 (h.subset z)
  rw[Ej,this];exact P4 h n2
 | _,_,.cons₂ (l₁:=s) (l₂:=l) a h,nd=>by
  obtain⟨n1,n2⟩:=BG.mp nd;have:uz (a::s) a=true:=decide_eq_true AG;rw[Ej,this,if_pos rfl];have e:l.filter (uz (a::s))=l.filter (uz s):=F2 λx hx=>by
   have:x≠a:=λz=>n1 (z ▸ hx)
   unfold uz;simp[this]
  rw[e,P4 h n2]
theorem uf.filter(h:uf qs s):(AE qs).filter (uz s)=s:=P4 h DP
def Pe qs s q:uf qs (wR qs s q):=List.filter_sublist
def uf.nodup(h:uf qs s):s.Nodup:=LZ h DP
def uf.sorted(h:uf qs s):s.Pairwise (· < ·):=GJ h Ha
def jy:x∈wR qs s q ↔ x < qs/\(uz s x != decide (x=q))=true:=by
 unfold wR;rw[Bs,By]
def UH(h:uf qs s)(hq:q∈s):s.filter (λx=>!decide (x=q))=wR qs s q:=by
 conv=>lhs;rw[← h.filter]
 rw[List.filter_filter];refine F2 λx _=>?_
 by_cases e:x=q
 ·subst e;simp[uz,hq]
 ·simp[e]
def Ul(h:uf qs s)(hq:q∉s)(hlt:q < qs):(s++[q]).Perm (wR qs s q):=by
 have n1:(s++[q]).Nodup:=by
  rw[EV];refine⟨h.nodup,by simp,λa ha b hb=>?_⟩;rw[AI.mp hb];exact λz=>hq (z ▸ ha)
 refine (List.perm_ext_iff_of_nodup n1 (Pe qs s q).nodup).mpr λx=>?_
 rw[jy,BF,AI];by_cases e:x=q
 ·subst e;simp[uz,hq,hlt]
 ·simp only[e,or_false,decide_false,Bool.bne_false,uz,decide_eq_true_eq];exact⟨λz=>⟨h.lt z,z⟩,λz=>z.2⟩
def Z5(h:uf qs s)(hq:q∉s)(hlt:q < qs):sortI ((s++[q]).map λ(k:Nat)=>k)=(wR qs s q).map λ(k:Nat)=>(k:Int):=by
 refine RI ((QG _).trans ((Ul h hq hlt).map _)) (RE _) (EU.mpr ((Pe qs s q).sorted.imp λ{a b} hab=>?_));lia
theorem ZD s (q:Nat):inV (.int q) (s.map λ(k:Nat)=>V.int k)=uz s q:=by
 unfold uz;induction s with
 | nil=>rfl
 | cons x r ih =>
  have:∀ y,inV (.int q) (y::r.map λ(k:Nat)=>V.int k)=(yY y (.int q) || inV (.int q) (r.map λ(k:Nat)=>V.int k)):=λy=>by simp[inV]
  rw[AO,this,ih];by_cases e:x=q
  ·subst e;simp[yY]
  ·have e':q≠x:=λz=>e z.symm
   have:yY (.int x) (.int q)=false:=by simp[yY];lia
   rw[this];simp[e']
def Sz qs (hqs:qs<=20) s q (h:uf qs s) (hq:q < qs):ABs [.v (uR s),.v (iT q)]=some (.v (uR (wR qs s q)),[]):=by
 have hl:=h.len;have at1:=Ph s;have ff:∀ x,vI (.int x)=true:=λ_=>rfl
 have in1:=ZD s q;have g:s.length<=AD:=Lm ⋯;have g1:1<=AD:=by decide
 have g2:s.length+1<=AD:=Lm ⋯;by_cases hm:q∈s
 ·have e1:uz s q=true:=decide_eq_true hm;obtain⟨o',e⟩:=QK (λ(k:Nat)=>iT k) (λk=>iT k) (λx=>!decide (x=q)) (dc:=Qn) (de:=PD) (R:=[~~~(iT q)]) s (λx _=>by
   have:(decide ((x:Int)=q))=decide (x=q):=by simp[Int.natCast_inj]
   simp[Qn,this]) (λx _ _=>by simp[PD]) none
  rw[UH h hm]at e;rw[e1]at in1;simp[ABs,ua,AEG,inS,at1,ff,in1,gd,g,e]
 ·have e1:uz s q=false:=decide_eq_false hm;have e2:=Z5 h hm hq;have e3:=Qw (s++[q]);rw[e1]at in1;have l64:((s++[q]).map λ(k:Nat)=>(k:Int)).length < 64:=by simp;lia
  generalize ((s++[q]).map λ(k:Nat)=>(k:Int))=W at *;simp at e3 at1 ⊢;simp[ABs,ua,AEG,inS,at1,ff,in1,gd,g1,g2,sortedS,e3,l64,e2,Dc]
@[simp] noncomputable abbrev xN (p:List Nat×Int):T:=.t [uR p.1,iT p.2]
noncomputable def lkM (D:List Mk) (s:List Nat):Option Nat:=(D.find? λp=>decide (p.1=s)).map (·.2)
theorem ZF D t:xl (wO D) (xh t)=(lkM D t).map λ(m:Nat)=>iT m:=by
 induction D with
 | nil=>rfl
 | cons p r ih =>
  unfold xl lkM wO at *;rw[AO,E3,E3];by_cases h:p.1=t
  ·simp[h]
  ·have h':¬ xh p.1=xh t:=λe=>h (PU e)
   simp only[h,h',decide_false];exact ih
def KOk (s:List Nat):Prop:=(yw.any λc=>decide (c=xh s))=false
def Q6 D t (hk:KOk t):ABJ yw (.inr (wO D)) (uR t)=some ((lkM D t).map λ(m:Nat)=>iT m):=by
 show (xa (wa t)).bind _=_;rw[RJ,Ar,← ZF,if_neg (by rw[hk];decide)]
def fE D s (m:Nat) (hk:KOk s) (hl:D.length < AD):ACK yw (.inr (wO D)) (uR s) (iT m)=some (.inr (wO (zr D s m))):=by
 show (xa (wa s)).bind _=_;rw[RJ,Ar,← ir,if_neg (by rw[hk];decide)];have:(wO D).length < AD:=by simpa [wO] using hl
 simp[this]
def kK D s t m:lkM (zr D s m) t=if t=s then some m else lkM D t:=by
 unfold zr lkM;split
 ·rename_i ha;rw[List.find?_map];have hp:(λp:Mk=>decide (p.1=t)) ∘ (λp=>if p.1=s then (p.1,m) else p)=λp=>decide (p.1=t):=by
   funext p;simp;split <;> rfl
  rw[hp];by_cases e:t=s
  ·subst e;obtain⟨p,hp1,hp2⟩:=DQ.mp ha;cases hf:D.find? λp=>decide (p.1=t) with
   | none=>have:=IJ.mp hf p hp1;exact absurd hp2 this
   | some q =>
    have:=GW hf;simp at this;simp[this]
  ·rw[if_neg e];cases hf:D.find? λp=>decide (p.1=t) with
   | none=>rfl
   | some q =>
    have:=GW hf;simp at this;have h':¬ q.1=s:=λz=>e (this.symm.trans z)
    simp[h']
 ·rename_i ha;rw[List.find?_append];by_cases e:t=s
  ·subst e;have:(D.find? λp=>decide (p.1=t))=none:=by
    rw[IJ];intro p hp hd;exact ha (DQ.mpr ⟨p,hp,hd⟩)
   rw[this];simp
  ·rw[if_neg e];have:¬ s=t:=λz=>e z.symm
   simp[ this]
def Oy D s m:(zr D s m).map (·.1)=if s∈D.map (·.1) then D.map (·.1) else D.map (·.1)++[s]:=by
 have ha:(D.any λp=>decide (p.1=s))=true ↔ s∈D.map (·.1):=by
  grind
 unfold zr;by_cases h:s∈D.map (·.1)
 ·rw[if_pos (ha.mpr h),if_pos h,Bn];refine BP λp _=>?_
  simp;split <;> rfl
 ·rw[if_neg (λz=>h (ha.mp z)),if_neg h];simp
noncomputable def w9 (ps:List (List Nat×Int)) (s:List Nat):Int:=((ps.filter λp=>decide (p.1=s)).map (·.2)).sum
noncomputable def xb (D:List Mk) (p:List Nat×Int):List Mk:=zr D p.1 ((((lkM D p.1).getD 0:Nat)+p.2:Int) % 3).toNat
noncomputable def vo (ps:List (List Nat×Int)):List Mk:=ps.foldl xb []
def oU ps p s:w9 (ps++[p]) s=w9 ps s+if p.1=s then p.2 else 0:=by
 unfold w9;by_cases h:p.1=s <;> simp[h]
structure yk(ps:List (List Nat×Int))(D:List Mk):Prop where
 nd:(D.map (·.1)).Nodup
 len:D.length<=ps.length
 key:∀ s,s∈D.map (·.1) ↔ s∈ps.map (·.1)
 val:∀ s,lkM D s=if s∈ps.map (·.1) then some (w9 ps s % 3).toNat else none
def ZP(h:yk ps D) p:yk (ps++[p]) (xb D p):=by
 unfold xb;refine⟨?_,?_,λs=>?_,λs=>?_⟩
 ·rw[Oy];split
  ·exact h.nd
  ·rename_i hn;rw[EV];refine⟨h.nd,by simp,λa ha b hb=>?_⟩;rw[AI.mp hb];exact λz=>hn (z ▸ ha)
 ·have:=congrArg FH (Oy D p.1 ((((lkM D p.1).getD 0)+p.2) % 3).toNat);rw[AV]at this;rw[this];have:=h.len;split <;> simp <;> lia
 ·rw[Oy,A9,BF,← h.key s];split
  ·rename_i hm;refine⟨.inl,λz=>z.elim id λz=>?_⟩;rw[show s=p.1 from by simpa using z];exact hm
  ·rw[BF];simp
 ·have hmm:s∈(ps++[p]).map (·.1) ↔ (s∈ps.map (·.1)\/s=p.1):=by rw[A9];simp
  rw[kK,h.val,h.val,oU];by_cases e:s=p.1
  ·subst e;rw[if_pos rfl,if_pos (hmm.mpr (.inr rfl)),if_pos rfl];congr 2;split
   ·have hm:0<=w9 ps p.1 % 3:=B4 _ ∅;rw[IG,Ce hm];lia
   ·rename_i hn;have:w9 ps p.1=0:=by
     unfold w9;have:(ps.filter λq=>decide (q.1=p.1))=[]:=by
      rw[Hb];intro q hq hd;exact hn (Am.mpr ⟨q,hq,by simpa using hd⟩)
     rw[this];rfl
    rw[this];simp
  ·have e':¬ p.1=s:=λz=>e z.symm
   rw[if_neg e,if_neg e',Hk];by_cases hs:s∈ps.map (·.1)
   ·rw[if_pos hs,if_pos (hmm.mpr (.inl hs))]
   ·rw[if_neg hs,if_neg λz=>(hmm.mp z).elim hs e]
def Mg ps:yk ps (vo ps):=by
 have gen:∀ r done D,yk done D->yk (done++r) (r.foldl xb D):=by
  intro r;induction r with
  | nil=>intro done D h;simpa using h
  | cons p r ih=>intro done D h;rw[ List.append_cons];exact ih _ _ (ZP h p)
 exact gen ps [] [] ⟨.nil,AL _,λs=>by simp,λs=>by simp[lkM]⟩
def gH f lt (d:α) (d':β) xs:u5 lt d' (xs.map f)=(u5 lt d xs).map f:=by
 unfold u5;rw[AV];split
 ·rfl
 ·rw[Bn];refine BP λi hi=>?_
  simp[ (By.mp (((M7 ⋯).run lt).subset hi))]
noncomputable def xF (nss:List (List Nat)):List (List Nat):=u5 (ltI (nss.map λs=>s.map λ(k:Nat)=>(k:Int))) [] nss
def ME nss:(xF nss).Perm nss:=Zy _ _ _
theorem WH:∀ nss:List (List Nat),AAE (nss.map uR)=some (nss.map λs=>s.map λ(k:Nat)=>(k:Int))
 | []=>rfl
 | s::r=>by
  have e:ADb (uR s)=some (s.map λ(k:Nat)=>(k:Int)):=Qw s;rw[AO,AAE,e,WH r];rfl
def kU nss (h:nss.length < 64):ABk (nss.map uR)=some ((xF nss).map uR):=by
 unfold ABk;rw[WH];have hl:(nss.map λs=>s.map λ(k:Nat)=>(k:Int)).length < 64:=by simpa using h
 dsimp only;rw[if_pos hl,gH uR _ [] _ nss];rfl
def Xc D:zJ (wO D)=(D.map (·.1)).map uR:=by
 unfold zJ wO;simp[xC,xh,Dc,kV]
noncomputable def uw (ps:List (List Nat×Int)):List Mk:=((xF ((vo ps).map (·.1))).filter λs=>!decide (w9 ps s % 3=0)).map λs=>(s,(w9 ps s % 3).toNat)
def VH ps:(uw ps).length<=ps.length:=by
 unfold uw;rw[AV];refine Aa (E7 _ _) ?_;rw[(ME _).length_eq,AV];exact (Mg ps).len
def fU:m∈uw ps ↔ m.1∈ps.map (·.1)/\w9 ps m.1 % 3≠0/\m.2=(w9 ps m.1 % 3).toNat:=by
 unfold uw;rw[Am];constructor
 ·rintro ⟨s,hs,rfl⟩;rw[Bs,(ME _).mem_iff,(Mg ps).key]at hs;exact⟨hs.1,by simpa using hs.2,rfl⟩
 ·rintro ⟨h1,h2,h3⟩;refine⟨m.1,?_,by rw[← h3]⟩;rw[Bs,(ME _).mem_iff,(Mg ps).key];exact⟨h1,by simpa using h2⟩
theorem dG o0:∀ (ps:List (List Nat×Int)) D o2,(∀ p∈ps,KOk p.1)->D.length+ps.length<=1000->∃ o2',vm (uP 2) Nl (ps.map xN) [o0,some (.d (.inr (wO D))),o2]=↥([o0,some (.d (.inr (wO (ps.foldl xb D)))),o2']):=by
 intro ps;induction ps with
 | nil=>intro D o2 _ _;exact⟨o2,by rw[BN];rfl⟩
 | cons p r ih =>
  intro D o2 hK hl;have hD:(xb D p).length<=D.length+1:=by
   have:=congrArg FH (Oy D p.1 ((((lkM D p.1).getD 0)+p.2) % 3).toNat);rw[AV]at this;unfold xb;rw[this];split <;> simp
  obtain⟨o2',e3⟩:=ih (xb D p) (~~~(xN p)) (λx hx=>hK x (AH _ hx)) (by simp at hl;lia);refine⟨o2',?_⟩;have px:=fE D p.1 ((((lkM D p.1).getD 0)+p.2) % 3).toNat (hK p AG) (Qe ⋯);have hm:0<=(((lkM D p.1).getD 0)+p.2) % 3:=B4 _ ∅;rw[Ce hm]at px;have hg:((lkM D p.1).map λ(m:Nat)=>iT m).getD (⇑0)=iT ((lkM D p.1).getD 0):=by
   cases lkM D p.1 <;> rfl
  have turn:Nl [o0,some (.d (.inr (wO D))),~~~(xN p)]=↥([o0,some (.d (.inr (wO (xb D p)))),~~~(xN p)]):=by
   unfold xb;simp[Nl,(Q6 D p.1 (hK p AG)),px,hg]
  rw[AO,M6 ↥1 turn,e3];rfl
def Us ps (hK:∀ p∈ps,KOk p.1) (hl:ps.length < 1000) (h64:(vo ps).length < 64):ABf [.r (ps.map xN)]=some (.v (.t ((uw ps).map yi)),[]):=by
 have hF:=Mg ps;obtain⟨o2,e1⟩:=dG (some (.r (ps.map xN))) ps [] none hK ↥2;have hlen:((vo ps).map (·.1)).length < 64:=by rw[AV];exact h64
 have e2:=kU ((vo ps).map (·.1)) hlen;rw[← Xc]at e2;obtain⟨o',e3⟩:=QK uR (λs=>yi (s,(w9 ps s % 3).toNat)) (λs=>!decide (w9 ps s % 3=0)) (dc:=OO) (de:=Nt) (R:=[some (.e (.inr (wO (vo ps))))]) (xF ((vo ps).map (·.1))) (λs hs=>by
  have gx:=Q6 (vo ps) s (by obtain⟨p,hp,e⟩:=Am.mp ((hF.key s).mp ((ME _).mem_iff.mp hs));rw[← e];exact hK p hp);rw[hF.val,if_pos ((hF.key s).mp ((ME _).mem_iff.mp hs)),Option.map_some]at gx;have hm:0<=w9 ps s % 3:=B4 _ ∅;rw[Ce hm]at gx;simp[OO,gx]) (λs hs _=>by
  have gx:=Q6 (vo ps) s (by obtain⟨p,hp,e⟩:=Am.mp ((hF.key s).mp ((ME _).mem_iff.mp hs));rw[← e];exact hK p hp);rw[hF.val,if_pos ((hF.key s).mp ((ME _).mem_iff.mp hs))]at gx;generalize (w9 ps s % 3).toNat=N at *;simp[Nt,gx]) none
 have e3':vg (uP 0) OO Nt ((xF ((vo ps).map (·.1))).map uR) [none,some (.e (.inr (wO (vo ps))))]=some ((uw ps).map yi,[o',some (.e (.inr (wO (vo ps))))]):=by
  unfold uw;rw[Bn];exact e3
 have g:(ps.map xN).length<=AD:=Lm ↥2;have g':((xF ((vo ps).map (·.1))).map uR).length<=AD:=Lm (by rw[AV,(ME _).length_eq];lia);have e1':vm (uP 2) Nl (ps.map xN) [some (.r (ps.map xN)),some (.d (.inr [])),none]=↥([some (.r (ps.map xN)),some (.d (.inr (wO (vo ps)))),o2]):=e1;generalize ps.map xN=PP at *;generalize (xF ((vo ps).map (·.1))).map uR=KK at *;simp[ABf,ua,AFN,gd,g,g',e1',e2,e3']
theorem V2:∀ (ys xs:List (List Nat)),ys.Nodup->(∀ y∈ys,y∈xs)->ys.length<=xs.length
 | [],_,_,_=>BO _
 | y::r,xs,nd,h=>by
  have nd':=BG.mp nd;have hy:=h y AG;have:=V2 r (xs.erase y) nd'.2 λz hz=>(List.mem_erase_of_ne (λe=>nd'.1 (by simp_all))).mpr (h z (AH _ hz))
  rw[HH hy]at this;have:=List.length_pos_of_mem hy;simp;lia
noncomputable def yZ:Nat->List (List Nat)
 | 0=>[[]]
 | q+1=>yZ q++(yZ q).map λs=>s++[q]
theorem Ro:∀ q,(yZ q).length=2 ^ q
 | 0=>rfl
 | q+1=>by rw[yZ,A4,AV,Ro q];lia
theorem QI:∀ {q s},uf q s->s∈yZ q
 | 0,s,h=>by
  have:=GK.mp h;rw[this];exact AG
 | q+1,s,h=>by
  unfold uf at h;rw[GY]at h;obtain⟨a,b,rfl,ha,hb⟩:=List.sublist_append_iff.mp h;rw[yZ,BF];rcases List.sublist_cons_iff.mp hb with hb | ⟨r,rfl,hr⟩
  ·rw[GK.mp hb,Bm];exact .inl (QI ha)
  ·rw[GK.mp hr];exact .inr (Am.mpr ⟨a,QI ha,rfl⟩)
def Pk(hq:q<=4)(hp:∀ p∈ps,uf q p.1):(vo ps).length<=16:=by
 have h:=V2 ((vo ps).map (·.1)) (yZ q) (Mg ps).nd λy hy=>QI (by
  obtain⟨p,hp',e⟩:=Am.mp (((Mg ps).key y).mp hy);rw[← e];exact hp p hp')
 rw[AV,Ro]at h;exact Aa h (Aa (Dy ∅ hq) ∅)
def cg(hq:q<=4)(hp:∀ p∈ps,uf q p.1):(uw ps).length<=16:=by
 have:=Pk hq hp;unfold uw;rw[AV];refine Aa (E7 _ _) ?_;rw[(ME _).length_eq,AV];exact this
noncomputable def e3 (t:List Nat):Int:=((t.getD 1 0:Nat) - (t.getD 0 0:Nat):Int) % 3
theorem ADe(h:IsT 3 t):∃ a b c,t=[a,b,c]:=by
 match t,h.len with
 | [a,b,c],_=>exact⟨a,b,c,rfl⟩
def Sf t (h:IsT 3 t):ACO [.v (uR t)]=some (.v (iT (e3 t)),[]):=by
 obtain⟨a,b,c,rfl⟩:=ADe h
 kernel_rfl
abbrev Pr:=List Nat×Int
noncomputable def wH (qs:Nat) (s:wF) (bg:Nat) (fl:List Nat):List Pr:=
 [(fl,2 * (1+(bg:Int)) * ((s.2.2.getD 0 0:Nat)+(s.2.1.getD 0 0:Nat))),(wR qs fl s.1,2 * (1+(bg:Int)) * ((s.2.2.getD 0 0:Nat) - (s.2.1.getD 0 0:Nat)))]
def dJ qs (hqs:qs<=20) s (bg:Nat) fl (hs:s.1 < qs/\IsT 3 s.2.1/\IsT 3 s.2.2) (hb:bg < 2) (hf:uf qs fl):ADE [.v (uk s),.v (iT bg),.v (uR fl)]=some (.l ((wH qs s bg fl).map xN),[]):=by
 obtain⟨q,yes,no⟩:=s;obtain⟨h1,h2,h3⟩:=hs;obtain⟨a,b,c,rfl⟩:=ADe h2;obtain⟨a',b',c',rfl⟩:=ADe h3;have c1:vv 2 (1+bg):=OZ ⟨by decide,by decide⟩;have c2:∀ m,vv (2 * (1+bg)) m:=λm=>OZ ⟨by lia,by lia⟩
 simp[ADE,ua,AFb,(Sz qs hqs fl q hf h1),wH,c1,c2]
abbrev Ss:=Nat×List Nat×List Pr
noncomputable def vP (qs:Nat) (x:Ss) (s:wF):Ss:=
 (if e3 s.2.2=2 then 1 - x.1 else x.1,if e3 s.2.1=e3 s.2.2 then x.2.1 else wR qs x.2.1 s.1,x.2.2++wH qs s x.1 x.2.1)
noncomputable def u6 (qs:Nat) (st:List wF):Ss:=st.reverse.foldl (vP qs) (0,[],[])
structure AAg(qs:Nat)(x:Ss):Prop where
 bg:x.1 < 2
 fl:uf qs x.2.1
 ps:∀ p∈x.2.2,uf qs p.1
def P3(h:AAg qs x) s:AAg qs (vP qs x s):=by
 have:=h.bg;refine⟨?_,?_,λp hp=>?_⟩
 ·show (if e3 s.2.2=2 then 1 - x.1 else x.1) < 2;split <;> lia
 ·show uf qs (if e3 s.2.1=e3 s.2.2 then x.2.1 else wR qs x.2.1 s.1);split
  ·exact h.fl
  ·exact Pe _ _ _
 ·rcases BF.mp hp with z | z
  ·exact h.ps p z
  ·rcases AR.mp z with z | z
   ·subst z;exact h.fl
   ·have:=AI.mp z;subst this;exact Pe _ _ _
def Qb qs:AAg qs (0,[],[]):=⟨by decide,DR _,λp hp=>nomatch hp⟩
theorem SF:∀ (st:List wF) x,AAg qs x->AAg qs (st.foldl (vP qs) x)/\(st.foldl (vP qs) x).2.2.length=x.2.2.length+2 * st.length
 | [],x,h=>⟨h,by simp⟩
 | s::r,x,h=>by
  obtain⟨a,b⟩:=SF r (vP qs x s) (P3 h s);refine⟨a,b.trans ?_⟩;simp[vP,wH];lia
def OC qs st:AAg qs (u6 qs st)/\(u6 qs st).2.2.length=2 * st.length:=by
 obtain⟨a,b⟩:=SF st.reverse (0,[],[]) (Qb qs);exact⟨a,b.trans ↥1⟩
theorem Z7 qs (hqs:qs<=20) d:∀ st x o4,vA 3 qs st->AAg qs x->x.2.2.length+2 * st.length<=1000->∃ o4',vm (uP 4) Ms (st.map uk) [d,~~~(iT (x.1:Int)),~~~(uR x.2.1),some (.l (x.2.2.map xN)),o4] =
  some (.nx [d,~~~(iT ((st.foldl (vP qs) x).1:Int)),~~~(uR (st.foldl (vP qs) x).2.1),some (.l ((st.foldl (vP qs) x).2.2.map xN)),o4']):=by
 intro st;induction st with
 | nil=>intro x o4 _ _ _;exact⟨o4,by rw[BN];rfl⟩
 | cons s r ih =>
  intro x o4 hs hx hl;have h0:=hs s AG;obtain⟨o4',e4⟩:=ih (vP qs x s) (~~~(uk s)) (λz hz=>hs z (AH _ hz)) (P3 hx s) (by simp[vP,wH]at hl ⊢;lia);refine⟨o4',?_⟩;have e1:=dJ qs hqs s x.1 x.2.1 h0 hx.bg hx.fl;have e2:=Sf s.2.2 h0.2.2;have e2':=Sf s.2.1 h0.2.1;have e3':=Sz qs hqs x.2.1 s.1 hx.fl h0.1;have g1:x.2.2.length<=AD:=Lm ⋯;have g2:x.2.2.length+(wH qs s x.1 x.2.1).length<=AD:=Lm (by simp[wH]at hl ⊢;lia);have hb:=hx.bg;obtain⟨bg,fl,ps⟩:=x;obtain⟨q,yes,no⟩:=s;have turn:Ms [d,~~~(iT bg),~~~(uR fl),some (.l (ps.map xN)),~~~(uk (q,yes,no))] =
    some (.nx [d,~~~(iT ((vP qs (bg,fl,ps) (q,yes,no)).1)),~~~(uR (vP qs (bg,fl,ps) (q,yes,no)).2.1),some (.l ((vP qs (bg,fl,ps) (q,yes,no)).2.2.map xN)),~~~(uk (q,yes,no))]):=by
   simp only[vP];dsimp only at e1 e2 e2' e3' g1 g2 hb;have g1':(ps.map xN).length<=AD:=by simpa using g1
   have g2':(ps.map xN).length+((wH qs (q,yes,no) bg fl).map xN).length<=AD:=by simpa using g2
   rw[A9];generalize (wH qs (q,yes,no) bg fl).map xN=PN at *;generalize ps.map xN=PS at *;have cb:((1 - bg:Nat):Int)=1 - bg:=by lia
   by_cases h1:e3 no=2
   ·by_cases h2:e3 yes=e3 no
    ·simp[Ms,e1,e2,e2',gd,g1',g2',vi,h1,h2,cb]
    ·have h3:¬ e3 yes=2:=λz=>h2 (z.trans h1.symm)
     simp[Ms,e1,e2,e2',e3',gd,g1',g2',h1,h3,cb]
   ·by_cases h2:e3 yes=e3 no
    ·simp[Ms,e1,e2,e2',gd,g1',g2',vi,h1,h2]
    ·simp[Ms,e1,e2,e2',e3',gd,g1',g2',vi,h1,h2]
  rw[AO,M6 ↥1 turn];exact e4
def kn(qs:Nat)(hqs:qs<=4)(st:List wF)(hs:vA 3 qs st)(hl:2 * st.length < 1000):zS [.v (vZ 3 qs st)]=some (.v (xp (u6 qs st).1 (u6 qs st).2.1 (uw (u6 qs st).2.2)),[]):=by
 obtain⟨o4,e1⟩:=Z7 qs ⋯ (~~~(vZ 3 qs st)) st.reverse (0,[],[]) none (λs h=>hs s (Iv.mp h)) (Qb qs) ↥2;obtain⟨ok,hlen⟩:=OC qs st;have e2:=Us (u6 qs st).2.2 (λp hp=>Vh ⋯ (ok.ps p hp)) ⋯ (by have:=Pk hqs ok.ps;lia);have e1':vm (uP 4) Ms (st.map uk).reverse [~~~(vZ 3 qs st),~~~(⇑0),~~~(.t []),~~~[],none]=↥([~~~(vZ 3 qs st),~~~(iT (((u6 qs st).1:Nat):Int)),~~~(uR (u6 qs st).2.1),some (.l ((u6 qs st).2.2.map xN)),o4]):=by
  rw[← List.map_reverse];exact e1
 have g0:=sL 0;have g3:=sL 3;have g:(st.map uk).length<=AD:=Lm ↥2;have gm:((uw (u6 qs st).2.2).map yi).length<=AD:=Lm (by have:=VH (u6 qs st).2.2;simp;lia);simp only[vZ,xp,show ((3:Nat):Int)=3 from rfl]at e1' ⊢;generalize (uw (u6 qs st).2.2).map yi=MM at *;generalize (u6 qs st).2.2.map xN=PP at *;generalize uR (u6 qs st).2.1=FF at *;generalize (((u6 qs st).1:Nat):Int)=BB at *;generalize st.map uk=SS at *;simp only[iT]at e1' ⊢;simp[zS,ua,AEa,ADF,gd,g0,g3,g,e1',e2]
noncomputable def zB (as:List Nat) (s:List Nat):Nat:=(s.map λq=>as.getD q 0).sum
noncomputable def yE (as:List Nat) (s:List Nat):Nat:=1+zB as s % 2
noncomputable def cL (as:List Nat) (mk:List Mk):Nat:=(mk.map λm=>m.2 * yE as m.1).sum
noncomputable def xM (as:List Nat) (bg:Nat) (fl:List Nat) (mk:List Mk):List Nat:=(AE 3).map λx=>(cL as mk+(1+bg) * yE as fl * x) % 3
structure yz(qs:Nat)(as:List Nat):Prop where
 len:qs<=as.length
 lt:∀ x∈as,x < 2
theorem yz.two(h:yz qs as) q:as.getD q 0 < 2:=by
 rw[Ak];cases e:as[q]? with
 | none=>simp
 | some x=>exact h.lt x (CS e)
noncomputable def wu (d:Nat->Bool) (as:List Nat):Nat->Int
 | 0=>1
 | q+1=>wu d as q * (if (d q && decide (as.getD q 0=1))=true then -1 else 1)
theorem RL d as:∀ q,wu d as q=1\/wu d as q=-1
 | 0=>.inl rfl
 | q+1=>by
  unfold wu;rcases RL d as q with e | e <;> rw[e] <;> split <;> simp
theorem RO d d' as:∀ q,wu d as q * wu d' as q=wu (λx=>d x != d' x) as q
 | 0=>rfl
 | q+1=>by
  unfold wu;rw[← RO d d' as q];generalize as.getD q 0=x;cases h1:d q <;> cases h2:d' q <;> by_cases h3:x=1 <;> simp[h3,Kt,Int.neg_mul]
theorem RY:∀ {q},(∀ x,x < q->d x=d' x)->wu d as q=wu d' as q
 | 0,_=>rfl
 | q+1,h=>by
  unfold wu;rw[RY λx hx=>h x ⋯,h q ⋯]
def g7 d q:(AE (q+1)).filter d=(AE q).filter d++(if d q=true then [q] else []):=by
 rw[GY];by_cases h:d q=true <;> simp[h]
theorem S7(h:∀ q,as.getD q 0 < 2) d:∀ q,((yE as ((AE q).filter d):Nat):Int) % 3=wu d as q % 3
 | 0=>by kernel_rfl
 | q+1=>by
  have ih:=S7 h d q;have hp:=RL d as q;have h2:=h q;rw[g7];unfold wu;unfold yE at ih ⊢;have es:zB as ((AE q).filter d++if d q=true then [q] else [])=zB as ((AE q).filter d)+(if d q=true then as.getD q 0 else 0):=by
   unfold zB;by_cases hd:d q=true <;> simp[hd]
  rw[es];generalize zB as ((AE q).filter d)=N at *;generalize as.getD q 0=x at *;by_cases hd:d q=true
  ·rw[if_pos hd];by_cases hx:x=1
   ·subst hx;rw[if_pos (by simp[hd])];rcases hp with e | e <;> rw[e]at ih ⊢ <;> lia
   ·rw[if_neg (by simp[hx])];have:x=0:=by lia
    subst this;rcases hp with e | e <;> rw[e]at ih ⊢ <;> lia
  ·simp_all
noncomputable def xT (qs:Nat) (as:List Nat) (s:List Nat):Int:=wu (uz s) as qs
def Ni(h:∀ q,as.getD q 0 < 2)(hs:uf qs s):yE as s % 3=xT qs as s % 3:=by
 have:=S7 h (uz s) qs;rw[hs.filter]at this;exact this
def kN(hx:x < qs):uz ((AE qs).filter d) x=d x:=by
 by_cases h:d x=true
 ·rw[h];exact decide_eq_true (Bs.mpr ⟨By.mpr hx,h⟩)
 ·have h':=by simpa using h
  rw[h'];exact decide_eq_false λz=>h (Bs.mp z).2
theorem SV q0 as:∀ q,wu (λx=>decide (x=q0)) as q=if q0 < q/\as.getD q0 0=1 then -1 else 1
 | 0=>by simp[wu]
 | q+1=>by
  unfold wu;rw[SV q0 as q];by_cases e:q=q0
  ·simp_all
  ·have:(q0 < q/\as.getD q0 0=1) ↔ (q0 < q+1/\as.getD q0 0=1):=by constructor <;> intro z <;> exact⟨by lia,z.2⟩
   have e1:(decide (q=q0) && decide (as.getD q 0=1))=false:=by rw[decide_eq_false e];rfl
   rw[e1];simp only[II,if_false,FM];by_cases z:q0 < q/\as.getD q0 0=1
   ·rw[if_pos z,if_pos (this.mp z)]
   ·rw[if_neg z,if_neg λw=>z (this.mpr w)]
def kY as s (hq:q < qs):xT qs as (wR qs s q)=xT qs as s * (if as.getD q 0=1 then -1 else 1):=by
 unfold xT;have e:wu (uz (wR qs s q)) as qs=wu (λx=>uz s x != decide (x=q)) as qs:=RY λx hx=>kN hx
 rw[e,← RO,SV];simp[hq]
noncomputable def af (c e:Int):List Nat:=(AE 3).map λ(x:Nat)=>((c+e * (x:Int)) % 3).toNat
def MU(h1:c % 3=c' % 3)(h2:e % 3=e' % 3):af c e=af c' e':=by
 refine BP λx _=>?_
 have:(c+e * x) % 3=(c'+e' * x) % 3:=by
  rw[F7,CV,h1,h2,← CV,← F7]
 rw[this]
def bf(h:af c e=af c' e'):c % 3=c' % 3/\e % 3=e' % 3:=by
 have h0:=congrArg (λl=>l.getD 0 0) h;have h1:=congrArg (λl=>l.getD 1 0) h;simp[af]at h0 h1;lia
def lZ(hk:k < 3):(af c e).getD k 0=((c+e * k) % 3).toNat:=by
 unfold af;rw[Ak,Ag,List.getElem?_range hk];rfl
def Pg c e c' e':uV (af c e) (af c' e')=af (c'+e' * c) (e' * e):=by
 have gen:∀ x,(af c' e').getD ((c+e * x) % 3).toNat 0=(((c'+e' * c)+e' * e * x) % 3).toNat:=λx=>by
  rw[lZ ⋯,Ce (B4 _ ∅)];rw[F7,CV,HS,← CV,← F7];rw[FV,← Dw,Int.add_assoc]
 show ((AE 3).map _).map _=_;rw[Bn];exact BP λx _=>gen x
def QA(h:IsT 3 t):t=af (t.getD 0 0:Nat) (e3 t)/\(e3 t=1\/e3 t=2):=by
 obtain⟨a,b,c,rfl⟩:=ADe h;have ha:=h.lt a ↥1;have hb:=h.lt b ↥1;have hc:=h.lt c ↥1;have nd:=h.nd;simp at nd;have ha':a=0\/a=1\/a=2:=by lia
 have hb':b=0\/b=1\/b=2:=by lia
 have hc':c=0\/c=1\/c=2:=by lia
 obtain⟨⟨n1,n2⟩,n3⟩:=nd;clear h ha hb hc;rcases ha' with rfl | rfl | rfl <;> rcases hb' with rfl | rfl | rfl <;> rcases hc' with rfl | rfl | rfl <;> first | exact absurd rfl n1 | exact absurd rfl n2 | exact absurd rfl n3 | decide
def OB as bg fl mk:xM as bg fl mk=af (cL as mk:Nat) (((1+bg) * yE as fl:Nat):Int):=rfl
noncomputable def cP (qs:Nat) (as:List Nat) (ps:List Pr):Int:=(ps.map λp=>p.2 * xT qs as p.1).sum
noncomputable def eP (qs:Nat) (as:List Nat) (x:Ss):Int:=(1+(x.1:Int)) * xT qs as x.2.1
def iZ qs as a b:cP qs as (a++b)=cP qs as a+cP qs as b:=by
 unfold cP;rw[A9,GZ]
def l5 qs s r:u6 qs (s::r)=vP qs (u6 qs r) s:=by
 unfold u6;rw[Ii,List.foldl_append];rfl
def kx(ha:∀ q,as.getD q 0 < 2) x (hb:x.1 < 2) s (hs:s.1 < qs/\IsT 3 s.2.1/\IsT 3 s.2.2) :
  cP qs as (vP qs x s).2.2 % 3=(cP qs as x.2.2+eP qs as x * ((ug as s).getD 0 0:Nat)) % 3/\eP qs as (vP qs x s) % 3=(eP qs as x * e3 (ug as s)) % 3:=by
 obtain⟨bg,fl,ps⟩:=x;obtain⟨q,yes,no⟩:=s;obtain⟨hq,hy,hn⟩:=hs;have ey:e3 yes=1\/e3 yes=2:=(QA hy).2;have en:e3 no=1\/e3 no=2:=(QA hn).2;have ec:cP qs as (vP qs (bg,fl,ps) (q,yes,no)).2.2=cP qs as ps+cP qs as (wH qs (q,yes,no) bg fl):=iZ _ _ _ _;have ef:=kY as fl hq;have hchs:xT qs as fl=1\/xT qs as fl=-1:=(RL (uz fl) as qs)
 have hbg:bg=0\/bg=1:=by dsimp only at hb;lia
 have ecp:cP qs as (wH qs (q,yes,no) bg fl)=2 * (1+bg) * ((no.getD 0 0)+(yes.getD 0 0)) * xT qs as fl+2 * (1+bg) * ((no.getD 0 0) - (yes.getD 0 0)) * (xT qs as fl * (if as.getD q 0=1 then -1 else 1)):=by
  unfold cP wH;simp only[AO,BN,B9,List.sum_nil,Hk];rw[ef]
 rw[ec,ecp];unfold eP vP ug;dsimp only;by_cases h1:as.getD q 0=1
 ·rw[if_pos h1,if_pos h1];rw[if_pos h1]at ef;generalize cP qs as ps=C at *;generalize (no.getD 0 0)=n0 at *;generalize (yes.getD 0 0)=y0 at *;constructor
  ·rcases hchs with e | e <;> rcases hbg with f | f <;> subst f <;> rw[e] <;> lia
  ·by_cases e2:e3 no=2
   ·rw[if_pos e2];by_cases e4:e3 yes=e3 no
    ·rw[if_pos e4,e4,e2];rcases hchs with e | e <;> rcases hbg with f | f <;> subst f <;> rw[e] <;> decide
    ·rw[if_neg e4,ef];have:e3 yes=1:=by lia
     rw[this];rcases hchs with e | e <;> rcases hbg with f | f <;> subst f <;> rw[e] <;> decide
   ·rw[if_neg e2];by_cases e4:e3 yes=e3 no
    ·have:e3 yes=1:=by lia
     rw[if_pos e4,this,FM]
    ·rw[if_neg e4,ef];have:e3 yes=2:=by lia
     rw[this];rcases hchs with e | e <;> rcases hbg with f | f <;> subst f <;> rw[e] <;> decide
 ·rw[if_neg h1,if_neg h1];rw[if_neg h1]at ef;generalize cP qs as ps=C at *;generalize (no.getD 0 0)=n0 at *;generalize (yes.getD 0 0)=y0 at *;constructor
  ·rcases hchs with e | e <;> rcases hbg with f | f <;> subst f <;> rw[e] <;> lia
  ·have efl:xT qs as (if e3 yes=e3 no then fl else wR qs fl q)=xT qs as fl:=by
    split
    ·rfl
    ·rw[ef,FM]
   rw[efl];by_cases e2:e3 no=2
   ·rw[if_pos e2,e2];rcases hchs with e | e <;> rcases hbg with f | f <;> subst f <;> rw[e] <;> decide
   ·have:e3 no=1:=by lia
    rw[if_neg e2,this,FM]
theorem Wa(ha:∀ q,as.getD q 0 < 2):∀ (st:List wF),vA 3 qs st->uY as (AE 3) st=af (cP qs as (u6 qs st).2.2) (eP qs as (u6 qs st))
 | [],_=>by
  have h1:cP qs as (u6 qs []).2.2=0:=rfl;have h2:eP qs as (u6 qs [])=1:=by
   show (1+((0:Nat):Int)) * xT qs as []=1;have:xT qs as []=1:=by
    unfold xT;have e:wu (uz []) as qs=wu (λ_=>false) as qs:=RY λx _=>by simp[uz]
    rw[e];have:∀ q,wu (λ_=>false) as q=1:=λq=>by
     induction q with
     | zero=>rfl
     | succ q ih=>unfold wu;rw[ih];simp
    exact this qs
   rw[this];rfl
  rw[h1,h2]
  kernel_rfl
 | s::r,hs=>by
  have h0:=hs s AG;have hr:vA 3 qs r:=λx hx=>hs x (AH _ hx)
  have ih:=Wa ha r hr;have hp:=Mf (as:=as) h0;obtain⟨e1,e2⟩:=kx ha (u6 qs r) (OC qs r).1.bg s h0;rw[QM hs,ih,l5]
  conv=>lhs;arg 1;rw[(QA hp).1]
  rw[Pg];exact MU e1.symm e2.symm
def RF(p:Pr)(ps:List Pr) s:w9 (p::ps) s=(if p.1=s then p.2 else 0)+w9 ps s:=by
 unfold w9;by_cases h:p.1=s <;> simp[h]
theorem VF(g:List Nat->Int) k v:∀ ks:List (List Nat),ks.Nodup->k∈ks->(ks.map λs=>(if k=s then v else 0) * g s).sum=v * g k
 | [],_,h=>nomatch h
 | s::r,nd,h=>by
  obtain⟨n1,n2⟩:=BG.mp nd;rw[AO,B9];by_cases e:k=s
  ·subst e;have:=by
    have z:∀ l:List (List Nat),k∉l->(l.map λs=>(if k=s then v else 0) * g s).sum=0:=by
     intro l;induction l with
     | nil=>intro _;rfl
     | cons a l ih =>
      simp_all
    exact z r n1
   rw[this,if_pos rfl];simp
  ·rw[if_neg e,VF g k v r n2 ((AR.mp h).elim (λz=>absurd z e) id)];simp
theorem Uo(f g:List Nat->Int):∀ ks:List (List Nat),(ks.map λs=>f s+g s).sum=(ks.map f).sum+(ks.map g).sum
 | []=>rfl
 | s::r=>by simp[ Uo f g r];lia
theorem QZ(g:List Nat->Int){ks:List (List Nat)}(nd:ks.Nodup):∀ ps:List Pr,(∀ p∈ps,p.1∈ks)->(ps.map λp=>p.2 * g p.1).sum=(ks.map λs=>w9 ps s * g s).sum
 | [],_=>by
  have:∀ l:List (List Nat),(l.map λs=>w9 [] s * g s).sum=0:=λl=>by
   induction l with
   | nil=>rfl
   | cons a l ih=>rw[AO,B9,ih];simp[w9]
  rw[this];rfl
 | p::ps,h=>by
  rw[AO,B9,QZ g nd ps λq hq=>h q (AH _ hq),← VF g p.1 p.2 ks nd (h p AG),← Uo];congr 1;refine BP λs _=>?_
  rw[RF,Ku]
theorem WU{α:Type}{f g:α->Int}:∀ l:List α,(∀ x∈l,f x % 3=g x % 3)->(l.map f).sum % 3=(l.map g).sum % 3
 | [],_=>rfl
 | a::l,h=>by
  have h1:=h a AG;have h2:=WU l λx hx=>h x (AH _ hx)
  simp;lia
def M1{a b c d:Int}(h1:a % 3=c % 3)(h2:b % 3=d % 3):(a * b) % 3=(c * d) % 3:=by
 rw[CV,h1,h2,← CV]
def QH as m r:cL as (m::r)=m.2 * yE as m.1+cL as r:=by simp[cL]
theorem XO{as}(ha:∀ q,as.getD q 0 < 2)(cf:List Nat->Int):∀ ks:List (List Nat),(∀ s∈ks,uf qs s)->((cL as ((ks.filter λs=>!decide (cf s % 3=0)).map λs=>(s,(cf s % 3).toNat)):Nat):Int) % 3=(ks.map λs=>cf s * xT qs as s).sum % 3
 | [],_=>by simp[cL]
 | s::r,h=>by
  have ih:=XO ha cf r λx hx=>h x (AH _ hx)
  rw[AO,B9,Ej];by_cases e:cf s % 3=0
  ·rw[if_neg (by simp[e])];have:(cf s * xT qs as s) % 3=0:=by rw[CV,e];simp
   lia
  ·rw[if_pos (by simp[e]),AO,QH];have h0:0<=cf s % 3:=B4 _ ∅;have h1:((cf s % 3).toNat * yE as s:Nat) % 3=(cf s * xT qs as s) % 3:=by
    rw[Gm,Ce h0];exact M1 (HS _ _) (Ni ha (h s AG))
   lia
def iK{as}(ha:∀ q,as.getD q 0 < 2){ps:List Pr}(hp:∀ p∈ps,uf qs p.1):((cL as (uw ps):Nat):Int) % 3=cP qs as ps % 3:=by
 have hF:=Mg ps;have hin:∀ s,s∈xF ((vo ps).map (·.1)) ↔ s∈ps.map (·.1):=λs=>by rw[(ME _).mem_iff];exact hF.key s
 unfold uw cP;rw[XO ha (w9 ps) _ λs hs=>by
  obtain⟨p,hpp,e⟩:=Am.mp ((hin s).mp hs);rw[← e];exact hp p hpp]
 rw[QZ (xT qs as) ((Ez (ME _)).mpr hF.nd) ps λp hpp=>(hin _).mpr (Am.mpr ⟨p,hpp,rfl⟩)]
def Vz d (h:as.length=q) x:wu d (as++[x]) (q+1)=wu d as q * (if (d q && decide (x=1))=true then -1 else 1):=by
 have e:∀ k,k<=q->wu d (as++[x]) k=wu d as k:=by
  intro k;induction k with
  | zero=>intro _;rfl
  | succ k ih =>
   intro hk;unfold wu;rw[ih ⋯];have:(as++[x]).getD k 0=as.getD k 0:=by
    rw[Ak,Ak,BA ⋯]
   rw[this]
 show wu d (as++[x]) q * _=_;simp_all
noncomputable def xo (d:Nat->Bool) (q:Nat):Bool:=(AE q).all λx=>!d x
def ly d q:xo d (q+1)=(xo d q && !d q):=by
 unfold xo;rw[GY];simp
theorem WC d q:∀ L:List (List Nat),(∀ as∈L,as.length=q)->((L.flatMap ABg).map λas=>wu d as (q+1)).sum=(if d q=true then 0 else 2) * (L.map λas=>wu d as q).sum
 | [],_=>by simp
 | a::L,h=>by
  have hl:=h a AG;rw[Di,A9,GZ,(WC d q L λx hx=>h x (AH _ hx))];simp[ABg];rw[Vz d hl 0,Vz d hl 1];by_cases hd:d q=true
  ·simp[hd];lia
  ·simp[hd];lia
theorem V5 d:∀ q,((uo q).map λas=>wu d as q).sum=if xo d q=true then 2 ^ q else 0
 | 0=>rfl
 | q+1=>by
  rw[← RD,WC d q (uo q) λas ha=>(Mx q as ha).len,V5 d q,ly];by_cases hd:d q=true
  ·simp[hd]
  ·by_cases hn:xo d q=true
   ·simp[hd,hn,F8,Hl]
   ·simp[ hn]
theorem fB{α β:Type}(f:α->β->Int)(l:List α)(m:List β):(l.map λa=>(m.map λb=>f a b).sum).sum=(m.map λb=>(l.map λa=>f a b).sum).sum:=by
 induction l with
 | nil =>
  have:∀ m:List β,(m.map λ_=>(0:Int)).sum=0:=λm=>by induction m with
   | nil=>rfl
   | cons b m ih=>rw[AO,B9,ih];rfl
  simp;rw[this]
 | cons a l ih =>
  have add:∀ (g h:β->Int) (m:List β),(m.map λb=>g b+h b).sum=(m.map g).sum+(m.map h).sum:=λg h m=>by
   induction m with
   | nil=>rfl
   | cons b m ih=>simp[ ih];lia
  simp;rw[add,ih]
theorem TL{α:Type} f (c:Int):∀ l:List α,(l.map λa=>f a * c).sum=(l.map f).sum * c
 | []=>by simp
 | a::l=>by simp[ TL f c l,Ku]
theorem Q8{α:Type} f (c:Int):∀ l:List α,(l.map λa=>c * f a).sum=c * (l.map f).sum
 | []=>by simp
 | a::l=>by simp[ Q8 f c l,FV]
def SL(hs:uf qs s)(ht:uf qs t):xo (λx=>uz s x != uz t x) qs=decide (s=t):=by
 by_cases e:s=t
 ·subst e;rw[decide_eq_true rfl];unfold xo;simp
 ·rw[decide_eq_false e];cases h:xo (λx=>uz s x != uz t x) qs with
  | false=>rfl
  | true =>
   exfalso;apply e;rw[← hs.filter,← ht.filter];refine F2 λx hx=>?_
   have:=Au.mp h x hx;simpa using this
def AEN(hs:uf qs s)(ht:uf qs t):((uo qs).map λas=>xT qs as s * xT qs as t).sum=if s=t then 2 ^ qs else 0:=by
 have:(λas=>xT qs as s * xT qs as t)=λas=>wu (λx=>uz s x != uz t x) as qs:=by funext as;exact RO _ _ _ _
 rw[this,V5,SL hs ht];simp_all
def Te(hp:∀ p∈ps,uf qs p.1)(ht:uf qs t):((uo qs).map λas=>cP qs as ps * xT qs as t).sum=2 ^ qs * w9 ps t:=by
 have e1:((uo qs).map λas=>cP qs as ps * xT qs as t)=(uo qs).map λas=>(ps.map λp=>p.2 * (xT qs as p.1 * xT qs as t)).sum:=BP λas _=>by
  unfold cP;rw[← TL];congr 1;refine BP λp _=>?_
  rw[Dw]
 rw[e1,fB];have e2:(ps.map λp=>((uo qs).map λas=>p.2 * (xT qs as p.1 * xT qs as t)).sum)=ps.map λp=>2 ^ qs * (if p.1=t then p.2 else 0):=BP λp hpp=>by
  rw[Q8,AEN (hp p hpp) ht];by_cases e:p.1=t
  ·rw[if_pos e,if_pos e,Hl]
  ·rw[if_neg e,if_neg e];simp
 rw[e2,Q8];congr 1;have:∀ ps,(ps.map λp=>if p.1=t then p.2 else 0).sum=w9 ps t:=λps=>by
  induction ps with
  | nil=>rfl
  | cons p r ih=>rw[AO,B9,ih,RF]
 exact this ps
theorem ia q:((2:Int) ^ q) % 3=1\/((2:Int) ^ q) % 3=2:=by
 induction q with
 | zero=>exact .inl rfl
 | succ q ih=>rw[F8];lia
def aw{a b:Int}(h:(2 ^ q * a) % 3=(2 ^ q * b) % 3):a % 3=b % 3:=by
 rcases ia q with e | e
 iterate 2
  ·rw[CV,CV (2 ^ q) b,e]at h;lia
def aT{ps ps'}(hp:∀ p∈ps,uf qs p.1)(hp':∀ p∈ps',uf qs p.1)(h:∀ as,vE qs as->cP qs as ps % 3=cP qs as ps' % 3){t}(ht:uf qs t):w9 ps t % 3=w9 ps' t % 3:=by
 refine aw (q:=qs) ?_;rw[← Te hp ht,← Te hp' ht];exact WU _ λas has=>M1 (h as (Mx qs as has)) rfl
noncomputable def lxN (a b:List Nat):Bool:=HT.lexLt (a.map λ(k:Nat)=>(k:Int)) (b.map λ(k:Nat)=>(k:Int))
theorem QY:∀ a,lxN a a=false
 | []=>rfl
 | x::r=>by unfold lxN;rw[AO,HT.lexLt_cons,if_pos rfl];exact QY r
theorem TC:∀ a b,a≠b->lxN a b=false->lxN b a=true
 | [],[],h,_=>absurd rfl h
 | [],_::_,_,h=>by cases h
 | _::_,[],_,_=>rfl
 | x::r,y::s,h,e=>by
  unfold lxN at e ⊢;rw[AO,AO,HT.lexLt_cons]at e ⊢;by_cases z:x=y
  ·subst z;rw[if_pos rfl]at e ⊢;exact TC r s (λw=>h (by rw[w])) e
  ·lia
theorem Qm:∀ a b,lxN a b=true->lxN b a=false
 | [],[],_ | [],_::_,_=>rfl
 | _::_,[],h=>by cases h
 | x::r,y::s,e=>by
  unfold lxN at e ⊢;rw[AO,AO,HT.lexLt_cons]at e ⊢;by_cases z:x=y
  ·subst z;rw[if_pos rfl]at e ⊢;exact Qm r s e
  ·lia
theorem Tu:∀ a b c,lxN a b=true->lxN b c=true->lxN a c=true
 | _,[],[],_,h | _,_::_,[],_,h=>by cases h
 | [],_,_::_,_,_=>rfl
 | _::_,[],_::_,h,_=>by cases h
 | x::r,y::s,z::t,e,f=>by
  unfold lxN at e f ⊢;rw[AO,AO,HT.lexLt_cons]at e f ⊢;by_cases h1:x=y
  ·subst h1;rw[if_pos rfl]at e;by_cases h2:x=z
   ·subst h2;rw[if_pos rfl]at f ⊢;exact Tu r s t e f
   ·rw[if_neg ⋯]at f ⊢;exact f
  ·rw[if_neg ⋯]at e;by_cases h2:y=z
   ·subst h2;rw[if_neg ⋯];exact e
   ·rw[if_neg ⋯]at f;lia
def mz(nd:nss.Nodup):(xF nss).Pairwise λa b=>lxN a b=true:=by
 have gi:∀ i,i < nss.length->(nss.map λs=>s.map λ(k:Nat)=>(k:Int)).getD i []=(nss.getD i []).map λ(k:Nat)=>(k:Int):=λi hi=>by
  simp[ hi]
 have inj:∀ i j,i < nss.length->j < nss.length->i≠j->nss.getD i []≠nss.getD j []:=λi j hi hj hij e=>by
  rw[Ak,Ak,BD hi,BD hj]at e;have pw:=EN.mp nd;rcases F6 i j with z | z | z
  ·exact pw i j hi hj z e
  ·exact hij z
  ·exact pw j i hj hi z e.symm
 refine eV ⟨λi j hi hj hij h=>?_,λi j hi hj h=>?_,λi j k hi hj hk h1 h2=>?_⟩ _ λi j hi hj h=>?_
 ·unfold ltI at h ⊢;rw[gi i hi,gi j hj]at h ⊢;exact TC _ _ (inj i j hi hj hij) h
 ·unfold ltI at h ⊢;rw[gi i hi,gi j hj]at h ⊢;exact Qm _ _ h
 ·unfold ltI at h1 h2 ⊢;rw[gi i hi,gi j hj]at h1;rw[gi j hj,gi k hk]at h2;rw[gi i hi,gi k hk];exact Tu _ _ _ h1 h2
 ·unfold ltI at h;rw[gi i hi,gi j hj]at h;exact h
structure WfM(qs:Nat)(mk:List Mk):Prop where
 ok:∀ m∈mk,AAe qs m
 srt:mk.Pairwise λa b=>lxN a.1 b.1=true
def SB(hp:∀ p∈ps,uf qs p.1):WfM qs (uw ps):=by
 refine⟨λm hm=>?_,?_⟩
 ·obtain⟨h1,h2,h3⟩:=fU.mp hm;obtain⟨p,hpp,e⟩:=Am.mp h1;refine⟨e ▸ hp p hpp,?_,?_⟩
  ·rw[h3];lia
  ·rw[h3];lia
 ·exact EU.mpr ((mz (Mg ps).nd).filter _)
def WfM.keys{mk}(h:WfM qs mk):(mk.map (·.1)).Nodup:=
 EU.mpr (h.srt.imp λ{a b} hab e=>by rw[e,QY]at hab;cases hab)
noncomputable def prM (mk:List Mk):List Pr:=mk.map λm=>(m.1,(m.2:Int))
theorem Ra:∀ {mk},(mk.map (·.1)).Nodup->∀ {m},m∈mk->w9 (prM mk) m.1=(m.2:Int)
 | [],_,_,h=>nomatch h
 | a::r,nd,m,h=>by
  rw[AO,BG]at nd;show w9 ((a.1,(a.2))::prM r) m.1=_;rw[RF];rcases AR.mp h with e | e
  ·subst e;have:w9 (prM r) m.1=0:=by
    have:((prM r).filter λp=>decide (p.1=m.1))=[]:=by
     rw[Hb];intro p hp hd;obtain⟨b,hb,rfl⟩:=Am.mp hp;exact nd.1 (Am.mpr ⟨b,hb,by simpa using hd⟩)
    unfold w9;rw[this];rfl
   rw[this,if_pos rfl,Hk]
  ·have:¬ a.1=m.1:=λz=>nd.1 (Am.mpr ⟨m,e,z.symm⟩)
   rw[if_neg this,Ra nd.2 e,Hm]
theorem gB(h:w9 (prM mk) t≠0):∃ m∈mk,m.1=t:=by
 cases e:(prM mk).filter λp=>decide (p.1=t) with
 | nil=>exact absurd (by unfold w9;rw[e];rfl) h
 | cons p r =>
  have hp:p∈(prM mk).filter λp=>decide (p.1=t):=by rw[e];exact AG
  obtain⟨h1,h2⟩:=Bs.mp hp;obtain⟨m,hm,rfl⟩:=Am.mp h1;exact⟨m,hm,by simpa using h2⟩
theorem XB:∀ {a b:List Mk},a.Pairwise (λx y=>lxN x.1 y.1=true)->b.Pairwise (λx y=>lxN x.1 y.1=true)->(∀ m,m∈a ↔ m∈b)->a=b
 | [],[],_,_,_=>rfl
 | [],y::s,_,_,h=>nomatch (h y).mpr AG
 | x::r,[],_,_,h=>nomatch (h x).mp AG
 | x::r,y::s,ha,hb,h=>by
  have ha':=CG.mp ha;have hb':=CG.mp hb;have e:x=y:=by
   rcases AR.mp ((h x).mp AG) with e | e
   ·exact e
   ·rcases AR.mp ((h y).mpr AG) with f | f
    ·exact f.symm
    ·have:=Qm _ _ (hb'.1 x e);rw[ha'.1 y f]at this;cases this
  subst e;have hn:∀ l:List Mk,(∀ z∈l,lxN x.1 z.1=true)->x∉l:=λl hl hx=>by have:=hl x hx;rw[QY]at this;cases this
  rw[XB ha'.2 hb'.2 λm=>⟨λhm=>?_,λhm=>?_⟩]
  ·rcases AR.mp ((h m).mp (AH _ hm)) with e | e
   ·subst e;exact absurd hm (hn r ha'.1)
   ·exact e
  ·rcases AR.mp ((h m).mpr (AH _ hm)) with e | e
   ·subst e;exact absurd hm (hn s hb'.1)
   ·exact e
theorem Rk{as}(ha:∀ q,as.getD q 0 < 2):∀ {mk},(∀ m∈mk,AAe qs m)->cL as mk % 3=cP qs as (prM mk) % 3
 | [],_=>by kernel_rfl
 | m::r,h=>by
  have ih:=Rk ha λx hx=>h x (AH _ hx)
  rw[QH];have e:cP qs as (prM (m::r))=(m.2) * xT qs as m.1+cP qs as (prM r):=by kernel_rfl
  rw[e];have:=M1 (a:=(m.2)) rfl (Ni ha (h m AG).1);lia
def hV{qs bg bg' fl fl' mk mk'}(hb:bg < 2)(hb':bg' < 2)(hf:uf qs fl)(hf':uf qs fl')(hm:WfM qs mk)(hm':WfM qs mk')(h:∀ as,vE qs as->xM as bg fl mk=xM as bg' fl' mk'):bg=bg'/\fl=fl'/\mk=mk':=by
 have both:∀ as,vE qs as->(cL as mk) % 3=(cL as mk':Int) % 3/\((1+bg) * xT qs as fl) % 3=((1+bg') * xT qs as fl') % 3:=λas ha=>by
  have ht:=λq=>(yz.two ⟨EG ha.len.symm,ha.lt⟩ q)
  have:=h as ha;rw[OB,OB]at this;obtain⟨h1,h2⟩:=bf this;refine⟨h1,?_⟩;have e1:=M1 (a:=(1+bg)) (c:=1+bg) ↥1 (Ni ht hf);have e2:=M1 (a:=(1+bg')) (c:=1+bg') ↥1 (Ni ht hf');rw[← e1,← e2];exact h2
 have zero:vE qs (Ad qs 0):=⟨by simp,λx hx=>by rw[HK hx];decide⟩
 have ch0:∀ s,xT qs (Ad qs 0) s=1:=λs=>by
  have:∀ k,wu (uz s) (Ad qs 0) k=1:=λk=>by
   induction k with
   | zero=>rfl
   | succ k ih =>
    unfold wu;rw[ih];have:¬ (Ad qs 0).getD k 0=1:=by
     rw[Ak,De];split <;> simp
    have e1:(uz s k && decide ((Ad qs 0).getD k 0=1))=false:=by rw[decide_eq_false this,JG]
    rw[e1];rfl
  exact this qs
 have hbg:bg=bg':=by
  have:=(both _ zero).2;rw[ch0,ch0]at this;lia
 subst hbg;have hfl:=by
  have key:xo (λx=>uz fl x != uz fl' x) qs=true:=by
   refine Au.mpr λq hq=>?_
   have hq':=By.mp hq;have one:vE qs ((Ad qs 0).set q 1):=⟨by simp,λx hx=>by
    rcases List.mem_or_eq_of_mem_set hx with z | z
    ·rw[HK z];decide
    ·rw[z];decide⟩
   have g1:((Ad qs 0).set q 1).getD q 0=1:=by
    rw[Ak,Aj (by simp_all)];rfl
   have g0:∀ x,x≠q->((Ad qs 0).set q 1).getD x 0=0:=λx hx=>by
    rw[Ak,AU (Aw hx),De];split <;> rfl
   have ch1:∀ s,∀ k,wu (uz s) ((Ad qs 0).set q 1) k=if q < k/\uz s q=true then -1 else 1:=λs k=>by
    induction k with
    | zero=>simp[wu]
    | succ k ih =>
     unfold wu;rw[ih];by_cases e:k=q
     ·subst e;rw[g1];cases uz s k <;> simp
     ·rw[g0 k e];have:(q < k/\uz s q=true) ↔ (q < k+1/\uz s q=true):=by constructor <;> intro z <;> exact⟨by lia,z.2⟩
      by_cases z:q < k/\uz s q=true
      ·rw[if_pos z,if_pos (this.mp z)];simp
      ·rw[if_neg z,if_neg λw=>z (this.mpr w)];simp
   have:=(both _ one).2;unfold xT at this;rw[ch1,ch1]at this;rw[show (if q < qs/\uz fl q=true then (-1) else 1)=(if uz fl q=true then -1 else 1) from by simp[hq'],show (if q < qs/\uz fl' q=true then (-1) else 1)=(if uz fl' q=true then -1 else 1) from by simp[hq']]at this;show (!(uz fl q != uz fl' q))=true;by_cases h1:uz fl q=true
   ·by_cases h2:uz fl' q=true
    ·rw[h1,h2];rfl
    ·rw[if_pos h1,if_neg h2]at this;lia
   ·by_cases h2:uz fl' q=true
    ·rw[if_neg h1,if_pos h2]at this;lia
    ·rw[show uz fl q=false from by simpa using h1,show uz fl' q=false from by simpa using h2];rfl
  rw[SL hf hf']at key;simpa using key
 refine⟨rfl,hfl,XB hm.srt hm'.srt ?_⟩;have co:∀ t,uf qs t->w9 (prM mk) t % 3=w9 (prM mk') t % 3:=λt ht=>by
  refine aT (λp hp=>?_) (λp hp=>?_) (λas ha=>?_) ht
  ·obtain⟨m,hm1,e⟩:=Am.mp hp;subst e;exact (hm.ok m hm1).1
  ·obtain⟨m,hm1,e⟩:=Am.mp hp;subst e;exact (hm'.ok m hm1).1
  ·have hT:=λq=>(yz.two ⟨EG ha.len.symm,ha.lt⟩ q)
   rw[← Rk hT hm.ok,← Rk hT hm'.ok];exact (both as ha).1
 have go:∀ {a b:List Mk},WfM qs a->WfM qs b->(∀ t,uf qs t->w9 (prM a) t % 3=w9 (prM b) t % 3)->∀ m,m∈a->m∈b:=λ{a b} ha hb hc m hma=>by
  obtain⟨s1,s2,s3⟩:=ha.ok m hma;have e2:=hc m.1 s1;rw[(Ra ha.keys hma)]at e2;obtain⟨m',hm1,hm2⟩:=gB (λz=>by rw[z]at e2;lia);have e3:=Ra hb.keys hm1;rw[hm2]at e3;obtain⟨_,s4,s5⟩:=hb.ok m' hm1;rw[e3]at e2;have:m.2=m'.2:=by lia
  have:=LF hm2.symm this;rw[this];exact hm1
 exact λm=>⟨go hm hm' co m,go hm' hm (λt ht=>(co t ht).symm) m⟩
def Zj{qs:Nat}{as:List Nat}(ha:∀ q,as.getD q 0 < 2){st:List wF}(hs:vA 3 qs st):uY as (AE 3) st=xM as (u6 qs st).1 (u6 qs st).2.1 (uw (u6 qs st).2.2):=by
 obtain⟨ok,_⟩:=OC qs st;rw[Wa ha st hs,OB];refine MU (iK ha ok.ps).symm ?_;rw[Gm];exact (M1 ↥1 (Ni ha ok.fl)).symm
theorem TB{α:Type} f g:∀ l:List α,xW (l.map f) (l.map g)=l.map λx=>.t [f x,g x]
 | []=>rfl
 | x::r=>by
  have:=TB f g r;simp;rw[← this];rfl
noncomputable def xU:Nat->Nat->(List Nat->Int)->List (List Nat×Int)
 | 0,_,g=>[([],g [])]
 | d+1,q,g=>xU d (q+1) (λa=>2 * (g (0::a)+g (1::a)))++(xU d (q+1) (λa=>2 * (g (0::a) - g (1::a)))).map λp=>(q::p.1,p.2)
theorem NO:∀ d q g,(xU d q g).length=2 ^ d
 | 0,_,_=>rfl
 | d+1,q,g=>by rw[xU,A4,AV,NO,NO];lia
theorem NW:∀ d q g,∀ p∈xU d q g,p.1.Sublist (Dt q d)
 | 0,_,_,p,h=>by rw[AI.mp h];exact DR _
 | d+1,q,g,p,h=>by
  rcases BF.mp h with z | z
  ·exact (NW d (q+1) _ p z).cons _
  ·obtain⟨r,hr,rfl⟩:=Am.mp z;exact (NW d (q+1) _ r hr).cons_cons _
noncomputable def sg (q:Nat) (a s:List Nat):Int:=if (s.map λx=>a.getD (x - q) 0).sum % 2=0 then 1 else -1
def S6(h:∀ y∈s,q < y):sg q (x::a) s=sg (q+1) a s:=by
 unfold sg;have:(s.map λy=>(x::a).getD (y - q) 0)=s.map λy=>a.getD (y - (q+1)) 0:=BP λy hy=>by
  have:=h y hy;obtain⟨k,hk⟩:∃ k,y - q=k+1:=⟨y - q - 1,by lia⟩
  have h2:y - (q+1)=k:=by lia
  rw[hk,h2];simp
 rw[this]
def YE(hx:x < 2)(h:∀ y∈s,q < y):sg q (x::a) (q::s)=(if x=0 then 1 else -1) * sg (q+1) a s:=by
 have e:=S6 (x:=x) (a:=a) h;unfold sg at e ⊢;rw[AO,B9];have e0:(x::a).getD (q - q) 0=x:=by simp
 rw[e0,← e];generalize (s.map λy=>(x::a).getD (y - q) 0).sum=N;rcases (show x=0\/x=1 by lia) with rfl | rfl
 ·simp
 ·have:N % 2=0\/N % 2=1:=by lia
  rcases this with z | z
  ·have:(1+N) % 2=1:=by lia
   simp[z,this]
  ·have:(1+N) % 2=0:=by lia
   simp[z,this]
theorem bD:∀ (d n q:Nat) g,d < n->d<=5->q+d<=1000->F_6 n [.v (iT q),.r ((uo d).map λa=>iT (g a))]=some (.l ((xU d q g).map xN),[]):=by
 intro d;induction d with
 | zero =>
  intro n q g hn _ _;obtain⟨m,rfl⟩:∃ m,n=m+1:=⟨n - 1,by lia⟩
  have g0:0<=AD:=by decide
  have g1:1<=AD:=by decide
  have g2:2<=AD:=by decide
  kernel_rfl
 | succ d ih =>
  intro n q g hn hd hq;obtain⟨m,rfl⟩:∃ m,n=m+1:=⟨n - 1,by lia⟩
  have i1:=ih m (q+1) (λa=>2 * (g (0::a)+g (1::a))) ⋯ ⋯ ⋯;have i2:=ih m (q+1) (λa=>2 * (g (0::a) - g (1::a))) ⋯ ⋯ ⋯;have hA:((uo (d+1)).map λa=>iT (g a))=((uo d).map λa=>iT (g (0::a)))++(uo d).map λa=>iT (g (1::a)):=by
   rw[uo,A9,Bn,Bn];rfl
  have l0:((uo d).map λa=>iT (g (0::a))).length=2 ^ d:=by rw[AV,Ny]
  have l1:((uo d).map λa=>iT (g (1::a))).length=2 ^ d:=by rw[AV,Ny]
  have hz:xW ((uo d).map λa=>iT (g (0::a))) ((uo d).map λa=>iT (g (1::a)))=(uo d).map λa=>.t [iT (g (0::a)),iT (g (1::a))]:=TB _ _ _
  obtain⟨o1,e1⟩:=MC (λa=>.t [iT (g (0::a)),iT (g (1::a))]) (λa=>iT (2 * (g (0::a)+g (1::a)))) (de:=Oa (F_6 m)) (R:=[]) (uo d) (λa _=>by
   have c:vv 2 (g (0::a)+g (1::a)):=OZ ⟨by decide,by decide⟩;simp[Oa,c]) none
  obtain⟨o2,e2⟩:=MC (λa=>.t [iT (g (0::a)),iT (g (1::a))]) (λa=>iT (2 * (g (0::a) - g (1::a)))) (de:=Ox (F_6 m)) (R:=[]) (uo d) (λa _=>by
   have c:vv 2 (g (0::a) - g (1::a)):=OZ ⟨by decide,by decide⟩;simp[Ox,c]) none
  obtain⟨o3,e3⟩:=MC xN (λp=>xN (q::p.1,p.2)) (de:=Oj (F_6 m)) (R:=[~~~(iT q)]) (xU d (q+1) λa=>2 * (g (0::a) - g (1::a))) (λp hp=>by
   have hl:=(NW _ _ _ p hp).length_le;rw[List.length_range']at hl;have g1:1<=AD:=by decide
   have g2:2<=AD:=by decide
   have g3:1+p.1.length<=AD:=Lm ⋯;have hl2:(p.1.map λ(k:Nat)=>iT k).length=p.1.length:=by simp
   simp[Oj,gd,g1,g2,g3]) none
  have hP1:((xU d (q+1) λa=>2 * (g (0::a)+g (1::a))).map xN).length=2 ^ d:=by rw[AV,NO]
  have hP2:((xU d (q+1) λa=>2 * (g (0::a) - g (1::a))).map xN).length=2 ^ d:=by rw[AV,NO]
  have hP3:((xU d (q+1) λa=>2 * (g (0::a) - g (1::a))).map λp=>xN (q::p.1,p.2)).length=2 ^ d:=by rw[AV,NO]
  have hR:(xU (d+1) q g).map xN=(xU d (q+1) λa=>2 * (g (0::a)+g (1::a))).map xN++(xU d (q+1) λa=>2 * (g (0::a) - g (1::a))).map λp=>xN (q::p.1,p.2):=by
   rw[xU,A9,Bn];rfl
  have hN:2 ^ d<=16:=Aa (Dy ∅ (show d<=4 by lia)) ∅;rw[hA,hR];have lz:((uo d).map λa=>T.t [iT (g (0::a)),iT (g (1::a))]).length=2 ^ d:=by rw[AV,Ny]
  have cq:((q+1:Nat):Int)=q+1:=by lia
  rw[cq]at i1 i2;generalize ((xU d (q+1) λa=>2 * (g (0::a) - g (1::a))).map λp=>xN (q::p.1,p.2))=Q3 at *;generalize ((uo d).map λa=>iT (g (0::a)))=A0 at *;generalize ((uo d).map λa=>iT (g (1::a)))=A1 at *;generalize 2 ^ d=N at *;have c0:xB (A0++A1) none (some N)=A0:=by rw[mS,List.take_left' l0]
  have c1:xB (A0++A1) (some N) none=A1:=by rw[W4,List.drop_left' l0]
  have n1:¬ (((A0++A1).length):Int)=1:=by rw[A4];lia
  have n2:(((A0++A1).length):Int) / 2=N:=by rw[A4];lia
  have n2':yA (((A0++A1).length)) 2:=⟨by decide,by decide⟩
  have gN:N<=AD:=Lm ⋯;have gN2:N+N<=AD:=Lm ⋯;have le:A0.length=A1.length:=by lia
  generalize A0++A1=AA at *;have gA0:A0.length<=AD:=by lia
  have gA1:A1.length<=AD:=by lia
  simp[F_6];simp[ua,d_6,n1,n2,n2',c0,c1,le,hz,e1,e2,e3,i1,i2,gd,gN,gN2,lz,hP1,hP2,hP3]
noncomputable def gF (f:List Nat->Bool) (a:List Nat):Int:=if f a then 1 else 0
def Oi qs g:∀ p∈xU qs 0 g,uf qs p.1:=λp hp=>by
 have:=NW qs 0 g p hp;rw[← Hq]at this;exact this
theorem mB q:∀ its k o,its.length+k<=10->∃ o',vm (uP 2) O8 its [~~~q,some (.l ((uo k).map uR)),o]=↥([~~~q,some (.l ((uo (its.length+k)).map uR)),o']):=by
 intro its;induction its with
 | nil=>intro k o _;exact⟨o,by simp[Mo]⟩
 | cons t r ih =>
  intro k o hk;obtain⟨o',e3⟩:=ih (k+1) (~~~t) (by simp at hk;lia);refine⟨o',?_⟩;have hl:=ON (q:=k) ⋯;have g1:(uo k).length<=AD:=Lm ⋯;have g2:(uo k).length+(uo k).length<=AD:=Lm ⋯;have g3:1<=AD:=by decide
  have turn:O8 [~~~q,some (.l ((uo k).map uR)),~~~t]=↥([~~~q,some (.l ((uo (k+1)).map uR)),~~~t]):=by
   obtain⟨p1,e1⟩:=MC uR (λa=>uR (0::a)) (de:=Ol) (R:=[]) (uo k) (λa ha=>by
    have h1:=(Mx k a ha).len;have g:1+a.length<=AD:=Lm (by simp at hk;lia);simp[Ol,gd,g3,g]) none
   obtain⟨p2,e2⟩:=MC uR (λa=>uR (1::a)) (de:=Oh) (R:=[]) (uo k) (λa ha=>by
    have h1:=(Mx k a ha).len;have g:1+a.length<=AD:=Lm (by simp at hk;lia);simp[Oh,gd,g3,g]) none
   simp[O8,gd,g1,g2,e1,e2,uo,Dc]
  rw[N9];simp;rw[turn];simp;rw[e3];simp[Nat.add_assoc,Nat.add_comm 1 k]
def X8(q:Nat)(hq:q<=10):ADV [.v (iT (q:Int))]=some (.l ((uo q).map uR),[]):=by
 obtain⟨o',e⟩:=mB (iT (q:Int)) (ve 0 q) 0 none (by simp[ve];lia);have hl:(ve 0 q).length=q:=by simp[ve]
 have g1:=sL 1;have g0:=sL 0;rw[hl]at e;have a0:uo 0=[[]]:=rfl;simp only[uR,wa,iT,a0,AO,BN,KE]at e;simp[ADV,ua,AFf,Ml q ⋯,gd,g1,g0,e]
theorem Vf(c:Int){α:Type}(f:α->Int):∀ l:List α,(l.map λx=>c * f x).sum=c * (l.map f).sum
 | []=>by simp
 | x::r=>by simp only[AO,B9,Vf c f r,FV]
theorem RK:∀ (d q:Nat) (g:List Nat->Int) (a:List Nat),vE d a->((xU d q g).map λp=>p.2 * sg q a p.1).sum=4 ^ d * g a
 | 0,q,g,a,h=>by
  obtain rfl:a=[]:=Cd.mp h.len;simp[xU,sg]
 | d+1,q,g,a,h=>by
  match a,h with
  | [],h=>exact absurd h.len ↥1
  | x::a,h =>
   have ha:vE d a:=⟨by have:=h.len;simpa using this,λy hy=>h.lt y (AH _ hy)⟩
   have hx:x < 2:=h.lt x AG;have gt:∀ {t:List Nat},t.Sublist (Dt (q+1) d)->∀ y∈t,q < y:=λht y hy=>by
    have:=List.mem_range'.mp (ht.subset hy);lia
   have i1:=RK d (q+1) (λa=>2 * (g (0::a)+g (1::a))) a ha;have i2:=RK d (q+1) (λa=>2 * (g (0::a) - g (1::a))) a ha;have e1:((xU d (q+1) λa=>2 * (g (0::a)+g (1::a))).map λp=>p.2 * sg q (x::a) p.1)=(xU d (q+1) λa=>2 * (g (0::a)+g (1::a))).map λp=>p.2 * sg (q+1) a p.1:=BP λp hp=>by
    rw[S6 (gt (NW _ _ _ p hp))]
   have e2:(((xU d (q+1) λa=>2 * (g (0::a) - g (1::a))).map λp=>(q::p.1,p.2)).map λp=>p.2 * sg q (x::a) p.1)=(xU d (q+1) λa=>2 * (g (0::a) - g (1::a))).map λp=>(if x=0 then 1 else -1) * (p.2 * sg (q+1) a p.1):=by
    rw[Bn];refine BP λp hp=>?_
    show p.2 * sg q (x::a) (q::p.1)=_;rw[YE hx (gt (NW _ _ _ p hp)),Int.mul_left_comm]
   rw[xU,A9,GZ,e1,e2,Vf,i1,i2,F8];rcases (show x=0\/x=1 by lia) with rfl | rfl
   ·simp;generalize (4:Int) ^ d=F;rw[← FV,Dw];congr 1;lia
   ·simp;generalize (4:Int) ^ d=F;rw[← Kt,← FV,Dw];congr 1;lia
def gw(as s:List Nat):((yE as s:Nat):Int) % 3=sg 0 as s % 3:=by
 unfold yE sg zB;simp only[He];generalize (s.map λx=>as.getD x 0).sum=N;rcases (show N % 2=0\/N % 2=1 by lia) with h | h <;> simp[h]
theorem Uy(cf:List Nat->Int):∀ ks:List (List Nat),((cL as ((ks.filter λs=>!decide (cf s % 3=0)).map λs=>(s,(cf s % 3).toNat)):Nat):Int) % 3=(ks.map λs=>cf s * sg 0 as s).sum % 3
 | []=>by simp[cL]
 | s::r=>by
  have ih:=Uy (as:=as) cf r;have hs:=gw as s;rw[AO,B9,Ej];by_cases e:cf s % 3=0
  ·rw[if_neg (by simp[e])];have:(cf s * sg 0 as s) % 3=0:=by rw[CV,e];simp
   lia
  ·rw[if_pos (by simp[e]),AO,QH];have h0:0<=cf s % 3:=B4 _ ∅;have h1:(((cf s % 3).toNat * yE as s:Nat):Int) % 3=(cf s * sg 0 as s) % 3:=by
    rw[Gm,Ce h0];exact M1 (HS _ _) hs
   show ((((cf s % 3).toNat * yE as s+cL as _:Nat)):Int) % 3=_;rw[JO];lia
def cY(as:List Nat)(ps:List (List Nat×Int)):((cL as (uw ps):Nat):Int) % 3=(ps.map λp=>p.2 * sg 0 as p.1).sum % 3:=by
 have hF:=Mg ps;have nd:(xF ((vo ps).map (·.1))).Nodup:=(Ez (ME _)).mpr hF.nd;have hin:∀ s,s∈xF ((vo ps).map (·.1)) ↔ s∈ps.map (·.1):=λs=>by rw[(ME _).mem_iff];exact hF.key s
 unfold uw;rw[Uy (w9 ps) _];rw[QZ (sg 0 as) nd ps λp hpp=>(hin _).mpr (Am.mpr ⟨p,hpp,rfl⟩)]
theorem AGk(q:Nat)(x:Int):(4 ^ q * x) % 3=x % 3:=by
 induction q with
 | zero=>simp
 | succ q ih=>rw[F8,Dw,Hl 4 x,← Dw];lia
def cS(q:Nat)(f:List Nat->Bool)(as:List Nat)(ha:vE q as):xM as 0 [] (uw (xU q 0 (gF f)))=if f as then [1,2,0] else [0,1,2]:=by
 have h:=cY as (xU q 0 (gF f));rw[RK q 0 _ as ha,AGk]at h;rw[OB];have e1:yE as []=1:=by kernel_rfl
 rw[e1];cases hf:f as
 ·have hg:gF f as=0:=by simp[gF,hf]
  rw[hg]at h;exact (MU (c':=0) (e':=1) h rfl).trans ∅
 ·have hg:gF f as=1:=by simp[gF,hf]
  rw[hg]at h;exact (MU (c':=1) (e':=1) h rfl).trans ∅
noncomputable abbrev smF (qs:Nat) (f:List Nat->Bool):T:=.t [iT 0,.t [],.t ((uw (xU qs 0 (gF f))).map yi)]
structure AES(p:Sy×Nat):Prop where
 pt:p.1.parts<=1000
 q0:1<=p.2
 q5:p.2<=4
 qs:p.1.qs p.2
noncomputable abbrev zi (s:Sy):List Nat->Bool:=λas=>s.so as
def bR(p:Sy×Nat)(h:AES p):ABj [.v p.1.t,.v (iT (p.2:Int))]=some (.v (smF p.2 (zi p.1)),[]):=by
 obtain⟨s,q⟩:=p;have h4:q<=4:=h.q5;have h5:q<=5:=by lia
 have ea:=X8 q ⋯;obtain⟨o',e1⟩:=MC uR (λas=>iT (gF (zi s) as)) (de:=Ng) (R:=[~~~s.t]) (uo q) (λas has=>by
  have e:=mK (Mx q as has) s h.qs (Aa (show s.parts<=1000 from h.pt) ∅);unfold gF zi;generalize uR as=AS at *;generalize s.t=ST at *;cases hb:s.so as
  ·rw[hb]at e;simp[Ng,e]
  ·rw[hb]at e;simp[Ng,e]) none
 have e2:=bD q N6 0 (gF (zi s)) (EK h5 ∅) h5 ⋯;have e2':F_6 N6 [.v (⇑0),.r ((uo q).map λa=>iT (gF (zi s) a))]=some (.l ((xU q 0 (gF (zi s))).map xN),[]):=e2;have hp:2 ^ q<=32:=Aa (Dy ∅ h5) ∅;have e3:=Us (xU q 0 (gF (zi s))) (λp hp=>Vh ⋯ (Oi q _ p hp)) (by rw[NO];lia) (by have:=Pk h4 (Oi q (gF (zi s)));lia);have g0:=sL 0;have g3:=sL 3;have hl:((uo q).map uR).length<=AD:=by have:=ON (q:=q) ⋯;exact Lm ↥2
 have hl2:((uo q).map λa=>iT (gF (zi s) a)).length<=AD:=by have:=ON (q:=q) ⋯;exact Lm ↥2
 unfold smF;show ABj [.v s.t,.v (iT (q:Int))]=_;generalize (uw (xU q 0 (gF (zi s)))).map yi=MM at *;generalize (xU q 0 (gF (zi s))).map xN=PP at *;generalize ((uo q).map λa=>iT (gF (zi s) a))=GG at *;generalize (uo q).map uR=AT at *;generalize s.t=ST at *;unfold ABj AEy;generalize F_6 N6=FP at *;simp only[iT]at ea ⊢;simp[ua,ea,e1,e2',e3,gd,g0,g3,hl,hl2]
noncomputable def vS (x:Nat):wF:=(x,[0,2,1],[0,1,2])
noncomputable def wJ (m:Mk):List wF:=m.1.map vS++[(0,af (m.2:Int) 1,af (m.2:Int) 1)]++m.1.map vS
noncomputable def wX (bg:Nat) (fl:List Nat) (mk:List Mk):List wF:=fl.map vS++(if bg=1 then [(0,[0,2,1],[0,2,1])] else [])++mk.flatMap wJ
theorem NY as:∀ c a b,uY as c (a++b)=uY as (uY as c a) b
 | _,[],_=>rfl
 | c,x::r,b=>NY as (uV c (ug as x)) r b
def Wb:([0,2,1]:List Nat)=af 0 2:=by decide
def WR(h:∀ q,as.getD q 0 < 2) q r c:yE as r * ((if as.getD q 0=1 then 2 else 1) * c) % 3=((yE as (q::r):Nat):Int) * c % 3:=by
 have h2:=h q;have e:zB as (q::r)=as.getD q 0+zB as r:=by simp[zB]
 unfold yE;rw[e];generalize zB as r=S;generalize as.getD q 0=x at *;have hS:S % 2=0\/S % 2=1:=by lia
 rcases (show x=0\/x=1 by lia) with z | z <;> subst z <;> rcases hS with w | w
 ·have:(0+S) % 2=0:=by lia
  rw[this,w];simp
 ·have:(0+S) % 2=1:=by lia
  rw[this,w];simp
 ·have:(1+S) % 2=1:=by lia
  rw[this,w];simp
 ·have:(1+S) % 2=0:=by lia
  rw[this,w];simp;lia
theorem PH(h:∀ q,as.getD q 0 < 2):∀ s c e,uY as (af c e) (s.map vS)=af (yE as s * c) (yE as s * e)
 | [],c,e=>by
  show af c e=_;have:yE as []=1:=by kernel_rfl
  rw[this];simp
 | q::r,c,e=>by
  have hp:ug as (vS q)=af 0 (if as.getD q 0=1 then 2 else 1):=by
   unfold ug vS;dsimp only;split
   ·rw[Wb]
   ·kernel_rfl
  show uY as (uV (af c e) (ug as (vS q))) (r.map vS)=_;rw[hp,Pg,Hm,PH h r];exact MU (WR h q r c) (WR h q r e)
def aa(h:∀ q,as.getD q 0 < 2) m c e:uY as (af c e) (wJ m)=af (c+((m.2 * yE as m.1:Nat):Int)) e:=by
 unfold wJ;rw[NY,NY,PH h];have hp:ug as (0,af (m.2) 1,af (m.2) 1)=af (m.2) 1:=by unfold ug;split <;> rfl
 show uY as (uV (af _ _) (ug as (0,af (m.2) 1,af (m.2) 1))) (m.1.map vS)=_;rw[hp,Pg,PH h,Kv,Kv];have hs:yE as m.1=1\/yE as m.1=2:=by unfold yE;lia
 rcases hs with z | z <;> rw[z]
 ·exact MU ↥2 ↥1
 ·exact MU ↥2 ↥2
theorem TQ(h:∀ q,as.getD q 0 < 2):∀ mk c e,uY as (af c e) (mk.flatMap wJ)=af (c+cL as mk) e
 | [],c,e=>by show af c e=_;simp[cL]
 | m::r,c,e=>by
  rw[Di,NY,aa h,TQ h r];have:cL as (m::r)=m.2 * yE as m.1+cL as r:=by simp[cL]
  rw[this,JO];lia
def bO(h:∀ q,as.getD q 0 < 2)(hb:bg < 2) fl mk:uY as (AE 3) (wX bg fl mk)=xM as bg fl mk:=by
 have e0:(AE 3)=af 0 1:=by decide
 unfold wX;rw[NY,NY,e0,PH h,OB];have e1:uY as (af ((yE as fl) * 0) ((yE as fl) * 1)) (if bg=1 then [(0,[0,2,1],[0,2,1])] else [])=af 0 ((1+bg) * yE as fl:Nat):=by
  rcases (show bg=0\/bg=1 by lia) with z | z <;> subst z
  ·exact MU ↥1 ↥1
  ·show uV (af _ _) (ug as (0,[0,2,1],[0,2,1]))=_;have hp:ug as (0,[0,2,1],[0,2,1])=af 0 2:=by unfold ug;split <;> exact Wb
   rw[hp,Pg];exact MU ↥1 ↥1
 rw[e1,TQ h,Hm]
def oa bg (hb:bg < 2) fl mk:(wX bg fl mk).length=(mk.map λm=>2 * m.1.length+1).sum+fl.length+bg:=by
 have e:∀ mk:List Mk,(mk.flatMap wJ).length=(mk.map λm=>2 * m.1.length+1).sum:=λmk=>by
  induction mk with
  | nil=>rfl
  | cons m r ih=>rw[Di,A4,ih];simp[wJ];lia
 unfold wX;rw[A4,e];rcases (show bg=0\/bg=1 by lia) with z | z <;> subst z <;> simp <;> lia
def UA k:IsT 3 (af k 1):=by
 have:k % 3=0\/k % 3=1\/k % 3=2:=by lia
 have e:af k 1=af (k % 3) 1:=MU ⋯ rfl;rw[e];rcases this with z | z | z <;> rw[z] <;> exact⟨by decide,by decide,by decide⟩
def ib(h0:0 < qs)(hf:uf qs fl)(hm:∀ p∈mk,AAe qs p)(hq:qs<=q'):vA 3 q' (wX bg fl mk):=by
 have t1:IsT 3 [0,2,1]:=⟨by decide,by decide,by decide⟩
 have t2:IsT 3 [0,1,2]:=⟨by decide,by decide,by decide⟩
 have ov:∀ s,uf qs s->vA 3 q' (s.map vS):=λs hs x hx=>by
  obtain⟨q,hq',rfl⟩:=Am.mp hx;exact⟨AM (hs.lt hq') hq,t1,t2⟩
 intro x hx;rcases BF.mp hx with hx | hx
 ·rcases BF.mp hx with hx | hx
  ·exact ov fl hf x hx
  ·split at hx
   ·have:=AI.mp hx;subst this;exact⟨by show 0 < q';lia,t1,t1⟩
   ·exact nomatch hx
 ·obtain⟨m,hmm,hx⟩:=Iu.mp hx;have hs:=(hm m hmm).1;rcases BF.mp hx with hx | hx
  ·rcases BF.mp hx with hx | hx
   ·exact ov m.1 hs x hx
   ·have:=AI.mp hx;subst this;exact⟨by show 0 < q';lia,UA _,UA _⟩
  ·exact ov m.1 hs x hx
def WS s (hl:s.length<=1000):ABx [.v (uR s)]=some (.v (.t ((s.map vS).map uk)),[]):=by
 have e3:zA [.v (⇑3)]=some (.v (uR (AE 3)),[]):=P8 3 ⋯;have g:s.length<=AD:=Lm ⋯;have co:Mm=uR [0,2,1]:=rfl;have r3:uR (AE 3)=uR [0,1,2]:=rfl;obtain⟨o',e⟩:=MC (λ(k:Nat)=>iT k) (λk=>uk (vS k)) (de:=Nq) (R:=[]) s (λk _=>by
  rw[r3]at e3;simp only[uk,vS];generalize uR [0,1,2]=T3 at *;simp[Nq,e3,co]) none
 have e':vg (uP 0) vy Nq (s.map λ(k:Nat)=>iT k) [none]=some (s.map (uk ∘ vS),[o']):=e;simp[ABx,ua,AFS,gd,g,e']
def ij m (h:AAe qs m) (hq:qs<=100):ADL [.v (yi m)]=some (.v (.t ((wJ m).map uk)),[]):=by
 obtain⟨s,k⟩:=m;obtain⟨h1,h2,h3⟩:=h;have hl:s.length<=qs:=h1.len;have e1:=WS s ⋯;have tb:∃ t,(N7.find? λkv=>decide (kv.1=(k:Int)))=some ((k:Int),t)/\t=uR (af k 1):=by
  have hk:k=1\/k=2:=by have:=h3;lia
  rcases hk with z | z <;> subst z
  ·exact⟨_,rfl,by rw[show af (1:Nat) 1=[1,2,0] by decide];rfl⟩
  ·exact⟨_,rfl,by rw[show af (2:Nat) 1=[2,0,1] by decide];rfl⟩
 obtain⟨t,e2,e3⟩:=tb;rw[e3]at e2;have em:((wJ (s,k)).map uk)=(s.map vS).map uk++[.t [iT 0,uR (af k 1),uR (af k 1)]]++(s.map vS).map uk:=by
  unfold wJ;rw[A9,A9];rfl
 rw[em];have g1:1<=AD:=by decide
 have g3:3<=AD:=by decide
 have hf:((s.map vS).map uk).length=s.length:=by simp
 have g4:s.length+1<=AD:=Lm ⋯;have g5:s.length+1+s.length<=AD:=Lm ⋯;generalize (s.map vS).map uk=FS at *;simp[ADL,ua,AFq,e1,e2,gd,g1,g3,g4,g5,hf]
theorem Rq qs (hq:qs<=10) x0 x1:∀ (mk:List Mk) st o3,(∀ m∈mk,AAe qs m)->st.length+21 * mk.length<=2000->∃ o3',vm (uP 3) Nf (mk.map yi) [x0,x1,~~~(.t (st.map uk)),o3]=↥([x0,x1,~~~(.t ((st++mk.flatMap wJ).map uk)),o3'])
 | [],st,o3,_,_=>⟨o3,by rw[BN,Mo,List.flatMap_nil,Bm]⟩
 | m::r,st,o3,h,hl=>by
  have hm:=h m AG;have hml:=hm.1.len;have ml:(wJ m).length=2 * m.1.length+1:=by simp[wJ];lia
  obtain⟨o3',e⟩:=Rq qs hq x0 x1 r (st++wJ m) (~~~(yi m)) (λz hz=>h z (AH _ hz)) (by rw[A4];simp at hl;lia);refine⟨o3',?_⟩;have e1:=ij m hm ⋯;have g:(st.map uk).length+((wJ m).map uk).length<=AD:=Lm (by rw[AV,AV,ml];simp at hl;lia);have turn:Nf [x0,x1,~~~(.t (st.map uk)),~~~(yi m)]=↥([x0,x1,~~~(.t ((st++wJ m).map uk)),~~~(yi m)]):=by
   rw[A9];generalize yi m=MT at *;generalize st.map uk=SS at *;generalize (wJ m).map uk=MS at *;simp[Nf,e1,gd,g]
  rw[AO,M6 ↥1 turn,e,Di,CT]
def cV(qs bg:Nat)(fl:List Nat)(mk:List Mk)(q':Nat)(hq:qs<=10)(hb:bg < 2)(hf:uf qs fl)(hm:∀ p∈mk,AAe qs p)(hl:mk.length<=40):ACS [.v (xp bg fl mk),.v (iT (q':Int))]=some (.v (vZ 3 q' (wX bg fl mk)),[]):=by
 have hfl:=hf.len;have e1:=WS fl ⋯;obtain⟨o3,e2⟩:=Rq qs hq (~~~(xp bg fl mk)) (~~~(iT (q':Int))) mk (fl.map vS++(if bg=1 then [(0,[0,2,1],[0,2,1])] else [])) none hm (by rw[A4,AV];split <;> simp <;> lia);have e2':vm (uP 3) Nf (mk.map yi) [~~~(xp bg fl mk),~~~(iT (q':Int)),~~~(.t ((fl.map vS++(if bg=1 then [(0,[0,2,1],[0,2,1])] else [])).map uk)),none]=↥([~~~(xp bg fl mk),~~~(iT (q':Int)),~~~(.t ((wX bg fl mk).map uk)),o3]):=e2;have g1:=sL 1;have g3:=sL 3;have gm:mk.length<=AD:=Lm ⋯;have gf:fl.length+1<=AD:=Lm ⋯;have hml:(mk.map yi).length=mk.length:=by simp
 have hfl2:((fl.map vS).map uk).length=fl.length:=by simp
 have co:Mm=uR [0,2,1]:=rfl;simp only[vZ,show ((3:Nat):Int)=3 from rfl];simp only[xp]at e2' ⊢;generalize (wX bg fl mk).map uk=DL at *;rcases (show bg=0\/bg=1 by lia) with z | z <;> subst z
 ·rw[if_neg ∅,Bm]at e2';have c0:((0:Nat):Int)=0:=rfl;rw[c0]at e2' ⊢;generalize (fl.map vS).map uk=FS at *;generalize mk.map yi=MM at *;generalize uR fl=TF at *;simp only[iT]at e1 e2' ⊢;simp[ACS,ua,AEA,e1,e2',gd,g3,gm,hml]
 ·rw[if_pos rfl,A9]at e2';have c0:((1:Nat):Int)=1:=rfl;rw[c0]at e2' ⊢;have es:[((0,[0,2,1],[0,2,1]):wF)].map uk=[.t [⇑0,uR [0,2,1],uR [0,2,1]]]:=rfl;rw[es]at e2';generalize (fl.map vS).map uk=FS at *;generalize mk.map yi=MM at *;generalize uR fl=TF at *;rw[← co]at e2';simp only[iT]at e1 e2' ⊢;simp[ACS,ua,AEA,e1,e2',gd,g1,g3,gm,gf,hml,hfl2]
def mj(bg:T)(fl:List Nat)(mk:List Mk):ACP [.v (.t [bg,uR fl,.t (mk.map yi)])]=some (.v (iT ((max ((mk.length+1) / 2) fl.length:Nat):Int)),[]):=by
 have c:yA ((mk.length:Int)+1) 2:=⟨by decide,by decide⟩
 have hm:(if ((mk.length:Int)+1) / 2 < (fl.length:Int) then (fl.length:Int) else ((mk.length:Int)+1) / 2)=((max ((mk.length+1) / 2) fl.length:Nat):Int):=by
  split <;> lia
 rw[← hm];have h1:(mk.map yi).length=mk.length:=by simp
 have h2:(wa fl).length=fl.length:=by simp
 generalize mk.map yi=MM at *;generalize wa fl=FF at *;simp[ACP,ua,AEb,c,h1,h2]
def bh(h:uf qs s)(hq:q < qs):(wR qs s q).length<=s.length+1:=by
 by_cases hm:q∈s
 ·rw[← UH h hm];exact Aa (E7 _ _) (FO _)
 ·rw[← (Ul h hm hq).length_eq];simp
theorem XW:∀ (st:List wF) (x:Ss),vA 3 qs st->AAg qs x->(st.foldl (vP qs) x).2.1.length<=x.2.1.length+st.length
 | [],x,_,_=>by simp
 | s::r,x,hs,hx=>by
  have h1:=XW r (vP qs x s) (λz hz=>hs z (AH _ hz)) (P3 hx s);have h2:(vP qs x s).2.1.length<=x.2.1.length+1:=by
   show (if e3 s.2.1=e3 s.2.2 then x.2.1 else wR qs x.2.1 s.1).length<=_;split
   ·lia
   ·exact bh hx.fl (hs s AG).1
  rw[GR,CA];lia
def few(qs:Nat)(st:List wF)(hs:vA 3 qs st):max (((uw (u6 qs st).2.2).length+1) / 2) (u6 qs st).2.1.length<=st.length:=by
 have h1:=VH (u6 qs st).2.2;rw[(OC qs st).2]at h1;have h2:=XW st.reverse (0,[],[]) (λs h=>hs s (Iv.mp h)) (Qb qs);have h3:(u6 qs st).2.1.length<=st.length:=by
  have:(st.reverse.foldl (vP qs) (0,[],[])).2.1.length<=0+st.reverse.length:=h2;rw[List.length_reverse,EF]at this;exact this
 lia
noncomputable abbrev Sm:Type:=Nat×List Nat×List Mk
@[simp] noncomputable abbrev smT (x:Sm):T:=xp x.1 x.2.1 x.2.2
def Wi(h:vE qs as):yz qs as:=⟨EG h.len.symm,h.lt⟩
noncomputable def mkD (m:Mk):CP:=.tuple [.tuple (vf m.1),.int (m.2:Int)]
noncomputable def smD (x:Sm):CP:=.tuple [.int (x.1:Int),.tuple (vf x.2.1),.tuple (x.2.2.map mkD)]
theorem Vj:∀ l:List Mk,we (l.map yi)=some (l.map mkD)
 | []=>rfl
 | m::r=>by
  have h1:=ND m.1;have h2:=Vj r;simp only[wa,iT]at h1;simp only[AO,mkD];simp[we,toD,ADN,h1,h2]
def V7(Γ:En)(x:Sm):zR Γ (.v (smT x))=some (smD x):=by
 have h1:=ND x.2.1;have h2:=Vj x.2.2;simp only[wa,iT]at h1;simp only[smT,xp,smD];generalize x.2.2.map yi=MM at *;simp[zR,toD,we,ADN,h1,h2]
theorem Wv:∀ a c:List Mk,B6 (a.map mkD) (c.map mkD)=decide (a=c)
 | [],[] | [],y::s | x::r,[]=>by kernel_rfl
 | (s,k)::r,(s',k')::r'=>by
  have ih:=Wv r r';rw[AO,AO,B6,ih];have e:BI (mkD (s,k)) (mkD (s',k'))=decide ((s,k)=(s',k')):=by
   have h:((k:Int)=(k':Int)) ↔ k=k':=by lia
   by_cases h1:s=s' <;> by_cases h2:k=k' <;> simp[mkD,BI,B6,Nh,h,h1,h2]
  rw[e];by_cases h:(s,k)=(s',k') <;> by_cases h2:r=r' <;> simp[h,h2]
  all_goals first | exact λz1 z2=>h (by rw[z1,z2]) | skip
def aK(x y:Sm):BI (smD x) (smD y)=decide (x=y):=by
 obtain⟨a,b,c⟩:=x;obtain⟨a',b',c'⟩:=y;have h:((a:Int)=(a':Int)) ↔ a=a':=by lia
 by_cases h1:a=a' <;> by_cases h2:b=b' <;> by_cases h3:c=c' <;> simp[smD,BI,B6,Nh,Wv,h,h1,h2,h3]
theorem W0:∀ l:List Mk,Ax (l.map mkD)=true
 | []=>rfl
 | m::r=>by simp[Ax,Bi,mkD,OK,W0 r]
theorem U4:∀ l:List Mk,Bk (l.map mkD)<=5
 | []=>by simp[Bk]
 | m::r=>by
  have:=U4 r;have h:=N0 m.1;simp[Bk,CM,mkD,h];lia
def VP(x:Sm):Bi (smD x)=true:=by simp[smD,Bi,Ax,OK,W0]
def eS(x:Sm):CM (smD x)<=20:=by
 have h1:=N0 x.2.1;have h2:=U4 x.2.2;simp[smD,CM,Bk,h1];lia
def gr(f:CP->CP->Bool)(Γ:En)(x y:Sm):yK f Γ (.v (smT x)) (.v (smT y))= ~~~(.a (.bl (f (smD x) (smD y)))):=by
 unfold yK;rw[V7,V7];simp only[Ar];rw[if_pos ⟨VP x,VP y,by have:=eS x;lia⟩];rfl
def Yr(Γ:En)(x y:Sm):v5 Γ (.v (smT x)) (.v (smT y))= ~~~(.a (.bl (decide (x=y)))):=by
 show ((none:Option S).or (yK BI Γ (.v (smT x)) (.v (smT y))))=_;rw[E6,gr,aK]
def ar(hq:qs<=10)(hf:uf qs fl)(hm:∀ p∈mk,AAe qs p)(hl:mk.length<=1000):Pl 11 (xp bg fl mk):=by
 refine Pl.tup (n:=10) ↥1 λx hx=>?_
 have hfl:=hf.len;rcases AR.mp hx with z | hx
 ·subst z;exact Pl.int _
 rcases AR.mp hx with z | hx
 ·subst z;exact Pl.turn (n:=9) ⋯
 ·have:=AI.mp hx;subst this;refine Pl.tup (n:=9) ↥2 λy hy=>?_
  obtain⟨m,hmm,rfl⟩:=Am.mp hy;have:=(hm m hmm).1.len;refine Pl.tup (n:=8) ↥1 λw hw=>?_
  rcases AR.mp hw with z | hw
  ·subst z;exact Pl.turn (n:=7) ⋯
  ·have:=AI.mp hw;subst this;exact Pl.int _
def iW(hm:WfM q mk)(ho:vA 3 q st)(hd:∀ as,vE q as->uY as (AE 3) st=xM as 0 [] mk):(u6 q st).1=0/\(u6 q st).2.1=[]/\uw (u6 q st).2.2=mk:=by
 have sk:=(OC q st).1;exact hV sk.bg ∅ sk.fl (DR _) (SB sk.ps) hm λas ha=>by
  rw[← Zj (yz.two (Wi ha)) ho,hd as ha]
def UC(hq:q<=4)(hm:WfM q mk)(ho:vA 3 q st)(hl:st.length<=400)(hd:∀ as,vE q as->uY as (AE 3) st=xM as 0 [] mk):zS [.v (vZ 3 q st)]=some (.v (xp 0 [] mk),[])/\max ((mk.length+1) / 2) 0<=st.length:=by
 obtain⟨a,b,c⟩:=iW hm ho hd;have h:=kn q hq st ho ⋯;have f:=few q st ho;rw[a,b,c]at h;rw[b,c]at f;exact⟨h,f⟩
def aC x (e1:zS [.v (vZ 3 q st)]=some (.v (smT x),[])) (e2:zS [.v (vZ 3 q st')]=some (.v (smT x),[])):ADC [.v (vZ 3 q st),.v (vZ 3 q st')]=some (.v (.a .non),[]):=by
 have q1:=λΓ=>Yr Γ x x
 generalize smT x=S1 at *;simp[ADC,ua,AFQ,e1,e2,q1]
def x6(h:f Γ=some (.nx Γ'))(k:g Γ'=r):uO f g Γ=r:=by simp_all
def jS:uL ip F [v] da Γ=(da Γ).bind λp=>if xx ip p.1=true then (vt ip p.2 0 (p.1++[.v (.a v)])).bind λgs=>(F gs).map λq=>(toS q.1,x4 ip p.2 p.1 q.2) else none:=rfl
theorem j7(hq:qs<=4)(hm:∀ p∈mk,AAe qs p):(wX 0 [] mk).length<=9 * mk.length:=by
 rw[oa 0 ∅];simp;induction mk with
 | nil=>simp
 | cons m r ih =>
  have:=ih λp hp=>hm p (AH _ hp)
  have:=(hm m AG).1.len;simp;lia
def AAd ns (hn:ns.length<=63):M8 [.k (xK ns)]=some (.v (.a (.bl true)),[]):=by
 obtain⟨a,b,e1⟩:=Rn ns 0 ⋯ ⋯;obtain⟨c,a1,b1,hc,e2⟩:=NM a b 4 ∅ ∅;obtain⟨q,hq⟩:∃ q:Nat,q=1+c:=⟨_,rfl⟩
 obtain⟨s,a2,b2,u1,u2,u3,u4,e3⟩:=Yu q 14 128 ⋯ ⋯ ∅ ∅ ∅ ∅ a1 b1;obtain⟨a',b',e4⟩:=Rn ns 1 ⋯ ⋯;obtain⟨row,a3,b3,_,hp,hr0,e5⟩:=aM a' b' 5 ∅ ∅;have hr:Rg (vY 5 row):=by
  have:=Au.mp AEQ row (Pw (RG hp));simp at this;rcases this with z | z
  ·exact absurd hr0 z
  ·exact⟨by simpa using z⟩
 have q4:q<=4:=by lia
 have q0:0 < q:=by lia
 have e6:=ee s q 128 (vY 5 row) q0 u2 hr ⋯ ∅ ⋯ ⋯;have e7:=VY NB s (Aa u1 ∅);have pl:=L5 s;have sq:=MB s u2;have lw:=Ma s.spell (vY 5 row) pl;rw[MR]at lw;have se:=(MH q0 s.spell (vY 5 row) pl sq hr).ok;have sd:=λas=>NA q0 as s.spell (vY 5 row) pl sq hr
 obtain⟨st,hst⟩:∃ st,st=s.spell.steps (vY 5 row):=⟨_,rfl⟩
 rw[← hst]at e6 lw se sd;have w5:∀ as,vE q as->uY as (AE 5) st=if s.so as then vY 5 row else AE 5:=λas _=>by
  rw[sd as,Mc as s];cases s.so as <;> rfl
 have e8:=PB ∅ q4 s u2 ⋯ (vY 5 row) st se ⋯ w5;have f1:=bR (s,q) ⟨(by lia:s.parts<=1000),q0,q4,u2⟩;have wf:WfM q (uw (xU q 0 (gF (zi s)))):=SB (Oi q _);have ml:=cg q4 (Oi q (gF (zi s)));have hcm:∀ as,vE q as->xM as 0 [] (uw (xU q 0 (gF (zi s))))=if s.so as then [1,2,0] else AE 3:=λas ha=>cS q (zi s) as ha
 have f1':ABj [.v s.t,.v (iT (q:Int))]=some (.v (xp 0 [] (uw (xU q 0 (gF (zi s))))),[]):=f1;clear f1;generalize uw (xU q 0 (gF (zi s)))=mk at *;have f2:=cV q 0 [] mk q ⋯ ∅ (DR _) wf.ok ⋯;have so3:=ib q0 (bg:=0) (fl:=[]) (DR _) wf.ok (AL q);have l3:=j7 q4 wf.ok;have d3:∀ as,vE q as->uY as (AE 3) (wX 0 [] mk)=xM as 0 [] mk:=λas ha=>bO (yz.two (Wi ha)) ∅ [] mk
 have w3:∀ as,vE q as->uY as (AE 3) (wX 0 [] mk)=if s.so as then [1,2,0] else AE 3:=λas ha=>by rw[d3 as ha,hcm as ha]
 have f3:=WO 3 q ∅ (wX 0 [] mk) so3 ⋯;have c1:=Qq 3 [] (wX 0 [] mk);have c2:=RM (n:=3) (qs:=q) (kept:=[]) (λ_ h=>nomatch h) so3;have c3:∀ as,vE q as->uY as (AE 3) (w6 3 [] (wX 0 [] mk))=xM as 0 [] mk:=λas ha=>by rw[Qf (kept:=[]) (λ_ h=>nomatch h) so3];exact d3 as ha
 obtain⟨g1,g2⟩:=UC q4 wf so3 ⋯ d3;obtain⟨g3,g4⟩:=UC q4 wf c2 (by simp at c1;lia) c3;have f4:=PB ∅ q4 s u2 ⋯ [1,2,0] (wX 0 [] mk) so3 ⋯ w3;have f5:=mj (iT 0) [] mk;have f5':ACP [.v (xp 0 [] mk)]=some (.v (iT ((max ((mk.length+1) / 2) 0:Nat):Int)),[]):=f5;have f6:=ABa _ (ar (bg:=0) (by lia:q<=10) (DR _) wf.ok ⋯);have f7:=aC (0,[],mk) g1 g3;obtain⟨t5,a4,b4,ht5,e9⟩:=UF a3 b3 5 ∅;obtain⟨t3,a5,b5,ht3,e10⟩:=UF a4 b4 3 ∅;have k5:=Wh ∅ q4 s u2 ⋯ (vY 5 row) t5 hr.isT ht5 st se ⋯ w5;have k3:=Wh (n:=3) ∅ q4 s u2 ⋯ [1,2,0] t3 ⟨rfl,by decide,by decide⟩ ht3 (wX 0 [] mk) so3 ⋯ w3;have cq:(1:Int)+(c:Int)=(q:Int):=by lia
 have m5:¬ ((st.map uk).length:Int) > (s.wt:Int):=by rw[AV];lia
 have m3:¬ ((max ((mk.length+1) / 2) 0:Nat):Int) > (if ((w6 3 [] (wX 0 [] mk)).map uk).length < ((wX 0 [] mk).map uk).length then (((w6 3 [] (wX 0 [] mk)).map uk).length:Int) else (((wX 0 [] mk).map uk).length:Int)):=by
  rw[AV,AV];split <;> lia
 have t0:uR [1,2,0]=.t [⇑1,⇑2,⇑0]:=rfl;have z3:(3:Nat)<=AD:=by decide
 have nn:∀ Γ,xq true Γ (.v (.a .non)) (.v (.a .non))= ~~~(.a (.bl false)):=λΓ=>rfl
 rw[t0]at f4 k3;have a25:xn [iT ((5:Nat):Int),iT (q:Int),.t (st.map uk)] 2=some (.t (st.map uk)):=rfl;unfold vZ at *;generalize (w6 3 [] (wX 0 [] mk)).map uk=SH at *;generalize (wX 0 [] mk).map uk=TH at *;generalize xp 0 [] mk=SM at *;generalize ((max ((mk.length+1) / 2) 0:Nat):Int)=MX at *;generalize uR (vY 5 row)=R at *;generalize uR t5=T5 at *;generalize uR t3=T3 at *;generalize st.map uk=ST at *;generalize s.t=SS at *;generalize xK ns=NS at *;simp only[iT,show ((5:Nat):Int)=5 from rfl,show ((3:Nat):Int)=3 from rfl,show ((4:Nat):Int)=4 from rfl,show ((14:Nat):Int)=14 from rfl,show ((128:Nat):Int)=128 from rfl,Int.ofNat_zero]at *;have go:∃ Γ,WE [some (.k NS),none,none,none,none,none,none,none,none]=some (.rt (.v (.a (.bl true))) Γ):=by
  refine⟨[some (.k NS),~~~[⇑a5,⇑b5],~~~(⇑(q:Int)),~~~SS,~~~R,~~~(.t [⇑5,⇑(q:Int),.t ST]),~~~SM,~~~(.t [⇑3,⇑(q:Int),.t TH]),~~~(.t [⇑3,⇑(q:Int),.t SH])],?_⟩;refine x6 (by simp[e1];rfl) ?_;refine x6 (by simp[e2,cq];rfl) ?_;refine x6 (by simp[e3];rfl) ?_;refine x6 (by simp[e4];rfl) ?_;refine x6 (by simp[e5];rfl) ?_;refine x6 (by simp[jS,e6];rfl) ?_;refine x6 (by simp[e7,m5,e8];rfl) ?_;refine x6 (by simp[f1'];rfl) ?_;refine x6 (by simp[f2];rfl) ?_;refine x6 (by simp[f3];rfl) ?_;refine x6 (by simp[f4,f5',zK,m3,gd,z3];rfl) ?_;refine x6 (by simp[g3,f6,f7,nn];rfl) ?_;refine x6 (by simp[e9,k5];rfl) ?_;simp[e10,k3,gd,z3]
 obtain⟨Γ,e⟩:=go;simp[M8,ua,e]
noncomputable def ADu (sc:Ea) (x:Str):Bool:=match sc.names.lookup x with | some .local=>true | some .cell=>true | some .free=>true | _=>false
def nV{sc:Ea}{x:Str}(h:ADu sc x=true):Vis sc x:=by
 unfold ADu at h;unfold Vis;split at h <;> simp_all
def AGz{ι:Type}{K:Fg}{X:ι->Cx}{pos:Pos}(i:Nat){x:Str}(hN:∀ j,(X j).N[i]?=some x:=by intro _;kernel_rfl)(hv:∀ j,ADu (X j).env.scope x=true:=by intro _;kernel_rfl)(hd:(x == ("__debug__":Str))=false:=by kernel_rfl)
  (hcd:(x == ("__classdict__":Str))=false:=by kernel_rfl):EX K X (.Name x pos) (jV i):=jZ i hN (λj=>nV (hv j)) hd hcd
def jt{ι:Type}{K:Fg}{X:ι->Cx}{ip:Option Nat}{x:Str}{pos:Pos}{N':List Str}{sc:Ea}(i:Nat)(S:N'.Nodup:=by decide +kernel)(hi:ip≠some i:=by decide)(hx':∀ j,(cxF X N' sc j).N[i]?=some x:=by intro _;rfl)(hx:∀ j,Loc (cxF X N' sc j).env.scope x:=by intro _;first | exact Ds rfl | exact C2 rfl)
  (hf:∀ j,(cxF X N' sc j).fn x=true\/(cxF X N' sc j).env.scope.names.lookup x=some .local:=by intro _;first | exact .inl rfl | exact .inr rfl):GX K (cxF X N' sc) ip (.Name x pos) (uP i):=Rv i hi (λ_=>S) hx' hx hf
def ae:CH "int"=some (.type "int"):=↥4
noncomputable abbrev ABB:List (Str×Stmt):=[vh "_law_box" AFD,vh "_law_take" AFe,vh "_law_saying" AEu,vh "_law_weighed" AEm,vh "_law_weight" AFA,vh "_law_many_parts" AFl,vh "_law_light" AGC,vh "_law_ring" SI,vh "is_turning" SY,vh "row_from" Uc,vh "rings_of" Wg,vh "is_ring" S9,vh "is_ring_of_five" Vd,vh "inner" VU,vh "leading" To,vh "then" VE,vh "back" Um,vh "there_back" V0,vh "about" XI,vh "apart" SU,vh "pieces_in" Vl,vh "all_within" S0,vh "weight_of" SZ,vh "either_or_both" Vm,vh "spelled_of" Su,vh "last_followed" VQ,vh "still" Uu,vh "bare_step" Sd,vh "steps_of" VZ,vh "so_by" WY,vh "fold_within" V8,vh "folded" XX,vh "weight" XN,vh "look_at_making" TN,vh "spelled" WQ,vh "marks_of" Vq,vh "all_answers" Sg,vh "pairs_from" AFj,vh "sums_of_saying" WB,vh "over_by" UL,vh "steps_of_mark" Sj,vh "dance_of" R6,vh "together" Th,vh "cut" Uk,vh "_law_then" Wj,vh "_law_all_answers" XC,vh "_law_so" AEx,vh "_law_done" WZ,vh "_law_does" TM,vh "turned_about" WM,vh "_law_back" VB,vh "_law_changed_right" UZ,vh "_law_turning" Vb,vh "at_least" Ru,vh "_law_alike" AEh,vh "flipped" SD,vh "pairs_of_step" UV,vh "e_of" W1,vh "sums_of" Rr,vh "sign_of_one" Td,vh "without" UM,vh "answered_sums" R9,vh "parted" UE,vh "law" Qj]
noncomputable abbrev AEZ:List Str:=["all","bool","dict","enumerate","int","isinstance","len","list","max","min","range","reversed","sorted","sum","tuple","zip"]
structure Hy(P:Ah)(wd:A5)(base:Heap)(K:AY)(mg:Str->Option AK):Prop where
 w:∀ i:Nat,WxO K mg ABB[i]?
 z:∀ x,AEZ.elem x=true->mg x=none
 k_OVER_making:KV K mg "OVER_making" OD
 k_THERE:KV K mg "THERE" Nj
 z_KC:KC K yw
 k_OVER_sumdances:KV K mg "OVER_sumdances" Mm
 k_TURNS:KDV K mg "TURNS" N7
 e_p_made:∃ pT f fd ds,ABF K "made" "made" NC pT f fd/\mg "made"=some (.ref f)/\Binds K fd ["saying","questions","ring","most"] []/\Binds K fd ["saying","questions","ring","most"] ds/\uU [.int 128] ds
 e_p_is_so:∃ f fd,Fun K "is_so" "is_so" MJ f fd/\mg "is_so"=some (.ref f)/\Binds K fd ["saying","answers"] []/\TabAt K fd
set_option hygiene false
local macro_rules | `(tactic| walk_at "a")=>`(tactic| first | with_reducible assumption | exact Y.z _ (by kernel_rfl))
local macro_rules | `(tactic| walk_at "b")=>`(tactic| (intro _ _ _ _ _ _ us hl;first | (obtain⟨_,h⟩:=AFx hl;subst h;exact rfl) | (obtain⟨_,_,h⟩:=AEE hl;subst h;exact rfl) | (obtain⟨_,_,_,h⟩:=ADo hl;subst h;exact rfl) | (obtain⟨_,_,_,_,h⟩:=AFc hl;subst h;exact rfl)))
local macro_rules | `(tactic| walk_at "m")=>`(tactic| first | exact M | exact B | exact M.comp | exact B.comp)
local macro_rules | `(↑0)=>`(by walk_at "m")
local macro_rules | `(↑1)=>`(by walk_at "a")
def mkW (s:String):Lean.MacroM Lean.Term:=do
 let f:=λ(a:Array Lean.Term)=>Lean.Syntax.mkApp (a.getD 0 default) (a.extract 1 a.size)
 let st<-(s.splitOn " ").foldlM (λ(st:List (Array Lean.Term)) (t:String)=>do
  if t=="(" then return #[]::st
  let r:=(t.drop 1).toString
  let x:=Lean.mkIdent r.toName
  let p<-match t.front with
   | ')'=>pure (f (st.headD #[]))
   | '_'=>`(_)
   | '?'=>`(?_)
   | '0'=>`(by walk_at "m")
   | '1'=>`(by walk_at "a")
   | 'N'=>if t=="N" then pure ⟨(<-`(f (hN:=λ_=>S))).raw[1][0]⟩ else pure ⟨Lean.mkIdent t.toName⟩
   | '.'=>pure ⟨Lean.Syntax.node .none `Lean.Parser.Term.dotIdent #[Lean.mkAtom ".",x]⟩
   | '\''=>pure (Lean.Syntax.mkStrLit r)
   | '\\'=>`(λ_=>$x)
   | c=>if c.isDigit then pure ⟨(<-`(f (k':=$(Lean.Syntax.mkNumLit t)))).raw[1][0]⟩ else pure ⟨Lean.mkIdent t.toName⟩
  let st:=if t==")" then st.tail else st
  return ((st.headD #[]).push p)::st.tail) [#[]]
 return f (st.headD #[])
local macro_rules | `(tactic| walk_at "x")=>do
 let L:=λ(j s:String)=>(s.splitOn ";").mapM λl=>do match l.splitOn "/" with
  | [h,r]=>`(Lean.Parser.Tactic.tacticSeq| (with_reducible show $(<-mkW (j++" _ _ _ ( "++h++" )")));refine $(<-mkW r))
  | _=>`(Lean.Parser.Tactic.tacticSeq| refine $(<-mkW l))
 let g<-[("EX _ _ ( .Name _ _ ) _","jV _/AGz _;dC ( .ty 'tuple )/RT 0 1 Cz;dFn _/aq 0 1;dK _/ADk Mm 0 1;dC ( .ty 'list )/RT 0 1 boot_list;dK _/ADk Nj 0 1;dK _/ADk OD 0 1;dC ( .ty 'bool )/RT 0 1 boot_bool"),
  ("EX _ _ ( .Constant _ _ _ ) _","dC ( .int _ )/jJ;dC ( .str _ )/aN;dC ( .bl _ )/lK;dC .non/gX"),
  ("EX _ _ ( .Call _ _ _ _ ) _","vO vX _/Mb 0 ( jf 0 ) 1 PySem.boot_len ?;vO xf _/Mb 0 ( dA 0 ) 1 boot_isinstance ?;vO vC _/MO 0 ( MY 0 ) 1 Cz ?;vb _ _ _/RZ 0 PySem.F.slot_list_append PySem.F.type_list_append \\Yc lS ( pv' _ ) ?;wN _/og 0 1 1 ?;vb _ _ qQ/eY 0 HL HM \\mW Y7 ( pv' _ );vb _ _ _/RZ 0 PySem.F.slot_list_extend PySem.F.type_list_extend \\gE eZ ( pv' _ ) ?;wm _/j3 0 1 1 ?;vO ABD _/MO 0 df 1 ae ?;vO ya _/Mb 0 ( eX 0 ) 1 boot_max ?;vb _ _ _/RZ 0 HL HM \\oK cM ( pv' _ ) ?;vO _ _/Mb 0 ( oG 0 ) 1 boot_sorted ?;yG _ _/ig 0 ? ?;vO _ _/Mb 0 ( dM 0 ) 1 boot_min ?;AAU _/lD 0 1 1 ?;zH _/ZY 0 1 1 ?;ym _ _ _ _/aP 0 1 ? ? ?;vO _ _/Mb 0 ( YJ 0 ) 1 boot_sorted ?;zv _/jl 0 1 1 ?;vO zK _/Mb 0 ( fY 0 ) 1 boot_min ?;uL _ _ _ _/O3 0 0 1 ?;v8 _ _ _/iN 5 _ 0 0 ( OM D_16 ( OM D_23 ( Wf ) ) ) ?;uL _ _ _ _/i9 0 0 1 ?"),
  ("EX _ _ ( .Subscript _ _ _ ) _","uM uW _ _/gT 0 ? ?;dSl _ _ _/X9 0 ? ? ?;uM zL _ _/lb 0 ? ?;uM ( ABu _ ) _ _/kZ 0 1 ? ?;dKd _ _/ab N7 0 1 ?"),
  ("EX _ _ ( .BinOp _ _ _ _ ) _","uM ur _ _/Oo 0 ? ?;uM vW _ _/fQ ? ?;uM vp _ _/kQ ? ?;uM xV _ _/aS ? ?;uM xP _ _/aH ? ?;uM ADS _ _/iV ? ?"),
  ("EX _ _ ( .Tuple _ _ _ ) _","Yv ?"),
  ("EX _ _ ( .List _ _ ) _","jw ?"),
  ("EX _ _ ( .Compare _ _ _ _ ) _","AEo ? ? ?"),
  ("EX _ _ ( .BoolOp _ _ _ ) _","WI ?;yL _ _/Rm ? ?;ACF _ _/YD ? ?"),
  ("EX _ _ ( .IfExp _ _ _ _ ) _","bc ? ? ?"),
  ("EX _ _ ( .UnaryOp _ _ _ ) _","dUn yQ _/bJ ?;zF _/dg ?"),
  ("EX _ _ ( .Dict _ _ _ ) _","AAH true/fR;y6 _ _/Xr ?"),
  ("AX _ _ _ _","jQ ? ?;jY"),
  ("BX _ _ _ _ _","Ln ? ?;Ly ?;Rb"),
  ("SX _ _ _ _ _","L0 ?;Ot _ ? N;Pm ? ? ?;mi ?;OQ 0 \\Dp ? ? ?;dZ wY \\Dp ? ?;iF;du _ ? ( pv' _ ) ?;ZN _ _ 0 ? N;fK _ _ _ 0 ? N;d9 _ 0 1 ( pv' _ ) ? ?;c6 _ _ ? N"),
  ("TX _ _ _ _","AGe ? ? ?;AGv 0 ?;ie ?;AGg ?"),
  ("y9 _ _ _ _","T9 0;l7;oX 0;jP;jL 0;pG;pJ"),
  ("IX _ _ _ _ _","cD 0 ?;lL 0 1 ?;kD 0 1 ?;aY 0 1 ?;Zw 0 1 ?;lX 0 1 ?"),
  ("WX _ _ _ _","jc ? ?;oz ?;ik ? ?;ZJ ?"),
  ("GX _ _ _ _ _","Rv _ N;jM _ 0 ?;jt _")].mapM λ((p,s):String×String)=>do
  let r:=(<-L (p.take 2).toString s).toArray
  `(Lean.Parser.Tactic.tacticSeq| (with_reducible show $(<-mkW p));first $[| $r]*)
 let e:=(<-L "" "pP ?;dR;kO ? ?;nF;ZA ? ?;ZX;gS ?").toArray
 let g:=g.toArray++e
 let z<-`(Lean.Parser.Tactic.tacticSeq| first | ((with_reducible show EX _ _ (.Call _ _ _ _) _);first | ((with_reducible show EX _ _ _ (yF _ _ _));refine oh ↑0 Gq PySem.F.type_list_count (λj=>Zv (M.room j)) ?_ ?_) | ((with_reducible show EX _ _ _ (wV _ _ _ _ _));refine YS (k':=3) _ ↑0 ↑0 (OM D_25 (OM D_27 (OM D_31 (Wf)))) ((cW D_32).mono ∅) ?_)) | ((with_reducible show EX _ _ _ _);delta N1 O5 OY PZ O2 PL Ol Oh Vc On PD Sx SO WT Nt Nq Oj Ox Oa Ww UR WG S5 Ng OT PV UQ))
 `(tactic| repeat' first $[| $g]* | $z)
local macro_rules | `(tactic| walk_at "d")=>`(tactic| (intro _ _ _ _ _ _ _ S M B;walk_at "x"))
section
variable {P:Ah}{wd:A5}{K:AY}{mg:Str->Option AK}{base:Heap}
def cW(D_32:FD P wd K mg base (1) "so_by" none 3 AAi):LD P wd K mg base (1) wb MZ:=⟨"part","inside",gU,λf c cd A outer s H hr=>by
 have M:Fm K mg 1 (λ_:Unit=>yN P wd K mg base wb "part" "inside" f cd c A outer s H):=⟨λ_=>rfl,λ_=>rfl,λ_=>rfl,λ_=>hr⟩
 have B:Fb P wd base (λ_:Unit=>yN P wd K mg base wb "part" "inside" f cd c A outer s H):=⟨λ_=>rfl,λ_=>rfl,λ_=>rfl⟩
 obtain⟨t,p,u⟩:=(show EX K (λ_:Unit=>yN P wd K mg base wb "part" "inside" f cd c A outer s H) wb.body MZ from O3 M B D_32 (jQ (jZ 2) (jQ (jZ 0) (jQ (jZ 1) jY))))
 exact⟨t,p (),u⟩⟩
def YO{f:Addr}{fd:C6}(Fn:Fun K "is_so" "is_so" MJ f fd)(hm:mg "is_so"=some (.ref f))(hb:Binds K fd ["saying","answers"] [])(tab_p_is_so:TabAt K fd)(D_35:FD P wd K mg base (8) "folded" none 2 yx):FD P wd K mg base (9) "is_so" none 2 ACN:=by
 refine⟨⟨f,fd,["saying","answers"],Yp (k:=8) Fn Z9 λcdv A outer s H E hc M B=>Ly (L0 ?_),hm,Fn.kp,hb⟩,O9⟩;refine bS (L:=wb) (x:="folded") (y:="saying") M B D_35 tab_p_is_so hc ?a1 ?a2 ?a3 ?a4 ?a5 ?a6 ?a7 ?a8 ?a9 ?a10 ?a11 ?a12 ?a13 ?a14 ?a15 ?a16
 case a1=>exact λ_=>rfl
 case a2=>decide
 case a4=>exact λ_ c h=>kJ c h
 case a7=>exact λ_=>pv 0
 case a11=>rfl
 case a13=>decide
 all_goals (intro _;rfl)
variable (Y:Hy P wd base K mg)
include Y
def AGr:FD P wd K mg base (1) "_law_box" none 2 F_7:=um (Y.w 0) AGu
def ABr:FD P wd K mg base (1) "_law_take" (some 0) 2 zd:=um (Y.w 1) AGY
def AFC:∀ n,FD P wd K mg base (1+n) "_law_saying" (some 0) 4 (F_2 n):=by
 have D_8:=ABr Y;exact Mq (Y.w 2) AFs rfl rfl λn Drec=>um (Y.w 2) AFs
def AGd:∀ n,FD P wd K mg base (13+n) "_law_weighed" (some 0) 4 (F_4 n):=by
 have D_8:=ABr Y;have D_2:FD P wd K mg base (13) _ _ _ _:=AFC Y M3;exact Mq (Y.w 3) AEv rfl rfl λn Drec=>um (Y.w 3) AEv
def AEf:∀ n,FD P wd K mg base (0+n) "_law_weight" none 1 (F_5 n):=by
 exact Mq (Y.w 4) ADz rfl rfl λn Drec=>um (Y.w 4) ADz λ_ _ _ _ _ _ _ S M B=>Ln (Md 1 none (N':=["_law_one"]) (ix:=[none]) M ↥5 ↥3 ↥3 ↥3 ↥3 (hix:=wC) (hN:=λ_=>ADz.nd)) ↥3
def AGs:∀ n,FD P wd K mg base (0+n) "_law_many_parts" none 1 (F_1 n):=by
 exact Mq (Y.w 5) AFV rfl rfl λn Drec=>um (Y.w 5) AFV λ_ _ _ _ _ _ _ S M B=>Ly (L0 (Oo M jJ (Mb M (mX M) ↑1 boot_sum (jQ (Lv none (N':=["_law_one"]) (ix:=[none]) M ↥5 ↥3 ↥3 ↥3 ↥3 (hix:=wC)) jY))))
def AGy:FD P wd K mg base (26) "_law_light" (some 0) 4 F_9:=by
 have D_8:=ABr Y;have D_2:FD P wd K mg base (13) _ _ _ _:=AFC Y M3;have D_4:FD P wd K mg base (25) _ _ _ _:=AGd Y Os;have D_5:FD P wd K mg base (12) _ _ _ _:=AEf Y NB;have D_1:FD P wd K mg base (12) _ _ _ _:=AGs Y RC;exact um (Y.w 6) AGZ
def oN:FD P wd K mg base (2) "_law_ring" (some 0) 2 ADf:=by
 have D_8:=ABr Y;exact um (Y.w 7) lO
def gZ:FD P wd K mg base (1) "is_turning" none 2 AFK:=um (Y.w 8) jN
def Xu:FD P wd K mg base (1) "row_from" none 2 AFF:=um (Y.w 9) hG
def VC:FD P wd K mg base (2) "rings_of" none 1 ADB:=by
 have D_12:=Xu Y;exact um (Y.w 10) WK λ_ _ _ _ _ _ _ S M B=>Ln (Md 1 none (N':=["place","turning"]) (ix:=[none,some 0]) M ↥5 ↥3 ↥3 Ls ↥3 (hix:=wC) (hN:=λ_=>WK.nd)) (Ly (L0 (Lv none (N':=["row"]) (ix:=[none]) M ↥5 ↥3 ↥3 ↥3 (jZ 0) (hix:=wC))))
def mL:FD P wd K mg base (3) "is_ring" none 1 AFa:=by
 have D_13:=VC Y;exact um (Y.w 11) ZI λ_ _ _ _ _ _ _ S M B=>Ly (L0 (AEo (T9 M) (Lv none (N':=["ring"]) (ix:=[none]) M ↥5 ↥3 ↥3 Ls ↥3 (hix:=wC)) ↥3))
def jj:FD P wd K mg base (4) "is_ring_of_five" none 1 ADP:=by
 have D_11:=gZ Y;have D_14:=mL Y;exact um (Y.w 12) ba
def VA:FD P wd K mg base (1) "inner" none 1 AAh:=um (Y.w 13) km
def nZ:FD P wd K mg base (3) "leading" none 2 AFH:=by
 have D_13:=VC Y;exact um (Y.w 14) eG λ_ _ _ _ _ _ _ S M B=>Ln ↥3 (Ly (L0 (MO M (MY M) ↑1 Cz (jQ (Lv none (N':=["place","led"]) (ix:=[none,some 2]) M ↥5 ↥3 ↥3 Ls ↥3 (hix:=wC)) jY))))
def Od:FD P wd K mg base (1) "then" none 2 yT:=um (Y.w 15) il λ_ _ _ _ _ _ _ S M B=>Ly (L0 (MO M (MY M) ↑1 Cz (jQ (Lv none (N':=["place","other"]) (ix:=[none,some 1]) M ↥5 ↥3 ↥3 Ls ↥3 (hix:=wC)) jY)))
def QJ:FD P wd K mg base (1) "back" none 1 zg:=um (Y.w 16) dF λ_ _ _ _ _ _ _ S M B=>Ly (L0 (MO M (MY M) ↑1 Cz (jQ (Lv none (N':=["place","turning"]) (ix:=[none,some 0]) M ↥5 ↥3 ↥3 Ls ↥3 (hix:=wC)) jY)))
def iO:FD P wd K mg base (2) "there_back" none 2 AGF:=by
 have D_18:=Od Y;have D_19:=QJ Y;exact um (Y.w 17) bp
def WV:FD P wd K mg base (2) "about" none 2 AAw:=by
 have D_18:=Od Y;have D_19:=QJ Y;exact um (Y.w 18) Xn
def iL:FD P wd K mg base (4) "apart" none 1 ACD:=by
 have k_OVER_making:=Y.k_OVER_making;have k_THERE:=Y.k_THERE;have D_17:=nZ Y;have D_20:=iO Y;have D_21:=WV Y;exact um (Y.w 19) ZV
def Vt:FD P wd K mg base (5) "pieces_in" none 1 y7:=by
 have D_19:=QJ Y;have D_22:=iL Y;exact um (Y.w 20) me
def fw:FD P wd K mg base (6) "all_within" none 2 AGE:=by
 have D_16:=VA Y;have D_23:=Vt Y;exact um (Y.w 21) nI
def nC:FD P wd K mg base (1) "weight_of" none 2 ACL:=um (Y.w 22) Xb
def gV:FD P wd K mg base (1) "either_or_both" none 2 ABh:=um (Y.w 23) lP
def Ys:FD P wd K mg base (2) "spelled_of" none 2 ABq:=by
 have D_26:=gV Y;exact um (Y.w 24) j5
def dY:FD P wd K mg base (2) "last_followed" none 2 ADA:=by
 have D_18:=Od Y;exact um (Y.w 25) Yd
def Q2:FD P wd K mg base (1) "still" none 1 zA:=um (Y.w 26) Xo
def dn:FD P wd K mg base (2) "bare_step" none 2 ADr:=by
 have D_29:=Q2 Y;exact um (Y.w 27) fH
def iY:FD P wd K mg base (3) "steps_of" none 2 zD:=by
 have D_28:=dY Y;have D_30:=dn Y;exact um (Y.w 28) iy
def ic:FD P wd K mg base (1) "so_by" none 3 AAi:=um (Y.w 29) cR
def UP:FD P wd K mg base (7) "fold_within" none 3 ADG:=by
 have D_16:=VA Y;have D_23:=Vt Y;have D_24:=fw Y;have D_25:=nC Y;have D_27:=Ys Y;have D_31:=iY Y;have D_32:=ic Y;exact um (Y.w 30) SA λ_ _ _ _ _ _ _ S M B=>Ln ↥3 (Ln (OQ M (λ_=>Dp) ↥3 ↥3 (Ln (Md 5 (some (1,3)) (N':=["one","told"]) (ix:=[none,some 3]) M ↥5 ↥3 ↥3 Ls ↥3 (hix:=AGx ∅) (hN:=λ_=>SA.nd)) ↥3)) ↥3)
def QV:FD P wd K mg base (8) "folded" none 2 yx:=by
 have n_inner:=(Y.w 13:WxO K mg ABB[13]?).nk;have D_34:=UP Y;exact um (Y.w 31) YG
def Zx:FD P wd K mg base (9) "weight" none 1 ADM:=by
 have n_weight_of:=(Y.w 22:WxO K mg ABB[22]?).nk;have D_35:=QV Y;exact um (Y.w 32) XZ
def nS:FD P wd K mg base (10) "look_at_making" none 3 ADc:=by
 have D_15:=jj Y;have D_36:=Zx Y;exact um (Y.w 33) jD
def bL:FD P wd K mg base (9) "spelled" none 1 ADI:=by
 have n_spelled_of:=(Y.w 24:WxO K mg ABB[24]?).nk;have D_35:=QV Y;exact um (Y.w 34) kR
def Z1:FD P wd K mg base (11) "made" none 4 ACJ/\FDd P wd K mg base (11) "made" none 4 ACJ [.int 128]:=by
 obtain⟨pT,f,fd,ds,Fn,hm,hb,hb2,hv⟩:=Y.e_p_made;have n_pieces_in:=(Y.w 20:WxO K mg ABB[20]?).nk;have n_steps_of:=(Y.w 28:WxO K mg ABB[28]?).nk;have D_34:=UP Y;have D_37:=nS Y;have D_38:=bL Y;exact mr (k:=10) Fn VD hm hb hb2 hv λcdv A outer s H E M B=>(by have S:=VD.nd;exact by walk_at "x")
def QU:FD P wd K mg base (1) "marks_of" none 1 ABf:=by
 have z_KC:=Y.z_KC;exact um (Y.w 35) aV λ_ _ _ _ _ _ _ S M B=>Ln ↥3 (Ln ↥3 (Ly (L0 (MO M (MY M) ↑1 Cz (jQ (Lv none (N':=["asked","numbers"]) (ix:=[none,some 1]) M ↥5 ↥3 ↥3 ↥3 ↥3 (hix:=wC)) jY)))))
def lQ:FD P wd K mg base (9) "is_so" none 2 ACN:=by
 obtain⟨f,fd,Fn,hm,hb,tb⟩:=Y.e_p_is_so;have D_35:=QV Y;exact YO Fn hm hb tb D_35
def Zu:FD P wd K mg base (1) "all_answers" none 1 ADV:=um (Y.w 36) WN λ_ _ _ _ _ _ _ S M B=>Ln ↥3 (Ln (OQ M (λ_=>Dp) ↥3 ↥3 (Ly (Ot 1 (Oo M (Lv none (N':=["answers"]) (ix:=[none]) M ↥5 ↥3 ↥3 Ls ↥3 (hix:=wC)) (Lv none (N':=["answers"]) (ix:=[none]) M ↥5 ↥3 ↥3 Ls ↥3 (hix:=wC))) (hN:=λ_=>WN.nd)))) ↥3)
def AHG:∀ n,FD P wd K mg base (0+n) "pairs_from" none 2 (F_6 n):=by
 exact Mq (Y.w 37) ADR rfl rfl λn Drec=>um (Y.w 37) ADR λ_ _ _ _ _ _ _ S M B=>Ln ↥3 (Ln ↥3 (Ln ↥3 (Ln (Ot 4 (O3 M B Drec (jQ ↥3 (jQ (Lv none (N':=["side"]) (ix:=[none]) M ↥5 ↥3 ↥3 Ls ↥3 (hix:=wC)) jY))) (hN:=λ_=>ADR.nd)) (Ln (Ot 5 (O3 M B Drec (jQ ↥3 (jQ (Lv none (N':=["side"]) (ix:=[none]) M ↥5 ↥3 ↥3 Ls ↥3 (hix:=wC)) jY))) (hN:=λ_=>ADR.nd)) (Ly (L0 (Oo M (jZ 4) (Lv none (N':=["pair","q"]) (ix:=[none,some 0]) M ↥5 ↥3 ↥3 Ls ↥3 (hix:=wC)))))))))
def cG:FD P wd K mg base (13) "sums_of_saying" none 2 ABj:=by
 have D_40:=QU Y;have D_33:=lQ Y;have D_41:=Zu Y;have D_6:FD P wd K mg base (12) _ _ _ _:=AHG Y N6;exact um (Y.w 38) Ux λ_ _ _ _ _ _ _ S M B=>Ln (Md 2 none (N':=["answers","saying"]) (ix:=[none,some 0]) M ↥5 ↥3 ↥3 Ls ↥3 (hix:=wC) (hN:=λ_=>Ux.nd)) ↥3
def W6:FD P wd K mg base (2) "over_by" none 1 ABx:=by
 have k_OVER_sumdances:=Y.k_OVER_sumdances;have D_29:=Q2 Y;exact um (Y.w 39) cX λ_ _ _ _ _ _ _ S M B=>Ly (L0 (MO M (MY M) ↑1 Cz (jQ (Lv none (N':=["q"]) (ix:=[none]) M ↥5 ↥3 ↥3 Ls ↥3 (hix:=wC)) jY)))
def ou:FD P wd K mg base (3) "steps_of_mark" none 1 ADL:=by
 have k_TURNS:=Y.k_TURNS;have D_43:=W6 Y;exact um (Y.w 40) mh
def hW:FD P wd K mg base (4) "dance_of" none 2 ACS:=by
 have k_OVER_sumdances:=Y.k_OVER_sumdances;have D_43:=W6 Y;have D_44:=ou Y;exact um (Y.w 41) cI
def bK:FD P wd K mg base (2) "together" none 2 AAy:=by
 have D_18:=Od Y;exact um (Y.w 42) ZM
def Up:FD P wd K mg base (3) "cut" none 1 ACV:=by
 have D_29:=Q2 Y;have D_46:=bK Y;exact um (Y.w 43) iA
def UW:FD P wd K mg base (1) "_law_then" none 2 ABb:=um (Y.w 44) YZ λ_ _ _ _ _ _ _ S M B=>Ly (L0 (MO M (MY M) ↑1 Cz (jQ (Lv none (N':=["_law_place","_law_other"]) (ix:=[none,some 1]) M ↥5 ↥3 ↥3 Ls ↥3 (hix:=wC)) jY)))
def oP:FD P wd K mg base (1) "_law_all_answers" none 1 ADW:=um (Y.w 45) nh
def AHD:∀ n,FD P wd K mg base (0+n) "_law_so" none 2 (F_3 n):=by
 exact Mq (Y.w 46) ADm rfl rfl λn Drec=>um (Y.w 46) ADm λ_ _ _ _ _ _ _ S M B=>Ln ↥3 (Ln ↥3 (Ln (Md 3 none (N':=["_law_one","_law_answers"]) (ix:=[none,some 1]) M ↥5 ↥3 ↥3 Ls ↥3 (hix:=wC) (hN:=λ_=>ADm.nd)) ↥3))
def cZ:FD P wd K mg base (2) "_law_done" none 2 ADQ:=by
 have D_48:=UW Y;exact um (Y.w 47) aF
def Uw:FD P wd K mg base (13) "_law_does" none 3 ABA:=by
 have D_49:=oP Y;have D_3:FD P wd K mg base (12) _ _ _ _:=AHD Y Rh;have D_50:=cZ Y;exact um (Y.w 48) Zi
def YI:FD P wd K mg base (3) "turned_about" none 2 ADZ:=by
 have D_21:=WV Y;exact um (Y.w 49) XA λ_ _ _ _ _ _ _ S M B=>Ln ↥3 (Ln (Md 2 none (N':=["step","by"]) (ix:=[none,some 1]) M ↥5 ↥3 ↥3 Ls ↥3 (hix:=wC) (hN:=λ_=>XA.nd)) ↥3)
def lM:FD P wd K mg base (1) "_law_back" none 1 ADh:=um (Y.w 50) jR λ_ _ _ _ _ _ _ S M B=>Ly (L0 (MO M (MY M) ↑1 Cz (jQ (Lv none (N':=["_law_place","_law_turning_here"]) (ix:=[none,some 0]) M ↥5 ↥3 ↥3 Ls ↥3 (hix:=wC)) jY)))
def dv:FD P wd K mg base (14) "_law_changed_right" none 4 ACH:=by
 have D_47:=Up Y;have D_48:=UW Y;have D_51:=Uw Y;have D_52:=YI Y;have D_53:=lM Y;exact um (Y.w 51) Xh
def g8:FD P wd K mg base (2) "_law_turning" (some 0) 2 ABz:=by
 have D_8:=ABr Y;exact um (Y.w 52) fD
def dX:FD P wd K mg base (1) "at_least" none 1 ACP:=um (Y.w 53) b9
def AGQ:∀ n,FD P wd K mg base (0+n) "_law_alike" none 2 (F_0 n):=by
 exact Mq (Y.w 54) AEl rfl rfl λn Drec=>um (Y.w 54) AEl λ_ _ _ _ _ _ _ S M B=>Ln (Pm ↥3 (Ln ↥3 (Ly (L0 (Rm ↥3 (WI (Mb M (je M) ↑1 boot_all (jQ (Lv none (N':=["_law_one","_law_other"]) (ix:=[none,none]) M ↥5 ↥3 ↥3 Ls ↥3 (hix:=wC)) jY))))))) Rb) ↥3
def Rz:FD P wd K mg base (1) "flipped" none 2 ABs:=um (Y.w 55) mv λ_ _ _ _ _ _ _ S M B=>Ln (Pm ↥3 (Ly (L0 (MO M (MY M) ↑1 Cz (jQ (Lv none (N':=["other","q"]) (ix:=[none,some 1]) M ↥5 ↥3 ↥3 ↥3 (jZ 0) (hix:=wC)) jY)))) Rb) ↥3
def md:FD P wd K mg base (2) "pairs_of_step" none 3 ADE:=by
 have D_57:=Rz Y;exact um (Y.w 56) jh
def bj:FD P wd K mg base (1) "e_of" none 1 ACO:=um (Y.w 57) i5
def Vo:FD P wd K mg base (3) "sums_of" none 1 zS:=by
 have D_40:=QU Y;have D_57:=Rz Y;have D_58:=md Y;have D_59:=bj Y;exact um (Y.w 58) bx
def Yx:FD P wd K mg base (1) "sign_of_one" none 3 ADy:=um (Y.w 59) Xm
def iD:FD P wd K mg base (1) "without" none 2 ADs:=um (Y.w 60) Xv λ_ _ _ _ _ _ _ S M B=>Ly (L0 (MO M (MY M) ↑1 Cz (jQ (Lv none (N':=["other","q"]) (ix:=[none,some 1]) M ↥5 ↥3 ↥3 ↥3 (jZ 0) (hix:=wC)) jY)))
def dk:FD P wd K mg base (2) "answered_sums" none 3 AEM:=by
 have D_40:=QU Y;have D_61:=Yx Y;have D_62:=iD Y;exact um (Y.w 61) U5 λ_ _ _ _ _ _ _ S M B=>Ln ↥3 (Ln ↥3 (Ln (Md 5 none (N':=["mark","q","answer"]) (ix:=[none,some 1,some 2]) M ↥5 ↥3 ↥3 Ls ↥3 (hix:=wC) (hN:=λ_=>U5.nd)) ↥3))
def bQ:FD P wd K mg base (4) "parted" none 2 ADC:=by
 have D_60:=Vo Y;have D_63:=dk Y;exact um (Y.w 62) Qk λ_ _ _ _ _ _ _ S M B=>Ln ↥3 (Ln ↥3 (Ln ↥3 (Ln ↥3 (Ln (OQ M (λ_=>Dp) ↥3 ↥3 (Ln (Md 5 none (N':=["sums","q"]) (ix:=[none,some 4]) M ↥5 ↥3 ↥3 Ls ↥3 (hix:=wC) (hN:=λ_=>Qk.nd)) (Ln ↥3 (Ln (Md 2 none (N':=["sums","q","answer"]) (ix:=[none,some 4,some 6]) M ↥5 ↥3 ↥3 Ls ↥3 (hix:=wC) (hN:=λ_=>Qk.nd)) ↥3)))) ↥3))))
def iP{f:Addr}{fd:C6}(Fn:Fun K "law" "law" Qj f fd):wM P wd K mg base yd 27 f fd ["_law_script"] (y8 K none 1 M8):=by
 have D_7:=AGr Y;have D_8:=ABr Y;have D_5:FD P wd K mg base (12) _ _ _ _:=AEf Y NB;have D_9:=AGy Y;have D_10:=oN Y;have D_42:=cG Y;have D_45:=hW Y;have D_47:=Up Y;have D_51:=Uw Y;have D_54:=dv Y;have D_55:=g8 Y;have D_56:=dX Y;have D_0:FD P wd K mg base (12) _ _ _ _:=AGQ Y Nr;have D_60:=Vo Y;have D_64:=bQ Y;have Dd_39:=(Z1 Y).2;exact Z2 Fn Tw λcdv A outer s H E M B=>(by have S:=Tw.nd;exact by walk_at "x")
end
def AAk{K:AY}{x:Str}{f c0 P0:Addr}{oc oc2 kV doc pm ct:AK}{od od2 an:Option Addr}{osl osl2:Array (Option AK)}{ps:J6}{b:List Stmt}{sc:Ea}{vs:Array AK}(a:nsIn K Ao x=some (some (.ref f)))(l:K.lookup f=some ⟨oc,od,.func (fnOf x x ps b sc .none kV doc pm an (.ref c0) ct),osl⟩)(c:K.lookup c0=some ⟨oc2,od2,.fields vs,osl2⟩)(v:vs[11]?=some (.ref P0)):CO K x=some (c0,P0):=by
 unfold CO;simp only[a,l,c,v,fnOf]
local macro_rules | `(tactic| walk_at "b") => `(tactic| (intro _ _ _ _ _ _ us hl;first|(obtain⟨_,_,h⟩:=AEE hl;subst h;exact rfl)))
def ACy{l:Eh}{w:A5}{K:AY}{h:Heap}{mg:Str->Option AK}{fa:Addr}(X:K.In h)(G:h.Ns Ao mg)(hfa:mg "law"=some (.ref fa))(wT:AllK K ABB)(zT:ZK K AEZ)
  {f36:Addr} {od36 an36:Option Addr} {sl36:Array (Option AK)} {oc36 kV36 dc36 pm36 cd36 ct36:AK}
  {pdf36:Addr} {ndf36:Nat} {sdf36:Array (Option AK)} {tdf36:Tok} (dfl36:K.lookup pdf36=some ⟨.type "tuple",none,.seq [BS 128 tdf36].toArray ndf36,sdf36⟩)
  (a36:nsIn K Ao "made"=some (some (.ref f36))) (l36:K.lookup f36=some ⟨oc36,od36,.func (fnOf "made" "made" (vL NC) (uq NC) (uK NC) (.ref pdf36) kV36 dc36 pm36 an36 cd36 ct36),sl36⟩) (c36:CY K cd36 "made"=true) (k36:BZ K (.ref f36)=true)
  {f38:Addr} {od38 an38:Option Addr} {sl38:Array (Option AK)} {oc38 kV38 dc38 pm38 cd38 ct38:AK}
  (a38:nsIn K Ao "is_so"=some (some (.ref f38))) (l38:K.lookup f38=some ⟨oc38,od38,.func (fnOf "is_so" "is_so" (vL MJ) (uq MJ) (uK MJ) .none kV38 dc38 pm38 an38 cd38 ct38),sl38⟩) (c38:CY K cd38 "is_so"=true) (k38:BZ K (.ref f38)=true)
  (kc:(K.all λq=>kcC yw q.2)=true)
  {pk1:Addr} {nk1:Nat} {slk1:Array (Option AK)} {t1_0 t1_1 t1_2 t1_3 t1_4:Tok} (ka1:nsIn K Ao "OVER_making"=some (some (.ref pk1))) (kl1:K.lookup pk1=some ⟨.type "tuple",none,.seq [BS 1 t1_0,BS 3 t1_1,BS 0 t1_2,BS 4 t1_3,BS 2 t1_4].toArray nk1,slk1⟩)
  {pk2:Addr} {nk2:Nat} {slk2:Array (Option AK)} {t2_0 t2_1 t2_2:Tok} (ka2:nsIn K Ao "OVER_sumdances"=some (some (.ref pk2))) (kl2:K.lookup pk2=some ⟨.type "tuple",none,.seq [BS 0 t2_0,BS 2 t2_1,BS 1 t2_2].toArray nk2,slk2⟩)
  {pk3:Addr} {nk3:Nat} {slk3:Array (Option AK)} {t3_0 t3_1 t3_2 t3_3 t3_4:Tok} (ka3:nsIn K Ao "THERE"=some (some (.ref pk3))) (kl3:K.lookup pk3=some ⟨.type "tuple",none,.seq [BS 1 t3_0,BS 2 t3_1,BS 3 t3_2,BS 4 t3_3,BS 0 t3_4].toArray nk3,slk3⟩)
  {pd1 pd1a pd1b:Addr} {ep1 nd1a nd1b:Nat} {sd1a sd1b:Array (Option AK)} {td1a td1b u1_0_0 u1_0_1 u1_0_2 u1_1_0 u1_1_1 u1_1_2:Tok} (da1:nsIn K Ao "TURNS"=some (some (.ref pd1))) (dl1:K.lookup pd1=some ⟨.type "dict",none,.dict [⟨1,.int 1 td1a,.ref pd1a⟩,⟨2,.int 2 td1b,.ref pd1b⟩].toArray ep1,#[]⟩)
  (dl1a:K.lookup pd1a=some ⟨.type "tuple",none,.seq [BS 1 u1_0_0,BS 2 u1_0_1,BS 0 u1_0_2].toArray nd1a,sd1a⟩)
  (dl1b:K.lookup pd1b=some ⟨.type "tuple",none,.seq [BS 2 u1_1_0,BS 0 u1_1_1,BS 1 u1_1_2].toArray nd1b,sd1b⟩)
  {c0 P0:Addr} (tt:CO K "is_so"=some (c0,P0)) (th:Ca K c0 P0=true) (tc:cd38=.ref c0) :
  ∃ fd:C6,(∀ (s:Ab) (v:AK),Gc s fd ⟨[v],[]⟩ [("_law_script",v)])/\∀ base:Heap,K.In base->base.Ns Ao mg->wM l.prog w K mg base yd 27 fa fd ["_law_script"] (y8 K none 1 M8):=by
 have z_KC:=fX kc;have k_OVER_making:KV K mg "OVER_making" OD:=RU [1,3,0,4,2] (mg_of X G ka1) kl1 (.cons ⟨_,rfl⟩ (.cons ⟨_,rfl⟩ (.cons ⟨_,rfl⟩ (.cons ⟨_,rfl⟩ (.cons ⟨_,rfl⟩ (.nil)))))) (by show 5<=AD;decide);have k_OVER_sumdances:KV K mg "OVER_sumdances" Mm:=RU [0,2,1] (mg_of X G ka2) kl2 (.cons ⟨_,rfl⟩ (.cons ⟨_,rfl⟩ (.cons ⟨_,rfl⟩ (.nil)))) (by show 3<=AD;decide);have k_THERE:KV K mg "THERE" Nj:=RU [1,2,3,4,0] (mg_of X G ka3) kl3 (.cons ⟨_,rfl⟩ (.cons ⟨_,rfl⟩ (.cons ⟨_,rfl⟩ (.cons ⟨_,rfl⟩ (.cons ⟨_,rfl⟩ (.nil)))))) (by show 5<=AD;decide);have k_TURNS:KDV K mg "TURNS" N7:=jx 1 2 [1,2,0] [2,0,1] ∅ (mg_of X G da1) dl1 dl1a dl1b (.cons ⟨_,rfl⟩ (.cons ⟨_,rfl⟩ (.cons ⟨_,rfl⟩ (.nil)))) (.cons ⟨_,rfl⟩ (.cons ⟨_,rfl⟩ (.cons ⟨_,rfl⟩ (.nil)))) (by show 3<=AD;decide) (by show 3<=AD;decide) (λ_ _=>⟨rfl,rfl⟩);have F36:=Zr (st:=NC) l36 c36 k36;have b36:=F36.binds (ps:=["saying","questions","ring","most"]) (ds:=[]) dfl36 rfl λ_ _ _ _ _ _ us hl=>by obtain⟨_,_,_,_,rfl⟩:=AFc (show us.length=4 by simpa using hl);exact⟨_,rfl,rfl⟩
 have bd36:=F36.binds (ps:=["saying","questions","ring","most"]) (ds:=[BS 128 tdf36]) dfl36 rfl λ_ _ _ _ _ _ us hl=>by obtain⟨_,_,_,rfl⟩:=ADo (show us.length=3 by simpa using hl);exact⟨_,rfl,rfl⟩
 have m36:=mg_of X G a36;have F38:=XR (st:=MJ) l38 c38 k38;have b38:=F38.binds (ps:=["saying","answers"]) (by walk_at "b");have m38:=mg_of X G a38;have Y:∀ base,Hy l.prog w base K mg:=λ_=>{ w:=λi=>wT.at X G i,z:=λx e=>zT.at X G x e,k_OVER_making:=k_OVER_making,k_THERE:=k_THERE,z_KC:=z_KC,k_OVER_sumdances:=k_OVER_sumdances,k_TURNS:=k_TURNS,e_p_made:=⟨_,_,_,_,F36,m36,b36,bd36,.cons ⟨_,rfl⟩ .nil⟩,e_p_is_so:=⟨_,_,F38,m38,b38,⟨_,_,tc,tt,th⟩⟩ }
 exact pE ((Y h).w 63) hfa (λ_ _ _ _ _ _ _=>rfl) λf fd base Fn=>iP (Y base) Fn
def AHC{l:Eh}{q:Ah}{loose:List Str}{XP:(Str->Option AK)->Heap->Prop}{YP:A5->Heap->Prop}{d:DefRec}{K:Params->AY}(pure:∀ ns:List Int,ns.length<=63->M8 [.k (xK ns)]=some (.v (.a (.bl true)),[]))(hn:l.most=some 63)(hdf:d.params.defaults=[])
  (hY:∀ (w:A5) (h:Heap),YP w h->(K w.params).In h) {c0 P0:Addr} (hYP:∀ (w:A5) (h:Heap),YP w h->h.get? P0=some { cls:=.none,data:=.fields #[] }) (hT:∀ w:A5,CO (K w.params) "is_so"=some (c0,P0)) (hH:∀ w:A5,Ca (K w.params) c0 P0=true) (hNT:∀ w:A5,GP (K w.params)=true)
  (F:∀ (w:A5) (mg:Str->Option AK) (fa:Addr) (h:Heap),(K w.params).In h->h.Ns Ao mg->mg d.name=some (.ref fa) ->
   ∃ fd:C6,(∀ (s:Ab) (u:AK),Gc s fd ⟨[u],[]⟩ [("_law_script",u)])/\∀ base:Heap,(K w.params).In base->base.Ns Ao mg->wM l.prog w (K w.params) mg base yd 27 fa fd ["_law_script"] (y8 (K w.params) none 1 M8)) :
  Iq q loose XP YP l.row.toRowW d [] (λf vs=>Ht f vs):=
 D.AAc (n:=63) (k:=27) (x:="_law_script") (sp:=λK=>y8 K none 1 M8) hn ∅ hdf ⟨rfl,by decide,by decide,rfl⟩ hY hYP hT hH hNT F (λK H a ns hl h1 h2 h3=>my h1 h2 h3 (pure ns hl))
end Lw
open PySem PySem.W PyProof.Rows
namespace PySem.W.Fast
theorem tw5701553455837965058:True:=⟨⟩
theorem tw10680895120440765087:True:=⟨⟩
theorem tw3022756575580990060:True:=⟨⟩
theorem tw5431483318488616290:True:=⟨⟩
theorem tw8583376037115917449:True:=⟨⟩
theorem tw9766043315003586499:True:=⟨⟩
theorem tw1487237874507367612:True:=⟨⟩
theorem tw7174339703023983123:True:=⟨⟩
theorem tw8843714060225658554:True:=⟨⟩
theorem tw6763969857229532190:True:=⟨⟩
theorem tw15143087303934528901:True:=⟨⟩
theorem tw8033509960811396308:True:=⟨⟩
theorem tw3960654573190759932:True:=⟨⟩
theorem tw1321860020907709534:True:=⟨⟩
theorem tw4067931099633684788:True:=⟨⟩
theorem tw13877801515637814409:True:=⟨⟩
theorem tw6301441453372762395:True:=⟨⟩
theorem tw15878126346850421764:True:=⟨⟩
theorem tw15048158092504196850:True:=⟨⟩
theorem tw1231641400793882185:True:=⟨⟩
theorem tw17601344811832019866:True:=⟨⟩
theorem tw14600633364478660795:True:=⟨⟩
theorem tw1818035476724891751:True:=⟨⟩
theorem tw13548257345131498021:True:=⟨⟩
theorem tw1783359967851842207:True:=⟨⟩
theorem tw13146948953953681148:True:=⟨⟩
theorem tw10591802068632099626:True:=⟨⟩
theorem tw4420482155668289322:True:=⟨⟩
theorem tw16808915724090131968:True:=⟨⟩
theorem tw6968035894966910507:True:=⟨⟩
theorem tw15298044064249947516:True:=⟨⟩
theorem tw2703375146659693242:True:=⟨⟩
theorem tw10486332036698655817:True:=⟨⟩
theorem tw8951191228386454761:True:=⟨⟩
theorem tw18221796324881043868:True:=⟨⟩
theorem tw1858911866978808687:True:=⟨⟩
theorem tw13989532164006016191:True:=⟨⟩
theorem tw5835664521209555838:True:=⟨⟩
theorem tw11685369625394127729:True:=⟨⟩
theorem tw9685319750298847913:True:=⟨⟩
theorem tw4235255791527617710:True:=⟨⟩
theorem tw11382060190063646538:True:=⟨⟩
theorem tw7404664011162322597:True:=⟨⟩
theorem tw15893661728183965571:True:=⟨⟩
theorem tw3630038499767374206:True:=⟨⟩
theorem tw15993247955252944957:True:=⟨⟩
theorem tw4300113440887261391:True:=⟨⟩
theorem tw4681898656152559852:True:=⟨⟩
theorem tw7507101113182313446:True:=⟨⟩
theorem tw4448655545510218402:True:=⟨⟩
theorem tw7633098685023230518:True:=⟨⟩
theorem tw3872668040294900098:True:=⟨⟩
theorem tw3675264966431897656:True:=⟨⟩
theorem tw9747378762001275607:True:=⟨⟩
theorem tw8917581696108956465:True:=⟨⟩
theorem tw1990785574326541836:True:=⟨⟩
theorem tw231313378200558550:True:=⟨⟩
theorem tw7597491736599817847:True:=⟨⟩
theorem tw1420578445010194950:True:=⟨⟩
theorem tw13333531249926823487:True:=⟨⟩
theorem tw12951255601171043908:True:=⟨⟩
theorem tw16729865964342247045:True:=⟨⟩
theorem tw10877734058483125385:True:=⟨⟩
theorem tw9613491433630807937:True:=⟨⟩
theorem tw673501553156988265:True:=⟨⟩
theorem tw5339902433523992921:True:=⟨⟩
theorem tw5999777412174596553:True:=⟨⟩
theorem tw5003332617782646351:True:=⟨⟩
theorem tw741601081923331277:True:=⟨⟩
theorem tw9261391060701015555:True:=⟨⟩
theorem tw9661180077435796595:True:=⟨⟩
theorem tw11104453742775738608:True:=⟨⟩
theorem tw16902746678495458939:True:=⟨⟩
theorem tw8169136426880498168:True:=⟨⟩
theorem tw6301485153530726280:True:=⟨⟩
theorem tw17266097945923121522:True:=⟨⟩
theorem tw11008851832880922579:True:=⟨⟩
theorem tw7044977247475839660:True:=⟨⟩
theorem tw6802007529576629112:True:=⟨⟩
theorem tw18323758044217793438:True:=⟨⟩
theorem tw6535926294337562401:True:=⟨⟩
theorem tw13372425760311492028:True:=⟨⟩
theorem tw2847242804029225135:True:=⟨⟩
theorem tw10930767164134254121:True:=⟨⟩
theorem tw11578948832216203847:True:=⟨⟩
theorem tw1835813418141974582:True:=⟨⟩
theorem tw11235539109884763511:True:=⟨⟩
theorem tw17530955566493263189:True:=⟨⟩
theorem tw5674646157896977562:True:=⟨⟩
theorem tw785443585821389242:True:=⟨⟩
theorem tw11270242862274048973:True:=⟨⟩
theorem tw11672698243770132382:True:=⟨⟩
theorem tw17979351564903944378:True:=⟨⟩
theorem tw6242699807340526313:True:=⟨⟩
theorem tw5493385739865870773:True:=⟨⟩
theorem tw12170034303323912836:True:=⟨⟩
theorem tw9458010558891561864:True:=⟨⟩
theorem tw18346155229884133738:True:=⟨⟩
theorem tw16843732658528637834:True:=⟨⟩
theorem tw6145029479266555101:True:=⟨⟩
theorem tw10183080756828414867:True:=⟨⟩
theorem tw16084989420132190911:True:=⟨⟩
theorem tw16323330061010888396:True:=⟨⟩
theorem tw7417062800882508991:True:=⟨⟩
theorem tw2968772156288121941:True:=⟨⟩
theorem tw8463739901657903904:True:=⟨⟩
theorem tw5006899579611067597:True:=⟨⟩
theorem tw1883333502949568478:True:=⟨⟩
theorem tw4617070148645480312:True:=⟨⟩
theorem tw18067002771193024452:True:=⟨⟩
theorem tw10957173901617316127:True:=⟨⟩
theorem tw11170311990527815966:True:=⟨⟩
theorem tw1505352683658338297:True:=⟨⟩
theorem tw8220932439628626877:True:=⟨⟩
theorem tw41121808885410255:True:=⟨⟩
theorem tw18092025735914193438:True:=⟨⟩
theorem tw8297513372008163084:True:=⟨⟩
theorem tw18187984075290178183:True:=⟨⟩
theorem tw13086918267980673258:True:=⟨⟩
theorem tw6956578535984269991:True:=⟨⟩
theorem tw10677081411402745283:True:=⟨⟩
theorem tw9337718810373143998:True:=⟨⟩
theorem tw8283582769787661974:True:=⟨⟩
theorem tw15021150638846459830:True:=⟨⟩
theorem tw16786856301209655023:True:=⟨⟩
theorem tw8880608000083144236:True:=⟨⟩
theorem tw2357538538488227552:True:=⟨⟩
theorem tw14212486401243587234:True:=⟨⟩
theorem tw8260500040243835199:True:=⟨⟩
theorem tw12107917240470288298:True:=⟨⟩
theorem tw9212250522067341629:True:=⟨⟩
theorem tw10430647435564825653:True:=⟨⟩
theorem tw5345003271360997413:True:=⟨⟩
theorem tw18155859600388991973:True:=⟨⟩
theorem tw3199945345892984294:True:=⟨⟩
theorem tw12286562224009871763:True:=⟨⟩
theorem tw12294492349210157498:True:=⟨⟩
theorem tw9031129407180265485:True:=⟨⟩
theorem tw15815798605842248419:True:=⟨⟩
theorem tw12229544320286273243:True:=⟨⟩
theorem tw2972964720955656583:True:=⟨⟩
theorem tw11027308810325493709:True:=⟨⟩
theorem tw11491093587307449017:True:=⟨⟩
theorem tw3869609108220868525:True:=⟨⟩
theorem tw13753649415419980737:True:=⟨⟩
theorem tw7041685813226190590:True:=⟨⟩
theorem tw1191428521560140618:True:=⟨⟩
theorem tw795698887599015854:True:=⟨⟩
theorem tw14910612804449952939:True:=⟨⟩
theorem tw16049817432016322469:True:=⟨⟩
theorem tw10978980657785154275:True:=⟨⟩
theorem tw2246795530344209869:True:=⟨⟩
theorem tw8373339256696933965:True:=⟨⟩
theorem tw7041791424589938570:True:=⟨⟩
theorem tw6259271331048160668:True:=⟨⟩
theorem tw17281712518163601107:True:=⟨⟩
theorem tw2086333194009845593:True:=⟨⟩
theorem tw11024874616128697536:True:=⟨⟩
theorem tw5760620816926762684:True:=⟨⟩
theorem tw13868641888854188425:True:=⟨⟩
theorem tw11477268718743846276:True:=⟨⟩
theorem tw15714196791528071187:True:=⟨⟩
theorem tw13993262577665253420:True:=⟨⟩
theorem tw5195950310391188211:True:=⟨⟩
theorem tw8664349409250903237:True:=⟨⟩
theorem tw17859279697696788052:True:=⟨⟩
theorem tw4017703304574555676:True:=⟨⟩
theorem tw927244393550087955:True:=⟨⟩
theorem tw10090914176067044726:True:=⟨⟩
theorem tw5838894166811112017:True:=⟨⟩
theorem tw7606907086396359006:True:=⟨⟩
theorem tw1101523378731118917:True:=⟨⟩
theorem tw17802448151408092503:True:=⟨⟩
theorem tw5492213317319752307:True:=⟨⟩
theorem tw10492204190966533999:True:=⟨⟩
theorem tw11643118177585390004:True:=⟨⟩
theorem tw11166349452417592473:True:=⟨⟩
theorem tw13640518946221515250:True:=⟨⟩
theorem tw1504127567073374081:True:=⟨⟩
theorem tw11658642807845259202:True:=⟨⟩
theorem tw16028631154747440086:True:=⟨⟩
theorem tw135983918900097967:True:=⟨⟩
theorem tw5786389746993380338:True:=⟨⟩
theorem tw6184042119045978436:True:=⟨⟩
theorem tw5718646588443584247:True:=⟨⟩
theorem tw15279623635386909014:True:=⟨⟩
theorem tw3255010386312714851:True:=⟨⟩
theorem tw17995551077911430250:True:=⟨⟩
theorem tw13125616088280912178:True:=⟨⟩
theorem tw7662670505663938304:True:=⟨⟩
theorem tw10374058092648975954:True:=⟨⟩
theorem tw8110982975698301718:True:=⟨⟩
theorem tw12576952112212944372:True:=⟨⟩
theorem tw15087111426239949402:True:=⟨⟩
theorem tw2975513296764346462:True:=⟨⟩
theorem tw15044120056217538591:True:=⟨⟩
theorem tw15914777641854535964:True:=⟨⟩
theorem tw17012375370440859419:True:=⟨⟩
theorem tw822909898985787444:True:=⟨⟩
theorem tw10034426918296254611:True:=⟨⟩
theorem tw15403769762290305156:True:=⟨⟩
theorem tw1028072159652777058:True:=⟨⟩
theorem tw4413985989265794641:True:=⟨⟩
theorem tw18392630702498347018:True:=⟨⟩
theorem tw10503145528291403263:True:=⟨⟩
theorem tw3593991274045109067:True:=⟨⟩
theorem tw14609494493715411902:True:=⟨⟩
theorem tw14894512346154736123:True:=⟨⟩
theorem tw10732935351430425869:True:=⟨⟩
theorem tw7531006011755379378:True:=⟨⟩
theorem tw11800193441052492712:True:=⟨⟩
theorem tw2119217171971759629:True:=⟨⟩
theorem tw12375337442920604899:True:=⟨⟩
theorem tw4959277941937958849:True:=⟨⟩
theorem tw4746274316330678260:True:=⟨⟩
theorem tw17140298984914234529:True:=⟨⟩
theorem tw2276119214652264622:True:=⟨⟩
theorem tw578624235530058476:True:=⟨⟩
theorem tw4900579991124336121:True:=⟨⟩
theorem tw11152462890094220056:True:=⟨⟩
theorem tw12145296531805050280:True:=⟨⟩
theorem tw321934517723949150:True:=⟨⟩
theorem tw14619603479355598943:True:=⟨⟩
theorem tw14618858298612664244:True:=⟨⟩
theorem tw14435106712097591224:True:=⟨⟩
theorem tw14217475369039764975:True:=⟨⟩
theorem tw6210895594256003910:True:=⟨⟩
theorem tw9627521247164359462:True:=⟨⟩
theorem tw10924292449272461971:True:=⟨⟩
theorem tw217038938473028844:True:=⟨⟩
theorem tw8801462198618952035:True:=⟨⟩
theorem tw2676840939355286367:True:=⟨⟩
theorem tw11247394617595982086:True:=⟨⟩
theorem tw3950414528440080569:True:=⟨⟩
theorem tw9590135960044178145:True:=⟨⟩
theorem tw6201897962804465629:True:=⟨⟩
theorem tw8460623146840651843:True:=⟨⟩
theorem tw16762085431111735458:True:=⟨⟩
theorem tw16160996742344015577:True:=⟨⟩
theorem tw16332093288938185679:True:=⟨⟩
theorem tw16648198827877805902:True:=⟨⟩
theorem tw12237746117741283451:True:=⟨⟩
theorem tw1265690713382907211:True:=⟨⟩
theorem tw15149947647129896005:True:=⟨⟩
theorem tw364670692639165285:True:=⟨⟩
theorem tw365571808111516824:True:=⟨⟩
theorem tw7086874179010046988:True:=⟨⟩
theorem tw1685305148789989599:True:=⟨⟩
theorem tw7799286543650423476:True:=⟨⟩
theorem tw15788666295255411872:True:=⟨⟩
theorem tw14648092609549063385:True:=⟨⟩
theorem tw17699863167365810598:True:=⟨⟩
theorem tw17366876424285321531:True:=⟨⟩
theorem tw447024476801418884:True:=⟨⟩
theorem tw10402750056472912682:True:=⟨⟩
theorem tw6643136480563082064:True:=⟨⟩
theorem tw3850072285306672393:True:=⟨⟩
theorem tw5702442232901963835:True:=⟨⟩
theorem tw11950661219920727275:True:=⟨⟩
theorem tw11390347325460962809:True:=⟨⟩
theorem tw18143537730443511528:True:=⟨⟩
theorem tw10367013799957393995:True:=⟨⟩
theorem tw16461336921524211303:True:=⟨⟩
theorem tw7354216696477224856:True:=⟨⟩
theorem tw12429702096344139441:True:=⟨⟩
theorem tw6512769921610853639:True:=⟨⟩
theorem tw14636514456087090005:True:=⟨⟩
theorem tw2126459835792227370:True:=⟨⟩
theorem tw1624003203620683566:True:=⟨⟩
theorem tw16432407813612969028:True:=⟨⟩
theorem tw17448585287397425634:True:=⟨⟩
theorem tw3253684165664451288:True:=⟨⟩
theorem tw5857271644458788373:True:=⟨⟩
theorem tw2766507965775449016:True:=⟨⟩
theorem tw13322342701595523629:True:=⟨⟩
theorem tw6693193609846005544:True:=⟨⟩
theorem tw4183055603651649057:True:=⟨⟩
theorem tw3583189522593596113:True:=⟨⟩
theorem tw12589773601800928692:True:=⟨⟩
theorem tw2153053239436764257:True:=⟨⟩
theorem tw3604646491411681744:True:=⟨⟩
theorem tw12252281163338090168:True:=⟨⟩
theorem tw12477701149585313033:True:=⟨⟩
theorem tw7083989275572666459:True:=⟨⟩
theorem tw8093130656804835627:True:=⟨⟩
theorem tw5217357964026092505:True:=⟨⟩
theorem tw3509349429201924394:True:=⟨⟩
theorem tw464548015940256409:True:=⟨⟩
theorem tw18218828887665405714:True:=⟨⟩
theorem tw14886398805305713882:True:=⟨⟩
theorem tw7101903007425291044:True:=⟨⟩
theorem tw10215416217694062525:True:=⟨⟩
theorem tw5739950981355385922:True:=⟨⟩
theorem tw15910795380670795995:True:=⟨⟩
theorem tw9631711221420186587:True:=⟨⟩
theorem tw7248553974604475284:True:=⟨⟩
theorem tw30372219137747913:True:=⟨⟩
theorem tw12939877299616150051:True:=⟨⟩
theorem tw4467751967953623560:True:=⟨⟩
theorem tw16760840080335985439:True:=⟨⟩
theorem tw12350356786479763343:True:=⟨⟩
theorem tw7643003395027371167:True:=⟨⟩
theorem tw8427690454529827946:True:=⟨⟩
theorem tw7763384499381628626:True:=⟨⟩
theorem tw8600049276619137044:True:=⟨⟩
theorem tw8594697155329112449:True:=⟨⟩
theorem tw12928627397482459792:True:=⟨⟩
theorem tw17293768958323455148:True:=⟨⟩
theorem tw7946122231738420300:True:=⟨⟩
theorem tw15128492155341995581:True:=⟨⟩
theorem tw5814502569814978050:True:=⟨⟩
theorem tw10495346805905664679:True:=⟨⟩
theorem tw17525474232292382410:True:=⟨⟩
theorem tw4934748154213985245:True:=⟨⟩
theorem tw18190481836120430763:True:=⟨⟩
theorem tw2980144260055642673:True:=⟨⟩
theorem tw9442880627368642013:True:=⟨⟩
theorem tw3317908022051158482:True:=⟨⟩
theorem tw12576401980019154542:True:=⟨⟩
theorem tw14312989371725266652:True:=⟨⟩
theorem tw1361936249607570054:True:=⟨⟩
theorem tw9254233969557161935:True:=⟨⟩
theorem tw8801275148033360126:True:=⟨⟩
theorem tw8872885004254226437:True:=⟨⟩
theorem tw6439540665096722703:True:=⟨⟩
theorem tw412224076082662167:True:=⟨⟩
end PySem.W.Fast
set_option maxRecDepth 100000 in
set_option maxHeartbeats 0 in
theorem PySem.Challenge.cw_fivecups_k66_whole_three_cups_and_five_holds : PySem.Challenge.rw_fivecups_k66_whole_three_cups_and_five.Holds := by
 w_on;o_law;k_head;(case hw=>w_witness2)
 k_fill
 refine' Lw.AHC (l:=PySem.Challenge.rw_fivecups_k66_whole_three_cups_and_five) Lw.AAd rfl rfl (λw h Y=>PySem.W.km_in_of Y) (λw h Y=>PySem.W.km_tabs_of Y _ (List.Mem.head _)) ?hT ?hH ?hNT ?F
 case hT=>(intro w;refine' Lw.AAk ?a ?l ?c ?v;(case a=>k_is);(case l=>k_is);(case c=>k_is);(case v=>rfl))
 case hH=>(intro w;kernel_rfl)
 case hNT=>(intro w;kernel_rfl)
 case F =>
  intro w mg fa h KX G hmg;refine' Lw.ACy KX G hmg ?wT ?zT ?dfl36 ?a36 ?l36 ?c36 ?k36 ?a38 ?l38 ?c38 ?k38 ?kc ?ka1 ?kl1 ?ka2 ?kl2 ?ka3 ?kl3 ?da1 ?dl1 ?dl1a ?dl1b ?tt ?th ?tc
  (case wT=>repeat' (first | exact trivial | (refine' D.wrK ?a ?l ?c ?k;(case a=>k_is);(case l=>k_is);(case c=>k_is);(case k=>k_is)) | refine⟨?_,?_⟩))
  (case zT=>repeat' (first | exact trivial | refine⟨?_,?_⟩ | k_is))
  (case a36=>k_is);(case l36=>k_is);(case c36=>k_is);(case k36=>k_is)
  (case a38=>k_is);(case l38=>k_is);(case c38=>k_is);(case k38=>k_is)
  (case dfl36=>k_is)
  (case ka1=>k_is);(case kl1=>k_is)
  (case ka2=>k_is);(case kl2=>k_is)
  (case ka3=>k_is);(case kl3=>k_is)
  (case da1=>k_is);(case dl1=>k_is);(case dl1a=>k_is);(case dl1b=>k_is)
  (case kc=>kernel_rfl)
  (case tt=>refine' Lw.AAk ?a ?l ?c ?v;(case a=>k_is);(case l=>k_is);(case c=>k_is);(case v=>rfl));(case th=>kernel_rfl);(case tc=>rfl)
