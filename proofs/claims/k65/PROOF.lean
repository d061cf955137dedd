import PyProof.Rows.All
import Wide.All
import OpenK.AllK
import Wide.FinOn
import Lean
import PyProof.EqAt
import PyProof.EqKinds
import PyProof.TupleCall
import PySem.Challenge.RW_fivecups_k65_whole_words_of_made_dances
open Array renaming getElem?_eq_getElem->Al,length_toList->Au,toList_append->BD,toList_push->DM,toList_reverse->De,toList_inj->ER,getElem?_toList->Ej,getD_eq_getD_getElem?->Fx,toArray_toList->HJ,getD->Hh,toList_map->IJ,size_map->Ir,toList->JF
open Bool renaming false_ne_true->AZ,and_eq_true->Ar,or_eq_true->Cc,eq_iff_iff->Ee,eq_false_iff->FX,true_and->Gs
open Classical renaming byContradiction->Dm,propDecidable->D4
open False renaming elim->C7
open ForInStep renaming yield->Cy
open Function renaming comp_def->HR,comp->IU
open Int renaming toNat_natCast->Co,emod_lt_of_pos->FV,emod_nonneg->GH,le_max_left->JD,sub_zero->J0,le_refl->KY
open List renaming mem_singleton->AD,range->AE,mem_cons_self->AH,mem_cons_of_mem->AI,all_eq_true->AJ,mem_cons->AN,getElem?_set_ne->AO,getElem?_eq_getElem->AU,map_cons->AY,replicate->Aa,mem_append_right->Ab,getElem?_eq_some_iff->Ac,size_toArray->Ad,length_map->Af,getElem?_map->Ak,getElem?_set_self->Am,mem_map->Ao,getD_eq_getElem?_getD->Aw,mem_append->A6,length_append->A8,take_of_length_le->BA,mem_append_left->BB,append_assoc->BC,nodup_cons->BI,getElem?_append_left->BK,pairwise_iff_getElem->BL,mem_range->BN,map_append->Bj,mem_filter->Bu,append_nil->Bv,pairwise_cons->Bz,any_eq_true->B3,map_nil->B4,map->B9,idxOf_lt_length_iff->CK,getElem_of_mem->CN,reverse_append->CO,length_cons->CP,length_nil->Ca,any_cons->Cd,getElem?_eq_none->Ce,getElem?_append_right->Cs,length_eraseIdx_of_lt->Cu,length_take->Cw,lookup_cons->Cz,ext_getElem->C0,replicate_succ->C3,length_pos_iff->C4,length_eq_zero_iff->DB,drop_of_length_le->DN,eraseIdx_eq_take_drop_succ->DV,contains_iff_mem->DY,nodup_range->DZ,mem_reverse->Da,mem_of_getElem?->Df,foldl_cons->Di,map_congr_left->Dl,toArray->Dt,getLast?_eq_none_iff->D6,range'->D9,getElem?_take_of_lt->EB,all_cons->EC,getElem_mem->ET,Nodup->Ea,map_map->Ec,nil_append->Ef,forIn_cons->Eg,dropLast_eq_take->Em,getElem?_reverse->Ep,pairwise_reverse->Er,pairwise_append->E6,mem_of_getLast?->E7,filterMap_cons->FB,toList_toArray->FH,set_comm->FI,foldl->FM,findIdx?_eq_some_iff_getElem->FT,length_range->FY,nodup_append->Fc,drop_sublist->Fd,length_drop->Fe,zipIdx_cons->Ff,mem_eraseIdx_iff_getElem?->Fj,countP_cons->Fl,not_mem_nil->Fp,of_mem_zip->Fv,length_zip->Fw,find?_cons->Fz,drop_zero->GM,nodup_nil->GN,perm_ext_iff_of_nodup->GR,getElem?_zip_eq_some->Gc,drop_eq_getElem_cons->Ge,mem_of_find?_eq_some->Gi,length_erase_of_mem->Gu,getElem?_replicate->G4,pairwise_singleton->G8,length_singleton->HI,mem_of_mem_erase->HM,take_append_drop->HN,length->HS,reverse_reverse->HW,mem_erase_of_ne->HY,dropLast_subset->HZ,mem_filterMap->Hk,zip_nil_right->Hl,zip_cons_cons->Hm,getElem_idxOf->Ho,getElem?_drop->Hs,map_inj_left->IC,getElem?_set->IE,mapM_toArray->IK,pairwise_map->IL,ext_getElem?->IM,reverse_perm->IP,drop_reverse->IQ,flatMap_cons->IT,drop_length->IY,all_toArray->Ib,mem_flatMap->Ie,zipIdx_nil->Il,find?_some->Iq,forIn_nil->Iw,take_succ->JC,take_add->JP,getD->Kx,all->LG
open List.Nodup renaming not_mem_erase->LH
open List.Pairwise renaming nil->Jv,imp->J2
open List.Perm renaming eq_of_pairwise->Ft,length_eq->Gx,trans->HX,swap->LR,append_left->LS,nodup_iff->LV,symm->LY
open List.cons renaming inj->LW
open Nat renaming le_refl->AF,lt_of_lt_of_le->AW,ne_of_lt->Ag,le_trans->Ah,zero_le->As,lt_irrefl->BE,zero_add->BU,le_add_right->Ba,ne_of_gt->Bk,lt_or_ge->Bt,lt_succ_self->CT,le_of_lt->CY,lt_succ_of_lt->DP,mul_le_mul_left->Du,le_of_succ_le->ED,ble->Eh,le_of_ble_eq_true->Ex,ble_eq_true_of_le->Ey,le_max_right->Fu,le_max_left->GI,add_sub_cancel_left->HD,sub_zero->HK,testBit_two_pow->Ht,not_lt->H9,lt_of_le_of_lt->IH,lt_or_gt_of_ne->IS,one_shiftLeft->Ig,min_eq_left->I0,le_of_eq->Jw,lt_trans->Jx,le_succ->KP,mod_lt->Ky
open Ne renaming symm->Ax
open Option renaming bind_some->Ai,isSome_iff_exists->Bc,mem_toList->Hd,isSome_map->Hg,some_inj->IR,none_or->IZ,map->Jf
open Option.some renaming inj->Av,injEq->BZ
open Or renaming inr->Dr,inl->Eo
open PyProof.Rows renaming callWith_type1->A7,SortSt->Bh,slot_tuple_getitem->Bp,IntsAre->Bx,Keyed->B5,seqObj->B6,assignInOrder_cons->Cf,SortKind->Cr,pendingOf->DX,kindOf->Dd,boot_tuple->Dn,boot_range->Ds,failedOf->EO,AllBare->EW,IsTup->E9,get?_update_seq->FG,envOfC->FP,boot_list->Fk,listUpdate_at->Fo,assignInOrder_nil->F7,arrOf->Gv,seqEpoch_at->Gw,Call_->Hj,subscriptTail_builtinR->Hx,listItems_at->II,keyKind'->Ip,entry_tuple_getitem->Iv,getElem?_mirror_all->JB,args_tuple_getitem->JG,Subscript_->JH,keyLt'->JN,setPending->JQ,unpackItems_tuple->JV,len_tuple->Ju,callWith_builtin1->KN,lt_int->KO,entry_list_sort->KR,boot_tuple->KS,getItem_tuple->KU,boot_dict->Kc,list_sort_plain->Kd,slicePart_none->Kk,slot_list_sort->Kr,args_list_sort->Ks,tupleItemsOf_->K1,boot_reversed->LI,plain_sorted->LO,entry_sorted->LP,args_sorted1->LQ,minRun'_succ->LX
open PyProof.Rows.IsTup renaming new->J4
open PyProof.Rows.LSm renaming kept_iter->G7
open PyProof.Rows.SortSt renaming mk'->HV
open PySem renaming wpAny_bind->AA,sizeLine->AC,wpAny_pure->AG,Value->AL,wpAny->AQ,Shared->AR,starEach->AV,Program->Aj,wpAny_field->Ap,wpAny_call_entry->Ay,wpAny_callSpecial?_slot->Az,mainGlobals->A0,wpAny_setField_rec->A4,World->A5,wpAny_newObj_type->A9,Around->BG,wpAny_mono->BH,sizeLine_eq->BJ,compareOp->BO,cellsFrom->BP,wpAny_holding->BQ,mem_of_lookup->Bb,wpAny_truthy_bool->Bi,behindInMarks->Bl,wpAny_seqItems->Bm,sysModules->Bw,wpAny_attempt->B7,wpAny_of_eq->B8,backTo->CB,assignEach->CC,bootBuiltins->CD,wpAny_isInstance->CJ,wpAny_specialOf->CL,foldedSetIterable->CM,wpAny_rule->CS,binaryOp->CZ,wpAny_pyIter_tuple->Ci,PyData->Ck,wpAny_passesOwn->Cq,attributeBase->Ct,call_meets->C5,wpAny_typeOf->C8,swapsWithSole->DG,swappedStores->DH,IsPair->DQ,cLine->DU,FuncData->Dc,swapsWith->Dj,Keyword->Do,ItemsOf->Dp,plainId_quiet->Dq,sliceBounds->Dw,rawInt->Dy,codeAny_builtin->D3,codeAny->D7,Paired->EG,wpAny_bindName->EH,wpAny_Call_Name_kw->EI,wpAny_newTuple->EK,isSubtype_stop->EM,tupleKind_room_in1->EN,getItem->EY,keywordEach->EZ,wpAny_standAt->Ed,tupleKind->Es,Scope->Et,DictEntry->Ew,pyNext->E8,wpAny_execs_nil->FC,typeLookup_type->FE,IsPart->FQ,wpAny_updateSeq_pair->FS,wpAny_pyIter_revIter->FU,seqIndex?->FW,wpAny_onRaise->Fh,wpAny_newList->Fi,typeLookup->Fq,BindsTo->F8,bindArgs->F9,codeAny_mono->GA,backToKw->GC,callerA->GD,compEnvC->GE,callType_new->GF,wpAny_pyIter_list->GG,KeyKind->GT,wpAny_eqBool_int->GU,pyIter->GW,noFill_tuple_add->GZ,typeOf->Ga,pushCells->Gb,entryFor_of_tree->Gf,seqIndex_of->Gn,wpAny_letGo->Gq,wpAny_mkInt->Gr,letOwnedTupleGo->G0,wpAny_loadPart'->G5,pushCells_keeps->G6,wpAny_ite_split->G9,wpAny_updateSeq->HA,valueAt->HB,builtinsNs->HG,entryFor->HL,callType_codes->HP,seq_tuple_add->Ha,call->Hb,wpAny_handled->Hc,signature?_of->Hf,PassesOwn->Hi,IsZip->Hn,atKey->Hq,isTrue->Hu,concat_meets->Hv,seqIndex_neg->Hw,wpAny_Call_method_late->Hz,argsOk->IF,wpAny_isTrue_Compare1->IV,wpAny_notOrdered_dict->Ia,bindL->Ih,bindC->Ii,Meets->Ij,wpAny_throw->Ik,Reads->Io,wpAny_Name->JE,typeIs_int->JI,call_reversed_list->JO,setItem->JT,standAt->JU,wpAny_sequenceKey->JW,slot_list_getitem->JY,init_tuple_lookup->Jb,wpAny_pyIter_enum->Jc,wpAny_pyIter_slot->Jd,argBest->Je,wpAny_execs_cons->Jg,small_one->Jh,wpAny_forIn_list->Jq,seqItems?->Jy,recursionLimit->Kj,fitsIndex_both->Kl,NameKind->Km,newFunctionEnv->Kn,wpAny_setField->Ko,sub_tuple_self->Kp,madeHere_tuple->Kq,ReadsAll->Kt,IsEnum->Ku,isSubtype_type->Kv,entryFor_alias->Kw,rangeSize_one->Kz,intBits_le_64->K0,call_range_1->LJ,call_range_2->LK,call_meetsIn->LU
open PySem.Around renaming under_plainId->El
open PySem.AutoListH renaming list___mul___list_int_3->LN
open PySem.Builtin.Dict renaming showsAll->Fs,updateFrom->Kb,dictSlotNone->Ke
open PySem.Builtin.List renaming listTooLong->Cm,listLengthHint->DW,listFitsIndex->FO,listSameRef->FZ,listExtendWith->Kh
open PySem.Builtin.Range renaming rangeSize->CG,small->EL,rangePlace?->FN
open PySem.Builtin.Slice renaming slicePlaces->Cb,sliceAdjust->FL,slicePartIndex->Js,sliceApplied->Jt
open PySem.Builtin.SmallTypes renaming nextOf->Aq,ownedTupleIsFree->BV,ownedTupleHandOut->CU,newRecord->Eb
open PySem.Builtin.Tuple renaming tupleExact->Dh,tupleItemsOf->FJ,tupleCompareSizes->Jr
open PySem.Calls renaming spliced_nil->DJ,callWith_builtin->DK,spliced_cons->Dv,evalArgs_plain->Eu,Name_function_global->F6,call_function_entry->GL
open PySem.CmpOp renaming NotIn->JS,In->Ki
open PySem.EqMixed renaming eq_bool_str->Ji,eq_int_str->Jj,eq_str_bool->Jk,eq_str_int->Jl,ne_bool_str->Jm,ne_int_str->Jn,ne_str_bool->Jo,ne_str_int->Jp
open PySem.EqNone renaming eq_none_none->J5,eq_none_bool->J6,eq_none_int->J7,eq_none_str->J8,eq_bool_none->J9,eq_int_none->KA,eq_str_none->KB,ne_none_none->KD,ne_none_bool->KE,ne_none_int->KG,ne_none_str->KH,ne_bool_none->KI,ne_int_none->KJ,ne_str_none->KM
open PySem.F renaming slot_dict_keyiterator_next->Bg,slot_tuple_iterator_next->C2,slot_enumerate_next->Dg,args_tuple_add_2->Dz,entry_tuple_add->D8,plainAttrs_list->EA,slot_tuple_add->EJ,slot_tuple_lt->EU,slot_dict_get->EV,slot_zip_getattribute->Ei,called_tuple->Ek,args_dict_keyiterator_next_1->Ez,slot_zip_next->E4,entry_dict_keyiterator_next->E5,args_object_init_2->FK,plain_extend_loop->Fy,args_tuple_lt_2->GK,slot_list_count->GO,args_dict_get_2->GP,plain_tuple_new->GQ,entry_tuple_lt->GY,args_tuple_iterator_next_1->Gd,entry_dict_get->Gg,slot_dict_iter->Gh,entry_tuple_iterator_next->Gp,slot_list_pop->Gy,type_list_pop->Gz,args_enumerate_next_1->HU,entry_enumerate_next->He,slot_range_contains->Hr,slot_tuple_getitem->IG,plain_list_iadd->Iy,args_zip_next_1->JA,entry_list_pop->JJ,entry_zip_next->JM,slot_list_pop->JZ,slot_int_rmul->Ja
open PySem.Heap renaming get?_push_of_some->AB,get?_push_size->AK,lt_size->AM,size_push->BW,get?_update_other->Bs,get?_update_self->CF,SameBut->Cv,ExtBut->E3
open PySem.Heap.DictOf renaming new->HC
open PySem.Heap.IsSliceOf renaming new->JX
open PySem.Heap.IsTuple renaming push->KQ
open PySem.Heap.SameBut renaming update->Bn,refl->KZ
open PySem.IsL renaming update->LM
open PySem.NameKind renaming free->Bo,cell->By
open PySem.Obj renaming mapSeq->BM,data_mapFields->IA
open PySem.Paired renaming length->D5,snoc->JL
open PySem.PassesOwn renaming never->EF
open PySem.PyData renaming canLayAll0->An,eqv->BF,canLay0->Bd,depthAll->Bf,eqvAll->B0,int->Cp,depth->DC,bool->HE,list->JK
open PySem.ReadsAll renaming cons->ID
open PySem.SeqAt renaming EqAt->GB
open PySem.SeqAt.EqAt renaming int_str->Gj,str_int->Gk,int_int->Gm,same->K2,none_bool->K3,none_int->K4,none_str->K5,bool_none->K6,bool_bool->K7,bool_int->K8,bool_str->K9,int_none->LA,int_bool->LB,str_none->LC,str_bool->LD,str_str->LF
open PySem.Str renaming ofString_eq_toList->HQ,ofString->J1
open PySem.Value renaming ref->Br,int->CA,none->CV,type->C6,bool->F5,isStrOf->Iu,isInt->JR,str->J3
open PySem.W renaming Frag->Ae,fnOf->Be,keepIn->Bq,nsIn->CH,codeIn->Cg,cellsFrom_some->C9,kas_sort->DR,OpenLaw->ES,callWith_K->HH,kitOne->IB,WalkO->IW,mg_of->Ic
open PySem.Walks renaming list->Jz
open Std.Legacy.Range renaming forIn_eq_forIn_range'->Iz
open Subtype renaming ext->CQ,val->Dx
open Sum renaming inl->GJ,inr->HF
open True renaming intro->CW
set_option compiler.extract_closed false
local macro_rules | `(⋯) => `((by lia))
local macro_rules | `(∅) => `((by decide))
def sL(n:Nat)(h:n<=99:=by decide):n<=AC:=Nat.le_trans h (by decide)
local macro_rules | `(~~~[$xs,*]) => `(some (.l [$xs,*])) | `(~~~$x) => `(some (.v $x))
local macro_rules | `(⇑$x) => `(.a (.int $x))
local macro_rules | `(↥$x) => `(some (.nx $x))
local macro_rules | `(↥6) => `(by walk_at "s")
local macro_rules | `(↥1) => `(by simp)
local macro_rules | `(↥2) => `(by simp;lia)
local macro_rules | `(↥3) => `(by walk_at "x")
local macro_rules | `(↥4) => `(by decide +kernel)
local macro_rules | `(↥5) => `((λ_=>⟨rfl,by kernel_rfl⟩))
set_option Elab.async false
set_option linter.all false
set_option maxRecDepth 100000
namespace L2
open PySem PySem.Spec PyProof.Rows
abbrev tu:=Sum Int Str
def xW:tu->AL->Bool
 | .inl k,v=>JR k v
 | .inr x,v=>Iu x v
def AFU (w:A5):tu->Int
 | .inl k=>hashInt k
 | .inr x=>hashStr w x
theorem Mb:∀ {k v},xW k v=true->(∃ i t,k=GJ i/\v=CA i t)\/(∃ x t,k=HF x/\v=J3 x t)
 | .inl i,v,h=>by
  obtain⟨t,e⟩:=Value.isInt_shape h;exact .inl ⟨i,t,rfl,e⟩
 | .inr x,v,h=>by
  obtain⟨t,e⟩:=Value.isStrOf_shape h;exact .inr ⟨x,t,rfl,e⟩
def j5 i t:xW (.inl i) (.int i t)=true:=by simp[xW,JR]
def YN x t:xW (.inr x) (.str x t)=true:=by simp[xW,Iu]
def YJ a b:decide ((GJ a:tu)=GJ b)=(a == b):=by
 by_cases e:a=b
 ·subst e;simp
 ·simp_all
def kj a b:decide ((HF a:tu)=HF b)=decide (a=b):=↥1
def jg a b:decide ((GJ a:tu)=HF b)=false:=rfl
def Yc a b:decide ((HF a:tu)=GJ b)=false:=rfl
def si (prog:Aj) (w:A5):GT prog w tu where
 is:=xW
 hash:=AFU w
 inj:=λv a b ha hb=>by
  rcases Mb ha with ⟨i,t,rfl,rfl⟩ | ⟨x,t,rfl,rfl⟩
  ·rcases Mb hb with ⟨j,u,rfl,e⟩ | ⟨y,u,rfl,e⟩
   ·injection e with e1 _;rw[e1]
   ·exact nomatch e
  ·rcases Mb hb with ⟨j,u,rfl,e⟩ | ⟨y,u,rfl,e⟩
   ·exact nomatch e
   ·injection e with e1 _;rw[e1]
 byValue:=λk v h=>by
  rcases Mb h with ⟨i,t,rfl,rfl⟩ | ⟨x,t,rfl,rfl⟩ <;> rfl
 pyHash:=λhv h=>by
  rcases Mb hv with ⟨i,t,rfl,rfl⟩ | ⟨x,t,rfl,rfl⟩
  ·exact wpAny_pyHash_int h
  ·exact wpAny_pyHash_str h
 eqBool:=λhu hv h=>by
  rcases Mb hu with ⟨i,t,rfl,rfl⟩ | ⟨x,t,rfl,rfl⟩
  ·rcases Mb hv with ⟨j,u,rfl,rfl⟩ | ⟨y,u,rfl,rfl⟩
   ·rw[YJ]at h;exact GU h
   ·rw[jg]at h;exact Gj i t y u _ _ _ _ h
  ·rcases Mb hv with ⟨j,u,rfl,rfl⟩ | ⟨y,u,rfl,rfl⟩
   ·rw[Yc]at h;exact Gk x t j u _ _ _ _ h
   ·rw[kj]at h;exact wpAny_eqBool_str h
 «strs»:=λk x t v h=>by
  rcases Mb h with ⟨i,u,rfl,e⟩ | ⟨y,u,rfl,e⟩
  ·exact nomatch e
  ·injection e with e1 _;subst e1;cases v <;> rfl
def el prog w i t:(si prog w).is (.inl i) (.int i t)=true:=j5 i t
def Zw prog w x t:(si prog w).is (.inr x) (.str x t)=true:=YN x t
inductive V where
 | non | bl (b:Bool) | int (i:Int) | str (x:Str) | byt (b:Array UInt8) | flt (b:UInt64) | ref (a:Addr) | ty (n:String)
 deriving DecidableEq
def RelV:V->AL->Prop
 | .non,u=>u=CV
 | .bl b,u=>u=F5 b
 | .int i,u=>∃ t,u=CA i t
 | .str x,u=>∃ t,u=J3 x t
 | .byt b,u=>∃ t,u=Value.bytes b t
 | .flt b,u=>∃ t,u=Value.float b t
 | .ref a,u=>u=Br a
 | .ty n,u=>u=C6 n
abbrev sP:List V->List AL->Prop:=EG RelV
theorem sP.length{us}(r:sP xs us):xs.length=us.length:=D5 r
theorem sP.get:∀ {xs us} {i:Nat} {x},sP xs us->xs[i]?=some x->∃ u,us[i]?=some u/\RelV x u
 | _,_,_,_,.nil,e=>by simp at e
 | _,_,0,_,.cons r _,e=>by simp at e;subst e;exact⟨_,rfl,r⟩
 | _,_,i+1,x,.cons _ t,e=>by
  obtain⟨u,h1,h2⟩:=sP.get t ‹_›;exact⟨u,by simpa using h1,h2⟩
theorem sP.set{u}(r:RelV x u):∀ {xs us} i,sP xs us->sP (xs.set i x) (us.set i u)
 | _,_,_,.nil=>.nil
 | _,_,0,.cons _ t=>.cons r t
 | _,_,i+1,.cons q t=>.cons q (sP.set r i t)
theorem sP.append:∀ {xs ys us ws},sP xs us->sP ys ws->sP (xs++ys) (us++ws):=by
 intro _ _ _ _ h h';induction h with
 | nil=>exact h'
 | cons r _ ih=>exact .cons r ih
theorem sP.take:∀ {xs us} n,sP xs us->sP (xs.take n) (us.take n)
 | _,_,0,_ | _,_,_+1,.nil=>.nil
 | _,_,n+1,.cons r t=>.cons r (sP.take n t)
theorem sP.drop:∀ {xs us} n,sP xs us->sP (xs.drop n) (us.drop n)
 | _,_,0,r=>r
 | _,_,_+1,.nil=>.nil
 | _,_,n+1,.cons _ t=>sP.drop n t
def wX:Option V->Option AL->Prop
 | some v,some u=>RelV v u
 | none,none=>True
 | _,_=>False
def KV:List (κ×V)->List (κ×AL)->Prop:=EG λp q=>p.1=q.1/\RelV p.2 q.2
def kV:tu->V
 | .inl i=>.int i
 | .inr x=>.str x
inductive HO where
 | lst (xs:List V)
 | tup (xs:List V)
 | dK (kvs:List (tu×V)) | dT (kvs:List (List tu×V))
 | set (S:Int->Bool) (n:Nat)
 | ins (C dx:Addr) (fs:List (Str×V))
 | own (x:Addr)
 | xd (fs:List (Str×V))
 | met (f x:Addr)
 | rng (lo hi:Int)
 | frz (o:Obj) (u:HO)
 | tbl (ps:Array AL)
 | ext (φ:Heap->Prop)
abbrev Hp:=Addr->Option HO
def upd (H:Hp) (a:Addr) (o:HO):Hp:=λb=>if b=a then some o else H b
def Ln{a o}:upd H a o a=some o:=by unfold upd;rw[if_pos rfl]
def Lc{a b o}(h:b≠a):upd H a o b=H b:=by unfold upd;rw[if_neg h]
def Rw{H:Hp}{a b o u}(h:H a=some o)(h':H b=some u)(d:o≠u):a≠b:=by
 intro e;subst e;rw[h]at h';exact d (Av h')
def Lo{H:Hp}{a b o}(h:H a=some o)(h':H b=none):a≠b:=by
 intro e;subst e;rw[h]at h';cases h'
def wm (h:Heap) (a:Addr) (items:Array AL):Prop:=∃ o,h.get? a=some o/\o.cls=.type "tuple"/\(∃ n,o.data=.seq items n)/\o.dict=none
def wm.tup{items}(x:wm h a items):E9 h a items:=let ⟨o,e,c,d,_⟩:=x;⟨o,e,c,d⟩
def wm.lt{a items}(x:wm h a items):a < h.objs.size:=let ⟨_,e,_⟩:=x;AM e
def wm.new(h:Heap) items:wm (h.push { cls:=.type "tuple",data:=.seq items }) h.objs.size items:=⟨_,AK _ rfl,rfl,⟨_,rfl⟩,rfl⟩
section
variable (P:Aj)(w:A5)
def tG (H:Hp) (h:Heap) (a:Addr):HO->Prop
 | .lst xs=>xs.length<=AC/\∃ (its:List AL) (n:Nat),sP xs its/\h.get? a=some { cls:=.type "list",data:=.seq its.toArray n }
 | .tup xs=>xs.length<=AC/\∃ its,sP xs its/\wm h a its.toArray
 | .dK kvs=>kvs.length<=AC/\(a == Bw)=false/\∃ vs,KV kvs vs/\h.DictOf (si P w) a vs
 | .dT kvs=>kvs.length<=AC/\(a == Bw)=false/\∃ xs,
   EG (λp q=>p.1=q.1/\H q.2.1=some (.tup (p.1.map kV))/\RelV p.2 q.2.2) kvs xs /\
   ∃ o es ep,h.get? a=some o/\o.ExactDict/\o.data=.dict es ep/\es.toList=xs.map (entryOfKey (Es (si P w)))/\(xs.map (·.1)).Nodup
 | .set S n=>h.SetOf (intKind P w) a S n
 | .ins C dx fs=>H dx=some (.own a)/\fs.length<=1000/\dx≠a/\h.get? a=some (PySem.W.instObj C dx) /\
   ∃ mA,h.Ns1 dx mA/\(∀ f,wX (fs.lookup f) (mA f))/\PySem.Within mA (fs.map (·.1))
 | .own _=>∃ o,h.get? a=some o
 | .xd fs=>∃ mA,h.Ns1 a mA/\∀ f,wX (fs.lookup f) (mA f)
 | .rng lo hi=>∃ t u v,h.get? a=some { cls:=.type "range",data:=.fields #[.int lo t,.int hi u,.int 1 v] }
 | .frz o u=>h.get? a=some o/\tG H h a u
 | .tbl ps=>h.get? a=some { cls:=.none,data:=.fields ps }
 | .met f x=>h.get? a=some (PySem.W.methodObj (.ref f) (.ref x))
 | .ext φ=>φ h/\(∃ o,h.get? a=some o)/\∀ h1 h2,φ h1->(∀ o,h1.get? a=some o->h2.get? a=some o)->φ h2
def vO (H:Hp) (h:Heap):Prop:=∀ a o,H a=some o->tG P w H h a o
end
section
variable {P:Aj}{w:A5}{H H':Hp}{h h':Heap}{a:Addr}{o:HO}
theorem tG.lt(x:tG P w H h a o):a < h.objs.size:=by
 cases o with
 | lst xs=>obtain⟨_,_,_,_,e⟩:=x;exact AM e
 | tup xs=>obtain⟨_,_,_,p⟩:=x;exact p.lt
 | dK kvs | dT kvs=>obtain⟨_,_,_,_,o,_,_,e,_⟩:=x;exact AM e
 | set S n=>obtain⟨o,_,_,_,e,_⟩:=x;exact AM e
 | ins C dx fs=>obtain⟨_,_,_,e,_⟩:=x;exact AM e
 | own y=>obtain⟨_,e⟩:=x;exact AM e
 | xd fs=>obtain⟨_,⟨_,_,_,e,_⟩,_⟩:=x;exact AM e
 | rng lo hi=>obtain⟨_,_,_,e⟩:=x;exact AM e
 | frz ob u=>obtain⟨e,_⟩:=x;exact AM e
 | tbl ps | met f y=>exact AM x
 | ext φ=>obtain⟨_,⟨_,e⟩,_⟩:=x;exact AM e
theorem Paired.mapP{F G}:∀ {l₁:List α} {l₂:List β},EG F l₁ l₂->(∀ a b,F a b->G a b)->EG G l₁ l₂:=by
 intro _ _ h k;induction h with
 | nil=>exact .nil
 | cons r _ ih=>exact .cons (k _ _ r) ih
theorem tG.stay(x:tG P w H h a o)(k:∀ b u,(b=a\/H b=some (.own a))->h.get? b=some u->h'.get? b=some u)
  (ho:∀ b,H b=some (.own a)->H' b=some (.own a)) (ht:∀ b xs,H b=some (.tup xs)->H' b=some (.tup xs)):tG P w H' h' a o:=by
 induction o with
 | lst xs=>obtain⟨z,its,n,r,e⟩:=x;exact⟨z,its,n,r,k _ _ (.inl rfl) e⟩
 | tup xs=>obtain⟨z,its,r,ob,e,c⟩:=x;exact⟨z,its,r,ob,k _ _ (.inl rfl) e,c⟩
 | dK kvs=>obtain⟨z,y,vs,r,ob,es,ep,e,c⟩:=x;exact⟨z,y,vs,r,ob,es,ep,k _ _ (.inl rfl) e,c⟩
 | dT kvs =>
  obtain⟨z,y,xs,r,ob,es,ep,e,c⟩:=x;exact⟨z,y,xs,Paired.mapP r λp q z=>⟨z.1,ht _ _ z.2.1,z.2.2⟩,ob,es,ep,k _ _ (.inl rfl) e,c⟩
 | set S n=>obtain⟨ob,es,ep,t,e,c⟩:=x;exact⟨ob,es,ep,t,k _ _ (.inl rfl) e,c⟩
 | ins C dx fs =>
  obtain⟨d,z,ne,e,mA,⟨od,es,ep,e2,c⟩,r⟩:=x;exact⟨ho _ d,z,ne,k _ _ (.inl rfl) e,mA,⟨od,es,ep,k _ _ (.inr d) e2,c⟩,r⟩
 | own y=>obtain⟨ob,e⟩:=x;exact⟨ob,k _ _ (.inl rfl) e⟩
 | xd fs=>obtain⟨mA,⟨od,es,ep,e,c⟩,r⟩:=x;exact⟨mA,⟨od,es,ep,k _ _ (.inl rfl) e,c⟩,r⟩
 | rng lo hi=>obtain⟨t,u,v,e⟩:=x;exact⟨t,u,v,k _ _ (.inl rfl) e⟩
 | frz ob u ih=>obtain⟨e,q⟩:=x;exact⟨k _ _ (.inl rfl) e,ih q⟩
 | tbl ps | met f y =>
  have e:=x;exact k a _ (.inl rfl) e
 | ext φ=>obtain⟨p,⟨o,e⟩,st⟩:=x;exact⟨st _ _ p λo q=>k _ _ (.inl rfl) q,⟨o,k _ _ (.inl rfl) e⟩,st⟩
theorem vO.lt(x:vO P w H h)(e:H a=some o):a < h.objs.size:=(x a o e).lt
theorem vO.fresh(x:vO P w H h)(e:h.objs.size<=a):H a=none:=by
 cases q:H a with
 | none=>rfl
 | some u=>exact absurd (AW (x.lt q) e) (BE _)
def vO.kept(x:vO P w H h)(k:∀ b u,h.get? b=some u->h'.get? b=some u):vO P w H h':=λa o e =>
 (x a o e).stay (λb u _ q=>k b u q) (λ_ q=>q) λ_ _ q=>q
def vO.laid(x:vO P w H h)(k:∀ b u,h.get? b=some u->h'.get? b=some u)(hp:h.objs.size<=a)(new:tG P w (upd H a o) h' a o):vO P w (upd H a o) h':=λb u e=>by
 have hn:=x.fresh hp;by_cases hb:b=a
 ·subst hb;rw[Ln]at e;cases e;exact new
 ·rw[Lc hb]at e;exact (x b u e).stay (λc v _ q=>k c v q) (λc q=>by rw[Lc (Lo q hn)];exact q) λc xs q=>by rw[Lc (Lo q hn)];exact q
end
def Rd (H:Hp) (a:Addr) (u:HO):Prop:=H a=some u\/∃ o,H a=some (.frz o u)
def Rd.ok{H h a u}(r:Rd H a u)(x:vO P w H h):tG P w H h a u:=by
 rcases r with r | ⟨o,r⟩
 ·exact x a u r
 ·obtain⟨_,q⟩:=x a _ r;exact q
def Mut:Option HO->Prop
 | some (.lst _)=>True
 | some (.dK _)=>True
 | some (.dT _)=>True
 | some (.set _ _)=>True
 | some (.ins _ _ _)=>True
 | some (.ext _)=>True
 | _=>False
section
variable {P:Aj}{w:A5}{H:Hp}{h h':Heap}{x e:Addr}{o':HO}
def vO.write(ok:vO P w H h)(mu:Mut (H x))(he:e=x\/H e=some (.own x))(k:∀ b u,b≠e->h.get? b=some u->h'.get? b=some u)(heo:∃ u,h'.get? e=some u)
  (new:tG P w (upd H x o') h' x o'):vO P w (upd H x o') h':=λb u q=>by
 have nown:∀ c y,H c=some (.own y)->c≠x:=λc y r z=>by subst z;rw[r]at mu;exact mu
 have ntup:∀ c xs,H c=some (.tup xs)->c≠x:=λc xs r z=>by subst z;rw[r]at mu;exact mu
 by_cases hb:b=x
 ·subst hb;rw[Ln]at q;cases q;exact new
 ·rw[Lc hb]at q;by_cases hbe:b=e
  ·have q':H b=some (.own x):=by
    rcases he with z | z
    ·exact absurd (hbe.trans z) hb
    ·rw[hbe];exact z
   rw[q]at q';cases q';obtain⟨v,hv⟩:=heo;exact⟨v,by rw[hbe];exact hv⟩
  ·refine (ok b u q).stay (λc v hc r=>k c v ?_ r) (λc r=>by rw[Lc (nown c b r)];exact r) λc xs r=>by rw[Lc (ntup c xs r)];exact r
   rcases hc with rfl | hc
   ·exact hbe
   ·rintro rfl;rcases he with z | z
    ·exact nown c b hc z
    ·rw[hc]at z;cases z;exact hb rfl
end
structure Un(fs ex:List Addr)(H H':Hp)(h h':Heap):Prop where
 keep:∀ b o,h.get? b=some o->H b=none->b∉fs->b∉ex->h'.get? b=some o
 slot:∀ b o,h.get? b=some o->H b=none->b∈fs->b∉ex->∃ sl,h'.get? b=some { o with slots:=sl }
 free:∀ b o,h.get? b=some o->H b=none->b∉ex->H' b=none
 there:∀ b o,h.get? b=some o->b∉ex->∃ o',h'.get? b=some o'
 tups:∀ b xs,H b=some (.tup xs)->H' b=some (.tup xs)
 frzs:∀ b o u,H b=some (.frz o u)->H' b=some (.frz o u)
 tbls:∀ b ps,H b=some (.tbl ps)->∃ more,H' b=some (.tbl (ps++more))
section
variable {fs fs' ex ex':List Addr}{H H1 H2:Hp}{h h1 h2 h':Heap}{a x e:Addr}{o:HO}
def Un.any(u:Un fs ex H H1 h h1){b ob}(q:h.get? b=some ob)(n:H b=none)(hx:b∉ex):∃ sl,h1.get? b=some { ob with slots:=sl }:=by
 by_cases hb:b∈fs
 ·exact u.slot b ob q n hb hx
 ·exact⟨ob.slots,u.keep b ob q n hb hx⟩
def Un.kept(k:∀ b u,h.get? b=some u->h'.get? b=some u):Un fs ex H H h h':=
 ⟨λb ob q _ _ _=>k b ob q,λb ob q _ _ _=>⟨ob.slots,k b ob q⟩,λ_ _ _ n _=>n,λb ob q _=>⟨ob,k b ob q⟩,λ_ _ q=>q,λ_ _ _ q=>q,λ_ ps q=>⟨#[],by rw[q];simp⟩⟩
def Un.refl:Un fs ex H H h h:=Un.kept λ_ _ q=>q
def Un.laid(k:∀ b u,h.get? b=some u->h'.get? b=some u)(hp:h.objs.size<=a)(hn:H a=none):Un fs ex H (upd H a o) h h' where
 keep:=λb u q _ _ _=>k b u q
 slot:=λb u q _ _ _=>⟨u.slots,k b u q⟩
 free:=λb u q n _=>by rw[Lc (Ag (AW (AM q) hp))];exact n
 there:=λb u q _=>⟨u,k b u q⟩
 tups:=λb xs q=>by rw[Lc (Lo q hn)];exact q
 frzs:=λb u xs q=>by rw[Lc (Lo q hn)];exact q
 tbls:=λb ps q=>⟨#[],by rw[Lc (Lo q hn),q];simp⟩
def Un.write(mu:Mut (H x))(he:e=x\/H e=some (.own x))(k:∀ b u,b≠e->h.get? b=some u->h'.get? b=some u)(heo:∃ u,h'.get? e=some u):Un fs ex H (upd H x o) h h':=by
 have hx:∀ b,H b=none->b≠x:=λb n z=>by subst z;rw[n]at mu;exact mu
 have hb:∀ b,H b=none->b≠e:=λb n z=>by
  subst z;rcases he with r | r
  ·exact hx b n r
  ·rw[n]at r;cases r
 have hm:∀ b u,H b=some u->¬ Mut (some u)->b≠x:=λb u q nm z=>by subst z;rw[q]at mu;exact nm mu
 refine⟨λb u q n _ _=>k b u (hb b n) q,λb u q n _ _=>⟨u.slots,k b u (hb b n) q⟩,λb u q n _=>by rw[Lc (hx b n)];exact n,λb u q _=>?_,
  λb xs q=>by rw[Lc (hm b _ q λz=>z)];exact q,λb u xs q=>by rw[Lc (hm b _ q λz=>z)];exact q,λb ps q=>⟨#[],by rw[Lc (hm b _ q λz=>z),q];simp⟩⟩
 by_cases hbe:b=e
 ·subst hbe;exact heo
 ·exact⟨u,k b u hbe q⟩
end
def trk (h:Heap) (H:Hp):List Addr:=(AE h.objs.size).filter λa=>(H a).isSome
def yB (h:Heap) (H:Hp):Heap:=PySem.W.hideAll h (trk h H)
def iZ h H:(yB h H).objs.size=h.objs.size:=PySem.W.hideAll_size _ _
def fw{H b o}(e:h.get? b=some o)(n:H b=none):(yB h H).get? b=some o:=
 PySem.W.hideAll_get _ e λhm=>by
  have q:=(Bu.mp hm).2;rw[n]at q;simp at q
theorem Zz{b o}(e:(yB h H).get? b=some o):h.get? b=some o/\H b=none:=by
 have e':=PySem.W.of_hideAll (trk h H) e;refine⟨e',?_⟩;cases q:H b with
 | none=>rfl
 | some x =>
  have hm:b∈trk h H:=Bu.mpr ⟨BN.mpr (AM e'),by simp[q]⟩;have z:(yB h H).get? b=none:=PySem.W.hideAll_none (trk h H) hm;rw[z]at e;cases e
def AAb (g h:Heap) (L:Addr):List (Addr×Obj):=(AE h.objs.size).filterMap λa=>if a=L\/(g.get? a).isSome=true then none else (h.get? a).map λo=>(a,o)
def rest (g h:Heap) (L d:Addr):List (Addr×Obj):=(AAb g h L).filter λp=>decide (p.1≠d)
structure Mod(K:Ae)(mg:Str->Option AL)(base:Heap):Prop where
 kin:K.In base
 glob:base.Ns A0 mg
 blt:∃ mb,base.Ns HG mb/\∀ x:Str,x≠"__name__"->mb x=CD x
 nolimit:base.NoLimit
structure Cx where
 prog:Aj
 w:A5
 K:Ae
 mg:Str->Option AL
 base:Heap
 A:BG
 N:List Str
 s₀:AR
 H₀:Hp
 env:Env
 outer:List Env
 stack:List Env
 ex:List Addr
 fn:Str->Bool
 calm:Bool
 pn:List (Addr×Obj)
 xe:AL->AR->Prop
def yY (l:List Env):List Addr:=l.filterMap (·.frame)
abbrev Cx.fs (X:Cx):List Addr:=yY X.outer
def Vis (sc:Et) (x:Str):Prop:=sc.names.lookup x=some .local\/sc.names.lookup x=some .cell\/sc.names.lookup x=some .free
def Loc (sc:Et) (x:Str):Prop:=sc.names.lookup x=some .local\/sc.names.lookup x=some .cell
def Look (env:Env) (h:Heap) (m:Str->Option AL) (x:Str) (u:AL):Prop:=
 (env.kindOf x=some .local/\m x=some u)\/((env.kindOf x=some .cell\/env.kindOf x=some .free)/\∃ c,env.cells.lookup x=some c/\h.IsCell c (some u))
structure Cx.Ok(X:Cx):Prop where
 mod:Mod X.K X.mg X.base
 kind:X.env.scope.kind=.function
 glob:X.env.globals=A0
 blt:X.env.builtins=HG
 above:X.s₀.heap.objs.size<=X.env.locals
 inj:∀ x y c,X.env.cells.lookup x=some c->X.env.cells.lookup y=some c->x=y
 has:∀ x,(X.env.kindOf x=some .cell\/X.env.kindOf x=some .free)->∃ c,X.env.cells.lookup x=some c
 cab:∀ x c,X.fn x=true->X.env.cells.lookup x=some c->X.s₀.heap.objs.size<=c
 hd:X.calm=true->X.A.handled=none
 frames:X.A.frames=some X.stack
 stk:X.stack=X.outer\/(X.stack=X.env::X.outer/\X.env.frame=some X.env.locals)
 exf:∀ b∈X.ex,b≠X.env.locals/\∀ x c,X.env.cells.lookup x=some c->c≠b
 bs:∀ b o,X.base.get? b=some o->X.s₀.heap.get? b=some o/\X.H₀ b=none
 bsz:X.base.objs.size<=X.s₀.heap.objs.size
 noex:∀ b o,X.base.get? b=some o->b∉X.ex
 exfs:∀ b∈X.ex,b∉X.fs
 funs:X.s₀.heap.FunFrames X.base X.outer
 frf:∀ b∈X.fs,X.H₀ b=none
structure Inv(X:Cx)(pins:List (Addr×Obj))(σ:List (Option V))(H:Hp)(s:AR):Prop where
 ok:X.Ok
 os:s.os=X.s₀.os
 bare:EW s.gens
 base:Un X.fs X.ex X.H₀ H X.s₀.heap s.heap
 loc:∃ m,s.heap.Ns X.env.locals m/\∀ (i:Nat) (x:Str) (v:V),X.N[i]?=some x->σ[i]?=some (some v)->Vis X.env.scope x->∃ u,RelV v u/\Look X.env s.heap m x u
 cell:∀ x c,X.env.cells.lookup x=some c->∃ v,s.heap.IsCell c v
 free:H X.env.locals=none
 freeC:∀ x c,X.env.cells.lookup x=some c->H c=none
 pin:∀ p∈X.pn++pins,s.heap.get? p.1=some p.2/\H p.1=none/\p.1≠X.env.locals/\p.1∉X.fs/\∀ v,p.2.data≠.cell v
 hok:vO X.prog X.w H s.heap
 len:σ.length=X.N.length
section
variable {X:Cx}{pins:List (Addr×Obj)}{σ:List (Option V)}{H H':Hp}{s:AR}{h':Heap}
def Cx.Ok.nofr(ok:X.Ok){b o}(e:X.base.get? b=some o):b∉X.fs:=λhb=>by
 have:=(ok.funs.mem hb).1;lia
theorem Inv.bs(I:Inv X pins σ H s):∀ b o,X.base.get? b=some o->s.heap.get? b=some o/\H b=none:=λb o e =>
 ⟨I.base.keep b o (I.ok.bs b o e).1 (I.ok.bs b o e).2 (I.ok.nofr e) (I.ok.noex b o e),I.base.free b o (I.ok.bs b o e).1 (I.ok.bs b o e).2 (I.ok.noex b o e)⟩
def Inv.bk(I:Inv X pins σ H s):∀ b o,X.base.get? b=some o->s.heap.get? b=some o:=λb o e=>(I.bs b o e).1
theorem Inv.mod(I:Inv X pins σ H s):Mod X.K X.mg X.base:=I.ok.mod
def Inv.kIn(I:Inv X pins σ H s):X.K.In s.heap:=I.ok.mod.kin.keeps I.bk
def Inv.fr(I:Inv X pins σ H s):∃ m,Fr X.base X.env.locals s.heap m:=
 let ⟨m,hn,_⟩:=I.loc
 ⟨m,hn,I.bk,Ah I.ok.bsz I.ok.above⟩
theorem Inv.lt(I:Inv X pins σ H s):X.env.locals < s.heap.objs.size:=let ⟨_,hn,_⟩:=I.loc;hn.lt
def Inv.sz(I:Inv X pins σ H s):X.s₀.heap.objs.size<=s.heap.objs.size:=Ah I.ok.above (CY I.lt)
def Inv.nofs(I:Inv X pins σ H s){a:Addr}(h:s.heap.objs.size<=a):a∉X.fs:=λhb=>by
 obtain⟨_,o,ho,_⟩:=I.ok.funs.mem hb;exact absurd (AW (AM ho) (Ah I.sz h)) (BE _)
def Inv.cne(I:Inv X pins σ H s):∀ x c,X.env.cells.lookup x=some c->c≠X.env.locals:=λx c e z=>by
 obtain⟨v,o,ho,hd⟩:=I.cell x c e;obtain⟨m,⟨o',es,ep,ho',hd',_⟩,_⟩:=I.loc;lia
theorem Inv.funs(I:Inv X pins σ H s):s.heap.FunFrames X.base X.outer:=by
 have all:∀ l,(∀ b∈yY l,b∈X.fs)->X.s₀.heap.FunFrames X.base l->s.heap.FunFrames X.base l:=by
  intro l;induction l with
  | nil=>intro _ _;trivial
  | cons env r ih =>
   intro hs hl;obtain⟨hk,⟨L,o,hf,hn,ho,hd⟩,hr⟩:=hl;have hL:=hs L (by unfold yY;rw[FB,hf];exact AH);obtain⟨sl,e⟩:=I.base.slot L o ho (I.ok.frf L hL) hL λz=>I.ok.exfs L z hL
   exact⟨hk,⟨L,_,hf,hn,e,hd⟩,ih (λb hb=>hs b (by unfold yY;rw[FB,hf];exact AI _ hb)) hr⟩
 exact all X.outer (λ_ hb=>hb) I.ok.funs
theorem Inv.stack(I:Inv X pins σ H s):s.heap.FunFrames X.base X.stack:=by
 rcases I.ok.stk with e | ⟨e,hf⟩
 ·rw[e];exact I.funs
 ·rw[e];have ⟨m,hn,_⟩:=I.loc;refine .cons (by rw[I.ok.kind];decide) hf hn (Heap.get?_none_of_le (Ah I.ok.bsz I.ok.above)) I.funs
def Inv.stkSub(I:Inv X pins σ H s):∀ b∈yY X.stack,b∈X.env.locals::X.fs:=λb hb=>by
 rcases I.ok.stk with e | ⟨e,hf⟩
 ·rw[e]at hb;exact AI _ hb
 ·rw[e]at hb;unfold yY at hb;rw[FB,hf]at hb;exact hb
def Inv.stkFree(I:Inv X pins σ H s):∀ b∈yY X.stack,H b=none:=λb hb=>by
 rcases AN.mp (I.stkSub b hb) with e | hb
 ·rw[e];exact I.free
 ·obtain⟨_,o,ho,_⟩:=I.ok.funs.mem hb;exact I.base.free b o ho (I.ok.frf b hb) λz=>I.ok.exfs b z hb
def Inv.step{d'}{ch:List Addr}(I:Inv X pins σ H s)
  (hch:∀ b∈ch,(b∈X.ex\/X.s₀.heap.objs.size<=b)/\b≠X.env.locals/\(∀ x c,X.env.cells.lookup x=some c->c≠b)/\∀ p∈X.pn++pins,p.1≠b)
  (keep:∀ b o,b≠X.env.locals->b∉X.fs->b∉ch->s.heap.get? b=some o->H b=none->h'.get? b=some o)
  (slot:∀ b o,b≠X.env.locals->b∈X.fs->b∉ch->s.heap.get? b=some o->H b=none->∃ sl,h'.get? b=some { o with slots:=sl }) (free:∀ b o,b∉ch->s.heap.get? b=some o->H b=none->H' b=none)
  (there:∀ b o,b∉ch->s.heap.get? b=some o->∃ o',h'.get? b=some o')
  (tups:∀ b xs,H b=some (.tup xs)->H' b=some (.tup xs)) (frzs:∀ b o u,H b=some (.frz o u)->H' b=some (.frz o u)) (tbls:∀ b ps,H b=some (.tbl ps)->∃ more,H' b=some (.tbl (ps++more)))
  (ns:∀ m,s.heap.Ns X.env.locals m->h'.Ns X.env.locals m) (hok:vO X.prog X.w H' h') (hg:EW g') :
  Inv X pins σ H' { s with heap:=h',gens:=g',drawn:=d',toks:=t' }:=by
 have neL:∀ b o,X.s₀.heap.get? b=some o->b≠X.env.locals:=λb o e=>Ag (AW (AM e) I.ok.above)
 have neC:∀ b o,X.s₀.heap.get? b=some o->b∉X.ex->b∉ch:=λb o e hx hb=>by
  rcases (hch b hb).1 with z | z
  ·exact hx z
  ·exact absurd (AW (AM e) z) (BE _)
 have cellK:∀ x c,X.env.cells.lookup x=some c->∀ v,s.heap.IsCell c v->h'.IsCell c v:=λx c e v ⟨o,ho,hd⟩=>by
  have nch:=λz=>(hch c z).2.2.1 x c e rfl
  by_cases hc:c∈X.fs
  ·obtain⟨sl,q⟩:=slot c o (I.cne x c e) hc nch ho (I.freeC x c e);exact⟨_,q,hd⟩
  ·exact⟨o,keep c o (I.cne x c e) hc nch ho (I.freeC x c e),hd⟩
 refine⟨I.ok,I.os,hg,⟨λb o e n hb hx=>?_,λb o e n hb hx=>?_,λb o e n hx=>?_,λb o e hx=>?_,λb xs e=>tups b xs (I.base.tups b xs e),λb o xs e=>frzs b o xs (I.base.frzs b o xs e),λb ps e=>?_⟩,?_,λx c e=>?_,?_,λx c e=>?_,λp hp=>?_,hok,I.len⟩
 ·exact keep b o (neL b o e) hb (neC b o e hx) (I.base.keep b o e n hb hx) (I.base.free b o e n hx)
 ·obtain⟨sl,e1⟩:=I.base.slot b o e n hb hx;obtain⟨sl',e2⟩:=slot b _ (neL b o e) hb (neC b o e hx) e1 (I.base.free b o e n hx);exact⟨sl',e2⟩
 ·obtain⟨o',e1⟩:=I.base.there b o e hx;exact free b o' (neC b o e hx) e1 (I.base.free b o e n hx)
 ·obtain⟨o',e1⟩:=I.base.there b o e hx;exact there b o' (neC b o e hx) e1
 ·obtain⟨m1,e1⟩:=I.base.tbls b ps e;obtain⟨m2,e2⟩:=tbls b _ e1;exact⟨m1++m2,by rw[e2,Array.append_assoc]⟩
 ·have ⟨m,hn,hl⟩:=I.loc;refine⟨m,ns m hn,λi x v e1 e2 e3=>?_⟩;obtain⟨u,r,l⟩:=hl i x v e1 e2 e3;refine⟨u,r,?_⟩;rcases l with l | ⟨k,c,e,z⟩
  ·exact .inl l
  ·exact .inr ⟨k,c,e,cellK x c e _ z⟩
 ·obtain⟨v,z⟩:=I.cell x c e;exact⟨v,cellK x c e v z⟩
 ·obtain⟨m,⟨o,_,_,ho,_⟩,_⟩:=I.loc;exact free _ o (λz=>(hch _ z).2.1 rfl) ho I.free
 ·obtain⟨v,o,ho,hd⟩:=I.cell x c e;exact free c o (λz=>(hch c z).2.2.1 x c e rfl) ho (I.freeC x c e)
 ·obtain⟨e,n,ne,nf,d⟩:=I.pin p hp;have nch:=λz=>(hch p.1 z).2.2.2 p hp rfl
  exact⟨keep p.1 p.2 ne nf nch e n,free p.1 p.2 nch e n,ne,nf,d⟩
def Inv.un(I:Inv X pins σ H s)(u:Un X.fs [] H H' s.heap h')(hok:vO X.prog X.w H' h'):Inv X pins σ H' { s with heap:=h',toks:=t' }:=by
 obtain⟨m,⟨o,es,ep,ho,r⟩,_⟩:=id I.loc;obtain⟨sl,hL⟩:=u.any ho I.free ↥1;exact I.step (ch:=[]) (λ_ z=>nomatch z) (λb o _ hb _ e n=>u.keep b o e n hb ↥1) (λb o _ hb _ e n=>u.slot b o e n hb ↥1) (λb o _ e n=>u.free b o e n ↥1) (λb o _ e=>u.there b o e ↥1) u.tups u.frzs u.tbls (λm' hm=>by
  obtain⟨o',es',ep',ho',r'⟩:=hm;rw[ho]at ho';cases ho';exact⟨_,es',ep',hL,r'⟩) hok I.bare
def Inv.call{d' ch}(I:Inv X pins σ H s)(u:Un (yY X.stack) ch H H' s.heap h')(hok:vO X.prog X.w H' h')(hg:EW g')
  (hch:∀ b∈ch,(b∈X.ex\/X.s₀.heap.objs.size<=b)/\b≠X.env.locals/\(∀ x c,X.env.cells.lookup x=some c->c≠b)/\∀ p∈X.pn++pins,p.1≠b) :
  Inv X pins σ H' { s with heap:=h',gens:=g',drawn:=d',toks:=t' }:=by
 obtain⟨m,⟨o,es,ep,ho,r⟩,_⟩:=id I.loc;obtain⟨sl,hL⟩:=u.any ho I.free λz=>(hch _ z).2.1 rfl
 exact I.step hch (λb o hL hb hc e n=>u.keep b o e n (λz=>(AN.mp (I.stkSub b z)).elim hL hb) hc) (λb o _ _ hc e n=>u.any e n hc) (λb o hc e n=>u.free b o e n hc) (λb o hc e=>u.there b o e hc) u.tups u.frzs u.tbls (λm' hm=>by
  obtain⟨o',es',ep',ho',r'⟩:=hm;rw[ho]at ho';cases ho';exact⟨_,es',ep',hL,r'⟩) hok hg
def Inv.turned{it}(I:Inv X pins σ H s)(k:∀ b o,b≠it->s.heap.get? b=some o->h'.get? b=some o)(hn:H it=none)(hL:it≠X.env.locals)
  (h1:it∈X.ex\/X.s₀.heap.objs.size<=it) (h2:∀ x c,X.env.cells.lookup x=some c->c≠it) (h3:∀ p∈X.pn++pins,p.1≠it):Inv X pins σ H { s with heap:=h',toks:=t' }:=by
 have nit:∀ b u,H b=some u->b≠it:=λb u e z=>by rw[z,hn]at e;cases e
 refine I.step (ch:=[it]) (λb hb=>?_) (λb o _ _ hc e _=>k b o (λz=>hc (by simp[z])) e) (λb o _ _ hc e _=>⟨o.slots,k b o (λz=>hc (by simp[z])) e⟩) (λ_ _ _ _ n=>n)
  (λb o hc e=>⟨o,k b o (λz=>hc (by simp[z])) e⟩) (λ_ _ e=>e) (λ_ _ _ e=>e) (λb ps e=>⟨#[],by rw[e];simp⟩) (λm hm=>?_) (λb u e=>?_) I.bare
 ·have e:=by simpa using hb
  subst e;exact⟨h1,hL,h2,h3⟩
 ·obtain⟨o,es,ep,ho,r⟩:=hm;exact⟨o,es,ep,k _ o (Ax hL) ho,r⟩
 ·refine (I.hok b u e).stay (λc v hc q=>k c v ?_ q) (λ_ q=>q) λ_ _ q=>q
  rcases hc with z | z
  ·rw[z];exact nit b u e
  ·exact nit c _ z
def Inv.tok(I:Inv X pins σ H s) t:Inv X pins σ H { s with toks:=t }:=I.un Un.refl I.hok
theorem Inv.kept(I:Inv X pins σ H s)(k:∀ b u,s.heap.get? b=some u->h'.get? b=some u):Inv X pins σ H { s with heap:=h',toks:=t' }:=I.un (Un.kept k) (I.hok.kept k)
theorem Inv.laid{a:Addr}{o t'}(I:Inv X pins σ H s)(k:∀ b u,s.heap.get? b=some u->h'.get? b=some u)(hp:s.heap.objs.size<=a)(new:tG X.prog X.w (upd H a o) h' a o) :
  Inv X pins σ (upd H a o) { s with heap:=h',toks:=t' }:=I.un (Un.laid k hp (I.hok.fresh hp)) (I.hok.laid k hp new)
theorem Inv.write{t'}(I:Inv X pins σ H s)(mu:Mut (H x))(he:e=x\/H e=some (.own x))(k:∀ b u,b≠e->s.heap.get? b=some u->h'.get? b=some u)(heo:∃ u,h'.get? e=some u)
  (new:tG X.prog X.w (upd H x o) h' x o):Inv X pins σ (upd H x o) { s with heap:=h',toks:=t' }:=I.un (Un.write mu he k heo) (I.hok.write mu he k heo new)
def Inv.pins_of(I:Inv X pins σ H s)(h:∀ p∈pins',s.heap.get? p.1=some p.2/\H p.1=none/\p.1≠X.env.locals/\p.1∉X.fs/\∀ v,p.2.data≠.cell v):Inv X pins' σ H s:=
 ⟨I.ok,I.os,I.bare,I.base,I.loc,I.cell,I.free,I.freeC,λp hp=>(A6.mp hp).elim (λz=>I.pin p (BB _ z)) (h p),I.hok,I.len⟩
def WD{N:List Str}(hN:N.Nodup){i j:Nat}{x}(a:N[i]?=some x)(b:N[j]?=some x):i=j:=by
 obtain⟨h1,e1⟩:=Ac.mp a;obtain⟨h2,e2⟩:=Ac.mp b;exact (List.getElem_inj hN).mp (e1.trans e2.symm)
def fD{A E i x v u Q}(I:Inv X pins σ H s)(hN:X.N.Nodup)(hi:X.N[i]?=some x)(hx:Loc X.env.scope x)(r:RelV v u)
  (h:∀ s',Inv X pins (σ.set i (some v)) H s'->(∃ a,Cv a s.heap s'.heap/\(a=X.env.locals\/X.env.cells.lookup x=some a))->Q () s') (hf:X.fn x=true\/X.env.scope.names.lookup x=some .local:=by first | exact .inl rfl | exact .inr rfl | assumption):AQ M A (storeName X.env x u) Q E s:=by
 have ⟨m,hn,hl⟩:=id I.loc;have hcls:(X.env.scope.kind == .class || (X.env.scope.kind == .module && X.env.locals != X.env.globals))=false:=by rw[I.ok.kind];rfl
 have hiσ:i < σ.length:=by rw[I.len];exact (Ac.mp hi).1
 have cne:=I.cne;have tracked:∀ {a:Addr} {h':Heap},(∃ o,s.heap.get? a=some o/\H a=none)->Cv a s.heap h'->vO X.prog X.w H h':=λ{a h'} ha hs b ob e=>by
  obtain⟨_,_,hfree⟩:=ha;refine (I.hok b ob e).stay (λc w' hc q=>(hs.2 c ?_).trans q) (λ_ q=>q) λ_ _ q=>q
  rintro rfl;rcases hc with rfl | hc
  ·rw[hfree]at e;cases e
  ·rw[hfree]at hc;cases hc
 rcases hx with hk | hk
 ·refine wpAny_storeName_local hk hn (λh' hn' hs=>?_) hcls;obtain⟨oL,_,_,hoL,_⟩:=id hn;refine h _ ⟨I.ok,I.os,I.bare,⟨λb o e n hb hx=>?_,λb o e n hb hx=>?_,I.base.free,λb o e hx=>?_,I.base.tups,I.base.frzs,I.base.tbls⟩,⟨_,hn',λj y v' e1 e2 e3=>?_⟩,λy c e=>?_,I.free,I.freeC,λp hp=>?_,tracked ⟨oL,hoL,I.free⟩ hs,by simpa using I.len⟩ ⟨_,hs,.inl rfl⟩
  ·exact (hs.2 b (Ag (AW (AM e) I.ok.above))).trans (I.base.keep b o e n hb hx)
  ·obtain⟨sl,e1⟩:=I.base.slot b o e n hb hx;exact⟨sl,(hs.2 b (Ag (AW (AM e) I.ok.above))).trans e1⟩
  ·obtain⟨o',e1⟩:=I.base.there b o e hx;exact⟨o',(hs.2 b (Ag (AW (AM e) I.ok.above))).trans e1⟩
  ·by_cases hj:j=i
   ·subst hj;rw[hi]at e1;cases e1;rw[Am hiσ]at e2;cases e2;exact⟨u,r,.inl ⟨hk,by simp⟩⟩
   ·rw[AO (Ax hj)]at e2;obtain⟨u',r',q⟩:=hl j y v' e1 e2 e3;refine⟨u',r',?_⟩;rcases q with ⟨k,e⟩ | ⟨k,c,e,z⟩
    ·refine .inl ⟨k,?_⟩;have:y≠x:=λe=>hj (WD hN e1 (e ▸ hi))
     simp[this,e]
    ·exact .inr ⟨k,c,e,z.sameBut hs (cne y c e)⟩
  ·obtain⟨w',z⟩:=I.cell y c e;exact⟨w',z.sameBut hs (cne y c e)⟩
  ·obtain⟨e,n,ne,nf,d⟩:=I.pin p hp;exact⟨(hs.2 p.1 ne).trans e,n,ne,nf,d⟩
 ·have hfn:X.fn x=true:=by
   rcases hf with z | z
   ·exact z
   ·rw[z]at hk;cases hk
  obtain⟨c,hc⟩:=I.ok.has x (.inl hk);obtain⟨w',z⟩:=I.cell x c hc;refine wpAny_storeName_cell I.ok.kind hk hc z (λh' hc' hs=>?_);have ⟨oc,hoc,hocd⟩:=id z;refine h { s with heap:=h' } ⟨I.ok,I.os,I.bare,⟨λb o e n hb hx=>?_,λb o e n hb hx=>?_,I.base.free,λb o e hx=>?_,I.base.tups,I.base.frzs,I.base.tbls⟩,⟨m,hn.sameBut hs (Ax (cne x c hc)),λj y v' e1 e2 e3=>?_⟩,λy c' e=>?_,I.free,I.freeC,λp hp=>?_,tracked ⟨oc,hoc,I.freeC x c hc⟩ hs,by simpa using I.len⟩ ⟨c,hs,.inr hc⟩
  ·exact (hs.2 b (Ag (AW (AM e) (I.ok.cab x c hfn hc)))).trans (I.base.keep b o e n hb hx)
  ·obtain⟨sl,e1⟩:=I.base.slot b o e n hb hx;exact⟨sl,(hs.2 b (Ag (AW (AM e) (I.ok.cab x c hfn hc)))).trans e1⟩
  ·obtain⟨o',e1⟩:=I.base.there b o e hx;exact⟨o',(hs.2 b (Ag (AW (AM e) (I.ok.cab x c hfn hc)))).trans e1⟩
  ·by_cases hj:j=i
   ·subst hj;rw[hi]at e1;cases e1;rw[Am hiσ]at e2;cases e2;exact⟨u,r,.inr ⟨.inl hk,c,hc,hc'⟩⟩
   ·rw[AO (Ax hj)]at e2;obtain⟨u',r',q⟩:=hl j y v' e1 e2 e3;refine⟨u',r',?_⟩;rcases q with q | ⟨k,c',e,z'⟩
    ·exact .inl q
    ·refine .inr ⟨k,c',e,z'.sameBut hs ?_⟩;rintro rfl;exact hj (WD hN e1 (I.ok.inj _ _ _ e hc ▸ hi))
  ·by_cases hcc:c'=c
   ·subst hcc;exact⟨_,hc'⟩
   ·obtain⟨w2,z2⟩:=I.cell y c' e;exact⟨w2,z2.sameBut hs hcc⟩
  ·obtain⟨e,n,ne,nf,d⟩:=I.pin p hp;refine⟨(hs.2 p.1 ?_).trans e,n,ne,nf,d⟩;intro q;rw[q,hoc]at e;exact d w' (by rw[← (Av e)];exact hocd)
def M0{A E i x v u Q}(I:Inv X pins σ H s)(hN:X.N.Nodup)(hi:X.N[i]?=some x)(hx:Loc X.env.scope x)(r:RelV v u)
  (h:∀ s',Inv X pins (σ.set i (some v)) H s'->Q () s') (hf:X.fn x=true\/X.env.scope.names.lookup x=some .local:=by first | exact .inl rfl | exact .inr rfl | assumption):AQ M A (storeName X.env x u) Q E s:=
 fD I hN hi hx r (λs' I' _=>h s' I') hf
def Inv.call'{ch}(I:Inv X pins σ H s)(ho:s'.os=s.os)(u:Un (yY X.stack) ch H H' s.heap s'.heap)(hok:vO X.prog X.w H' s'.heap)(hg:EW s'.gens)
  (hch:∀ b∈ch,(b∈X.ex\/X.s₀.heap.objs.size<=b)/\b≠X.env.locals/\(∀ x c,X.env.cells.lookup x=some c->c≠b)/\∀ p∈X.pn++pins,p.1≠b):Inv X pins σ H' s':=by
 obtain⟨h',g',d',t',o'⟩:=s';subst ho;exact I.call u hok hg hch
end
abbrev XK:=AL->Option Addr->Hp->Prop
abbrev St:=List (Option V)
abbrev VK:=V->Hp->Prop
abbrev TE:=St->Hp->VK->Prop
abbrev TT:=St->Hp->(Bool->Hp->Prop)->Prop
abbrev TA:=St->Hp->(List V->Hp->Prop)->Prop
structure ve where
 nx:St->Hp->Prop
 rt:VK
 bk:St->Hp->Prop:=λ_ _=>False
 ct:St->Hp->Prop:=λ_ _=>False
abbrev TS:=ve->St->Hp->Prop
def EP (X:Cx) (pins:List (Addr×Obj)) (σ:St) (Q:VK) (u:AL) (s':AR):Prop:=∃ v H',Inv X pins σ H' s'/\RelV v u/\Q v H'
def TP (X:Cx) (pins:List (Addr×Obj)) (σ:St) (Q:Bool->Hp->Prop) (b:Bool) (s':AR):Prop:=∃ H',Inv X pins σ H' s'/\Q b H'
def AP (X:Cx) (pins:List (Addr×Obj)) (σ:St) (Q:List V->Hp->Prop) (us:List AL) (s':AR):Prop:=∃ vs H',Inv X pins σ H' s'/\sP vs us/\Q vs H'
def SP (X:Cx) (pins:List (Addr×Obj)) (D:ve) (f:Flow) (s':AR):Prop:=
 match f with
 | .next=>∃ σ' H',Inv X pins σ' H' s'/\D.nx σ' H'
 | .brk=>∃ σ' H',Inv X pins σ' H' s'/\D.bk σ' H'
 | .cont=>∃ σ' H',Inv X pins σ' H' s'/\D.ct σ' H'
 | .ret u=>∃ v σ' H',Inv X pins σ' H' s'/\RelV v u/\D.rt v H'
def PE (X:Cx) (e:Expr) (t:TE):Prop:=
 ∀ pins s (σ:St) H Q,Inv X pins σ H s->t σ H Q->AQ (model X.prog X.w) X.A (eval e X.env) (EP X pins σ Q) X.xe s
def PT (X:Cx) (e:Expr) (t:TT):Prop:=
 ∀ pins s (σ:St) H Q,Inv X pins σ H s->t σ H Q->AQ (model X.prog X.w) X.A (Hu e X.env (eval e X.env)) (TP X pins σ Q) X.xe s
def PW (X:Cx) (e:Expr) (t:TT):Prop:=
 ∀ whole pins s (σ:St) H Q,Inv X pins σ H s->t σ H Q->AQ (model X.prog X.w) X.A (Hu e X.env whole) (TP X pins σ Q) X.xe s
def PW.pt{e t}(h:PW X e t):PT X e t:=h _
def PA (X:Cx) (es:List Expr) (t:TA):Prop:=
 ∀ pos pins s (σ:St) H Q,Inv X pins σ H s->t σ H Q->AQ (model X.prog X.w) X.A (spliced (CB pos (AV es X.env))) (AP X pins σ Q) X.xe s
def PS (X:Cx) (st:Stmt) (t:TS):Prop:=
 ∀ pins s (σ:St) H D,Inv X pins σ H s->t D σ H->AQ (model X.prog X.w) X.A (exec st X.env) (SP X pins D) X.xe s
def yn (X:Cx) (st:List Stmt) (t:TS):Prop:=
 ∀ pins s (σ:St) H D,Inv X pins σ H s->t D σ H->AQ (model X.prog X.w) X.A (execs st X.env) (SP X pins D) X.xe s
def tE{Q Q' M A E s}(h:AQ M A t Q E s)(hQ:∀ a s,Q a s->Q' a s):AQ M A t Q' E s:=BH h hQ λ_ _ x=>x
section
variable {X:Cx}
def bin{ta tb}(ha:PE X a ta)(hb:PE X b tb){pins s}{σ:St}{H}{R:V->V->Hp->Prop}(I:Inv X pins σ H s)(h:ta σ H λx H1=>tb σ H1 λy H2=>R x y H2)
  {α Q} {f:AL->AL->Sem α}
  (hf:∀ v u s2 x y H2,Inv X pins σ H2 s2->RelV x v->RelV y u->R x y H2->AQ (model X.prog X.w) X.A (f v u) Q X.xe s2) :
  AQ (model X.prog X.w) X.A (eval a X.env) (λv s₁=>AQ (model X.prog X.w) X.A (eval b X.env) (λu s₂=>AQ (model X.prog X.w) X.A (f v u) Q X.xe s₂) X.xe s₁) X.xe s:=by
 exact tE (ha pins s σ H _ I h) λv s1 ⟨x,H1,I1,r1,q1⟩=>tE (hb pins s1 σ H1 _ I1 q1) λu s2 ⟨y,H2,I2,r2,q2⟩=>hf v u s2 x y H2 I2 r1 r2 q2
def vz (i:Nat):TE:=λσ H Q=>∃ v,σ[i]?=some (some v)/\Q v H
def tC (v:V):TE:=λ_ H Q=>Q v H
def QT{x pos}(hN:X.N[i]?=some x)(hv:Vis X.env.scope x)(hd:(x == ("__debug__":Str))=false:=by decide)(hcd:(x == ("__classdict__":Str))=false:=by decide):PE X (.Name x pos) (vz i):=by
 intro pins s σ H Q I h;obtain⟨v,e,h⟩:=h;obtain⟨m,hn,hl⟩:=I.loc;obtain⟨u,r,l⟩:=hl i x v hN e hv;have fin:EP X pins σ Q u s:=⟨v,H,I,r,h⟩
 rcases l with ⟨hk,hm⟩ | ⟨hk,c,hc,hcell⟩
 ·exact JE (wpAny_loadName_local I.ok.kind hk hn hm fin) hd
 ·rcases hk with hk | hk
  ·exact JE (wpAny_loadName_cell I.ok.kind hk hc hcell fin) hd
  ·exact JE (wpAny_loadName_free I.ok.kind hk hc hcell fin hcd) hd
def c9{i j pos}:PE X (.Constant (.int i) j pos) (tC (.int i)):=λ_ _ _ H _ I h=>wpAny_Constant_int ⟨.int i,H,I.tok _,⟨_,rfl⟩,h⟩
def j9{b j pos}:PE X (.Constant (.bool b) j pos) (tC (.bl b)):=λ_ _ _ H _ I h=>Constant_bool ⟨.bl b,H,I,rfl,h⟩
def lp{j pos}:PE X (.Constant .none j pos) (tC .non):=λ_ _ _ H _ I h=>Constant_none ⟨.non,H,I,rfl,h⟩
def Rx{x j pos}:PE X (.Constant (.str x) j pos) (tC (.str x)):=λ_ _ _ H _ I h=>Calls.Constant_str ⟨.str x,H,I.tok _,⟨_,rfl⟩,h⟩
def Gl (X:Cx) (x:Str):Prop:=X.env.kindOf x=some .globalImplicit
def Sb{pins s}{σ:St}{H x u pos Q}(I:Inv X pins σ H s)(hg:Gl X x)(hm:X.mg x=some u)(h:Q u s)
  (hd:(x == ("__debug__":Str))=false:=by decide):AQ (model X.prog X.w) X.A (eval (.Name x pos) X.env) Q E s:=
 F6 I.ok.kind hg (Calls.loadGlobal_global (by rw[I.ok.glob];exact I.mod.glob.keeps I.bk) hm h) hd
def MK{E pins s}{σ:St}{H x u pos Q}(I:Inv X pins σ H s)(hg:Gl X x)(hm:X.mg x=none)(hv:CD x=some u)(h:Q u s)
  (hn:x≠"__name__":=by decide) (hd:(x == ("__debug__":Str))=false:=by decide):AQ (model X.prog X.w) X.A (eval (.Name x pos) X.env) Q E s:=by
 obtain⟨mb,h1,h2⟩:=I.mod.blt;exact F6 I.ok.kind hg (Calls.loadGlobal_builtin (by rw[I.ok.glob];exact I.mod.glob.keeps I.bk) hm (by rw[I.ok.blt];exact h1.keeps I.bk) ((h2 x hn).trans hv) h) hd
def Re{u pos}(hg:Gl X x)(hm:X.mg x=some u)(r:RelV v u)(hd:(x == ("__debug__":Str))=false:=by decide):PE X (.Name x pos) (tC v):=
 λ_ _ _ H _ I h=>Sb I hg hm ⟨v,H,I,r,h⟩ hd
def dq{u pos}(hg:Gl X x)(hm:X.mg x=none)(hv:CD x=some u)(r:RelV v u)(hn:x≠"__name__":=by decide)(hd:(x == ("__debug__":Str))=false:=by decide):PE X (.Name x pos) (tC v):=
 λ_ _ _ H _ I h=>MK I hg hm hv ⟨v,H,I,r,h⟩ hn hd
variable {a b:Expr}{ta tb:TE}{pos:Pos}
def PC (X:Cx) (op:CmpOp) (a b:Expr) (t:TE):Prop:=
 ∀ pins s (σ:St) H Q,Inv X pins σ H s->t σ H Q ->
  AQ (model X.prog X.w) X.A (eval a X.env) (λv s₁=>AQ (model X.prog X.w) X.A (eval b X.env) (λu s₂=>AQ (model X.prog X.w) X.A (BO op v u) (EP X pins σ Q) X.xe s₂) X.xe s₁) X.xe s
def AAB b {op} (h:op≠.In) (h2:op≠.NotIn):Bl op b=false:=by
 have e1:(op == Ki)=false:=by cases op <;> first | rfl | exact absurd rfl h
 have e2:(op == JS)=false:=by cases op <;> first | rfl | exact absurd rfl h2
 cases b <;> simp[Bl,e1,e2]
def tB (t:TE):TT:=λσ H Q=>t σ H λx H1=>∃ c,x=.bl c/\Q c H1
def m5(h:PC X op a b t)(h1:Bl op b=false:=by first | exact AAB _ ∅ ∅ | rfl):PT X (.Compare a [op] [b] pos) (tB t):=by
 intro pins s σ H Q I hw;refine IV (tE (h pins s σ H _ I hw) λv s1 h1=>tE h1 λu s2 h2=>tE h2 λc s3 ⟨x,H1,I1,r1,q1⟩=>?_) h1;obtain⟨d,rfl,q⟩:=q1;cases r1;exact Bi ⟨H1,I1,q⟩
variable {tA tB':TT}{rest:List Expr}
def ADl (t u:TT):TT:=λσ H Q=>t σ H λc H1=>if c=true then u σ H1 Q else Q false H1
def tOr (t u:TT):TT:=λσ H Q=>t σ H λc H1=>if c=true then Q true H1 else u σ H1 Q
def AEI (t:TT):TT:=λσ H Q=>t σ H λc H1=>Q (!c) H1
theorem fO(ha:PT X a tA):PW X (.BoolOp .And [a] pos) tA:=by
 intro wh pins s σ H Q I h;refine isTrue_and (tE (ha pins s σ H Q I h) λc s1 e=>?_);cases c with
 | true=>exact isTrue_and_nil e
 | false=>exact e
theorem Y8(ha:PT X a tA):PW X (.BoolOp .Or [a] pos) tA:=by
 intro wh pins s σ H Q I h;refine isTrue_or (tE (ha pins s σ H Q I h) λc s1 e=>?_);cases c with
 | false=>exact isTrue_or_nil e
 | true=>exact e
theorem aV(ha:PT X a tA)(hb:PW X (.BoolOp .And (b::rest) pos) tB'):PW X (.BoolOp .And (a::b::rest) pos) (ADl tA tB'):=by
 intro wh pins s σ H Q I h;refine isTrue_and (tE (ha pins s σ H _ I h) λc s1 ⟨H1,I1,q1⟩=>?_);cases c with
 | true=>exact hb wh pins s1 σ H1 Q I1 q1
 | false=>exact⟨H1,I1,q1⟩
theorem Y9(ha:PT X a tA)(hb:PW X (.BoolOp .Or (b::rest) pos) tB'):PW X (.BoolOp .Or (a::b::rest) pos) (tOr tA tB'):=by
 intro wh pins s σ H Q I h;refine isTrue_or (tE (ha pins s σ H _ I h) λc s1 ⟨H1,I1,q1⟩=>?_);cases c with
 | true=>exact⟨H1,I1,q1⟩
 | false=>exact hb wh pins s1 σ H1 Q I1 q1
def Xf(ha:PT X a tA):PT X (.UnaryOp .Not a pos) (AEI tA):=λpins s σ H Q I h=>isTrue_not (ha pins s σ H (λc H1=>Q (!c) H1) I h)
def ABG (ta tb:TE):TE:=λσ H Q=>ta σ H λx H1=>∃ c,x=.bl c/\if c=true then tb σ H1 Q else Q (.bl false) H1
def ABQ (ta:TE):TE:=λσ H Q=>ta σ H λx H1=>∃ c,x=.bl c/\Q (.bl (!c)) H1
def cJ{op t}(h:PE X a t):PE X (.BoolOp op [a] pos) t:=λpins s σ H Q I hw=>BoolOp_one (h pins s σ H Q I hw)
theorem Y5(ha:PE X a ta)(hb:PE X (.BoolOp .And (b::rest) pos) tb):PE X (.BoolOp .And (a::b::rest) pos) (ABG ta tb):=by
 intro pins s σ H Q I h;refine BoolOp_and (tE (ha pins s σ H _ I h) λv s1 ⟨x,H1,I1,r1,q1⟩=>?_);obtain⟨c,rfl,q1⟩:=q1;cases r1;refine Bi ?_;cases c with
 | true=>exact hb pins s1 σ H1 Q I1 q1
 | false=>exact⟨.bl false,H1,I1,rfl,q1⟩
def cE(ha:PE X a ta):PE X (.UnaryOp .Not a pos) (ABQ ta):=by
 intro pins s σ H Q I h;refine UnaryOp_ (tE (ha pins s σ H _ I h) λv s1 ⟨x,H1,I1,r1,q1⟩=>?_);obtain⟨c,rfl,q1⟩:=q1;cases r1;exact not_of (Bi ⟨.bl (!c),H1,I1,rfl,q1⟩)
def tIf (t:TT) (ta tb:TE):TE:=λσ H Q=>t σ H λc H1=>if c=true then ta σ H1 Q else tb σ H1 Q
theorem lA(hc:PT X c tA)(ha:PE X a ta)(hb:PE X b tb):PE X (.IfExp c a b pos) (tIf tA ta tb):=by
 intro pins s σ H Q I h;refine wpAny_IfExp (tE (hc pins s σ H _ I h) λd s1 ⟨H1,I1,q1⟩=>?_);cases d with
 | true=>exact ha pins s1 σ H1 Q I1 q1
 | false=>exact hb pins s1 σ H1 Q I1 q1
end
def uL (K:Ae) (H:Hp) (a:Addr) (xs:List V):Prop:=
 Rd H a (.lst xs) \/
  ∃ (o:Obj) (its:Array AL) (n:Nat),K.lookup a=some o/\o.cls=.type "list"/\o.dict=none/\o.data=.seq its n/\its.size<=AC/\sP xs its.toList
def vH (K:Ae) (H:Hp) (a:Addr) (xs:List V):Prop:=
 Rd H a (.tup xs) \/
  ∃ (o:Obj) (its:Array AL) (n:Nat),K.lookup a=some o/\o.cls=.type "tuple"/\o.data=.seq its n/\its.size<=AC/\sP xs its.toList
def AFY:AL->Option V
 | .none=>some .non
 | .bool b=>some (.bl b)
 | .int i _=>some (.int i)
 | .str x _=>some (.str x)
 | .bytes b _=>some (.byt b)
 | .float b _=>some (.flt b)
 | .ref a=>some (.ref a)
 | .type n=>some (.ty n)
 | _=>none
theorem RelV.abs{u}(r:RelV x u):AFY u=some x:=by
 cases x with
 | non | bl _ | ref _ | ty _=>cases r;rfl
 | int _ | str _ | byt _ | flt _=>obtain⟨t,rfl⟩:=r;rfl
def RelV.inj{u}(r:RelV x u)(q:RelV y u):x=y:=Av (r.abs.symm.trans q.abs)
theorem sP.inj:∀ {xs ys us},sP xs us->sP ys us->xs=ys:=by
 intro _ ys _ h;induction h generalizing ys with
 | nil=>intro h;cases h;rfl
 | cons r _ ih=>intro h;cases h with
  | cons r' t'=>rw[r.inj r',ih t']
section
variable {X:Cx}{pins:List (Addr×Obj)}{σ:St}{H:Hp}{s:AR}{a:Addr}{xs ys:List V}
def uL.of{K}(h:H a=some (.lst xs)):uL K H a xs:=.inl (.inl h)
def vH.of{K}(h:H a=some (.tup xs)):vH K H a xs:=.inl (.inl h)
def Inv.list(I:Inv X pins σ H s)(h:uL X.K H a xs):∃ its,sP xs its/\PlainL s.heap a its.toArray/\xs.length<=AC:=by
 rcases h with h | ⟨o,its,n,hk,hc,hd,hs,hz,r⟩
 ·obtain⟨z,its,n,r,e⟩:=h.ok I.hok;exact⟨its,r,⟨_,n,e,rfl,rfl,rfl⟩,z⟩
 ·refine⟨its.toList,r,⟨o,n,I.kIn a o hk,hc,hd,by simpa using hs⟩,?_⟩;have e:=r.length;simp at e;lia
def Inv.tuple(I:Inv X pins σ H s)(h:vH X.K H a xs):∃ its,sP xs its/\E9 s.heap a its.toArray/\xs.length<=AC:=by
 rcases h with h | ⟨o,its,n,hk,hc,hs,hz,r⟩
 ·obtain⟨z,its,r,p⟩:=h.ok I.hok;exact⟨its,r,p.tup,z⟩
 ·refine⟨its.toList,r,⟨o,I.kIn a o hk,hc,n,by simpa using hs⟩,?_⟩;have e:=r.length;simp at e;lia
def Inv.list_inj(I:Inv X pins σ H s)(h:uL X.K H a xs)(h':uL X.K H a ys):xs=ys:=by
 obtain⟨its,r,⟨o,n,e,_,_,d⟩,_⟩:=I.list h;obtain⟨its',r',⟨o',n',e',_,_,d'⟩,_⟩:=I.list h';rw[e]at e';cases e';rw[d]at d';injection d' with d1 _;have:=by simpa using congrArg JF d1
 subst this;exact r.inj r'
def Inv.tuple_inj(I:Inv X pins σ H s)(h:vH X.K H a xs)(h':vH X.K H a ys):xs=ys:=by
 obtain⟨its,r,⟨o,e,_,n,d⟩,_⟩:=I.tuple h;obtain⟨its',r',⟨o',e',_,n',d'⟩,_⟩:=I.tuple h';rw[e]at e';cases e';rw[d]at d';injection d' with d1 _;have:=by simpa using congrArg JF d1
 subst this;exact r.inj r'
end
abbrev Cx.wish (X:Cx) (E:AL->AR->Prop):Cx:={ X with xe:=E }
abbrev Cx.nox (X:Cx):Cx:=X.wish λ_ _=>False
theorem Cx.Ok.wish{X:Cx}(ok:X.Ok) E:(X.wish E).Ok:=
 ⟨ok.mod,ok.kind,ok.glob,ok.blt,ok.above,ok.inj,ok.has,ok.cab,ok.hd,ok.frames,ok.stk,ok.exf,ok.bs,ok.bsz,ok.noex,ok.exfs,ok.funs,ok.frf⟩
def Cx.Ok.unwish{X:Cx}{E}(ok:(X.wish E).Ok):X.Ok:=
 ⟨ok.mod,ok.kind,ok.glob,ok.blt,ok.above,ok.inj,ok.has,ok.cab,ok.hd,ok.frames,ok.stk,ok.exf,ok.bs,ok.bsz,ok.noex,ok.exfs,ok.funs,ok.frf⟩
section
variable {X:Cx}{pins:List (Addr×Obj)}{σ:St}{H:Hp}{s:AR}{E:AL->AR->Prop}
theorem Inv.wish(I:Inv X pins σ H s) E:Inv (X.wish E) pins σ H s:=⟨I.ok.wish E,I.os,I.bare,I.base,I.loc,I.cell,I.free,I.freeC,I.pin,I.hok,I.len⟩
theorem Inv.unwish(I:Inv (X.wish E) pins σ H s):Inv X pins σ H s:=⟨I.ok.unwish,I.os,I.bare,I.base,I.loc,I.cell,I.free,I.freeC,I.pin,I.hok,I.len⟩
theorem SP.unwish{f s'}(h:SP (X.wish E) pins D f s'):SP X pins D f s':=by
 cases f with
 | next | brk | cont=>obtain⟨σ',H',I,q⟩:=h;exact⟨σ',H',I.unwish,q⟩
 | ret u=>obtain⟨v,σ',H',I,r,q⟩:=h;exact⟨v,σ',H',I.unwish,r,q⟩
theorem yn.nox{st t}(h:yn X.nox st t):yn X st t:=λpins s σ H D I hw =>
 BH (h pins s σ H D (I.wish _) hw) (λ_ _ q=>q.unwish) λ_ _ z=>C7 z
end
section
variable {X:Cx}{st:Stmt}{rest:List Stmt}{t u:TS}{e:Expr}{te:TE}{pos:Pos}
def ABd:TS:=λD σ H=>D.nx σ H
def ADO (t u:TS):TS:=λD σ H=>t { D with nx:=u D } σ H
def kh:yn X [] ABd:=λ_ _ σ H _ I h=>FC ⟨σ,H,I,h⟩
theorem kT(h1:PS X st t)(h2:yn X rest u):yn X (st::rest) (ADO t u):=by
 intro pins s σ H D I h;refine Jg (tE (h1 pins s σ H { D with nx:=u D } I h) λf s1 q=>?_);cases f with
 | next =>
  obtain⟨σ',H',I',q⟩:=q;exact h2 pins s1 σ' H' D I' q
 | ret v | brk | cont=>exact q
theorem bQ(h1:PS X st t):yn X [st] t:=by
 intro pins s σ H D I h;refine Jg (tE (h1 pins s σ H D I h) λf s1 q=>?_);cases f with
 | next=>exact FC q
 | ret v | brk | cont=>exact q
def Inv.quiet{σ:St}{H s}(I:Inv X pins σ H s):interactive X.env=false:=by simp[interactive,I.ok.kind]
def ABN (te:TE):TS:=λD σ H=>te σ H λ_ H1=>D.nx σ H1
def Wz(he:PE X e te)(hs:Dj e none pos.line X.env=pure false:=by rfl):PS X (.Expr e pos) (ABN te):=λpins s σ H D I h=>wpAny_Expr_any (tE (he pins s σ H _ I h) λv s1 ⟨x,H1,I1,r1,q1⟩=>⟨σ,H1,I1,q1⟩) I.quiet hs
def ADT (te:TE):TS:=λD σ H=>te σ H D.rt
def l4(he:PE X e te):PS X (.Return (some e) pos) (ADT te):=λpins s σ H D I h=>wpAny_Return_some (tE (he pins s σ H _ I h) λv s1 ⟨x,H1,I1,r1,q1⟩=>⟨x,σ,H1,I1,r1,q1⟩)
def AEh (c:TT) (t u:TS):TS:=λD σ H=>c σ H λb H1=>if b=true then t D σ H1 else u D σ H1
theorem jz{a b tc}(hc:PT X c tc)(ha:yn X a t)(hb:yn X b u):PS X (.If c a b pos) (AEh tc t u):=by
 intro pins s σ H D I h;refine wpAny_If (tE (hc pins s σ H _ I h) λd s1 ⟨H1,I1,q1⟩=>?_);cases d with
 | true=>exact ha pins s1 σ H1 D I1 q1
 | false=>exact hb pins s1 σ H1 D I1 q1
def AAL:TS:=λ_ _ _=>False
def Zv:PS X st AAL:=λ_ _ _ _ _ _ h=>h.elim
end
abbrev TG:=V->St->Hp->(St->Hp->Prop)->Prop
abbrev TGs:=List V->St->Hp->(St->Hp->Prop)->Prop
def PG (X:Cx) (target:Expr) (t:TG):Prop:=
 ∀ pins s (σ:St) H v u Q,Inv X pins σ H s->RelV v u->t v σ H Q ->
  AQ (model X.prog X.w) X.A (assign target X.env u) (λ_ s'=>∃ σ' H',Inv X pins σ' H' s'/\Q σ' H') X.xe s
def PGs (X:Cx) (ts:List Expr) (t:TGs):Prop:=
 ∀ pins s (σ:St) H vs us Q,Inv X pins σ H s->sP vs us->t vs σ H Q ->
  AQ (model X.prog X.w) X.A (assignInOrder ((CC ts X.env).map (·.2)) us) (λ_ s'=>∃ σ' H',Inv X pins σ' H' s'/\Q σ' H') X.xe s
abbrev AEb:=V->V->V->Hp->(Hp->Prop)->Prop
def ADJ (X:Cx) (t:AEb):Prop:=
 ∀ pins s (σ:St) H o i v ov iv u Q,Inv X pins σ H s->RelV o ov->RelV i iv->RelV v u->t o i v H Q ->
  AQ (model X.prog X.w) X.A (JT ov iv u) (λ_ s'=>∃ H',Inv X pins σ H' s'/\Q H') X.xe s
section
variable {X:Cx}{pos:Pos}
def xR (i:Nat):TG:=λv σ H Q=>Q (σ.set i (some v)) H
def Vy{x}(hN:X.N.Nodup)(hi:X.N[i]?=some x)(hx:Loc X.env.scope x)(hf:X.fn x=true\/X.env.scope.names.lookup x=some .local:=by first | exact .inl rfl | exact .inr rfl | assumption):PG X (.Name x pos) (xR i):=λpins s σ H v u Q I r h=>wpAny_assign_Name (M0 I hN hi hx r (λs' I'=>⟨_,H,I',h⟩) hf)
def ADg:TGs:=λvs σ H Q=>vs=[]/\Q σ H
def ABa (t:TG) (u:TGs):TGs:=λvs σ H Q=>∃ v r,vs=v::r/\t v σ H λσ' H'=>u r σ' H' Q
def kf:PGs X [] ADg:=by
 intro pins s σ H vs us Q I r h;obtain⟨e,h⟩:=h;exact F7 ⟨σ,H,I,h⟩
theorem XN{es t u}(h1:PG X e t)(h2:PGs X es u)
  (hs:(CC (e::es) X.env).map (·.2)=assign e X.env::(CC es X.env).map (·.2):=by rfl):PGs X (e::es) (ABa t u):=by
 intro pins s σ H vs us Q I r h;obtain⟨v,vr,rfl,h⟩:=h;cases r with
 | cons r rr =>
  rw[hs];exact Cf (tE (h1 pins s σ H _ _ _ I r h) λ_ s1 ⟨σ1,H1,I1,q1⟩=>h2 pins s1 σ1 H1 _ _ Q I1 rr q1)
def ACc (K:Ae) (n:Nat) (t:TGs):TG:=λv σ H Q=>∃ a xs,v=.ref a/\vH K H a xs/\xs.length=n/\t xs σ H Q
def Xx{k t n}(hc:X.calm=true)(h:PGs X es t)
  (hn:(CC es X.env).length=n:=by rfl) (hst:(CC es X.env).findIdx? (·.1)=none:=by rfl):PG X (.Tuple es k pos) (ACc X.K n t):=by
 intro pins s σ H v u Q I r hw;obtain⟨a,xs,rfl,hq,hl,hw⟩:=hw;cases r;obtain⟨its,rv,ht,hz⟩:=I.tuple hq;refine assign_Tuple_tuple (I.ok.hd hc) ht (by simp[hn,← hl,rv.length]) hst λh' hx=>?_
 exact h pins _ σ H xs _ Q (I.kept λb o e=>hx b o (Ag (AM e)) e) ‹_› hw
def ADK (to ti:TE) (t:AEb):TG:=λv σ H Q=>to σ H λo H1=>ti σ H1 λi H2=>t o i v H2 λH3=>Q σ H3
def ZH{to ti t}(ho:PE X o to)(hi:PE X i ti)(hs:ADJ X t)
  (ha:∀ v,assign (.Subscript o i pos) X.env v=(do
   let ov ← holding [v] (eval o X.env);let iv ← holding [v,ov] (eval i X.env)
   JU pos
   holding [v,ov,iv] (JT ov iv v)
   release [v,ov,iv] []):=by intro _;rfl):PG X (.Subscript o i pos) (ADK to ti t):=by
 intro pins s σ H v u Q I r h;rw[ha];exact AA (BQ (tE (ho pins s σ H _ I h) λov s1 ⟨x,H1,I1,r1,q1⟩=>AA (BQ (tE (hi pins s1 σ H1 _ I1 q1) λiv s2 ⟨y,H2,I2,r2,q2⟩=>AA (Ed (AA (BQ (tE (hs pins s2 σ H2 x y v ov iv u _ I2 r1 r2 r q2) λ_ s3 ⟨H3,I3,q3⟩=>wpAny_release ⟨σ,H3,I3,q3⟩))))))))
def yq (te:TE) (g:TG):TS:=λD σ H=>te σ H λx H1=>g x σ H1 D.nx
def SY{tg e te g}(he:PE X e te)(hg:PG X tg g)(hs:DG [tg] e pos.line X.env=pure false:=by rfl)(hw:DH [tg] e X.env=pure none:=by rfl)
  (h1:(CC [tg] X.env).map (·.2)=[assign tg X.env]:=by rfl):PS X (.Assign [tg] e pos) (yq te g):=by
 intro pins s σ H D I h;refine wpAny_Assign_stores (tE (he pins s σ H _ I h) λv s1 ⟨x,H1,I1,r1,q1⟩=>?_) hs hw;rw[h1];exact tE (hg pins s1 σ H1 x v _ I1 r1 q1) λ_ s2 q=>q
def RM{x e te pos'}(hN:X.N.Nodup)(hi:X.N[i]?=some x)(hx:Loc X.env.scope x)(he:PE X e te)(hs:Dj e (some (.Name x pos')) pos.line X.env=pure false:=by rfl)(hf:X.fn x=true\/X.env.scope.names.lookup x=some .local:=by first | exact .inl rfl | exact .inr rfl | assumption) :
  PS X (.Assign [.Name x pos'] e pos) (yq te (xR i)):=λpins s σ H D I h=>wpAny_Assign_Name (tE (he pins s σ H _ I h) λv s1 ⟨y,H1,I1,r1,q1⟩=>M0 I1 hN hi hx r1 (λs2 I2=>⟨_,H1,I2,q1⟩) hf) hs
def ADd (i j:Nat) (ta:TA):TS:=λD σ H=>ta σ H λvs H1=>∃ v w,vs=[v,w]/\D.nx ((σ.set i (some v)).set j (some w)) H1
def iA{x y a b ta px py pt kt k2 pt2}(hc:X.calm=true)(hN:X.N.Nodup)(hi:X.N[i]?=some x)(hj:X.N[j]?=some y)(hij:i≠j)
  (hx:X.env.scope.names.lookup x=some .local) (hy:X.env.scope.names.lookup y=some .local) (ha:PA X [a,b] ta)
  (hw:DH [.Tuple [.Name x px,.Name y py] kt pt] (.Tuple [a,b] k2 pt2) X.env=pure (some [x,y]))
  (hs:DG [.Tuple [.Name x px,.Name y py] kt pt] (.Tuple [a,b] k2 pt2) pos.line X.env=pure false:=by rfl) :
  PS X (.Assign [.Tuple [.Name x px,.Name y py] kt pt] (.Tuple [a,b] k2 pt2) pos) (ADd i j ta):=by
 intro pins s σ H D I h;refine AA (Ed (AA (AG (AA (Tuple_ (tE (ha _ pins s σ H _ I h) λus s1 ⟨vs,H1,I1,r1,q1⟩=>?_))))));obtain⟨v,w,rfl,q1⟩:=q1;obtain⟨u1,u2,rfl,rv,rw'⟩:∃ u1 u2,us=[u1,u2]/\RelV v u1/\RelV w u2:=by
  cases r1 with
  | cons p q =>
   cases q with
   | cons p' q' =>
    cases q';exact⟨_,_,rfl,p,p'⟩
 refine A9 ?_ (by show 2<=AC;decide);have I2:Inv X pins σ H1 { s1 with heap:=s1.heap.push { cls:=.type "tuple",data:=.seq [u1,u2].toArray } }:=I1.kept λb o e=>AB _ e
 rw[hw];refine AA (AG (AA (CS (AA (JV (items:=#[u1,u2]) (I.ok.hd hc) (J4 s1.heap _) λh' hx'=>?_)))));refine AA (Cf (EH (M0 (I2.kept λb o e=>hx' b o (Ag (AM e)) e) hN hj (.inl hy) rw' (λs2 I4=>Cf (EH (M0 I4 hN hi (.inl hx) rv (λs3 I5=>F7 (AG ?_)) (.inr hx)))) (.inr hy))));rw[FI _ _ (Ax hij)]at I5;exact⟨_,H1,I5,q1⟩
end
section
variable {X:Cx}{pos:Pos}
def AAE (c:TT) (tb:TS):TS:=λD σ H=>∃ W:Nat->St->Hp->Prop,(∃ m,W m σ H)/\∀ m σ H,W m σ H ->
 c σ H λb H1=>if b=true then ∃ N,(∀ σ' H',N σ' H'->∃ m',m' < m/\W m' σ' H')/\tb { D with nx:=N,ct:=N,bk:=D.nx } σ H1 else D.nx σ H1
theorem dQ{body tc tb}(hp:Hi (model X.prog X.w) X.A X.env X.xe)(hc:PT X c tc)(hb:yn X body tb):PS X (.While c body [] pos) (AAE tc tb):=by
 intro pins s σ H D I h;obtain⟨W,⟨m0,w0⟩,turn⟩:=h;refine wpAny_While (codeAny_whileLoop (λn s'=>∃ σ' H',Inv X pins σ' H' s'/\W n σ' H') ?_ m0 ⟨σ,H,I,w0⟩);rintro n s1 ⟨σ1,H1,I1,w1⟩;refine Cq hp (tE (hc pins s1 σ1 H1 _ I1 (turn n σ1 H1 w1)) λb s2 ⟨H2,I2,q2⟩=>?_);cases b with
 | true =>
  obtain⟨N,hN,q2⟩:=q2;refine Cq hp (tE (hb pins s2 σ1 H2 _ I2 q2) λf s3 q3=>?_);cases f with
  | next | cont =>
   obtain⟨σ3,H3,I3,n3⟩:=q3;obtain⟨m',hm,w3⟩:=hN σ3 H3 n3;exact⟨m',hm,σ3,H3,I3,w3⟩
  | brk | ret v=>exact q3
 | false =>
  exact FC ⟨σ1,H2,I2,q2⟩
end
structure It where
 go:Nat->Hp->Prop
 yld:Nat->Hp->V->Hp->Prop
 stop:Nat->Hp->Prop
def yH (X:Cx) (pins:List (Addr×Obj)) (H:Hp) (b:Addr):Prop:=
 H b=none/\b≠X.env.locals/\b∉X.fs/\(b∈X.ex\/X.s₀.heap.objs.size<=b)/\(∀ x c,X.env.cells.lookup x=some c->c≠b)/\∀ p∈X.pn++pins,p.1≠b
def Inv.fpOk{pins}{σ:St}{H H' s}{b:Addr}(I:Inv X pins σ H s)(hb:s.heap.objs.size<=b)(hn:H' b=none):yH X pins H' b:=by
 refine⟨hn,Bk (AW I.lt hb),I.nofs hb,.inr (Ah I.sz hb),λx c e z=>?_,λp hp z=>?_⟩
 ·obtain⟨v,q⟩:=I.cell x c e;exact absurd (AW q.lt (by simp_all)) (BE _)
 ·exact absurd (AW (AM (I.pin p hp).1) (by simp_all)) (BE _)
structure zf(P:Aj)(w:A5)(K:Ae)(tg:Expr)(J:It)(fp:List Addr)(it:Addr)(tn:Nat->Heap->Prop):Prop where
 mem:it∈fp
 obj:∀ i h,tn i h->∀ b∈fp,∃ o,h.get? b=some o/\∀ v,o.data≠.cell v
 keep:∀ i h h',tn i h->(∀ b∈fp,∀ o,h.get? b=some o->h'.get? b=some o)->tn i h'
 item:∀ (X:Cx),X.prog=P->X.w=w->X.K=K->X.calm=true->∀ (i:Nat) (pins:List (Addr×Obj)) (s:AR) (σ:St) (H:Hp) (E:AL->AR->Prop),Inv X pins σ H s->(∀ b∈fp,yH X pins H b)->tn i s.heap->J.go i H ->
  AQ (model P w) X.A (E8 (.ref it)) (λr s1=>∃ u,r=some u /\
   AQ (model P w) X.A (G0 tg (.ref it) u) (λ_ s2=>∃ x H',Inv X pins σ H' s2/\RelV x u/\J.yld i H x H'/\tn (i+1) s2.heap/\∀ b∈fp,H' b=none) E s1) E s
 done:∀ (X:Cx),X.prog=P->X.w=w->X.K=K->X.calm=true->∀ (i:Nat) (pins:List (Addr×Obj)) (s:AR) (σ:St) (H:Hp) (E:AL->AR->Prop),Inv X pins σ H s->(∀ b∈fp,yH X pins H b)->tn i s.heap->J.stop i H ->
  AQ (model P w) X.A (E8 (.ref it)) (λr s1=>r=none/\Inv X pins σ H s1) E s
 self:∀ (A:BG) (i:Nat) (s:AR) (Q:AL->AR->Prop) (E:AL->AR->Prop),tn i s.heap->Q (.ref it) s->AQ (model P w) A (GW (.ref it)) Q E s
abbrev TI:=St->Hp->(It->Hp->Prop)->Prop
def PIE (X:Cx) (pins:List (Addr×Obj)) (σ:St) (tg:Expr) (R:It->Hp->Prop) (itv:AL) (s2:AR):Prop:=
 ∃ (it:Addr) (fp:List Addr) (tn:Nat->Heap->Prop) (J:It) (H':Hp),itv=.ref it/\Inv X pins σ H' s2/\zf X.prog X.w X.K tg J fp it tn/\tn 0 s2.heap/\(∀ b∈fp,yH X pins H' b)/\R J H'
def PI (X:Cx) (tg iter:Expr) (wi:TI):Prop:=
 ∀ pins s (σ:St) H R,Inv X pins σ H s->wi σ H R ->
  AQ (model X.prog X.w) X.A (eval iter X.env) (λv s1=>AQ (model X.prog X.w) X.A (GW v) (PIE X pins σ tg R) X.xe s1) X.xe s
def O5{A E s tg it u o n vs Q}(ho:s.heap.get? it=some o)(hc:o.cls=.type n)(hd:o.data=.fields vs)
  (hn:["enumerate","zip","dict_itemiterator","dict_reverseitemiterator","odict_iterator","itertools.zip_longest","itertools.pairwise"].contains n=false) (hQ:Q () s):AQ M A (G0 tg (.ref it) u) Q E s:=by
 cases tg <;> first
  | exact AG hQ
  | (cases u <;> first
    | exact AG hQ
    | (
      refine AA (wpAny_load ho ?_);rw[hc,hd];show AQ M A (if (["enumerate","zip","dict_itemiterator","dict_reverseitemiterator","odict_iterator","itertools.zip_longest","itertools.pairwise"].contains n && vs[0]? == some (Dy _))=true then _ else _) Q E s;rw[if_neg (by intro h;rw[hn]at h;cases h)];exact AG hQ))
def Itl (K:Ae) (a:Addr):It:=
 ⟨λi H=>∃ xs x,uL K H a xs/\xs[i]?=some x,λi H x H'=>H'=H/\∀ xs,uL K H a xs->xs[i]?=some x,λi H=>∃ xs,uL K H a xs/\xs.length<=i⟩
def Itt (K:Ae) (a:Addr):It:=
 ⟨λi H=>∃ xs x,vH K H a xs/\xs[i]?=some x,λi H x H'=>H'=H/\∀ xs,vH K H a xs->xs[i]?=some x,λi H=>∃ xs,vH K H a xs/\xs.length<=i⟩
def Itr (lo:Int) (n:Nat):It:=⟨λi _=>i < n,λi H x H'=>H'=H/\x=.int (lo+i),λi _=>n<=i⟩
def XB{K tg} a it:zf P w K tg (Itl K a) [it] it (λi h=>h.IsListIter it a i) where
 mem:=by simp
 obj:=λi h st b hb=>by
  have e:=by simpa using hb
  subst e;obtain⟨o,e,c,d⟩:=st;exact⟨o,e,λv z=>by rw[d]at z;cases z⟩
 keep:=λi h h' st k=>st.at λo e=>k it ↥1 o e
 item:=by
  intro X hP hw hK hc i pins s σ H E I hf st hg;subst hP hw hK;obtain⟨xs,x,hq,hx⟩:=hg;obtain⟨its,rv,p,hz⟩:=I.list hq;obtain⟨u,hu,ru⟩:=rv.get hx;obtain⟨f0,f1,f2,f3,f4,f5⟩:=hf it ↥1;refine wpAny_pyNext_list_item st p.isList (by simpa using hu) λh' st' sb=>?_
  obtain⟨o,e,c,d⟩:=id st';exact⟨u,rfl,O5 e c d ∅ ⟨x,H,(I.turned (λb o hb e=>(sb.2 b hb).trans e) f0 f1 f3 f4 f5),ru,⟨rfl,λys hy=>by rw[I.list_inj hy hq];exact hx⟩,st',λb hb=>(hf b hb).1⟩⟩
 done:=by
  intro X hP hw hK hc i pins s σ H E I hf st hg;subst hP hw hK;obtain⟨xs,hq,hx⟩:=hg;obtain⟨its,rv,p,hz⟩:=I.list hq;obtain⟨f0,f1,f2,f3,f4,f5⟩:=hf it ↥1;have hl:=rv.length;exact wpAny_pyNext_list_end (I.ok.hd hc) st p.isList ↥2 λh' eb=>⟨rfl,I.turned (eb) f0 f1 f3 f4 f5⟩
 self:=λ_ _ _ _ _ st h=>wpAny_pyIter_listiter st h
def fM{K tg} a it:zf P w K tg (Itt K a) [it] it (λi h=>h.IsTupleIter it a i) where
 mem:=by simp
 obj:=λi h st b hb=>by
  have e:=by simpa using hb
  subst e;obtain⟨o,e,c,d⟩:=st;exact⟨o,e,λv z=>by rw[d]at z;cases z⟩
 keep:=λi h h' st k=>st.at λo e=>k it ↥1 o e
 item:=by
  intro X hP hw hK hc i pins s σ H E I hf st hg;subst hP hw hK;obtain⟨xs,x,hq,hx⟩:=hg;obtain⟨its,rv,p,hz⟩:=I.tuple hq;obtain⟨u,hu,ru⟩:=rv.get hx;obtain⟨f0,f1,f2,f3,f4,f5⟩:=hf it ↥1;refine wpAny_pyNext_tuple_item st p (by simpa using hu) λh' st' sb=>?_
  obtain⟨o,e,c,d⟩:=id st';exact⟨u,rfl,O5 e c d ∅ ⟨x,H,(I.turned (λb o hb e=>(sb.2 b hb).trans e) f0 f1 f3 f4 f5),ru,⟨rfl,λys hy=>by rw[I.tuple_inj hy hq];exact hx⟩,st',λb hb=>(hf b hb).1⟩⟩
 done:=by
  intro X hP hw hK hc i pins s σ H E I hf st hg;subst hP hw hK;obtain⟨xs,hq,hx⟩:=hg;obtain⟨its,rv,p,hz⟩:=I.tuple hq;obtain⟨f0,f1,f2,f3,f4,f5⟩:=hf it ↥1;have hl:=rv.length;exact wpAny_pyNext_tuple_end (I.ok.hd hc) st p ↥2 λh' eb=>⟨rfl,I.turned (eb) f0 f1 f3 f4 f5⟩
 self:=λ_ _ _ _ _ st h=>wpAny_pyIter_tupleiter st h
def eP{K tg} it lo n:zf P w K tg (Itr lo n) [it] it (λi h=>IsRangeIter h it (lo+i * 1) (n - i) 1) where
 mem:=by simp
 obj:=λi h st b hb=>by
  simp_all
 keep:=λi h h' st k=>k it ↥1 _ st
 item:=by
  intro X hP hw hK hc i pins s σ H E I hf st hg;obtain⟨f0,f1,f2,f3,f4,f5⟩:=hf it ↥1;refine (Walks.range (I.ok.hd hc) it lo 1 n).item i s _ _ hg st λv h' tk hv st' kk=>?_
  obtain⟨t,rfl⟩:=hv;have I1:Inv X pins σ H { s with heap:=h',toks:=tk }:=I.turned (λb o hb e=>kk b o (by simpa using hb) e) f0 f1 f3 f4 f5;refine⟨_,rfl,O5 st' rfl rfl ∅ ⟨.int (lo+i),H,I1,⟨t,?_⟩,⟨rfl,rfl⟩,st',λb hb=>(hf b hb).1⟩⟩;rw[Int.mul_one]
 done:=by
  intro X hP hw hK hc i pins s σ H E I hf st hg;obtain⟨f0,f1,f2,f3,f4,f5⟩:=hf it ↥1;exact wpAny_pyNext_range_end (I.ok.hd hc) st (by have:n<=i:=hg;lia) λh' eb=>⟨rfl,I.turned (eb) f0 f1 f3 f4 f5⟩
 self:=λ_ _ _ _ _ st h=>wpAny_pyIter_rangeiter st h
section
variable {X:Cx}{tg:Expr}
def Up{σ:St}{H s R E lo hi t u v tk}(I:Inv X pins σ H s)(h1:-(2 ^ 62)<=lo)(h2:lo < 2 ^ 62)(h3:-(2 ^ 62)<=hi)(h4:hi < 2 ^ 62)
  (q:R (Itr lo (hi - lo).toNat) H):AQ (model X.prog X.w) X.A (GW (.ref s.heap.objs.size)) (PIE X pins σ tg R) E { s with heap:=s.heap.push { cls:=.type "range",data:=.fields #[.int lo t,.int hi u,.int 1 v] },toks:=tk }:=by
 refine wpAny_pyIter_range (IsRange.new ..) (Jh h1 h2 h3 h4) ?_;have I1:Inv X pins σ H { s with heap:=s.heap.push { cls:=.type "range",data:=.fields #[.int lo t,.int hi u,.int 1 v] },toks:=tk }:=I.kept λb o e=>AB _ e
 refine⟨(s.heap.push { cls:=.type "range",data:=.fields #[.int lo t,.int hi u,.int 1 v] }).objs.size,[(s.heap.push { cls:=.type "range",data:=.fields #[.int lo t,.int hi u,.int 1 v] }).objs.size],_,_,H,rfl,
  I1.kept λb o e=>AB _ e,eP _ lo (hi - lo).toNat,?_,λb hb=>?_,q⟩
 ·have e1:lo+(0:Nat) * 1=lo:=by simp
  have e2:((hi - lo).toNat) - (0:Nat)=CG lo hi 1:=by rw[Kz];split <;> lia
  rw[e1,e2];exact AK _ rfl
 ·have e:b=(s.heap.push { cls:=.type "range",data:=.fields #[.int lo t,.int hi u,.int 1 v] }).objs.size:=by simpa using hb
  subst e;exact I1.fpOk (AF _) (I1.hok.fresh (AF _))
def ABX (ta:TA):TI:=λσ H R=>ta σ H λvs H1=>∃ j:Int,vs=[.int j]/\-(2 ^ 62)<=j/\j < 2 ^ 62/\R (Itr 0 j.toNat) H1
def ABL (ta:TA):TI:=λσ H R=>ta σ H λvs H1=>∃ i j:Int,vs=[.int i,.int j]/\(-(2 ^ 62)<=i/\i < 2 ^ 62/\-(2 ^ 62)<=j/\j < 2 ^ 62)/\R (Itr i (j - i).toNat) H1
theorem iE{p pos}(hg:Gl X "range")(hm:X.mg "range"=none)(ha:PA X [a] ta)(hs:AV [a] X.env=[(false,eval a X.env)]:=by rfl):PI X tg (.Call (.Name "range" p) [a] [] pos) (ABX ta):=by
 intro pins s σ H R I h;refine Hj (MK I hg hm boot_range (A7 (tE (ha pos pins s σ H _ I h) λus s1 ⟨vs,H1,I1,r1,q1⟩=>?_) hs rfl));obtain⟨j,rfl,q1,q2,q⟩:=q1;cases r1 with
 | cons r rr =>
  cases rr;obtain⟨t,rfl⟩:=r;exact LJ (Up I1 ⋯ ⋯ q1 q2 (by simp_all))
theorem aB{p pos}(hg:Gl X "range")(hm:X.mg "range"=none)(ha:PA X [a,b] ta)(hs:AV [a,b] X.env=[(false,eval a X.env),(false,eval b X.env)]:=by rfl)(hs2:AV [b] X.env=[(false,eval b X.env)]:=by rfl) :
  PI X tg (.Call (.Name "range" p) [a,b] [] pos) (ABL ta):=by
 intro pins s σ H R I h;refine Hj (MK I hg hm boot_range (A7 (tE (ha pos pins s σ H _ I h) λus s1 ⟨vs,H1,I1,r1,q1⟩=>?_) (by simp_all) (by rw[hs2];rfl)));obtain⟨i,j,rfl,⟨q1,q2,q3,q4⟩,q⟩:=q1;cases r1 with
 | cons r rr =>
  cases rr with
  | cons r' rr =>
   cases rr;obtain⟨t,rfl⟩:=r;obtain⟨t',rfl⟩:=r';exact LK (Up I1 q1 q2 q3 q4 q)
def ADH (wi:TI) (g:TG) (tb:TS):TS:=λD σ H=>wi σ H λJ H1=>∃ W:Nat->Nat->St->Hp->Prop,(∃ m,W 0 m σ H1)/\∀ i m σ H,W i m σ H ->
 (J.stop i H/\D.nx σ H)\/(J.go i H/\∃ N,(∀ σ' H',N σ' H'->∃ m',m' < m/\W (i+1) m' σ' H')/\∀ x H',J.yld i H x H'->g x σ H' λσ2 H2=>tb { D with nx:=N,ct:=N,bk:=D.nx } σ2 H2)
def vb (fp:List Addr) (h:Heap):List (Addr×Obj):=fp.filterMap λb=>(h.get? b).map λo=>(b,o)
def Qh{b o}(hb:b∈fp)(e:h.get? b=some o):(b,o)∈vb fp h:=Hk.mpr ⟨b,hb,by rw[e];rfl⟩
theorem gJ{p}(hp:p∈vb fp h):p.1∈fp/\h.get? p.1=some p.2:=by
 obtain⟨b,hb,e⟩:=Hk.mp hp;cases q:h.get? b with
 | none=>rw[q]at e;cases e
 | some o =>
  rw[q]at e;have e':=Av e;subst e';exact⟨hb,q⟩
def Inv.pinned{σ:St}{H s fp}(I:Inv X pins σ H s)(hf:∀ b∈fp,yH X pins H b)(ho:∀ b∈fp,∃ o,s.heap.get? b=some o/\∀ v,o.data≠.cell v):Inv X (pins++vb fp s.heap) σ H s:=
 I.pins_of λp hp=>(A6.mp hp).elim (λz=>I.pin p (Ab _ z)) λz=>by
  obtain⟨hb,e⟩:=gJ z;obtain⟨f0,f1,f2,_⟩:=hf p.1 hb;obtain⟨o,e',d⟩:=ho p.1 hb;simp_all
def Inv.unpinned{σ:St}{H s}(I:Inv X (pins++pl) σ H s):Inv X pins σ H s:=I.pins_of λp hp=>I.pin p (Ab _ (BB _ hp))
def Zq{body wi g tb pos}(hp:Hi (model X.prog X.w) X.A X.env X.xe)(hc:X.calm=true)(hi:PI X tg iter wi)(hg:PG X tg g)(hb:yn X body tb)
  (hs:∀ x,CM iter X.env x=pure x:=by intro _;rfl):PS X (.For tg iter body [] pos) (ADH wi g tb):=by
 intro pins s σ H D I h;refine wpAny_For (tE (hi pins s σ H _ I h) λv s1 h1=>tE h1 λitv s2 h2=>?_) hs;obtain⟨it,fp,tn,J,H2,rfl,I2,T,st2,f2,W,⟨m0,w0⟩,turn⟩:=h2;have stat:∀ {H':Hp},(∀ b∈fp,H' b=none)->∀ b∈fp,yH X pins H' b:=λhn b hb=>⟨hn b hb,(f2 b hb).2⟩
 refine codeAny_forLoop_any (λn s'=>∃ i σ' H',Inv X pins σ' H' s'/\tn i s'.heap/\(∀ b∈fp,H' b=none)/\W i n σ' H') ?_ m0 ⟨0,σ,H2,I2,st2,λb hb=>(f2 b hb).1,w0⟩;rintro n s3 ⟨i,σ3,H3,I3,st3,fr3,w3⟩;rcases turn i n σ3 H3 w3 with ⟨stop,qn⟩ | ⟨go,N,hN,step⟩
 ·refine Cq hp (tE (T.done X rfl rfl rfl hc i pins s3 σ3 H3 X.xe I3 (stat fr3) st3 stop) λr s4 ⟨hr,I4⟩=>?_);subst hr;exact FC ⟨σ3,H3,I4,qn⟩
 ·refine Cq hp (tE (T.item X rfl rfl rfl hc i pins s3 σ3 H3 X.xe I3 (stat fr3) st3 go) λr s4 ⟨u,hr,h4⟩=>?_);subst hr;refine Cq hp (tE h4 λ_ s5 ⟨x,H5,I5,r5,y5,st5,fr5⟩=>Cq hp (tE (hg _ s5 σ3 H5 x u _ (I5.pinned (stat fr5) (T.obj _ _ st5)) r5 (step x H5 y5)) λ_ s6 ⟨σ6,H6,I6,q6⟩=>Cq hp (tE (hb _ s6 σ6 H6 _ I6 q6) λf s7 q7=>?_)));have again:∀ {σ7:St} {H7:Hp},Inv X (pins++vb fp s5.heap) σ7 H7 s7->N σ7 H7->∃ m,m < n/\∃ i σ' H',Inv X pins σ' H' s7/\tn i s7.heap/\(∀ b∈fp,H' b=none)/\W i m σ' H':=λ{σ7 H7} I7 n7=>by
   obtain⟨m',hm,w7⟩:=hN σ7 H7 n7;refine⟨m',hm,i+1,σ7,H7,I7.unpinned,T.keep _ _ _ st5 λb hb o e=>(I7.pin (b,o) (Ab _ (Ab _ (Qh hb e)))).1,λb hb=>?_,w7⟩;obtain⟨o,e,d⟩:=T.obj _ _ st5 b hb;exact (I7.pin (b,o) (Ab _ (Ab _ (Qh hb e)))).2.1
  cases f with
  | next | cont=>obtain⟨σ7,H7,I7,n7⟩:=q7;exact again I7 n7
  | brk=>obtain⟨σ7,H7,I7,q7⟩:=q7;exact⟨σ7,H7,I7.unpinned,q7⟩
  | ret v=>obtain⟨x7,σ7,H7,I7,r7,q7⟩:=q7;exact⟨x7,σ7,H7,I7.unpinned,r7,q7⟩
end
abbrev R2:=V->V->Hp->VK->Prop
def u5 (X:Cx) (f:AL->AL->Sem AL) (r:R2):Prop:=
 ∀ pins s (σ:St) H x y v u Q,Inv X pins σ H s->RelV x v->RelV y u->r x y H Q ->
  AQ (model X.prog X.w) X.A (f v u) (EP X pins σ Q) X.xe s
def UnR (X:Cx) (f:AL->Sem AL) (r:V->Hp->VK->Prop):Prop:=
 ∀ pins s (σ:St) H x v Q,Inv X pins σ H s->RelV x v->r x H Q ->
  AQ (model X.prog X.w) X.A (f v) (EP X pins σ Q) X.xe s
def tJ (X:Cx) (f:AL) (r:List V->Hp->VK->Prop):Prop:=
 ∀ pins s (σ:St) H xs us Q,Inv X pins σ H s->sP xs us->r xs H Q ->
  AQ (model X.prog X.w) X.A (call f us) (EP X pins σ Q) X.xe s
def AFf (X:Cx) (r:V->Hp->(Bool->Hp->Prop)->Prop):Prop:=
 ∀ pins s (σ:St) H x v Q,Inv X pins σ H s->RelV x v->r x H Q ->
  AQ (model X.prog X.w) X.A (truthy v) (TP X pins σ Q) X.xe s
def tOp (r:R2) (ta tb:TE):TE:=λσ H Q=>ta σ H λx H1=>tb σ H1 λy H2=>r x y H2 Q
def tUn (r:V->Hp->VK->Prop) (ta:TE):TE:=λσ H Q=>ta σ H λx H1=>r x H1 Q
def rI (C:Int->Int->Prop) (g:Int->Int->V):R2:=λx y H Q=>∃ i j,x=.int i/\y=.int j/\C i j/\Q (g i j) H
def rI0 (g:Int->Int->V):R2:=λx y H Q=>∃ i j,x=.int i/\y=.int j/\Q (g i j) H
def rU (g:Int->V):V->Hp->VK->Prop:=λx H Q=>∃ i,x=.int i/\Q (g i) H
section
variable {X:Cx}{a b c:Expr}{ta tb tc:TE}{pos:Pos}
def ACq(ha:PE X a ta)(hb:PE X b tb){pins s}{σ:St}{H}{R:V->V->Hp->Prop}(I:Inv X pins σ H s)
  (h:ta σ H λx H1=>tb σ H1 λy H2=>R x y H2) {Q} {f:AL->AL->Sem AL}
  (hf:∀ v u s2 x y H2,Inv X pins σ H2 s2->RelV x v->RelV y u->R x y H2->AQ (model X.prog X.w) X.A (f v u) Q X.xe s2) :
  AQ (model X.prog X.w) X.A (eval a X.env) (λv s₁=>AQ (model X.prog X.w) X.A (eval b X.env) (λu s₂=>AQ (model X.prog X.w) X.A (f v u) Q X.xe s₂) X.xe s₁) X.xe s:=tE (ha pins s σ H _ I h) λv s1 ⟨x,H1,I1,r1,q1⟩=>tE (hb pins s1 σ H1 _ I1 q1) λu s2 ⟨y,H2,I2,r2,q2⟩=>hf v u s2 x y H2 I2 r1 r2 q2
def j4(ho:u5 X (CZ op) r)(ha:PE X a ta)(hb:PE X b tb):PE X (.BinOp a op b pos) (tOp r ta tb):=λpins s σ H Q I h=>wpAny_BinOp (ACq ha hb I h λv u s2 x y H2 I2 rx ry q=>ho pins s2 σ H2 x y v u Q I2 rx ry q)
def Yq{r}(ho:UnR X (unaryOp op) r)(ha:PE X a ta):PE X (.UnaryOp op a pos) (tUn r ta):=λpins s σ H Q I h=>UnaryOp_ (tE (ha pins s σ H _ I h) λv s1 ⟨x,H1,I1,r1,q1⟩=>ho pins s1 σ H1 x v Q I1 r1 q1)
def opI{C}{g:Int->Int->Int}
  (rule:∀ i j t u s Q E,C i j->Q (.int (g i j) s.toks) { s with toks:=s.toks+1 }->AQ (model X.prog X.w) X.A (f (.int i t) (.int j u)) Q E s) :
  u5 X f (rI C λi j=>.int (g i j)):=by
 intro pins s σ H x y v u Q I rx ry h;obtain⟨i,j,rfl,rfl,hc,q⟩:=h;obtain⟨t,rfl⟩:=rx;obtain⟨t',rfl⟩:=ry;exact rule i j t t' s _ _ hc ⟨.int (g i j),H,I.tok _,⟨_,rfl⟩,q⟩
def ADL{g:Int->Int->Int}
  (rule:∀ i j t u s Q E,Q (.int (g i j) s.toks) { s with toks:=s.toks+1 }->AQ (model X.prog X.w) X.A (f (.int i t) (.int j u)) Q E s) :
  u5 X f (rI0 λi j=>.int (g i j)):=by
 intro pins s σ H x y v u Q I rx ry h;obtain⟨i,j,rfl,rfl,q⟩:=h;obtain⟨t,rfl⟩:=rx;obtain⟨t',rfl⟩:=ry;exact rule i j t t' s _ _ ⟨.int (g i j),H,I.tok _,⟨_,rfl⟩,q⟩
def ACO{g:Int->Int->Bool}
  (rule:∀ i j t u s Q E,Q (.bool (g i j)) s->AQ (model X.prog X.w) X.A (f (.int i t) (.int j u)) Q E s) :
  u5 X f (rI0 λi j=>.bl (g i j)):=by
 intro pins s σ H x y v u Q I rx ry h;obtain⟨i,j,rfl,rfl,q⟩:=h;obtain⟨t,rfl⟩:=rx;obtain⟨t',rfl⟩:=ry;exact rule i j t t' s _ _ ⟨.bl (g i j),H,I,rfl,q⟩
def wo (i j:Int):Prop:=0 < j/\j < 1073741824
def zK (i j:Int):Prop:=0<=j/\j<=1000000/\i.natAbs < 2 ^ 64
def ua (i j:Int):Prop:=(-(2 ^ 64) < i/\i < 2 ^ 64)\/(-(2 ^ 64) < j/\j < 2 ^ 64)
def ua.ok(h:ua i j):IntMulOk i j:=by
 rcases h with ⟨h1,h2⟩ | ⟨h1,h2⟩
 ·exact .of_left (K0 h1 h2)
 ·exact .of_right (K0 h1 h2)
def bY:u5 X (CZ .Add) (rI0 λi j=>.int (i+j)):=ADL λ_ _ _ _ _ _ _ q=>add_int q
def ZQ:u5 X (CZ .Sub) (rI0 λi j=>.int (i - j)):=ADL λ_ _ _ _ _ _ _ q=>sub_int q
def eA:u5 X (CZ .Mult) (rI ua λi j=>.int (i * j)):=opI λ_ _ _ _ _ _ _ hc q=>mul_int q hc.ok
def mE:u5 X (CZ .FloorDiv) (rI wo λi j=>.int (i / j)):=opI λi j _ _ _ _ _ hc q=>by
 have h1:=hc.1;have h2:=hc.2;exact floordiv_int ⋯ (by rw[Int.fdiv_eq_ediv_of_nonneg i ⋯];exact q) (.inl (PyProof.noPylong_small ⋯))
def gQ:u5 X (CZ .Mod) (rI (λ_ j=>0 < j) λi j=>.int (i % j)):=opI λi j _ _ _ _ _ hc q=>mod_int' ⋯ (by rw[Int.fmod_eq_emod_of_nonneg i ⋯];exact q)
def eC:u5 X (CZ .Pow) (rI zK λi j=>.int (i ^ j.toNat)):=opI λ_ _ _ _ _ _ _ hc q=>pow_int_small hc.1 hc.2.1 hc.2.2 q
def Z1{g:Int->Int}
  (rule:∀ i t s Q E,Q (.int (g i) s.toks) { s with toks:=s.toks+1 }->AQ (model X.prog X.w) X.A (f (.int i t)) Q E s) :
  UnR X f (rU λi=>.int (g i)):=by
 intro pins s σ H x v Q I rx h;obtain⟨i,rfl,q⟩:=h;obtain⟨t,rfl⟩:=rx;exact rule i t s _ _ ⟨.int (g i),H,I.tok _,⟨_,rfl⟩,q⟩
def ic:UnR X (unaryOp .USub) (rU λi=>.int (-i)):=Z1 λ_ _ _ _ _ q=>neg_int q
end
def ACr:V->V->Bool
 | .non,.non=>true | .non,.int _=>true | .int _,.non=>true | .non,.bl _=>true | .bl _,.non=>true | .non,.str _=>true | .str _,.non=>true
 | .int _,.int _=>true | .bl _,.bl _=>true | .str _,.str _=>true | .byt _,.byt _=>true
 | .int _,.str _=>true | .str _,.int _=>true | .bl _,.str _=>true | .str _,.bl _=>true
 | _,_=>false
def rEq:R2:=λx y H Q=>ACr x y=true/\Q (.bl (decide (x=y))) H
def rNe:R2:=λx y H Q=>ACr x y=true/\Q (.bl (!decide (x=y))) H
def Wf:decide (V.int i=V.int j)=(i == j):=by
 rw[Ee];simp
def Uk:decide (V.bl i=V.bl j)=(i == j):=by
 rw[Ee];simp
def VT:decide (V.str i=V.str j)=(i == j):=by
 rw[Ee];simp
def SV:decide (V.byt i=V.byt j)=(i.toList == j.toList):=by
 rw[Ee];cases i;cases j;simp
section
variable {X:Cx}{a b c:Expr}{ta tb tc:TE}{pos:Pos}
def Le{σ:St}{H s Q k k'}(I:Inv X pins σ H s)(q:Q (.bl k) H)(e:k=k'):EP X pins σ Q (.bool k') s:=by
 subst e;exact⟨.bl k,H,I,rfl,q⟩
theorem gE:u5 X (BO .Eq) rEq:=by
 intro pins s σ H x y v u Q I rx ry h;obtain⟨hs,q⟩:=h;cases x with
 | non =>
  cases rx;cases y with
  | non=>cases ry;exact J5 (Le I q ↥1)
  | bl j=>cases ry;exact J6 (Le I q ↥1)
  | int j=>obtain⟨t',rfl⟩:=ry;exact J7 (Le I q ↥1)
  | str j=>obtain⟨t',rfl⟩:=ry;exact J8 (Le I q ↥1)
  | _=>exact absurd (show false=true from hs) AZ
 | bl i =>
  cases rx;cases y with
  | non=>cases ry;exact J9 (Le I q ↥1)
  | bl j=>cases ry;exact eq_bool (Le I q Uk)
  | str j=>obtain⟨t',rfl⟩:=ry;exact Ji (Le I q ↥1)
  | _=>exact absurd (show false=true from hs) AZ
 | int i =>
  obtain⟨t,rfl⟩:=rx;cases y with
  | non=>cases ry;exact KA (Le I q ↥1)
  | int j=>obtain⟨t',rfl⟩:=ry;exact eq_int (Le I q Wf)
  | str j=>obtain⟨t',rfl⟩:=ry;exact Jj (Le I q ↥1)
  | _=>exact absurd (show false=true from hs) AZ
 | str i =>
  obtain⟨t,rfl⟩:=rx;cases y with
  | non=>cases ry;exact KB (Le I q ↥1)
  | bl j=>cases ry;exact Jk (Le I q ↥1)
  | int j=>obtain⟨t',rfl⟩:=ry;exact Jl (Le I q ↥1)
  | str j=>obtain⟨t',rfl⟩:=ry;exact eq_str (Le I q VT)
  | _=>exact absurd (show false=true from hs) AZ
 | byt i =>
  obtain⟨t,rfl⟩:=rx;cases y with
  | byt j=>obtain⟨t',rfl⟩:=ry;exact PySem.W.eq_bytes (Le I q SV)
  | _=>exact absurd (show false=true from hs) AZ
 | _=>cases y <;> exact absurd (show false=true from hs) AZ
theorem kL:u5 X (BO .NotEq) rNe:=by
 intro pins s σ H x y v u Q I rx ry h;obtain⟨hs,q⟩:=h;cases x with
 | non =>
  cases rx;cases y with
  | non=>cases ry;exact KD (Le I q ↥1)
  | bl j=>cases ry;exact KE (Le I q ↥1)
  | int j=>obtain⟨t',rfl⟩:=ry;exact KG (Le I q ↥1)
  | str j=>obtain⟨t',rfl⟩:=ry;exact KH (Le I q ↥1)
  | _=>exact absurd (show false=true from hs) AZ
 | bl i =>
  cases rx;cases y with
  | non=>cases ry;exact KI (Le I q ↥1)
  | bl j=>cases ry;exact ne_bool (Le I q (congrArg not Uk))
  | str j=>obtain⟨t',rfl⟩:=ry;exact Jm (Le I q ↥1)
  | _=>exact absurd (show false=true from hs) AZ
 | int i =>
  obtain⟨t,rfl⟩:=rx;cases y with
  | non=>cases ry;exact KJ (Le I q ↥1)
  | int j=>obtain⟨t',rfl⟩:=ry;exact ne_int (Le I q (congrArg not Wf))
  | str j=>obtain⟨t',rfl⟩:=ry;exact Jn (Le I q ↥1)
  | _=>exact absurd (show false=true from hs) AZ
 | str i =>
  obtain⟨t,rfl⟩:=rx;cases y with
  | non=>cases ry;exact KM (Le I q ↥1)
  | bl j=>cases ry;exact Jo (Le I q ↥1)
  | int j=>obtain⟨t',rfl⟩:=ry;exact Jp (Le I q ↥1)
  | str j=>obtain⟨t',rfl⟩:=ry;exact ne_str (Le I q (congrArg not VT))
  | _=>exact absurd (show false=true from hs) AZ
 | byt i =>
  obtain⟨t,rfl⟩:=rx;cases y with
  | byt j=>obtain⟨t',rfl⟩:=ry;exact PySem.W.ne_bytes (Le I q (congrArg not SV))
  | _=>exact absurd (show false=true from hs) AZ
 | _=>cases y <;> exact absurd (show false=true from hs) AZ
def a0:u5 X (BO .Lt) (rI0 λi j=>.bl (decide (i < j))):=ACO λ_ _ _ _ _ _ _ q=>lt_int q
def Y0:u5 X (BO .LtE) (rI0 λi j=>.bl (decide (i<=j))):=ACO λ_ _ _ _ _ _ _ q=>le_int q
def jv:u5 X (BO .Gt) (rI0 λi j=>.bl (decide (j < i))):=ACO λ_ _ _ _ _ _ _ q=>gt_int q
def gC:u5 X (BO .GtE) (rI0 λi j=>.bl (decide (j<=i))):=ACO λ_ _ _ _ _ _ _ q=>ge_int q
def lR:u5 X (BO .Is) (λx y H Q=>y=.non/\Q (.bl (decide (x=.non))) H):=by
 intro pins s σ H x y v u Q I rx ry h;obtain⟨rfl,q⟩:=h;cases ry;refine is_none_gen (Le I q ?_);cases x <;> first
  | (cases rx;rfl)
  | (obtain⟨t,rfl⟩:=rx;rfl)
def u5.or(h:u5 X f r)(h':u5 X f r'):u5 X f (λx y H Q=>r x y H Q\/r' x y H Q):=by
 intro pins s σ H x y v u Q I rx ry q;rcases q with q | q
 ·exact h pins s σ H x y v u Q I rx ry q
 ·exact h' pins s σ H x y v u Q I rx ry q
def AAI b {op} (h:op≠.In:=by decide) (h2:op≠.NotIn:=by decide):Bl op b=false:=by
 have e1:(op == Ki)=false:=by cases op <;> first | rfl | exact absurd rfl h
 have e2:(op == JS)=false:=by cases op <;> first | rfl | exact absurd rfl h2
 cases b <;> simp[Bl,e1,e2]
def RY(ho:u5 X (BO op) r)(ha:PE X a ta)(hb:PE X b tb)(hm:Bl op b=false):PE X (.Compare a [op] [b] pos) (tOp r ta tb):=λpins s σ H Q I h=>wpAny_Compare1 (ACq ha hb I h λv u s2 x y H2 I2 rx ry q=>ho pins s2 σ H2 x y v u Q I2 rx ry q) hm
def AAO (t:TE):TT:=λσ H Q=>t σ H λx H'=>∃ k,x=.bl k/\Q k H'
def cW(ho:u5 X (BO op) r)(ha:PE X a ta)(hb:PE X b tb)(hm:Bl op b=false):PT X (.Compare a [op] [b] pos) (AAO (tOp r ta tb)):=by
 intro pins s σ H Q I h;refine IV (tE (ha pins s σ H _ I h) λv s1 ⟨x,H1,I1,r1,q1⟩=>tE (hb pins s1 σ H1 _ I1 q1) λu s2 ⟨y,H2,I2,r2,q2⟩ =>
  tE (ho pins s2 σ H2 x y v u _ I2 r1 r2 q2) λc s3 ⟨z,H3,I3,r3,k,e,q3⟩=>?_) hm
 subst e;cases r3;exact Bi ⟨H3,I3,q3⟩
def AAD (r r':R2) (ta tb tc:TE):TE:=λσ H Q=>ta σ H λx H1=>tb σ H1 λy H2=>r x y H2 λz H3=>∃ k,z=.bl k /\
 (if k=true then tc σ H3 λw' H4=>r' y w' H4 Q else Q (.bl false) H3)
theorem iW{op op':CmpOp}{r r':R2}(ho:u5 X (BO op) r)(ho':u5 X (BO op') r')(ha:PE X a ta)(hb:PE X b tb)(hc:PE X c tc)
  (hm:lastMarks [op,op'] [b,c]=false:=by with_unfolding_all rfl):PT X (.Compare a [op,op'] [b,c] pos) (AAO (AAD r r' ta tb tc)):=by
 intro pins s σ H Q I h;refine isTrue_chain (tE (ha pins s σ H _ I h) λv s1 ⟨x,H1,I1,r1,q1⟩=>test_link (tE (hb pins s1 σ H1 _ I1 q1) λu s2 ⟨y,H2,I2,r2,q2⟩ =>
  tE (ho pins s2 σ H2 x y v u _ I2 r1 r2 q2) λd s3 ⟨z,H3,I3,r3,k,e,q3⟩=>?_)) hm
 subst e;cases r3;refine Bi ?_;cases k with
 | false =>
  obtain⟨k',e',q'⟩:=q3;cases e';exact ite_ff ⟨H3,I3,q'⟩
 | true =>
  refine ite_tt (test_last (tE (hc pins s3 σ H3 _ I3 q3) λw' s4 ⟨z',H4,I4,r4,q4⟩=>tE (ho' pins s4 σ H4 y z' u w' _ I4 r2 r4 q4) λd' s5 ⟨z2,H5,I5,r5,k2,e2,q5⟩=>?_));subst e2;cases r5;exact Bi ⟨H5,I5,q5⟩
def ACK (K:Ae) (x:V) (H:Hp) (k:Bool):Prop:=
 match x with
 | .non=>k=false
 | .bl b=>k=b
 | .int i=>k=(i != 0)
 | .str y=>y.length<=AC/\k=((y.length:Int) != 0)
 | .byt y=>y.size<=AC/\k=((y.size:Int) != 0)
 | .ref p=>(∃ xs,uL K H p xs/\k=!xs.isEmpty)\/(∃ xs,vH K H p xs/\k=!xs.isEmpty)\/∃ kvs,H p=some (.dK kvs)/\k=!kvs.isEmpty
 | _=>False
def aG{vs}(r:KV kvs vs):(!vs.isEmpty)=!kvs.isEmpty:=by
 cases r <;> rfl
def Sv{its}(r:sP xs its):(!its.toArray.isEmpty)=!xs.isEmpty:=by
 cases r <;> simp
def v9:AC < 2 ^ 63:=by rw[BJ];decide
theorem Xo:AFf X (λx H Q=>∃ k,ACK X.K x H k/\Q k H):=by
 intro pins s σ H x v Q I rx h;obtain⟨k,e,q⟩:=h;have hl:=BJ;cases x with
 | non =>
  cases rx;have e':=e;subst e';exact truthy_none ⟨H,I,q⟩
 | bl b =>
  cases rx;have e':=e;subst e';exact Bi ⟨H,I,q⟩
 | int i =>
  obtain⟨t,rfl⟩:=rx;have e':=e;subst e';exact PySem.P.truthy_int ⟨H,I,q⟩
 | str y =>
  obtain⟨t,rfl⟩:=rx;obtain⟨hy,rfl⟩:y.length<=AC/\k=((y.length:Int) != 0):=e;exact PySem.P.truthy_str ⋯ ⟨H,I.tok _,q⟩
 | byt y =>
  obtain⟨t,rfl⟩:=rx;obtain⟨hy,rfl⟩:y.size<=AC/\k=((y.size:Int) != 0):=e;exact PySem.W.truthy_bytes ⋯ ⟨H,I.tok _,q⟩
 | ref p =>
  cases rx;have e':=e;rcases e' with ⟨xs,hx,e'⟩ | ⟨xs,hx,e'⟩ | ⟨kvs,hx,e'⟩
  ·subst e';obtain⟨its,r,pl,hz⟩:=I.list hx;have hlen:=r.length;exact wpAny_truthy_list pl.isList (by simp only[Ad];lia) ⟨H,I.tok _,by rw[Sv r];exact q⟩
  ·subst e';obtain⟨its,r,pl,hz⟩:=I.tuple hx;have hlen:=r.length;exact truthy_tuple pl (by simp only[Ad];lia) ⟨H,I.tok _,by rw[Sv r];exact q⟩
  ·subst e';obtain⟨hz,hS,vs,r,m⟩:kvs.length<=AC/\(p == Bw)=false/\∃ vs,KV kvs vs/\s.heap.DictOf (si X.prog X.w) p vs:=I.hok p _ hx;have hlen:=D5 r;exact wpAny_truthy_dict hS m ⋯ ⟨H,I.tok _,by rw[aG r];exact q⟩
 | _=>exact e.elim
def dY(ha:PE X a ta)(he:∀ whole,Hu a X.env whole=(do let v ← whole;JU a.pos;holding [v] (truthy v))) :
  PT X a (λσ H Q=>ta σ H λx H'=>∃ k,ACK X.K x H' k/\Q k H'):=λpins s σ H Q I h=>isTrue_plain (tE (ha pins s σ H _ I h) λv s1 ⟨x,H1,I1,r1,q1⟩=>Xo pins s1 σ H1 x v Q I1 r1 q1) (he _)
def eB:u5 X (CZ .Add) (λx y H Q=>∃ i j,x=.str i/\y=.str j/\i.length+j.length<=AC/\Q (.str (i++j)) H):=by
 intro pins s σ H x y v u Q I rx ry h;obtain⟨i,j,rfl,rfl,hz,q⟩:=h;obtain⟨t,rfl⟩:=rx;obtain⟨t',rfl⟩:=ry;exact add_str (λt' tk=>⟨.str (i++j),H,I.tok _,⟨_,rfl⟩,q⟩) hz
theorem vals1{us}(r:sP [x] us):∃ u,us=[u]/\RelV x u:=by
 cases r with
 | cons r1 r2=>cases r2;exact⟨_,rfl,r1⟩
theorem vals2{us}(r:sP [x,y] us):∃ u w',us=[u,w']/\RelV x u/\RelV y w':=by
 cases r with
 | cons r1 r2 =>
  cases r2 with
  | cons r3 r4=>cases r4;exact⟨_,_,rfl,r1,r3⟩
def dU(hc:X.calm=true):tJ X (.builtin "max") (λxs H Q=>∃ i j,xs=[.int i,.int j]/\Q (.int (if j > i then j else i)) H):=by
 intro pins s σ H xs us Q I r h;obtain⟨i,j,rfl,q⟩:=h;obtain⟨u,w',rfl,⟨t,rfl⟩,⟨t',rfl⟩⟩:=vals2 r;refine max_two_ints (I.ok.hd hc) λh' tk k=>⟨_,H,I.kept k,?_,q⟩
 by_cases hj:j > i
 ·rw[if_pos hj,if_pos hj];exact⟨_,rfl⟩
 ·rw[if_neg hj,if_neg hj];exact⟨_,rfl⟩
def au:tJ X (.type "int") (λxs H Q=>(∃ i,xs=[.int i]/\Q (.int i) H)\/∃ k,xs=[.bl k]/\Q (.int (if k then 1 else 0)) H):=by
 intro pins s σ H xs us Q I r h;rcases h with ⟨i,rfl,q⟩ | ⟨k,rfl,q⟩
 ·obtain⟨u,rfl,t,rfl⟩:=vals1 r;exact call_int_int ⟨.int i,H,I,⟨_,rfl⟩,q⟩
 ·obtain⟨u,rfl,rfl⟩:=vals1 r;exact call_int_bool ⟨.int (if k then 1 else 0),H,I.tok _,⟨_,rfl⟩,q⟩
end
theorem wX.some_of{o}(r:wX (some v) o):∃ u,o=some u/\RelV v u:=by
 cases o with
 | none=>exact r.elim
 | some u=>exact⟨u,rfl,r⟩
structure uJ(k:Nat)(A:BG):Prop where
 hd:A.handled=none
 dp:A.depth+3 * k+5 < Kj
 un:A.units+16 * k+200 < DU
 gd:A.guards=some []
def uJ.mono{j k A}(r:uJ k A)(h:j<=k):uJ j A:=⟨r.hd,by have:=r.dp;lia,by have:=r.un;lia,r.gd⟩
theorem uJ.deeper{A}(r:uJ (k+1) A) env:uJ k (A.deeper env):=
 ⟨r.hd,by have:=r.dp;show A.depth+1+3 * k+5 < _;lia,by have:=r.un;show A.units+3+16 * k+200 < _;lia,r.gd⟩
theorem uJ.depth{A}(r:uJ k A):A.depth < Kj:=by have:=r.dp;lia
def ACF:TA:=λ_ H Q=>Q [] H
def yw (ta:TE) (tr:TA):TA:=λσ H Q=>ta σ H λx H1=>tr σ H1 λxs H2=>Q (x::xs) H2
section
variable {X:Cx}{e:Expr}{es:List Expr}{te:TE}{t:TA}{pos:Pos}
def Pu:PA X [] ACF:=λ_ _ _ _ H Q I h=>DJ ⟨[],H,I,.nil,h⟩
def QI(ha:PE X e te)(hr:PA X es t)(hs:AV (e::es) X.env=(false,eval e X.env)::AV es X.env:=by rfl):PA X (e::es) (yw te t):=by
 intro pos pins s σ H Q I h;rw[hs];show AQ _ _ (spliced ((false,eval e X.env)::CB pos (AV es X.env))) _ _ s;exact Dv (tE (ha pins s σ H _ I h) λu s1 ⟨x,H1,I1,r1,q1⟩=>tE (hr pos pins s1 σ H1 _ I1 q1) λus s2 ⟨xs,H2,I2,r2,q2⟩=>⟨x::xs,H2,I2,.cons r1 r2,q2⟩)
def AEE (t:TA):TE:=λσ H Q=>t σ H λxs H1=>xs.length<=AC/\∀ p,H1 p=none->Q (.ref p) (upd H1 p (.tup xs))
def ADA (t:TA):TE:=λσ H Q=>t σ H λxs H1=>xs.length<=AC/\∀ p,H1 p=none->Q (.ref p) (upd H1 p (.lst xs))
def aC{x1}(h:PA X es t):PE X (.Tuple es x1 pos) (AEE t):=by
 intro pins s σ H Q I hq;refine wpAny_Tuple_spliced (tE (h pos pins s σ H _ I hq) λus s1 ⟨xs,H1,I1,r,z,q⟩=>⟨by rw[← r.length];exact z,⟨.ref s1.heap.objs.size,upd H1 s1.heap.objs.size (.tup xs),I1.laid (λb u e=>AB _ e) (AF _) ?_,rfl,q _ (I1.hok.fresh (AF _))⟩⟩);exact⟨z,us,r,⟨_,AK _ rfl,rfl,⟨_,rfl⟩,rfl⟩⟩
def fR(h:PA X es t):PE X (.List es pos) (ADA t):=by
 intro pins s σ H Q I hq;refine wpAny_List_spliced (tE (h pos pins s σ H _ I hq) λus s1 ⟨xs,H1,I1,r,z,q⟩=>⟨by rw[← r.length];exact z,⟨.ref s1.heap.objs.size,upd H1 s1.heap.objs.size (.lst xs),I1.laid (λb u e=>AB _ e) (AF _) ?_,rfl,q _ (I1.hok.fresh (AF _))⟩⟩);exact⟨z,us,0,r,AK _ rfl⟩
end
abbrev Sp:=List V->Hp->VK->XK->Prop
abbrev CXT:=List Env->Hp->AR->XK->AL->AR->Prop
structure ABz(P:Aj)(w:A5)(K:Ae)(mg:Str->Option AL)(base:Heap)(A:BG)(outer:List Env)(s:AR)(H:Hp):Prop where
 frames:A.frames=some outer
 mod:Mod K mg base
 bs:∀ b o,base.get? b=some o->s.heap.get? b=some o/\H b=none
 bsz:base.objs.size<=s.heap.objs.size
 funs:s.heap.FunFrames base outer
 frf:∀ b∈yY outer,H b=none
 hok:vO P w H s.heap
 bare:EW s.gens
def CE (outer:List Env) (P:Aj) (w:A5) (H:Hp) (s:AR) (Q:VK) (u:AL) (s':AR):Prop:=
 ∃ v H',s'.os=s.os/\EW s'.gens/\Un (yY outer) [] H H' s.heap s'.heap/\vO P w H' s'.heap/\RelV v u/\Q v H'
def CR (CX:CXT) (outer:List Env) (P:Aj) (w:A5) (H:Hp) (s:AR) (Q:VK) (E:XK) (r:Result) (s':AR):Prop:=
 match r with
 | .ok (.ret u)=>CE outer P w H s Q u s'
 | .ok _=>False
 | .error e=>CX outer H s E e s'
structure uj(P:Aj)(w:A5)(K:Ae)(mg:Str->Option AL)(base:Heap)(CX:CXT)(k:Nat)(f:Addr)(fd:Dc)(ps:List Str)(sp:Sp):Prop where
 len:∀ vs H Q E,sp vs H Q E->vs.length=ps.length
 run:∀ (A:BG) (outer:List Env) (s:AR) (H:Hp) (args:Args) (us:List AL) (vs:List V) (Q:VK) (E:XK),uJ k A->ABz P w K mg base A outer s H->F8 s fd args (ps.zip us)->sP vs us->sp vs H Q E ->
  D7 (model P w) A (.call (.ref f) args) (CR CX outer P w H s Q E) s
theorem uj.mono{K mg base CX j k f fd ps sp}(F:uj P w K mg base CX j f fd ps sp)(h:j<=k) :
  uj P w K mg base CX k f fd ps sp:=⟨F.len,λA outer s H args us vs Q E hr=>F.run A outer s H args us vs Q E (hr.mono h)⟩
section
variable {X:Cx}{pins:List (Addr×Obj)}{σ:St}{H:Hp}{s s':AR}
def Inv.env0(I:Inv X pins σ H s):ABz X.prog X.w X.K X.mg X.base X.A X.stack s H:=
 ⟨I.ok.frames,I.ok.mod,I.bs,Ah I.ok.bsz I.sz,I.stack,I.stkFree,I.hok,I.bare⟩
def Inv.after{u}(I:Inv X pins σ H s)(h:CE X.stack X.prog X.w H s Q u s'):EP X pins σ Q u s':=by
 obtain⟨v,H',os,bare,un,hok,r,q⟩:=h;obtain⟨hh,g,d,t,os'⟩:=s';obtain rfl:os'=s.os:=os;exact⟨v,H',I.call un hok bare (λb z=>absurd z ↥1),r,q⟩
end
def zC (sp:Sp) (dvs:List V) (E:XK) (t:TA):TE:=λσ H Q=>t σ H λvs H1=>sp (vs++dvs) H1 Q E
def Binds (K:Ae) (fd:Dc) (ps:List Str) (ds:List AL):Prop:=
 ∀ s us,K.In s.heap->(us++ds).length=ps.length->F8 s fd ⟨us,[]⟩ (ps.zip (us++ds))
def Binds.all{K fd ps}(h:∀ us,us.length=ps.length->F9 fd ⟨us,[]⟩=pure (ps.zip us)):Binds K fd ps []:=λs us _ hl=>by
 rw[Bv]at hl ⊢;exact .of_eq (h us hl)
def yh (CX:CXT) (X:Cx) (E:XK):Prop:=∀ pins (σ:St) H s e s',Inv X pins σ H s->CX X.stack H s E e s'->X.xe e s'
section
variable {X:Cx}{CX:CXT}{k:Nat}{f C:Addr}{fd:Dc}{ps:List Str}{sp:Sp}{dvs:List V}{ds:List AL}{E:XK}{x m:Str}{p pos apos:Pos}{e o:Expr}{es:List Expr}{ta:TE}{t:TA}
theorem Wq{σ:St}{H s Q us vs}(F:uj X.prog X.w X.K X.mg X.base CX k f fd ps sp)(hr:uJ k X.A)(hb:Binds X.K fd ps ds)(hd:sP dvs ds)(hx:yh CX X E)
  (I:Inv X pins σ H s) (r:sP vs us) (h:sp (vs++dvs) H Q E):AQ (model X.prog X.w) X.A (call (.ref f) us) (EP X pins σ Q) X.xe s:=by
 have r2:=r.append hd;have hl:(us++ds).length=ps.length:=by rw[← r2.length];exact F.len _ _ _ _ h
 refine wpAny_call (GA (F.run X.A X.stack s H ⟨us,[]⟩ (us++ds) (vs++dvs) Q E hr I.env0 (hb s us I.kIn hl) r2 h) λr s' hq=>?_);cases r with
 | error e=>exact hx pins σ H s e s' I hq
 | ok fl =>
  cases fl with
  | ret u=>exact I.after hq
  | next | brk | cont=>exact C7 hq
def V5(F:uj X.prog X.w X.K X.mg X.base CX k f fd ps sp)(hr:uJ k X.A)(hg:Gl X x)(hm:X.mg x=some (.ref f))(hk:Bq X.K (.ref f)=true)(hb:Binds X.K fd ps ds)(hd:sP dvs ds)(hx:yh CX X E)
  (ha:PA X (e::es) t) (hdb:(x == ("__debug__":Str))=false:=by decide) (he:AV (e::es) X.env=(false,eval e X.env)::AV es X.env:=by rfl) (hpl:(CB pos (AV es X.env)).any (·.1)=false:=by rfl) :
  PE X (.Call (.Name x p) (e::es) [] pos) (zC sp dvs E t):=by
 intro pins s σ H Q I h;exact EI (Sb I hg hm (HH I.ok.mod.kin hk (tE (ha pos pins s σ H _ I h) λus s1 ⟨vs,H1,I1,r,q⟩=>⟨I1.kIn,Wq F hr hb hd hx I1 r q⟩) he hpl) hdb)
end
structure sH(N P:List Str)(sc:Et):Prop where
 kind:sc.kind=.function
 co:sc.isCoroutine=false
 gen:sc.isGenerator=false
 nd:N.Nodup
 pre:N.take P.length=P
 par:∀ x∈P,sc.names.lookup x=some .local\/sc.names.lookup x=some .cell
 nofree:∀ y∈sc.names,y.2≠.free
theorem Ra{Dd x}:∀ {binds m},(∀ v,(x,v)∉binds)->Ih Dd binds m x=m x
 | [],_,_=>rfl
 | (n,v)::r,m,h=>by
  unfold Ih;rw[Ra λw hw=>h w (AI _ hw)];split
  ·have:x≠n:=by rintro rfl;exact h v AH
   simp[this]
  ·rfl
theorem SQ{Dd x}:∀ {binds m},(∀ v,(x,v)∉binds)->Ii Dd binds m x=m x
 | [],_,_=>rfl
 | (n,v)::r,m,h=>by
  unfold Ii;rw[SQ λw hw=>h w (AI _ hw)];split
  ·rfl
  ·have:x≠n:=by rintro rfl;exact h v AH
   simp[this]
theorem Sh{Dd x v}:∀ {P:List Str} {vs} {i:Nat} {m},P.Nodup->P[i]?=some x->vs[i]?=some v->Dd x=some .local ->
  Ih Dd (P.zip vs) m x=some v
 | [],_,_,_,_,h,_,_ | _::_,[],_,_,_,_,h,_=>by simp at h
 | p::P,w::vs,0,m,nd,h1,h2,hk=>by
  simp at h1 h2;subst h1;subst h2;show Ih Dd ((p,w)::P.zip vs) m p=_;unfold Ih;rw[Ra λv hv=>(BI.mp nd).1 (Fv hv).1,if_pos hk];simp
 | p::P,w::vs,i+1,m,nd,h1,h2,hk=>by
  unfold Ih;exact Sh (BI.mp nd).2 ‹_› ‹_› hk
theorem Ts{Dd x v}:∀ {P:List Str} {vs} {i:Nat} {m},P.Nodup->P[i]?=some x->vs[i]?=some v->Dd x≠some .local ->
  Ii Dd (P.zip vs) m x=some v
 | [],_,_,_,_,h,_,_ | _::_,[],_,_,_,_,h,_=>by simp at h
 | p::P,w::vs,0,m,nd,h1,h2,hk=>by
  simp at h1 h2;subst h1;subst h2;show Ii Dd ((p,w)::P.zip vs) m p=_;unfold Ii;rw[SQ λv hv=>(BI.mp nd).1 (Fv hv).1,if_neg hk];simp
 | p::P,w::vs,i+1,m,nd,h1,h2,hk=>by
  unfold Ii;exact Ts (BI.mp nd).2 ‹_› ‹_› hk
def start (N:List Str) (vs:List V):St:=vs.map some++Aa (N.length - vs.length) none
def x4 (CX:CXT) (P:Aj) (w:A5) (K:Ae) (mg:Str->Option AL) (base:Heap) (N:List Str) (qual:Str) (scope:Et) (f:Addr) (cd:AL) (A:BG) (outer:List Env) (s:AR) (H:Hp) (E:XK):Cx where
 prog:=P
 w:=w
 K:=K
 mg:=mg
 base:=base
 A:=A.deeper (FP qual scope s.heap.objs.size f cd)
 N:=N
 s₀:=s
 H₀:=H
 env:=FP qual scope s.heap.objs.size f cd
 outer:=outer
 stack:=FP qual scope s.heap.objs.size f cd::outer
 ex:=[]
 calm:=true
 fn:=λ_=>true
 pn:=[]
 xe:=λe s'=>AQ (model P w) (A.deeper (FP qual scope s.heap.objs.size f cd)) (leaving (FP qual scope s.heap.objs.size f cd) e) (λ_ s''=>CX outer H s E e s'') (λe' s''=>CX outer H s E e' s'') s'
def S7{sc:Et}{n x}(h:sc.names.lookup x=some .cell):∃ c,(BP n sc.names []).lookup x=some c:=Bc.mp (C9 sc.names n [] (.inl h))
def Wt{P w K mg base N ps qual scope f cd A outer s s1 H E us vs}
  (S:sH N ps scope) (hd:A.handled=none) (e0:ABz P w K mg base A outer s H) (hl:vs.length=ps.length) (r:sP vs us)
  (x:InCallC s s.heap.objs.size (Ih (FP qual scope s.heap.objs.size f cd).kindOf (ps.zip us) λ_=>none) (BP (s.heap.objs.size+1) scope.names []) (Ii (FP qual scope s.heap.objs.size f cd).kindOf (ps.zip us) λ_=>none) s1) :
  Inv (x4 CX P w K mg base N qual scope f cd A outer s H E) [] (start N vs) H s1:=by
 have hpl:ps.length<=N.length:=by have:=congrArg HS S.pre;rw[Cw]at this;lia
 obtain⟨h1,tk,rfl,hk⟩:=x.done;have noA:∀ b,b∉(x4 CX P w K mg base N qual scope f cd A outer s H E).ex:=λb z=>absurd (show b∈[] from z) ↥1
 refine⟨⟨e0.mod,S.kind,rfl,rfl,AF _,λy z c h1 h2=>?_,λy hy=>?_,λy c _ h=>?_,λ_=>hd,Around.frames_deeper e0.frames,.inr ⟨rfl,rfl⟩,λb z=>absurd z (noA b),e0.bs,e0.bsz,λb _ _=>noA b,λb z=>absurd z (noA b),e0.funs,e0.frf⟩,
  rfl,e0.bare,Un.kept hk,⟨_,x.toInCall.ns,λi y v h1 h2 h3=>?_⟩,λy c h=>⟨_,x.cell y c h⟩,e0.hok.fresh (AF _),λy c h=>?_,λp hp=>absurd (show p∈[] from hp) ↥1,e0.hok.kept hk,?_⟩
 ·exact name_of_addr x.apart (Bb h1) (Bb h2)
 ·rcases hy with hy | hy
  ·exact S7 hy
  ·exact absurd rfl (S.nofree _ (Bb hy))
 ·exact CY (x.above y c (Bb h))
 ·have hi:i < vs.length:=by
   unfold start at h2;by_cases hi:i < vs.length
   ·exact hi
   ·rw[Cs (by simpa using hi)]at h2;rw[G4]at h2;split at h2 <;> cases h2
  have ha:vs[i]?=some v:=by
   unfold start at h2;rw[BK (by simpa using hi),Ak]at h2;cases e:vs[i]? with
   | none=>rw[e]at h2;cases h2
   | some a=>rw[e]at h2;cases h2;rfl
  obtain⟨u,hu,rv⟩:=r.get ha;have hp:ps[i]?=some y:=by
   rw[← S.pre,EB ⋯];exact h1
  have ndP:ps.Nodup:=by rw[← S.pre];exact S.nd.sublist (List.take_sublist _ _)
  refine⟨u,rv,?_⟩;rcases S.par y (Df hp) with k | k
  ·exact .inl ⟨k,Sh ndP hp hu k⟩
  ·obtain⟨c,e⟩:=S7 k;refine .inr ⟨.inl k,c,e,?_⟩;have q:=x.cell y c e;rw[Ts ndP hp hu (by show scope.names.lookup y≠_;rw[k];decide)]at q;exact q
 ·exact e0.hok.fresh (CY (x.above y c (Bb h)))
 ·unfold start;show _=N.length;rw[A8,Af,List.length_replicate];lia
theorem Vd{P w K mg base k f name qual params body scope dV kV doc pm cdv ct oc an od}
  {osl N ps sp} (lk:K.lookup f=some ⟨oc,od,.func (Be name qual params body scope dV kV doc pm an cdv ct),osl⟩) (hcd:Cg K cdv qual=true) (S:sH N ps scope)
  (len:∀ vs H Q E,sp vs H Q E->vs.length=ps.length)
  (hbody:∀ A outer s H vs Q E,uJ k (A.deeper (FP qual scope s.heap.objs.size f cdv))->sp vs H Q E ->
   ∃ t,yn (x4 CX P w K mg base N qual scope f cdv A outer s H E) body t/\t { nx:=λ_ H'=>Q .non H',rt:=Q } (start N vs) H) :
  uj P w K mg base CX (k+1) f (Be name qual params body scope dV kV doc pm an cdv ct) ps sp:=by
 refine⟨len,λA outer s H args us vs Q E hr e0 hb r hsp=>?_⟩;have KX:=e0.mod.kin.keeps λb o e=>(e0.bs b o e).1
 have hkind:∀ y∈ps.zip us,scope.names.lookup y.1=some .local\/(scope.names.lookup y.1=some .cell/\((BP (s.heap.objs.size+1) scope.names []).lookup y.1).isSome=true):=λ⟨n,v⟩ hy=>by
  rcases S.par n (Fv hy).1 with q | q
  ·exact .inl q
  ·exact .inr ⟨q,C9 _ _ _ (.inl q)⟩
 refine codeAny_call_function hr.depth (KX _ _ lk) rfl S.co S.gen rfl (PySem.W.codeRec_of KX hcd) (hb _ _ _ _ (wpAny_newFunctionEnv_cells S.kind hkind λenv he s1 x=>?_));subst he;refine⟨(e0.mod.nolimit.keeps λb o e=>(e0.bs b o e).1).keeps x.toInCall.keep,codeAny_func ?_⟩;obtain⟨t,ht,hq⟩:=hbody A outer s H vs Q E (hr.deeper _) hsp;have I:Inv (x4 CX P w K mg base N qual scope f cdv A outer s H E) [] (start N vs) H s1:=Wt S hr.hd e0 (len _ _ _ _ hsp) r x;refine BH (ht [] s1 (start N vs) H _ I hq) (λfl s' hs=>?_) λe s' hs=>hs
 have fin:∀ {σ':St} {H':Hp} {v:V} {u:AL},Inv (x4 CX P w K mg base N qual scope f cdv A outer s H E) [] σ' H' s'->RelV v u->Q v H'->CE outer P w H s Q u s':=
  λ{σ' H' v u} J rv q=>⟨v,H',J.os,J.bare,J.base,J.hok,rv,q⟩
 cases fl with
 | ret u =>
  obtain⟨v,σ',H',J,rv,q⟩:=hs;exact fin J rv q
 | next =>
  obtain⟨σ',H',J,q⟩:=hs;exact fin (v:=V.non) J rfl q
 | brk | cont =>
  obtain⟨_,_,_,q⟩:=hs;exact C7 q
section
variable {X:Cx}{x:Str}{p pos:Pos}{e:Expr}{es:List Expr}{t:TA}{id T:String}{r:List V->Hp->VK->Prop}
def tCB (r:List V->Hp->VK->Prop) (t:TA):TE:=λσ H Q=>t σ H λvs H1=>r vs H1 Q
def iH(hc:tJ X (.builtin id) r)(hg:Gl X x)(hm:X.mg x=none)(hv:CD x=some (.builtin id))(ha:PA X (e::es) t)(hn:x≠"__name__":=by decide)(hdb:(x == ("__debug__":Str))=false:=by decide)
  (he:AV (e::es) X.env=(false,eval e X.env)::AV es X.env:=by rfl) (hpl:(CB pos (AV es X.env)).any (·.1)=false:=by rfl):PE X (.Call (.Name x p) (e::es) [] pos) (tCB r t):=λpins s σ H Q I h=>EI (MK I hg hm hv (KN (tE (ha pos pins s σ H _ I h) λus s1 ⟨vs,H1,I1,r1,q1⟩=>hc pins s1 σ H1 vs us Q I1 r1 q1) he hpl) hn hdb)
def NP(hc:tJ X (.type T) r)(hg:Gl X x)(hm:X.mg x=none)(hv:CD x=some (.type T))(ha:PA X (e::es) t)(hn:x≠"__name__":=by decide)(hdb:(x == ("__debug__":Str))=false:=by decide)
  (he:AV (e::es) X.env=(false,eval e X.env)::AV es X.env:=by rfl) (hpl:(CB pos (AV es X.env)).any (·.1)=false:=by rfl):PE X (.Call (.Name x p) (e::es) [] pos) (tCB r t):=λpins s σ H Q I h=>EI (MK I hg hm hv (A7 (tE (ha pos pins s σ H _ I h) λus s1 ⟨vs,H1,I1,r1,q1⟩=>hc pins s1 σ H1 vs us Q I1 r1 q1) he hpl) hn hdb)
end
end L2
namespace HT
open PySem PyProof.Rows
def lexLt:List Int->List Int->Bool
 | [],[]=>false
 | [],_::_=>true
 | _::_,[]=>false
 | x::xs,y::ys=>if x=y then lexLt xs ys else decide (x < y)
def lexLt_cons x y xs ys:lexLt (x::xs) (y::ys)=if x=y then lexLt xs ys else decide (x < y):=rfl
def lexLt_nil_nil:lexLt [] []=false:=rfl
def lexLt_nil_cons y ys:lexLt [] (y::ys)=true:=rfl
def lexLt_cons_nil x xs:lexLt (x::xs) []=false:=rfl
def ZZ A s a t c u:∃ e,GB A s (.int a t) (.int c u) e/\(e=true ↔ a=c):=
 ⟨(a == c),Gm a t c u,by simp⟩
def dZ A s a t c u prog w E Q (h:Q (.bool (decide (a < c))) s) :
  AQ (model prog w) A (richCompare .Lt (.int a t) (.int c u)) Q E s:=
 (KO h)
section
open PySem.SeqAt
open PySem.AutoSeq1 (wpAny_loadPart')
open PySem.MeetsSeq PySem.MeetsSeq2 PySem.MeetsSeq3
def tuple_lt_ints(l b:Addr)(items items2:Array AL)(n n2:Nat)(dd dd2:Option Addr)(sl zo:Array (Option AL))(ns ms:List Int)(hi:Bx items.toList ns)(hj:Bx items2.toList ms) :
  Ij (Builtin.«tuple.__lt__» ⟨[.ref l,.ref b],[]⟩)
   (λ_ R s=>s.heap.get? l=some { cls:=.type "tuple",dict:=dd,data:=.seq items n,slots:=sl }/\s.heap.get? b=some { cls:=.type "tuple",dict:=dd2,data:=.seq items2 n2,slots:=zo } /\
    R (.ok (.ret (.bool (lexLt ns ms)))) s):=
 .of_wp λprog w A R s h=>by
  obtain⟨hp,g,d,tk,os⟩:=s;obtain⟨hl,hb,h⟩:=h;have f2:=AutoSeq1.sub_tuple_tuple;have z1:items.size=ns.length:=by rw[← hi.length];simp
  have z2:items2.size=ms.length:=by rw[← hj.length];simp
  wp_walk using G5 hl,G5 hb,Jq _ (λrest b s'=>b.1=none/\s'=⟨hp,g,d,tk,os⟩/\∃ (vs ws:List AL) (ns' ms':List Int),rest=vs.zip ws /\
   Bx vs ns'/\Bx ws ms'/\ns'.length+items2.size=ms'.length+items.size/\R (.ok (.ret (.bool (lexLt ns' ms')))) ⟨hp,g,d,tk,os⟩) _
  case turn =>
   rintro ⟨y,x⟩ rest b s' ⟨hb',rfl,vs,ws,ns',ms',hz,hvi,hwi,hlen,hR⟩;cases hvi with
   | nil=>rw[List.zip_nil_left]at hz;cases hz
   | cons a t hvi' =>
    cases hwi with
    | nil=>rw[Hl]at hz;cases hz
    | cons c u hwi' =>
     rw[Hm]at hz;injection hz with hyx hrest;injection hyx with hy hx;subst hy hx;rw[lexLt_cons]at hR;simp only[CP]at hlen;obtain⟨e,he,hiff⟩:=ZZ A.in1 ⟨hp,g,d,tk,os⟩ a t c u;refine AA (he prog w _ _ ?_);cases e with
     | true =>
      rw[if_pos (hiff.mp rfl)]at hR
      wp_walk
      exact⟨rfl,rfl,_,_,_,_,hrest,hvi',hwi',by lia,hR⟩
     | false =>
      rw[if_neg (λq=>absurd (hiff.mpr q) AZ)]at hR;have hri:=dZ A.in1 ⟨hp,g,d,tk,os⟩ a t c u prog w
      wp_walk using hri
      exact⟨_,rfl,by simpa using hR⟩
  case fin =>
   rintro ⟨b1,b2⟩ s' ⟨hb',rfl,vs,ws,ns',ms',hz,hvi,hwi,hlen,hR⟩;simp only at hb';subst hb';have hv:lexLt ns' ms'=decide (items.size < items2.size):=by
    cases hvi with
    | nil =>
     cases hwi with
     | nil =>
      simp only[Ca]at hlen;rw[lexLt_nil_nil];exact (decide_eq_false ⋯).symm
     | cons c u hw =>
      simp only[Ca,CP]at hlen;rw[lexLt_nil_cons];exact (decide_eq_true ⋯).symm
    | cons a t hv =>
     cases hwi with
     | nil =>
      simp only[Ca,CP]at hlen;rw[lexLt_cons_nil];exact (decide_eq_false ⋯).symm
     | cons c u hw =>
      rw[Hm]at hz;cases hz
   rw[hv]at hR
   wp_walk
   exact⟨_,rfl,by simpa [Jr] using hR⟩
  case h =>
   exact⟨rfl,rfl,items.toList,items2.toList,ns,ms,rfl,hi,hj,by lia,h⟩
end
section
variable {prog:Aj}{w:A5}{A:BG}{E:AL->AR->Prop}{s:AR}
def lt_tupInts{items items2 ns ms Q}(hl:E9 s.heap l items)(hb:E9 s.heap b items2)(hi:Bx items.toList ns)(hj:Bx items2.toList ms)
  (hu:A.units < DU) (h:Q (.bool (lexLt ns ms)) s):AQ (model prog w) A (BO .Lt (.ref l) (.ref b)) Q E s:=by
 obtain⟨⟨cls,dd,data,sl⟩,ho,hc,n,hd⟩:=id hl;obtain⟨⟨cls2,dd2,data2,zo⟩,ho2,hc2,n2,hd2⟩:=id hb;simp only at hc hd hc2 hd2;subst hc hd hc2 hd2;exact richCompare_meets_room (op:=.Lt) ⟨_,ho,rfl⟩ ⟨_,ho2,rfl⟩ EU GY (GK _ _) (tuple_lt_ints l b items items2 n n2 dd dd2 sl zo ns ms hi hj)
  ⟨ho,ho2,show F5 (lexLt ns ms)≠Value.notImplemented/\Q (.bool (lexLt ns ms)) s from ⟨(λx=>nomatch x),h⟩⟩ hu
def cat_tup{vs ws Q}(ht:E9 s.heap t vs.toArray)(hb:E9 s.heap b ws.toArray)(hv:vs≠[])
  (h1:ws=[]->Q (.ref t) s) (h2:ws≠[]->Q (.ref s.heap.objs.size) { s with heap:=s.heap.push { cls:=.type "tuple",data:=.seq (vs++ws).toArray } })
  (hsz:vs.length+ws.length<=AC):AQ (model prog w) A (CZ .Add (.ref t) (.ref b)) Q E s:=by
 obtain⟨⟨cls,dd,data,sl⟩,ho,hc,n,hd⟩:=id ht;obtain⟨⟨cls2,dd2,data2,zo⟩,ho2,hc2,n2,hd2⟩:=id hb;simp only at hc hd hc2 hd2;subst hc hd hc2 hd2;have e:vs.toArray++ws.toArray=(vs++ws).toArray:=by simp
 by_cases hw:ws=[]
 ·exact Hv ⟨_,ho,rfl⟩ ⟨_,ho2,rfl⟩ GZ Ha EJ D8 (Dz _ _)
   (tuple_addW1 t b vs.toArray ws.toArray n n2 dd dd2 sl zo (by simpa using hv) (by simp[hw])) ⟨ho,ho2,h1 hw⟩
 ·refine Hv ⟨_,ho,rfl⟩ ⟨_,ho2,rfl⟩ GZ Ha EJ D8 (Dz _ _)
   (tuple_addW2 t b vs.toArray ws.toArray n n2 dd dd2 sl zo (by simpa using hv) (by simpa using hw) ‹_›) ⟨ho,ho2,?_⟩
  rw[e];exact h2 hw
def sIx (n d:Nat):Option Int->Nat
 | none=>d
 | some v=>if v < 0 then (v+(n:Int)).toNat else min v.toNat n
def sIx_none n d:sIx n d none=d:=rfl
def sIx_nat(n d k:Nat):sIx n d (some k)=min k n:=rfl
def TL(v:Int)(n d:Nat):(if v < 0 then max (v+n) 0 else min v n)=((sIx n d (some v):Nat):Int):=by
 show (if v < 0 then max (v+n) 0 else min v n)=((if v < 0 then (v+n).toNat else min v.toNat n));by_cases hv:v < 0
 ·simp_all
 ·simp[if_neg hv];lia
def eJ lo hi (n:Nat):FL lo hi 1 n=((sIx n 0 lo:Int),(sIx n n hi:Int)):=by
 refine Prod.ext ?_ ?_
 ·cases lo with
  | none=>rfl
  | some v=>exact TL v n 0
 ·cases hi with
  | none=>rfl
  | some v=>exact TL v n n
def ag(i j:Nat):Cb i j 1=j - i:=by
 unfold Cb;simp;split <;> lia
theorem RO{o Q}(p:FQ v o)(h:Q o s):AQ (model prog w) A (Js v) Q E s:=by
 cases p with
 | none=>exact Kk h
 | int i t=>exact slicePart_int h
def sliceApplied_gen{vl vu lo hi}{n:Nat}{Q}(hs:s.heap.IsSliceOf sl vl vu .none)(pl:FQ vl lo)(pu:FQ vu hi)
  (h:Q (sIx n 0 lo,1,sIx n n hi - sIx n 0 lo) s):AQ (model prog w) A (Jt (.ref sl) (pure n)) Q E s:=by
 obtain⟨os,hos,hcs,hds⟩:=id hs;refine AA (AA (Ap hos hds (x:=vl) rfl (AA (Ap hos hds (x:=vu) rfl (AA (Ap hos hds (x:=.none) rfl (AG (AA (Kk (AA (RO pl (AA (RO pu (AA (AG ?_)))))))))))))));show AQ _ _ (match FL lo hi 1 n with | (lo,hi)=>pure (lo,(1:Int),Cb lo hi 1)) _ _ s;rw[eJ lo hi n];show AQ _ _ (pure ((sIx n 0 lo:Int),1,Cb (sIx n 0 lo) (sIx n n hi) 1)) _ _ s;rw[ag];exact AG h
def ZS(xs:Array AL)(i k:Nat):((AE k).filterMap λ(m:Nat)=>xs[(i+(m:Int) * 1).toNat]?).toArray=((xs.toList.drop i).take k).toArray:=by
 have e:(λ(m:Nat)=>xs[((i:Int)+m * 1).toNat]?)=λm=>xs[i+m]?:=by
  funext m;have:((i:Int)+m * 1).toNat=i+m:=by lia
  rw[this]
 rw[e];have:=pick_run xs i k;rw[List.filterMap_map]at this;have e2:((λx=>xs[x]?) ∘ λx=>i+x)=λm=>xs[i+m]?:=rfl
 rw[e2]at this;rw[this]
def qY{items vl vu lo hi Q}(ht:E9 s.heap t items)(hs:s.heap.IsSliceOf sl vl vu .none)(pl:FQ vl lo)(pu:FQ vu hi)
  (hw:¬ (sIx items.size 0 lo=0/\sIx items.size items.size hi=items.size))
  (h:Q (.ref s.heap.objs.size) { s with heap:=s.heap.push { cls:=.type "tuple",data:=.seq ((items.toList.drop (sIx items.size 0 lo)).take (sIx items.size items.size hi - sIx items.size 0 lo)).toArray } })
  (hsz:items.size<=AC):AQ (model prog w) A (EY (.ref t) (.ref sl)) Q E s:=by
 have htake:=by
  show ((items.toList.drop (sIx items.size 0 lo)).take (sIx items.size items.size hi - sIx items.size 0 lo)).toArray.size<=AC;rw[Ad,Cw,Fe,Au];lia
 obtain⟨os,hos,hcs,hds⟩:=id hs;have hTs:s.TypeIs (.ref sl) "slice":=⟨os,hos,hcs⟩
 unfold EY
 try with_reducible refine BQ ?_
 refine AA (JW ht.typeIs ∅ (AA (Az ht.typeIs Bp
  (Ay Bp ht.typeIs Iv ?_ (JG _ _)))))
 show AQ _ _ (FJ (.ref t) >>= _) _ _ s;refine AA (K1 ht (AA (C8 hTs (AA (sliceApplied_gen hs pl pu ?_)))));have hno:¬ ((((sIx items.size 0 lo):Int) == 0 && (1:Int) == 1 && (sIx items.size items.size hi - sIx items.size 0 lo) == items.size)=true):=λq=>hw ⟨by lia,by lia⟩
 show AQ _ _ (if (((sIx items.size 0 lo):Int) == 0 && 1 == 1 && (sIx items.size items.size hi - sIx items.size 0 lo) == items.size)=true then _ else _) _ _ s;rw[if_neg hno,ZS]
 first
  | exact AA (A9 (AG ⟨_,rfl,AG h⟩) htake)
  | exact AA (A9 (AA (AG (AG ⟨_,rfl,AG h⟩))) htake)
  | exact AA (AA (A9 (AG (AG ⟨_,rfl,AG h⟩)) htake))
  | exact AA (AA (A9 (AG ⟨_,rfl,AG h⟩) htake))
end
end HT
namespace L2
open PySem PySem.Spec PyProof.Rows
abbrev TO:=St->Hp->(Option Int->Hp->Prop)->Prop
def PO (X:Cx) (e:Option Expr) (t:TO):Prop:=
 ∀ pins s (σ:St) H Q,Inv X pins σ H s->t σ H Q ->
  AQ (model X.prog X.w) X.A (evalPart e X.env) (λu s'=>∃ o H',Inv X pins σ H' s'/\FQ u o/\Q o H') X.xe s
def yx:TO:=λ_ H Q=>Q none H
def ABO (t:TE):TO:=λσ H Q=>t σ H λx H1=>∃ i,x=.int i/\Q (some i) H1
theorem Wn:∀ {us},sP (ns.map V.int) us->Bx us ns:=by
 induction ns with
 | nil=>intro us r;rw[B4]at r;cases r;exact .nil
 | cons n ns ih =>
  intro us r;cases r with
  | cons r1 r2 =>
   obtain⟨t,rfl⟩:=r1;exact .cons n t (ih r2)
section
variable {X:Cx}{e:Expr}{te:TE}{lo hi:Option Expr}{tl th:TO}{pos p2:Pos}
def iM:PO X none yx:=λpins s σ H Q I h=>AG ⟨none,H,I,.none,h⟩
def aS(h:PE X e te):PO X (some e) (ABO te):=by
 intro pins s σ H Q I hw;refine tE (h pins s σ H _ I hw) λu s1 ⟨x,H1,I1,r1,q1⟩=>?_
 obtain⟨i,rfl,q⟩:=q1;obtain⟨t,rfl⟩:=r1;exact⟨some i,H1,I1,.int i t,q⟩
def SlR (X:Cx) (r:V->Option Int->Option Int->Hp->VK->Prop):Prop:=
 ∀ pins s (σ:St) H x v vl vu lo hi sl Q,Inv X pins σ H s->RelV x v->s.heap.IsSliceOf sl vl vu .none->FQ vl lo->FQ vu hi->r x lo hi H Q ->
  ∃ T id,Fq (.type T) "__getitem__"=pure (some (.builtin id))/\s.TypeIs v T/\AQ (model X.prog X.w) X.A (EY v (.ref sl)) (EP X pins σ Q) X.xe s
def SlR.or(h:SlR X r)(h':SlR X r'):SlR X (λx lo hi H Q=>r x lo hi H Q\/r' x lo hi H Q):=by
 intro pins s σ H x v vl vu lo hi sl Q I rx hs pl pu q;rcases q with q | q
 ·exact h pins s σ H x v vl vu lo hi sl Q I rx hs pl pu q
 ·exact h' pins s σ H x v vl vu lo hi sl Q I rx hs pl pu q
def tSl (r:V->Option Int->Option Int->Hp->VK->Prop) (te:TE) (tl th:TO):TE:=λσ H Q=>te σ H λx H1=>tl σ H1 λl H2=>th σ H2 λu H3=>r x l u H3 Q
def kP(hr:SlR X r)(he:PE X e te)(hl:PO X lo tl)(hu:PO X hi th):PE X (.Subscript e (.Slice lo hi none p2) pos) (tSl r te tl th):=by
 intro pins s σ H Q I h;refine JH (tE (he pins s σ H _ I h) λv s1 ⟨x,H1,I1,r1,q1⟩=>wpAny_Slice (tE (hl pins s1 σ H1 _ I1 q1) λvl s2 ⟨l,H2,I2,pl,q2⟩=>tE (hu pins s2 σ H2 _ I2 q2) λvu s3 ⟨u,H3,I3,pu,q3⟩=>AG ?_));have I4:Inv X pins σ H3 { s3 with heap:=s3.heap.push { cls:=.type "slice",data:=.fields #[vl,vu,.none] } }:=I3.kept λb ob q=>AB _ q
 obtain⟨T,id,hT,ht,hg⟩:=hr pins { s3 with heap:=s3.heap.push { cls:=.type "slice",data:=.fields #[vl,vu,.none] } } σ H3 x v vl vu l u s3.heap.objs.size Q I4 r1 (JX ..) pl pu q3;exact tail_any ht hT hg rfl
def yV (xs:List V) (lo hi:Option Int):List V:=(xs.drop (HT.sIx xs.length 0 lo)).take (HT.sIx xs.length xs.length hi - HT.sIx xs.length 0 lo)
def Vk xs lo hi:(yV xs lo hi).length<=xs.length:=by
 unfold yV;rw[Cw,Fe];lia
end
def xt (n:Nat) (i:Int):Option Nat:=if 0<=i then (if i < n then some i.toNat else none) else if -(n:Int)<=i then some (i+n).toNat else none
def vB {α:Type} (xs:List α) (i:Int):Option α:=(xt xs.length i).bind λj=>xs[j]?
def P2{j}(h:xt n i=some j):FW i n=some j/\j < n/\-n<=i/\i < n:=by
 unfold xt at h;by_cases h0:0<=i
 ·rw[if_pos h0]at h;by_cases h1:i < n
  ·rw[if_pos h1]at h;exact⟨by rw[Gn h0 h1,(Av h)],by lia,by lia,h1⟩
  ·rw[if_neg h1]at h;cases h
 ·rw[if_neg h0]at h;by_cases h1:-n<=i
  ·rw[if_pos h1]at h;exact⟨by rw[Hw ⋯ h1,(Av h)],by lia,h1,by lia⟩
  ·rw[if_neg h1]at h;cases h
theorem QB{xs i}{v:α}(h:vB xs i=some v):∃ j,FW i xs.length=some j/\xs[j]?=some v/\j < xs.length/\-(xs.length:Int)<=i/\i < xs.length:=by
 unfold vB at h;cases e:xt xs.length i with
 | none=>rw[e]at h;cases h
 | some j =>
  rw[e]at h;obtain⟨h1,h2,h3,h4⟩:=P2 e;exact⟨j,h1,h,h2,h3,h4⟩
def dj{xs}{j:Nat}{v:α}(h:xs[j]?=some v):vB xs j=some v:=by
 have hj:=(Ac.mp h).1;have e:xt xs.length j=some j:=by
  unfold xt;simp_all
 unfold vB;rw[e];exact h
def UV xs (v:α):vB (xs++[v]) (-1)=some v:=by
 have hl:(xs++[v]).length=xs.length+1:=by simp
 have e:xt (xs++[v]).length (-1)=some xs.length:=by
  unfold xt;rw[hl,if_neg ∅,if_pos ⋯];congr 1;lia
 unfold vB;rw[e];simp
def yz (b:Expr):Prop:=∀ o i,subscripted b false o i=operate [o,i] (EY o i)
def IxR (X:Cx) (r:R2):Prop:=
 ∀ value slice pins s (σ:St) H x y v u Q,Inv X pins σ H s->RelV x v->RelV y u->r x y H Q ->
  subscripted slice false v u=operate [v,u] (EY v u)->AQ (model X.prog X.w) X.A (subscriptTail value slice v u) (EP X pins σ Q) X.xe s
def MtR (X:Cx) (id:String) (r:V->List V->Hp->VK->Prop):Prop:=
 ∀ pins s (σ:St) H x xs v us Q,Inv X pins σ H s->RelV x v->sP xs us->r x xs H Q ->
  AQ (model X.prog X.w) X.A (call (.builtin id) (v::us)) (EP X pins σ Q) X.xe s
section
variable {X:Cx}{a b:Expr}{ta tb:TE}{pos:Pos}
def IxR.or(h:IxR X r)(h':IxR X r'):IxR X (λx y H Q=>r x y H Q\/r' x y H Q):=by
 intro value slice pins s σ H x y v u Q I rx ry q hs;rcases q with q | q
 ·exact h value slice pins s σ H x y v u Q I rx ry q hs
 ·exact h' value slice pins s σ H x y v u Q I rx ry q hs
def YH(hr:IxR X r)(ha:PE X a ta)(hb:PE X b tb)(hs:yz b):PE X (.Subscript a b pos) (tOp r ta tb):=λpins s σ H Q I h=>JH (ACq ha hb I h λv u s2 x y H2 I2 rx ry q=>hr a b pins s2 σ H2 x y v u Q I2 rx ry q (hs _ _))
def AEH (K:Ae):R2:=λx y H Q=>∃ p xs i v,x=.ref p/\y=.int i/\uL K H p xs/\vB xs i=some v/\Q v H
def AEe (K:Ae):R2:=λx y H Q=>∃ p xs i v,x=.ref p/\y=.int i/\vH K H p xs/\vB xs i=some v/\Q v H
def ADp:R2:=λx y H Q=>∃ z i c,x=.str z/\y=.int i/\z.length<=AC/\vB z.cps.toList i=some c/\Q (.str ⟨#[c]⟩) H
def lK:IxR X (AEH X.K):=by
 intro value slice pins s σ H x y v u Q I rx ry h hs;obtain⟨p,xs,i,z,rfl,rfl,hq,he,q⟩:=h;cases rx;obtain⟨t,rfl⟩:=ry;obtain⟨its,r,pl,hz⟩:=I.list hq;obtain⟨j,h1,h2,h3,h4,h5⟩:=QB he;obtain⟨w,ew,rw'⟩:=r.get h2;have hl:=r.length;have hn:=v9;have fin:EP X pins σ Q w s:=⟨z,H,I,rw',q⟩
 by_cases h0:0<=i
 ·have hj:=by
   rw[Gn h0 h5]at h1;exact Av h1
  exact item_listR pl.isList h0 ⋯ (by rw[hj];simpa using ew) fin hs
 ·have hj:(i+(its.toArray.size)).toNat=j:=by
   rw[Hw ⋯ h4]at h1;rw[Ad,← hl];exact Av h1
  exact Hx pl.isList.typeIs JY.lookup
   (wpAny_getItem_list_neg pl.isList ⋯ (by simp_all) ⋯ (by rw[hj];simpa using ew) ⟨rfl,fin⟩) hs
def Xl:IxR X (AEe X.K):=by
 intro value slice pins s σ H x y v u Q I rx ry h hs;obtain⟨p,xs,i,z,rfl,rfl,hq,he,q⟩:=h;cases rx;obtain⟨t,rfl⟩:=ry;obtain⟨its,r,pl,hz⟩:=I.tuple hq;obtain⟨j,h1,h2,h3,h4,h5⟩:=QB he;obtain⟨w,ew,rw'⟩:=r.get h2;have hn:=v9;have fin:EP X pins σ Q w s:=⟨z,H,I,rw',q⟩
 exact Hx pl.typeIs slot_tuple_getitem.lookup
  (getItem_tuple pl ⋯ ⋯ (by rw[Ad,← r.length];exact h1) (by simpa using ew) ⟨rfl,fin⟩) hs
def mR:IxR X ADp:=by
 intro value slice pins s σ H x y v u Q I rx ry h hs;obtain⟨z,i,c,rfl,rfl,hz,he,q⟩:=h;obtain⟨t,rfl⟩:=rx;obtain⟨t',rfl⟩:=ry;obtain⟨j,h1,h2,h3,h4,h5⟩:=QB he;have hl:z.cps.toList.length=z.length:=by simp[Str.length]
 rw[hl]at h1 h4 h5;have hn:=v9;exact tail_any (typeIs_str s z t) slot_str_getitem.lookup (getItem_str (by
  have e1:decide (i < -(2 ^ 63))=false:=decide_eq_false ⋯;have e2:decide (i ≥ 2 ^ 63)=false:=decide_eq_false ⋯;rw[e1,e2,Bool.or_false]) (by rw[h1];simpa using h2) ⟨.str ⟨#[c]⟩,H,I.tok _,⟨_,rfl⟩,q⟩) hs
def rIx (K:Ae):R2:=λx y H Q=>AEH K x y H Q\/AEe K x y H Q\/ADp x y H Q
def gB:IxR X (rIx X.K):=lK.or (Xl.or mR)
def dD(its:List AL) n j u:BM (·.setIfInBounds j u) { cls:=.type "list",data:=.seq its.toArray n }={ cls:=.type "list",data:=.seq (its.set j u).toArray n }:=by
 simp[BM]
theorem Inv.lst{σ:St}{H s p xs}(I:Inv X pins σ H s)(h:H p=some (.lst xs)) :
  ∃ (its:List AL) (n:Nat),sP xs its/\s.heap.get? p=some { cls:=.type "list",data:=.seq its.toArray n }/\xs.length<=AC:=by
 obtain⟨z,its,n,r,e⟩:=I.hok p _ h;exact⟨its,n,r,e,z⟩
def Inv.lstUpd{σ:St}{H s p xs ys}{its its':List AL}{n n' f}(I:Inv X pins σ H s)(h:H p=some (.lst xs))
  (ho:s.heap.get? p=some { cls:=.type "list",data:=.seq its.toArray n }) (hf:f { cls:=.type "list",data:=.seq its.toArray n }={ cls:=.type "list",data:=.seq its'.toArray n' }) (r:sP ys its') (hz:ys.length<=AC) t :
  Inv X pins σ (upd H p (.lst ys)) { s with heap:=s.heap.update p f,toks:=t }:=by
 have e:(s.heap.update p f).get? p=some { cls:=.type "list",data:=.seq its'.toArray n' }:=by
  rw[CF f ho (by rw[hf] <;> rfl),hf]
 refine I.write (by rw[h];trivial) (.inl rfl) (λb u hb q=>(Bs _ _ (Ax hb)).trans q) ⟨_,e⟩ ?_;exact⟨hz,its',n',r,e⟩
def ABS:V->V->V->Hp->(Hp->Prop)->Prop:=λo i v H Q=>∃ p xs k j,o=.ref p/\i=.int k/\H p=some (.lst xs)/\xt xs.length k=some j/\Q (upd H p (.lst (xs.set j v)))
def bS:ADJ X ABS:=by
 intro pins s σ H o i v ov iv u Q I ro ri rv h;obtain⟨p,xs,k,j,rfl,rfl,hp,hj,q⟩:=h;cases ro;obtain⟨t,rfl⟩:=ri;obtain⟨its,n,r,ho,hz⟩:=I.lst hp;obtain⟨h1,h2,h3,h4⟩:=P2 hj;have hl:=r.length;have hn:=v9;have I':Inv X pins σ (upd H p (.lst (xs.set j v))) { s with heap:=s.heap.update p (BM (·.setIfInBounds j u)) }:=
  I.lstUpd hp ho (dD its n j u) (r.set rv j) (by rw[List.length_set];exact hz) s.toks
 by_cases h0:0<=k
 ·have hk:=by
   rw[Gn h0 h4]at h1;exact Av h1
  exact PySem.W.ki_setAt ho h0 ⋯ (by simp_all) (by rw[hk];exact⟨_,I',q⟩)
 ·have hk:(k+(its.toArray.size)).toNat=j:=by
   rw[Hw ⋯ h3]at h1;rw[Ad,← hl];exact Av h1
  exact PySem.W.ki_setBack ho ⋯ (by simp_all) ⋯ (by rw[hk];exact⟨_,I',q⟩)
def cY lo hi n:(Dw lo hi none n).1=((HT.sIx n 0 lo:Nat):Int)/\(Dw lo hi none n).2.1=((HT.sIx n n hi:Nat):Int)/\(Dw lo hi none n).2.2=1:=by
 refine⟨?_,?_,rfl⟩
 ·cases lo with
  | none=>simp[Dw,HT.sIx]
  | some i =>
   simp[Dw,HT.sIx,if_true];by_cases h:i < 0
   ·simp only[h,if_true] <;> lia
   ·simp only[h,if_false] <;> lia
 ·cases hi with
  | none=>simp[Dw,HT.sIx]
  | some i =>
   simp[Dw,HT.sIx,if_true];by_cases h:i < 0
   ·simp only[h,if_true] <;> lia
   ·simp only[h,if_false] <;> lia
def lC(its:List AL) lo hi:slicePick its.toArray lo hi none=((its.drop (HT.sIx its.length 0 lo)).take (HT.sIx its.length its.length hi - HT.sIx its.length 0 lo)).toArray:=by
 obtain⟨h1,h2,h3⟩:=cY lo hi its.toArray.size;unfold slicePick;rw[h1,h2,h3];simp only[sliceRange_one,pick_run] <;> rfl
def AEg (K:Ae):V->Option Int->Option Int->Hp->VK->Prop:=λx lo hi H Q=>∃ a xs,x=.ref a/\uL K H a xs/\∀ p,H p=none->Q (.ref p) (upd H p (.lst (yV xs lo hi)))
def YR:SlR X (AEg X.K):=by
 intro pins s σ H x v vl vu lo hi sl Q I rx hs pl pu h;obtain⟨a,xs,rfl,hx,q⟩:=h;cases rx;obtain⟨its,r,ht,hz⟩:=I.list hx;have hlen:=r.length;refine⟨"list",_,JY.lookup,ht.isList.typeIs,wpAny_getItem_list_slice ht.isList hs pl pu .none ↥1 ?_ (by simp_all)⟩;rw[lC,← hlen];refine⟨.ref s.heap.objs.size,_,I.laid (λb ob q=>AB _ q) (AF _) ?_,rfl,q _ (I.hok.fresh (AF _))⟩;exact⟨Ah (Vk xs lo hi) hz,_,0,(r.drop (HT.sIx xs.length 0 lo)).take (HT.sIx xs.length xs.length hi - HT.sIx xs.length 0 lo),AK _ rfl⟩
def tM:V->Bool
 | .non=>true
 | .bl _=>true
 | .int _=>true
 | .str _=>true
 | _=>false
def xM:V->V->Bool
 | .non,.non=>true
 | .bl a,.bl b=>a == b
 | .bl a,.int b=>(if a then 1 else 0) == b
 | .int a,.bl b=>a == (if b then 1 else 0)
 | .int a,.int b=>a == b
 | .str a,.str b=>a == b
 | _,_=>false
theorem jh{s y x u v}(ry:RelV y u)(rx:RelV x v)(fy:tM y=true)(fx:tM x=true):GB A s u v (xM y x):=by
 cases y with
 | non =>
  cases ry;cases x with
  | non=>cases rx;exact K2 _
  | bl b=>cases rx;exact K3 b
  | int b=>obtain⟨t,rfl⟩:=rx;exact K4 b t
  | str b=>obtain⟨t,rfl⟩:=rx;exact K5 b t
  | _=>exact absurd (show false=true from fx) AZ
 | bl a =>
  cases ry;cases x with
  | non=>cases rx;exact K6 a
  | bl b=>cases rx;exact K7 a b
  | int b=>obtain⟨t,rfl⟩:=rx;exact K8 a b t
  | str b=>obtain⟨t,rfl⟩:=rx;exact K9 a b t
  | _=>exact absurd (show false=true from fx) AZ
 | int a =>
  obtain⟨t',rfl⟩:=ry;cases x with
  | non=>cases rx;exact LA a t'
  | bl b=>cases rx;exact LB a t' b
  | int b=>obtain⟨t,rfl⟩:=rx;exact Gm a t' b t
  | str b=>obtain⟨t,rfl⟩:=rx;exact Gj a t' b t
  | _=>exact absurd (show false=true from fx) AZ
 | str a =>
  obtain⟨t',rfl⟩:=ry;cases x with
  | non=>cases rx;exact LC a t'
  | bl b=>cases rx;exact LD a t' b
  | int b=>obtain⟨t,rfl⟩:=rx;exact Gk a t' b t
  | str b=>obtain⟨t,rfl⟩:=rx;exact LF a t' b t
  | _=>exact absurd (show false=true from fx) AZ
 | _=>exact absurd (show false=true from fy) AZ
def zq (x:V) (u:AL):Bool:=match u with
 | .none=>xM .non x
 | .bool b=>xM (.bl b) x
 | .int i _=>xM (.int i) x
 | .str z _=>xM (.str z) x
 | _=>false
theorem Q6{x y u}(r:RelV y u)(f:tM y=true):zq x u=xM y x:=by
 cases y with
 | non | bl b=>cases r;rfl
 | int i | str z=>obtain⟨t,rfl⟩:=r;rfl
 | _=>exact absurd f AZ
theorem Po:∀ {xs us},sP xs us->xs.all tM=true->us.any (zq x)=xs.any λy=>xM y x
 | _,_,.nil,_=>rfl
 | y::xs,u::us,.cons r t,f=>by
  rw[EC,Ar]at f;rw[Cd,Cd,Q6 r f.1,Po t f.2]
theorem PQ{s x v}(rx:RelV x v)(fx:tM x=true):∀ {xs us},sP xs us->xs.all tM=true->∀ u∈us,GB A s u v (zq x u)
 | _,_,.nil,_=>λu hu=>by cases hu
 | y::xs,u::us,.cons r t,f=>λu' hu=>by
  rw[EC,Ar]at f;rcases AN.mp hu with rfl | hu
  ·rw[Q6 r f.1];exact jh r rx f.1 fx
  ·exact PQ rx fx t f.2 u' hu
def inV (x:V) (xs:List V):Bool:=xs.any λy=>xM y x
def rIn (K:Ae) (neg:Bool):R2:=λx y H Q=>∃ p xs,y=.ref p/\(uL K H p xs\/vH K H p xs)/\tM x=true/\xs.all tM=true/\Q (.bl (if neg then !inV x xs else inV x xs)) H
def Yf:u5 X (BO .In) (rIn X.K false):=by
 intro pins s σ H x y v u Q I rx ry h;obtain⟨p,xs,rfl,hq,fx,fs,q⟩:=h;cases ry;rcases hq with hq | hq
 ·obtain⟨its,r,pl,hz⟩:=I.list hq;refine SeqAt.in_listAt (zq x) pl.isList (λw hw=>PQ rx fx r fs w (by simp_all)) ⟨.bl _,H,I,rfl,?_⟩;rw[show its.toArray.any (zq x)=its.any (zq x) by simp,Po r fs];exact q
 ·obtain⟨its,r,pl,hz⟩:=I.tuple hq;refine SeqAt.in_tupleAt (zq x) pl (λw hw=>PQ rx fx r fs w (by simp_all)) ⟨.bl _,H,I,rfl,?_⟩;rw[show its.toArray.any (zq x)=its.any (zq x) by simp,Po r fs];exact q
def i5:tJ X (.builtin "len") (λxs H Q=>∃ p ys,xs=[.ref p]/\(uL X.K H p ys\/vH X.K H p ys)/\Q (.int ys.length) H):=by
 intro pins s σ H xs us Q I r h;obtain⟨p,ys,rfl,hq,q⟩:=h;obtain⟨u,rfl,rfl⟩:=vals1 r;have hn:=v9;rcases hq with hq | hq
 ·obtain⟨its,r',pl,hz⟩:=I.list hq;have hlen:=r'.length;exact Calls.call_len_list pl.isList (by simp only[Ad] <;> lia) ⟨.int ys.length,H,I.tok _,⟨s.toks+1,by rw[Ad,hlen]⟩,q⟩
 ·obtain⟨its,r',pl,hz⟩:=I.tuple hq;have hlen:=r'.length;exact Ju pl (by simp only[Ad] <;> lia) ⟨.int ys.length,H,I.tok _,⟨s.toks+1,by rw[Ad,hlen]⟩,q⟩
def Zx:tJ X (.builtin "len") (λxs H Q=>∃ z,xs=[.str z]/\z.length<=AC/\Q (.int z.length) H):=by
 intro pins s σ H xs us Q I r h;obtain⟨z,rfl,hz,q⟩:=h;obtain⟨u,rfl,t,rfl⟩:=vals1 r;have hn:=v9;exact len_str ⋯ ⟨.int z.length,H,I.tok _,⟨_,rfl⟩,q⟩
def tJ.or{r r'}(h:tJ X f r)(h':tJ X f r'):tJ X f (λxs H Q=>r xs H Q\/r' xs H Q):=by
 intro pins s σ H xs us Q I rs q;rcases q with q | q
 ·exact h pins s σ H xs us Q I rs q
 ·exact h' pins s σ H xs us Q I rs q
def fm:tJ X (.type "tuple") (λxs H Q=>∃ p ys,xs=[.ref p]/\((uL X.K H p ys/\∀ l,H l=none->Q (.ref l) (upd H l (.tup ys)))\/(vH X.K H p ys/\Q (.ref p) H))):=by
 intro pins s σ H xs us Q I r h;obtain⟨p,ys,rfl,h⟩:=h;obtain⟨u,rfl,rfl⟩:=vals1 r;rcases h with ⟨hq,q⟩ | ⟨hq,q⟩
 ·obtain⟨its,r',pl,hz⟩:=I.list hq;have hlen:=r'.length;refine call_tuple_list pl.isList (λh' kp=>?_) (by simp_all);have I1:=I.kept (t':=s.toks) kp;have I2:Inv X pins σ (upd H h'.objs.size (.tup ys)) { s with heap:=h'.push { cls:=.type "tuple",data:=.seq its.toArray } }:=
   I1.laid (λb o e=>AB _ e) (AF _) ⟨hz,its,r',wm.new _ _⟩
  exact⟨.ref h'.objs.size,_,I2,rfl,q _ (I1.hok.fresh (AF _))⟩
 ·obtain⟨its,r',pl,hz⟩:=I.tuple hq;exact call_tuple_same pl ⟨.ref p,H,I,rfl,q⟩
def tyV (K:Ae) (T:String) (x:V) (H:Hp):Prop:=match x with
 | .str _=>T="str"
 | .int _=>T="int"
 | .ref p=>(T="list"/\∃ xs,uL K H p xs)\/(T="tuple"/\∃ o,K.lookup p=some o/\o.cls=.type "tuple"/\o.dict=none) \/
   (T="dict"/\((∃ kvs,H p=some (.dK kvs))\/∃ kvs,H p=some (.dT kvs)))\/(T="set"/\∃ S n,H p=some (.set S n))
 | _=>False
theorem VE{σ:St}{H s T x v}(I:Inv X pins σ H s)(r:RelV x v)(ty:tyV X.K T x H) :
  s.TypeIs v T/\∀ a,v=.ref a->∃ ob,s.heap.get? a=some ob/\ob.dict=none:=by
 cases x with
 | str z =>
  obtain⟨t,rfl⟩:=r;cases (show T="str" from ty);exact⟨typeIs_str s z t,λ_ e=>nomatch e⟩
 | int i =>
  obtain⟨t,rfl⟩:=r;cases (show T="int" from ty);exact⟨JI s i t,λ_ e=>nomatch e⟩
 | ref p =>
  cases r;rcases ty with ⟨rfl,xs,hq⟩ | ⟨rfl,o,hk,hc,hd⟩ | ⟨rfl,hk⟩ | ⟨rfl,S,n,hk⟩
  ·obtain⟨its,_,pl,_⟩:=I.list hq;refine⟨pl.isList.typeIs,λa e=>?_⟩;cases e;obtain⟨o,n,e,c,hd,_⟩:=pl;exact⟨o,e,hd⟩
  ·refine⟨⟨o,I.kIn p o hk,hc⟩,λa e=>?_⟩;cases e;exact⟨o,I.kIn _ o hk,hd⟩
  ·have z:∃ o,s.heap.get? p=some o/\o.ExactDict:=by
    rcases hk with ⟨kvs,hk⟩ | ⟨kvs,hk⟩
    iterate 2
     ·obtain⟨_,_,_,_,o,_,_,e,ex,_⟩:=I.hok p _ hk;exact⟨o,e,ex⟩
   obtain⟨o,e,ex⟩:=z;refine⟨⟨o,e,ex.1⟩,λa e2=>?_⟩;cases e2;exact⟨o,e,ex.2.1⟩
  ·obtain⟨o,_,_,_,e,ex,_⟩:=I.hok p _ hk;refine⟨⟨o,e,ex.1⟩,λa e2=>?_⟩;cases e2;exact⟨o,e,ex.2.1⟩
 | _=>exact C7 ty
def ACk (K:Ae) (T:String) (r:V->List V->Hp->VK->Prop) (to:TE):TE:=λσ H Q=>to σ H λx H1=>tyV K T x H1/\r x [] H1 Q
def tBM (K:Ae) (T:String) (r:V->List V->Hp->VK->Prop) (to:TE) (t:TA):TE:=λσ H Q=>to σ H λx H1=>tyV K T x H1/\t σ H1 λxs H2=>r x xs H2 Q
variable {o e:Expr}{es:List Expr}{to:TE}{t:TA}{name:Str}{apos cpos:Pos}{T id:String}{r:V->List V->Hp->VK->Prop}
def bU(pa:PlainAttrs T)(slot:Slot T name id)(hty:Ga (.builtin id)=pure (.type "method_descriptor"))(hm:MtR X id r)(ho:PE X o to)
  (hbase:Ct o name X.env (eval o X.env)=eval o X.env:=by rfl) (hline:(apos.endLine == cpos.line)=true:=by rfl):PE X (.Call (.Attribute o name apos) [] [] cpos) (ACk X.K T r to):=by
 intro pins s σ H Q I h;refine wpAny_Call_method0_late hbase hline (tE (ho pins s σ H _ I h) λv s1 ⟨x,H1,I1,r1,ty,q1⟩=>?_);obtain⟨h1,h2⟩:=VE I1 r1 ty;exact⟨T,id,pa,slot,hty,h1,h2,DK rfl (PySem.evalArgs_none (hm pins s1 σ H1 x [] v [] Q I1 r1 .nil q1))⟩
def T9(pa:PlainAttrs T)(slot:Slot T name id)(hty:Ga (.builtin id)=pure (.type "method_descriptor"))(hm:MtR X id r)(ho:PE X o to)(ha:PA X (e::es) t)
  (hbase:Ct o name X.env (eval o X.env)=eval o X.env:=by rfl)
  (hfew:((CB cpos (AV (e::es) X.env)).all (λx=>!x.1) && (GC cpos (EZ [] X.env)).all (λx=>x.1.isSome)
   && decide ((e::es).length+([]:List Do).length+(if ([]:List Do).isEmpty then 0 else 1) < 30))=true:=by rfl)
  (hline:(apos.endLine == cpos.line)=true:=by rfl) (hs:AV (e::es) X.env=(false,eval e X.env)::AV es X.env:=by rfl) (hplain:(CB cpos (AV es X.env)).any (·.1)=false:=by rfl) :
  PE X (.Call (.Attribute o name apos) (e::es) [] cpos) (tBM X.K T r to t):=by
 intro pins s σ H Q I h;refine Hz hbase hfew hline rfl (tE (ho pins s σ H _ I h) λv s1 ⟨x,H1,I1,r1,ty,q1⟩=>?_);obtain⟨h1,h2⟩:=VE I1 r1 ty;refine⟨T,id,pa,slot,hty,h1,h2,?_⟩;have hA:=ha cpos pins s1 σ H1 _ I1 q1;rw[hs]at hA ⊢;exact DK ‹_› (Eu (tE hA λus s2 ⟨vs,H2,I2,r2,q2⟩=>hm pins s2 σ H2 x vs v us Q I2 r1 r2 q2))
end
def MtM (X:Cx) (id:String) (r:V->List V->Hp->VK->Prop):Prop:=
 ∀ pins s (σ:St) H x xs v us Q,Inv X pins σ H s->RelV x v->sP xs us->r x xs H Q ->
  AQ (model X.prog X.w) X.A (call (.builtin id) (v::us)) (EP X pins σ Q) X.xe s
theorem sP.one:∀ {x us},sP [x] us->∃ u,us=[u]/\RelV x u:=by
 intro _ _ h;cases h with
 | cons r h=>cases h;exact⟨_,rfl,r⟩
theorem sP.zero:∀ {us},sP [] us->us=[]
 | _,.nil=>rfl
theorem sP.dropLast{us}(h:sP xs us):sP xs.dropLast us.dropLast:=by
 induction h with
 | nil=>exact .nil
 | cons r t ih =>
  cases t with
  | nil=>exact .nil
  | cons q t'=>exact .cons r ih
theorem sP.eraseIdx:∀ {xs us} i,sP xs us->sP (xs.eraseIdx i) (us.eraseIdx i)
 | _,_,_,.nil=>.nil
 | _,_,0,.cons _ t=>t
 | _,_,i+1,.cons r t=>.cons r (sP.eraseIdx i t)
theorem sP.rep{us}(h:sP xs us):∀ k,sP (Aa k xs).flatten (Aa k us).flatten
 | 0=>.nil
 | k+1=>sP.append h (sP.rep h k)
theorem VC{α:Type}:∀ (l:List α) i,(l.eraseIdx i).length<=l.length
 | [],_=>AF _
 | _::_,0=>KP _
 | _::r,i+1=>Nat.succ_le_succ (VC r i)
theorem Ut(its:List AL):∀ k acc,
  FM (λx1 x2=>x1++x2) acc.toArray (Aa k its.toArray)=(acc++(Aa k its).flatten).toArray
 | 0,acc=>by simp
 | k+1,acc=>by
  have e:acc.toArray++its.toArray=(acc++its).toArray:=by simp
  have e2:(acc++its)++(Aa k its).flatten=acc++(Aa (k+1) its).flatten:=by
   rw[C3,List.flatten_cons,BC]
  rw[← e2,← Ut its k (acc++its),← e,C3,Di]
section
variable {X:Cx}{pins:List (Addr×Obj)}{σ:St}{H:Hp}{s:AR}{l b:Addr}{xs ys zs:List V}
def Inv.lset{its its':List AL}{n f t'}(I:Inv X pins σ H s)(hH:H l=some (.lst xs))
  (e:s.heap.get? l=some { cls:=.type "list",data:=.seq its.toArray n }) (hf:f its.toArray=its'.toArray) (hv:sP ys its') (hz:ys.length<=AC) :
  Inv X pins σ (upd H l (.lst ys)) { s with heap:=s.heap.update l (BM f),toks:=t' }:=by
 have q:=LM e f;rw[hf]at q;refine I.write (by rw[hH];exact trivial) (.inl rfl) (λb' u hb hu=>(Bs s.heap (BM f) (Ax hb)).trans hu) ⟨_,q⟩ ?_;exact⟨hz,its',_,hv,q⟩
def Inv.lnew(I:Inv X pins σ H s)(hv:sP ys its)(hz:ys.length<=AC) :
  Inv X pins σ (upd H s.heap.objs.size (.lst ys)) { s with heap:=s.heap.push { cls:=.type "list",data:=.seq its.toArray },toks:=t' }:=
 I.laid (λ_ _ q=>AB _ q) (AF _) ⟨hz,its,0,hv,AK _ rfl⟩
theorem Inv.fresh(I:Inv X pins σ H s):H s.heap.objs.size=none:=I.hok.fresh (AF _)
def Inv.lstM(I:Inv X pins σ H s)(hH:H l=some (.lst xs)):xs.length<=AC/\∃ (its:List AL) (n:Nat),sP xs its/\xs.length=its.length/\s.heap.get? l=some { cls:=.type "list",data:=.seq its.toArray n }:=by
 obtain⟨z,its,n,r,e⟩:=I.hok l _ hH;exact⟨z,its,n,r,r.length,e⟩
def yC(h:n<=AC):Cm n=false:=decide_eq_false ⋯
end
section
variable {X:Cx}
def yv:V->List V->Hp->VK->Prop:=λx vs H Q=>∃ l xs y,x=.ref l/\vs=[y]/\H l=some (.lst xs)/\xs.length < AC/\Q .non (upd H l (.lst (xs++[y])))
def iz:MtM X "list.append" yv:=by
 intro pins s σ H x vs v us Q I rx rv h;obtain⟨l,xs,y,rfl,rfl,hH,hz,q⟩:=h;cases rx;obtain⟨u,rfl,ru⟩:=rv.one;obtain⟨z,its,n,r,hl,e⟩:=I.lstM hH;refine C5 F.slot_list_append ⟨_,e,rfl⟩ F.entry_list_append (F.args_list_append_2 _ _) (PySem.list_append l its.toArray n u (by simp_all)) ⟨e,⟨.non,_,I.lset hH e ↥1 (r.append (.cons ru .nil)) ?_,rfl,q⟩⟩;rw[A8,HI];lia
def y0:V->List V->Hp->VK->Prop:=λx vs H Q=>∃ l b xs zs,x=.ref l/\vs=[.ref b]/\H l=some (.lst xs)/\H b=some (.lst zs)/\xs.length+zs.length<=AC/\Q .non (upd H l (.lst (xs++zs)))
def jA:MtM X "list.extend" y0:=by
 intro pins s σ H x vs v us Q I rx rv h;obtain⟨l,b,xs,zs,rfl,rfl,hH,hB,hz,q⟩:=h;cases rx;obtain⟨u,rfl,rfl⟩:=rv.one;obtain⟨z,its,n,r,hl,e⟩:=I.lstM hH;obtain⟨z2,its2,n2,r2,hl2,e2⟩:=I.lstM hB;have hsz:its.toArray.size+its2.toArray.size<=AC:=by rw[Ad,Ad];lia
 have hlong:¬ (!its.toArray.isEmpty && Cm (its.toArray.size+its2.toArray.size))=true:=by
  rw[yC hsz,Bool.and_false];exact AZ
 refine C5 F.slot_list_extend ⟨_,e,rfl⟩ F.entry_list_extend (F.args_list_extend_2 _ _)
  (AutoSeq1.list_extend_list_list_0 l its.toArray n b its2.toArray n2 hlong ⋯ ⋯) ⟨e,e2,?_⟩
 refine⟨.non,_,I.lset hH e ↥1 (r.append r2) ?_,rfl,q⟩;rw[A8];lia
def ADG:V->List V->Hp->VK->Prop:=λx vs H Q=>∃ l xs y,x=.ref l/\vs=[]/\H l=some (.lst xs)/\xs[xs.length - 1]?=some y/\Q y (upd H l (.lst xs.dropLast))
def fK:MtM X "list.pop" ADG:=by
 intro pins s σ H x vs v us Q I rx rv h;obtain⟨l,xs,y,rfl,rfl,hH,hy,q⟩:=h;cases rx;have hus:=rv.zero;subst hus;obtain⟨z,its,n,r,hl,e⟩:=I.lstM hH;obtain⟨u,hu,ru⟩:=r.get hy;have hy':its.toArray[its.toArray.size - 1]?=some u:=by
  simp_all
 refine C5 JZ ⟨_,e,rfl⟩ JJ (F.args_list_pop_1 _) (MeetsSeq.list_pop_last l its.toArray n u hy' (by simp_all)) ⟨e,⟨y,_,I.lset hH e ?_ r.dropLast ?_,ru,q⟩⟩
 ·simp_all
 ·rw[List.length_dropLast];lia
def AAF:V->List V->Hp->VK->Prop:=λx vs H Q=>∃ l xs i k y,x=.ref l/\vs=[.int i]/\H l=some (.lst xs)/\-(2 ^ 63)<=i/\i < 2 ^ 63/\FW i xs.length=some k/\xs[k]?=some y/\Q y (upd H l (.lst (xs.eraseIdx k)))
def Xk:MtM X "list.pop" AAF:=by
 intro pins s σ H x vs v us Q I rx rv h;obtain⟨l,xs,i,k,y,rfl,rfl,hH,h1,h2,hk,hy,q⟩:=h;cases rx;obtain⟨u,rfl,ru⟩:=rv.one;obtain⟨t,rfl⟩:=ru;obtain⟨z,its,n,r,hl,e⟩:=I.lstM hH;obtain⟨w,hw,rw'⟩:=r.get hy;refine C5 JZ ⟨_,e,rfl⟩ JJ (F.args_list_pop_2 _ _)
  (MeetsSeq.list_pop_at l its.toArray n i t k w (Kl h1 h2) (by simp_all) (by simp_all) (by simp_all)) ⟨e,?_⟩
 refine⟨y,_,I.lset hH e ?_ (r.eraseIdx k) ?_,rw',q⟩
 ·simp_all
 ·have:=VC xs k;lia
def ACT:R2:=λx y H Q=>∃ l b xs zs,x=.ref l/\y=.ref b/\H l=some (.lst xs)/\H b=some (.lst zs)/\xs.length+zs.length<=AC/\∀ p,H p=none->Q (.ref p) (upd H p (.lst (xs++zs)))
def mQ:u5 X (CZ .Add) ACT:=by
 intro pins s σ H x y v u Q I rx ry h;obtain⟨l,b,xs,zs,rfl,rfl,hH,hB,hz,q⟩:=h;cases rx;cases ry;obtain⟨z,its,n,r,hl,e⟩:=I.lstM hH;obtain⟨z2,its2,n2,r2,hl2,e2⟩:=I.lstM hB;refine PySem.P.add_list e e2 ?_ (by simp_all);have ea:its.toArray++its2.toArray=(its++its2).toArray:=by simp
 rw[ea];exact⟨.ref _,_,I.lnew (r.append r2) (by rw[A8];lia),rfl,q _ I.fresh⟩
def ACa:R2:=λx y H Q=>∃ l k xs,x=.ref l/\y=.int k/\H l=some (.lst xs)/\-(2 ^ 63)<=k/\k < 2 ^ 63/\xs.length * k.toNat<=AC /\
 ∀ p,H p=none->Q (.ref p) (upd H p (.lst (Aa k.toNat xs).flatten))
def fH{α:Type}(xs:List α) k:(Aa k xs).flatten.length=k * xs.length:=↥1
def bt:u5 X (CZ .Mult) ACa:=by
 intro pins s σ H x y v u Q I rx ry h;obtain⟨l,k,xs,rfl,rfl,hH,h1,h2,hz,q⟩:=h;cases rx;obtain⟨t,rfl⟩:=ry;obtain⟨z,its,n,r,hl,e⟩:=I.lstM hH;have hlen:its.toArray.size * k.toNat<=AC:=by rw[Ad,← hl];exact hz
 have hcap:¬ its.toArray.size * k.toNat > (2 ^ 63 - 1) / 8:=by
  have:AC<=(2 ^ 63 - 1) / 8:=by decide
  lia
 have hfit:¬ (!Builtin.List.listFitsIndex k)=true:=by
  rw[Kl h1 h2];exact AZ
 have hlong:¬ Cm (its.toArray.size * k.toNat)=true:=by
  rw[yC hlen];exact AZ
 have hnew:FM (λx1 x2=>x1++x2) #[] (Aa (if its.toArray.isEmpty=true then 0 else k.toNat) its.toArray)=(Aa k.toNat its).flatten.toArray:=by
  have f0:=λm=>by
   have:=Ut its m [];rw[Ef]at this;exact this
  rw[f0];cases its with
  | nil=>simp
  | cons a r'=>rw[if_neg ↥1]
 refine wpAny_binaryOp_repeat_ref ∅ ⟨_,e,rfl⟩ (λs'=>JI s' k t) noFill_list_mul F.fills_int_mul Ja repeat_list F.slot_int_index.lookup
  (C5 Ja (JI s k t) F.entry_int_rmul (F.args_int_rmul_2 _ _) (int___rmul___int_list k t l its.toArray n)
   ⟨e,rfl,⟨_,e,rfl⟩,C5 F.slot_list_mul ⟨_,e,rfl⟩ F.entry_list_mul (F.args_list_mul_2 _ _) (LN l its.toArray n k t hfit hcap hlong) ⟨e,?_⟩⟩)
 rw[hnew];exact⟨.ref _,_,I.lnew (r.rep k.toNat) (by rw[fH,Nat.mul_comm];exact hz),rfl,q _ I.fresh⟩
end
end L2
namespace Att
open PySem PySem.W PySem.Calls PyProof.Rows
theorem Zt:∀ ns vs,WellAll P h vs (ns.map WData.int)->Bx vs ns:=by
 intro ns;induction ns with
 | nil =>
  intro vs w;cases w;exact .nil
 | cons n ns ih =>
  intro vs w;cases w with
  | cons a b =>
   cases a;exact .cons _ _ (ih _ b)
theorem mm{l:OpenLaw}{n}(hn:l.most=some n){P h args vals}
  (hpre:l.row.toRowW.claim.pre args=true) (hwl:WellAll P h vals args) :
  ∃ a vs ns,vals=[Br a]/\args=[WData.list (ns.map WData.int)]/\h.get? a=some { cls:=.type "list",data:=.seq vs.toArray }/\Bx vs ns/\ns.length<=n:=by
 have hsh:WShape.hasAll [] args [.list .int]=true:=(pre_splitW hpre).1;have hc:l.pre.holds [] { args:=args }=true:=(pre_splitW hpre).2;obtain⟨d,r,rfl,h1,h2⟩:=hasAllW_cons hsh;obtain rfl:=hasAllW_nil h2;obtain⟨xs,rfl,h3⟩:=hasW_list h1;obtain⟨ns,rfl⟩:=items_int h3;have hlen:ns.length<=n:=by
  unfold OpenLaw.pre at hc;have h4:=by
   have h4:=(holds_andW hc).1;rw[hn]at h4;exact h4
  have h5:=condW_of h4 (w_not (w_lt w_lit (w_len_list (w_arg rfl))))
  first
   | (rw[decide_eq_true q']at h5;exact absurd h5 ∅)
   | (simp at h5;lia)
 cases hwl with
 | cons w1 w2 =>
  cases w2;cases w1 with
  | list ho hall=>exact⟨_,_,ns,rfl,rfl,ho,Zt ns _ hall,hlen⟩
def fq(l:OpenLaw) args:l.row.toRowW.claim.post args (.bool true) args=true:=
 postW_of
  (show WShape.has [] (.bool true) .bool=true by first | rfl | decide | simp)
  (w_eq_bool (w_res rfl) w_lit) rfl
def yG{l:OpenLaw}{n q loose XP YP d}
  (hn:l.most=some n) (hdf:d.params.defaults=[])
  (call:∀ w s₀ s₁ mg mb fa o pm cd doc a vs ns,
   Ground q loose [] XP w s₀ mg mb s₁.heap->YP w s₁.heap ->
   s₁.heap.get? fa=some o->o.data=.func (docDef d.name d.params d.body d.scope pm cd doc)->s₁.heap.CodeRec cd d.name->mg d.name=some (.ref fa) ->
   s₁.heap.get? a=some { cls:=.type "list",data:=.seq vs.toArray }->Bx vs ns->ns.length<=n->s₁.gens=#[] ->
   D7 (model l.prog w) GD (.call (.ref fa) ⟨[.ref a],[]⟩) (λr s'=>r=.ok (.ret (.bool true))/\OldK s₁.heap s'.heap/\s'.os=s₁.os/\EW s'.gens) s₁) :
  WalkO q loose XP YP l.row.toRowW d [] (λf vs=>Hb f vs):=by
 intro w s₀ s₁ mg mb G Y fa o pm cd doc dV kV ho hd hcd hD hmg hg args vals as hpre hlay hrd hwl hlo;obtain rfl:dV=.none:=Dflts.none hD hdf;obtain rfl:kV=.none:=Dflts.noKw hD;obtain⟨a,vs,ns,rfl,rfl,hobj,hints,hlen⟩:=mm hn hpre hwl;refine enter_call (GA (call w s₀ s₁ mg mb fa o pm cd doc a vs ns G Y ho (fd_plain hd) hcd hmg hobj hints hlen hg) λr s' hq=>?_);obtain⟨rfl,h2,h3,h4⟩:=hq;exact⟨.inl ⟨.bool true,.bool true,[],rfl,λ_=>rfl,.bool true,fq l _,λ_=>⟨Jv,λ_ hm=>(nomatch hm)⟩⟩,h2,h3,h4⟩
end Att
namespace L2
open PySem PySem.Spec PyProof.Rows
theorem SU:∀ {vs ns},Bx vs ns->sP (ns.map V.int) vs
 | _,_,.nil=>.nil
 | _,_,.cons n t h=>.cons ⟨t,rfl⟩ (SU h)
def ABl (H:Hp):Prop:=∀ b,H b=none\/∃ o xs,H b=some (.frz o (.lst xs))
theorem ee{K mg mb CX k fa a fd x sp s₁ vs ns}
  (KX:K.In s₁.heap) (hns:s₁.heap.Ns A0 mg) (hb:s₁.heap.Ns HG mb) (hbb:∀ x:Str,x≠"__name__"->mb x=CD x) (hlim:s₁.heap.NoLimit) (hg:s₁.gens=#[])
  (ha:s₁.heap.get? a=some { cls:=.type "list",data:=.seq vs.toArray }) (hi:Bx vs ns) (hl:ns.length<=AC) (hr:uJ k GD)
  (F:∀ base,K.In base->base.Ns A0 mg->uj P w K mg base CX k fa fd [x] sp) (hbind:∀ s u,F8 s fd ⟨[u],[]⟩ [(x,u)])
  (hsp:∀ H,ABl H->uL K H a (ns.map V.int)->sp [.ref a] H (λv _=>v=.bl true) λ_ _ _=>False)
  (hCX:∀ H e s',CX [] H s₁ (λ_ _ _=>False) e s'->False) :
  D7 (model P w) GD (.call (.ref fa) ⟨[.ref a],[]⟩) (λr s'=>r=.ok (.ret (.bool true))/\OldK s₁.heap s'.heap/\s'.os=s₁.os/\EW s'.gens) s₁:=by
 have rv:=SU hi;have core:∀ H,ABl H->uL K H a (ns.map V.int)->vO P w H s₁.heap->(∀ b,H b≠none->b=a)->(H a≠none->K.lookup a=none) ->
   D7 (model P w) GD (.call (.ref fa) ⟨[.ref a],[]⟩) (λr s'=>r=.ok (.ret (.bool true))/\OldK s₁.heap s'.heap/\s'.os=s₁.os/\EW s'.gens) s₁:=by
  intro H hO hS hok hA hK;have base_of:∀ {b:Addr} {o:Obj},s₁.heap.get? b=some o->H b=none->(yB s₁.heap H).get? b=some o:=fw;have noA:∀ {b:Addr} {o:Obj} {es:Array Ew} {ep:Nat},s₁.heap.get? b=some o->o.data=.dict es ep->H b=none:=λ{b o es ep} e d=>by
   cases q:H b with
   | none=>rfl
   | some u =>
    have e':=hA b (by rw[q];simp);subst e';rw[ha]at e;cases e;cases d
  have nsK:∀ {b:Addr} {m:Str->Option AL},s₁.heap.Ns b m->(yB s₁.heap H).Ns b m:=λ{b m} ⟨o,es,ep,e,d,r⟩=>⟨o,es,ep,base_of e (noA e d),d,r⟩
  have hKb:=λb o e=>base_of (KX b o e) (by
   cases q:H b with
   | none=>rfl
   | some u =>
    have e':=hA b (by rw[q];simp);subst e';rw[hK (by rw[q];simp)]at e;cases e)
  have hM:Mod K mg (yB s₁.heap H):=⟨hKb,nsK hns,⟨mb,nsK hb,hbb⟩,let ⟨mc,h1,h2⟩:=hlim;⟨mc,nsK h1,h2⟩⟩
  have e0:ABz P w K mg (yB s₁.heap H) GD [] s₁ H:=⟨rfl,hM,λb o e=>Zz e,Jw (iZ _ _),trivial,λb hb=>absurd (show b∈[] from hb) ↥1,hok,.of_eq hg⟩
  refine GA ((F _ hKb (nsK hns)).run GD [] s₁ H ⟨[.ref a],[]⟩ [.ref a] [.ref a] _ _ hr e0 (hbind s₁ (.ref a)) (.cons rfl .nil) (hsp H hO hS)) λr s' h=>?_
  cases r with
  | error e=>exact (hCX H e s' h).elim
  | ok fl =>
   cases fl with
   | next | brk | cont=>exact C7 h
   | ret u =>
    obtain⟨v,H',os,bare,un,hok',r',q⟩:=h;subst q;obtain rfl:u=F5 true:=r';refine⟨rfl,OldK.of_keep λb o e=>?_,os,bare⟩;cases q:H b with
    | none=>exact un.keep b o e q (by intro z;exact absurd (show b∈[] from z) ↥1) ↥1
    | some u =>
     rcases hO b with z | ⟨ob,xs,z⟩
     ·rw[q]at z;cases z
     ·obtain⟨e1,_⟩:=hok b _ z;obtain⟨e2,_⟩:=hok' b _ (un.frzs b ob _ z);rw[e]at e1;cases e1;exact e2
 cases hk:K.lookup a with
 | some o =>
  have e:=KX a o hk;rw[ha]at e;cases e;refine core (λ_=>none) (λ_=>.inl rfl) (.inr ⟨_,vs.toArray,_,hk,rfl,rfl,rfl,by rw[Ad,hi.length];exact hl,by simpa using rv⟩) (λb u z=>by have z':=z;cases z') (λb z=>absurd rfl z) λz=>absurd rfl z
 | none =>
  refine core (λb=>if b=a then some (.frz { cls:=.type "list",data:=.seq vs.toArray } (.lst (ns.map V.int))) else none) (λb=>?_) (.inl (.inr ⟨{ cls:=.type "list",data:=.seq vs.toArray },if_pos rfl⟩)) (λb u z=>?_) (λb z=>?_) λ_=>hk
  ·by_cases hb:b=a
   ·exact .inr ⟨_,_,if_pos hb⟩
   ·exact .inl (if_neg hb)
  ·by_cases hb:b=a
   ·have z':=(if_pos hb).symm.trans z;cases z';subst hb;exact⟨ha,by rw[Af];exact hl,vs,_,rv,ha⟩
   ·have z':=(if_neg hb).symm.trans z;cases z'
  ·by_cases hb:b=a
   ·exact hb
   ·exact absurd (if_neg hb) z
def AAX{l:ES}{n k q loose XP YP d}{K:Params->Ae}{CX:A5->CXT}{sp:A5->Sp}{x}
  (hn:l.most=some n) (hn2:n<=AC) (hdf:d.params.defaults=[]) (hr:uJ k GD)
  (hY:∀ w h,YP w h->(K w.params).In h)
  (F:∀ w mg fa h,(K w.params).In h->h.Ns A0 mg->mg d.name=some (.ref fa) ->
   ∃ fd,(∀ s u,F8 s fd ⟨[u],[]⟩ [(x,u)]) /\
    ∀ base,(K w.params).In base->base.Ns A0 mg->uj l.prog w (K w.params) mg base (CX w) k fa fd [x] (sp w))
  (hsp:∀ w H a (ns:List Int),ns.length<=n->ABl H->uL (K w.params) H a (ns.map V.int)->sp w [.ref a] H (λv _=>v=.bl true) λ_ _ _=>False)
  (hCX:∀ w H s e s',CX w [] H s (λ_ _ _=>False) e s'->False) :
  IW q loose XP YP l.row.toRowW d [] (λf vs=>Hb f vs):=by
 refine Att.yG hn hdf λw s₀ s₁ mg mb fa o pm cd doc a vs ns G Y ho hd hcd hmg hobj hints hlen hg=>?_
 have KX:=hY w _ Y;obtain⟨fd,hb,hF⟩:=F w mg fa _ KX G.T.g hmg;exact ee KX G.T.g G.T.b G.T.builtins G.T.nolimit hg hobj hints (Ah hlen hn2) hr hF hb (λH hO hS=>hsp w H a ns hlen hO hS) λH e s'=>hCX w H s₁ e s'
def tY (s:Stmt):Arguments:=match s with
 | .FunctionDef _ a _ _ _ _ _ _ _ _=>a
 | _=>{ posonlyargs:=[],args:=[],vararg:=none,kwonlyargs:=[],kw_defaults:=[],kwarg:=none,defaults:=[] }
def sv (s:Stmt):List Stmt:=match s with
 | .FunctionDef _ _ b _ _ _ _ _ _ _=>b
 | _=>[]
def sD (s:Stmt):Et:=match s with
 | .FunctionDef _ _ _ _ _ _ sc _ _ _=>sc
 | _=>{ kind:=.function,names:=[],isGenerator:=false,isCoroutine:=false }
abbrev xh:CXT:=λ_ _ _ _ _ _=>False
abbrev E0:XK:=λ_ _ _=>False
def AAW:yh xh X E0:=λ_ _ _ _ _ _ _ h=>h.elim
structure zm(K:Ae)(x qual:Str)(st:Stmt)(f:Addr)(fd:Dc):Prop where
 ex:∃ (oc:AL) (od:Option Addr) (kV doc pm:AL) (an:Option Addr) (cdv ct:AL) (osl:Array (Option AL)),
  fd=Be x qual (tY st) (sv st) (sD st) .none kV doc pm an cdv ct/\K.lookup f=some ⟨oc,od,.func fd,osl⟩/\Cg K cdv qual=true
 kp:Bq K (.ref f)=true
section
variable {P:Aj}{w:A5}{K:Ae}{mg:Str->Option AL}{base:Heap}
def zm.ok{st f fd N ps k sp}(F:zm K x qual st f fd)(S:sH N ps (sD st))(len:∀ vs H Q E,sp vs H Q E->vs.length=ps.length)
  (hbody:∀ cdv A outer s H vs Q E,uJ k (A.deeper (FP qual (sD st) s.heap.objs.size f cdv))->sp vs H Q E ->
   ∃ t,yn (x4 xh P w K mg base N qual (sD st) f cdv A outer s H E).nox (sv st) t/\t { nx:=λ_ H'=>Q .non H',rt:=Q } (start N vs) H):uj P w K mg base xh (k+1) f fd ps sp:=by
 obtain⟨oc,od,kV,doc,pm,an,cdv,ct,osl,rfl,lk,hcd⟩:=F.ex;refine Vd lk hcd S len λA outer s H vs Q E hr hsp=>?_
 obtain⟨t,h,q⟩:=hbody cdv A outer s H vs Q E hr hsp;exact⟨t,h.nox,q⟩
def zm.binds{st f fd ps}(F:zm K x qual st f fd)
  (h:∀ kV doc pm an cdv ct us,us.length=ps.length->F9 (Be x qual (tY st) (sv st) (sD st) .none kV doc pm an cdv ct) ⟨us,[]⟩=pure (ps.zip us)):Binds K fd ps []:=by
 obtain⟨oc,od,kV,doc,pm,an,cdv,ct,osl,rfl,lk,hcd⟩:=F.ex;exact .all (h kV doc pm an cdv ct)
def Yn{st f oc od an osl kV doc pm cdv ct}(l:K.lookup f=some ⟨oc,od,.func (Be x qual (tY st) (sv st) (sD st) .none kV doc pm an cdv ct),osl⟩)
  (c:Cg K cdv qual=true) (k:Bq K (.ref f)=true):zm K x qual st f (Be x qual (tY st) (sv st) (sD st) .none kV doc pm an cdv ct):=⟨⟨oc,od,kV,doc,pm,an,cdv,ct,osl,rfl,l,c⟩,k⟩
end
def wG (H H':Hp):Prop:=∀ b o,H b=some o->H' b=some o
def wG.refl H:wG H H:=λ_ _ h=>h
end L2
set_option maxHeartbeats 4000000
namespace L2
open PySem PySem.Spec PyProof.Rows
def tW (cells:List (Str×Addr)):List (Str×Km)->List (Str×Addr)->List (Str×Addr)
 | [],acc=>acc
 | (n,k)::r,acc=>if k == .free then tW cells r ((n,(cells.lookup n).getD 0)::acc) else tW cells r acc
def d7(h:∀ x∈scope.names,x.2=.free->∃ c,env.cells.lookup x.1=some c):closureFor scope env=pure (tW env.cells scope.names []):=by
 have go:∀ names acc,(∀ x∈names,x.2=.free->∃ c,env.cells.lookup x.1=some c) ->
   (forIn names acc λx cs=>if (x.2 == Bo)=true then (do let c ← cellOf env x.1;pure (Cy ((x.1,c)::cs))) else (pure (Cy cs)))=(pure (tW env.cells names acc):Sem _):=by
  intro names;induction names with
  | nil=>intro acc _;rfl
  | cons x r ih =>
   intro acc hx;obtain⟨n,k⟩:=x;rw[Eg];have hr:=λacc=>ih acc λy hy=>hx y (AI _ hy)
   unfold tW;by_cases hk:(k == Bo)=true
   ·obtain⟨c,hc⟩:=hx (n,k) AH (by simpa using hk);have hc':=hc;have e:cellOf env n=pure c:=by unfold cellOf;rw[hc']
    simp only[hk,e,hc'];exact hr _
   ·simp only[hk];exact hr _
 unfold closureFor;have:=go scope.names [] h;simp only[bind_pure];exact this
theorem Nk:∀ names acc,(tW cells names acc).lookup x=some c->((x,Bo)∈names/\c=(cells.lookup x).getD 0)\/acc.lookup x=some c
 | [],acc,h=>.inr h
 | (n,k)::r,acc,h=>by
  unfold tW at h;by_cases hk:(k == Bo)=true
  ·rw[if_pos hk]at h;have hk':=by simpa using hk
   subst hk';rcases Nk r _ h with ⟨a,b⟩ | h'
   ·exact .inl ⟨AI _ a,b⟩
   ·clear h;rw[Cz]at h';cases e:x == n with
    | true =>
         rw[e]at h';have q:=by simpa using e
         subst q;exact .inl ⟨AH,(Av h').symm⟩
    | false=>rw[e]at h';exact .inr h'
  ·rw[if_neg hk]at h;rcases Nk r _ h with ⟨a,b⟩ | h
   ·exact .inl ⟨AI _ a,b⟩
   ·exact .inr h
theorem OH:∀ names acc,((x,Bo)∈names\/(acc.lookup x).isSome=true)->((tW cells names acc).lookup x).isSome=true
 | [],acc,h=>h.elim (λz=>nomatch z) id
 | (n,k)::r,acc,h=>by
  unfold tW;by_cases hk:(k == Bo)=true
  ·rw[if_pos hk];refine OH r _ ?_;by_cases e:x=n
   ·subst e;exact .inr ↥1
   ·rcases h with h | h
    ·rcases AN.mp h with h | h
     ·cases h;exact absurd rfl e
     ·exact .inl h
    ·refine .inr ?_;rw[Cz];have:(x == n)=false:=by simpa using e
     rw[this];exact h
  ·rw[if_neg hk];refine OH r _ ?_;rcases h with h | h
   ·rcases AN.mp h with h | h
    ·cases h;exact absurd rfl hk
    ·exact .inl h
   ·exact .inr h
theorem Nx:∀ names n acc,(BP n names acc).lookup x=some c->(n<=c/\(x,By)∈names)\/acc.lookup x=some c
 | [],_,acc,h=>.inr h
 | (y,k)::r,n,acc,h=>by
  unfold BP at h;by_cases hk:(k == By)=true
  ·rw[if_pos hk]at h;have hk':=by simpa using hk
   subst hk';rcases Nx r _ _ h with ⟨a,b⟩ | h'
   ·exact .inl ⟨by lia,AI _ b⟩
   ·clear h;rw[Cz]at h';cases e:x == y with
    | true =>
         rw[e]at h';have q:=by simpa using e
         simp_all
    | false=>rw[e]at h';exact .inr h'
  ·rw[if_neg hk]at h;rcases Nx r _ _ h with ⟨a,b⟩ | h
   ·exact .inl ⟨a,AI _ b⟩
   ·exact .inr h
theorem Pv:∀ names n acc,(x,c)∈BP n names acc->n<=c\/(x,c)∈acc
 | [],_,acc,h=>.inr h
 | (y,k)::r,n,acc,h=>by
  unfold BP at h;by_cases hk:(k == By)=true
  ·rw[if_pos hk]at h;rcases Pv r _ _ h with a | h
   ·exact .inl ⋯
   ·rcases AN.mp h with h | h
    ·lia
    ·exact .inr h
  ·rw[if_neg hk]at h;exact Pv r _ _ h
theorem QC:∀ names (n:Nat) (acc:List (Str×Addr)),(∀ p∈acc,p.2 < n)->n<=c->(x,c)∈BP n names acc->(y,c)∈BP n names acc->x=y
 | [],n,acc,ha,hc,h1,_=>by have q:c < n:=ha _ h1;exact absurd (AW q hc) (BE _)
 | (z,k)::r,n,acc,ha,hc,h1,h2=>by
  unfold BP at h1 h2;by_cases hk:(k == By)=true
  ·rw[if_pos hk]at h1 h2;have ha':∀ p∈(z,n)::acc,p.2 < n+1:=λp hp=>by
    rcases AN.mp hp with h | h
    ·subst h;exact CT _
    ·exact DP (ha p h)
   by_cases hcn:n+1<=c
   ·exact QC r _ _ ha' hcn h1 h2
   ·have hcn':=Nat.le_antisymm (H9.mp hcn) hc;subst hcn';have g:∀ w,(w,c)∈BP (c+1) r ((z,c)::acc)->w=z:=λw hw=>by
     rcases Pv r _ _ hw with a | a
     ·exact absurd a (Nat.not_succ_le_self _)
     ·rcases AN.mp a with a | a
      ·cases a;rfl
      ·have:=ha _ a;exact absurd this (BE _)
    rw[g x h1,g y h2]
  ·rw[if_neg hk]at h1 h2;exact QC r _ _ ha hc h1 h2
theorem Pc:∀ names h acc,(∀ p∈acc,∃ v,h.IsCell p.2 v)->(x,c)∈BP h.objs.size names acc->∃ v,(Gb h names).IsCell c v
 | [],_,acc,ha,hm=>ha _ hm
 | (z,k)::r,h,acc,ha,hm=>by
  unfold BP at hm;unfold Gb;by_cases hk:(k == By)=true
  ·rw[if_pos hk]at hm ⊢;refine Pc r (h.push { cls:=.type "cell",data:=.cell none }) ((z,h.objs.size)::acc) (λp hp=>?_) (by rw[BW];exact hm);rcases AN.mp hp with e | e
   ·subst e;exact⟨none,_,AK _ rfl,rfl⟩
   ·obtain⟨v,q⟩:=ha p e;exact⟨v,q.keeps λb o e=>AB _ e⟩
  ·rw[if_neg hk]at hm ⊢;exact Pc r h acc ha hm
def X7
  (hQ:Q (newEnv scope s.heap.objs.size globals (BP (s.heap.objs.size+1) scope.names cl) qual none .none (some env) HG) { s with heap:=Gb (s.heap.push { cls:=.type "dict",data:=.dict #[] }) scope.names }) :
  AQ M A (Kn scope globals cl [] qual none .none (some env)) Q E s:=by
 simp only[Kn,Option.isSome_some,if_true];refine AA (wpAny_alloc (AA (wpAny_layCells _ (λname kind cells=>by cases hkc:kind == By <;> simp) _ _ _ _ ?_)));rw[show ({ s with heap:=s.heap.push { cls:=.type "dict",data:=.dict #[] } }:AR).heap.objs.size=s.heap.objs.size+1 from BW ..];exact AA (AG (AG hQ))
def xg (N N':List Str) (ix:List (Option Nat)) (outer names:List (Str×Km)):Bool:=
 decide (N'.length=ix.length) && ((N'.zip ix).all λp=>match p.2 with | none=>true | some j=>decide (N[j]?=some p.1) && names.contains (p.1,Bo)) &&
 (names.all λp=>(p.2 != .free || outer.lookup p.1 == some .cell || outer.lookup p.1 == some .free) && (p.2 != .local || names.lookup p.1 == some .local) && (p.2 != .cell || names.lookup p.1 == some .cell) && (p.2 != .free || names.lookup p.1 == some .free))
def yZ (ix:List (Option Nat)) (σ:St):St:=ix.map λo=>o.bind λj=>(σ[j]?).join
def zW (X:Cx) (N:List Str) (scope:Et) (C:Addr) (cs:List (Str×Addr)) (s:AR) (H:Hp) (ex:List Addr):Cx where
 prog:=X.prog
 w:=X.w
 K:=X.K
 mg:=X.mg
 base:=X.base
 A:=X.A
 N:=N
 s₀:=s
 H₀:=H
 env:=GE scope cs C X.env
 outer:=X.stack
 stack:=X.stack
 ex:=ex
 fn:=λx=>scope.names.lookup x == some .cell
 calm:=X.calm
 pn:=[]
 xe:=λ_ _=>False
structure uU(X:Cx)(N':List Str)(ix:List (Option Nat))(scope:Et):Prop where
 kind:scope.kind=.function
 ok:xg X.N N' ix X.env.scope.names scope.names=true
section
variable {X:Cx}{N':List Str}{ix:List (Option Nat)}{scope:Et}
def uU.len(S:uU X N' ix scope):N'.length=ix.length:=by
 have h:=S.ok;unfold xg at h;simp only[Ar,decide_eq_true_eq]at h;exact h.1.1
def uU.name(S:uU X N' ix scope)(hp:p∈scope.names) :
  (p.2=.free->X.env.scope.names.lookup p.1=some .cell\/X.env.scope.names.lookup p.1=some .free)/\(p.2=.local->scope.names.lookup p.1=some .local)/\(p.2=.cell->scope.names.lookup p.1=some .cell)/\(p.2=.free->scope.names.lookup p.1=some .free):=by
 have h:=S.ok;unfold xg at h;simp only[Ar]at h;have q:=AJ.mp h.2 p hp;simp at q;obtain⟨⟨⟨a,b⟩,c⟩,d⟩:=q;refine⟨λe=>?_,λe=>?_,λe=>?_,λe=>?_⟩
 ·rcases a with (a | a) | a
  ·exact absurd e a
  ·exact .inl a
  ·exact .inr a
 ·exact b.resolve_left λz=>z e
 ·exact c.resolve_left λz=>z e
 ·exact d.resolve_left λz=>z e
theorem uU.at(S:uU X N' ix scope){i j:Nat}{x}(h1:N'[i]?=some x)(h2:ix[i]?=some (some j)):X.N[j]?=some x/\(x,Bo)∈scope.names:=by
 have h:=S.ok;unfold xg at h;simp only[Ar]at h;have hz:=by
  have:(N'.zip ix)[i]?=some (x,some j):=by rw[Gc];exact⟨h1,h2⟩
  exact Df this
 have q:=AJ.mp h.1.2 _ hz;simp at q;exact q
theorem W7{i:Nat}{v}(h:(yZ ix σ)[i]?=some (some v)):∃ j,ix[i]?=some (some j)/\σ[j]?=some (some v):=by
 unfold yZ at h;rw[Ak]at h;cases e:ix[i]? with
 | none=>rw[e]at h;cases h
 | some o =>
  rw[e]at h;cases o with
  | none=>cases h
  | some j =>
   have h':(σ[j]?).join=some v:=Av h;refine⟨j,rfl,?_⟩;cases e2:σ[j]? with
   | none=>rw[e2]at h';cases h'
   | some w=>rw[e2]at h';rw[show w=some v from h']
theorem UP{env:Env}:∀ (names:List (Str×Km)) x,
  (names.map λ(n,k)=>if (k == Bo && env.scope.kind == .function && env.kindOf n == some .cell) then (n,By) else (n,k)).lookup x =
   match names.lookup x with
   | some .free=>if (env.scope.kind == .function && env.kindOf x == some .cell) then some By else some .free
   | o=>o
 | [],_=>rfl
 | (n,k)::r,x=>by
  rw[AY];cases hx:x == n with
  | true =>
   have e:=by simpa using hx
   subst e;cases k <;> by_cases hc:(env.scope.kind == .function && env.kindOf x == some .cell)=true <;> simp[ hc] <;> simp_all
  | false =>
   simp only[Cz,hx];rw[← (UP r x)];split <;> simp only[Cz,hx]
theorem ABR x:(GE scope cs C X.env).kindOf x =
   match scope.names.lookup x with
   | some .free=>if (X.env.scope.kind == .function && X.env.kindOf x == some .cell) then some By else some .free
   | o=>o:=UP scope.names x
end
def fC{N' ix scope}(S:uU X N' ix scope){pins}{σ:St}{H s fp}{D:Addr}{o:Obj}
  (I:Inv X pins σ H s) (hf:∀ b∈fp,yH X pins H b) (ho:∀ b∈fp,∃ o,s.heap.get? b=some o) (hc:X.calm=true) {h3:Heap} {C:Addr} (hk3:∀ b u,s.heap.get? b=some u->h3.get? b=some u) (hC:C=h3.objs.size) (hs3:s.heap.objs.size<=h3.objs.size) {h4}
  (h4e:h4=Gb (h3.push { cls:=.type "dict",data:=.dict #[] }) scope.names) {t4} :
  Inv (zW X N' scope C (BP (C+1) scope.names (tW X.env.cells scope.names [])) s H fp) [] (yZ ix σ) H { s with heap:=h4,toks:=t4 }:=by
 have hsz:s.heap.objs.size<=C:=by rw[hC];exact hs3
 have hk4:∀ b u,h3.get? b=some u->h4.get? b=some u:=λb u e=>by rw[h4e];exact G6 _ _ b u (AB _ e)
 have hk:=λb u e=>hk4 b u (hk3 b u e)
 have hpC:(h3.push { cls:=.type "dict",data:=.dict #[] }).objs.size=C+1:=by rw[hC,BW]
 have clo:∀ x c,(tW X.env.cells scope.names []).lookup x=some c->X.env.cells.lookup x=some c:=λx c h=>by
  rcases Nk scope.names [] h with ⟨hm,e⟩ | h
  ·obtain⟨c',hc'⟩:=I.ok.has x ((S.name hm).1 rfl);rw[hc']at e ⊢;rw[e];rfl
  ·cases h
 have cloM:=by
  have go:∀ names acc,(∀ q∈names,q∈scope.names)->(∀ p∈acc,∃ x,(x,Bo)∈scope.names/\p.1=x/\X.env.cells.lookup x=some p.2) ->
    ∀ p∈tW X.env.cells names acc,∃ x,(x,Bo)∈scope.names/\p.1=x/\X.env.cells.lookup x=some p.2:=by
   intro names;induction names with
   | nil=>intro acc _ ha;exact ha
   | cons q r ih =>
    intro acc hn ha;obtain⟨n,k⟩:=q;unfold tW;by_cases hkf:(k == Bo)=true
    ·have e:=by simpa using hkf
     subst e;refine ih _ (λq hq=>hn q (AI _ hq)) λp hp=>?_
     rcases AN.mp hp with e | hp
     ·subst e;have hm:=hn (n,.free) AH;obtain⟨c',hc'⟩:=I.ok.has n ((S.name hm).1 rfl);refine⟨n,hm,rfl,?_⟩;rw[hc'];rfl
     ·exact ha p hp
    ·rw[if_neg hkf];exact ih _ (λq hq=>hn q (AI _ hq)) ha
  exact go scope.names [] (λ_ h=>h) λp hp=>nomatch hp
 have cellLt:∀ x c,X.env.cells.lookup x=some c->c < s.heap.objs.size:=λx c h=>by
  obtain⟨v,q⟩:=I.cell x c h;exact q.lt
 have split:∀ x c,(BP (C+1) scope.names (tW X.env.cells scope.names [])).lookup x=some c->(C+1<=c/\(x,By)∈scope.names)\/X.env.cells.lookup x=some c:=λx c h=>by
  rcases Nx scope.names _ _ h with h | h
  ·exact .inl h
  ·exact .inr (clo x c h)
 have cells4:∀ x c,(BP (C+1) scope.names (tW X.env.cells scope.names [])).lookup x=some c->∃ v,h4.IsCell c v:=λx c h=>by
  rw[h4e];refine Pc scope.names _ (tW X.env.cells scope.names []) (λp hp=>?_) (by rw[hpC];exact Bb h);obtain⟨y,_,_,e⟩:=cloM p hp;obtain⟨v,q⟩:=I.cell y p.2 e;exact⟨v,q.keeps λb u e=>AB _ (hk3 b u e)⟩
 have bLt:∀ b∈fp,b < s.heap.objs.size:=λb hb=>by obtain⟨u,e⟩:=ho b hb;exact AM e
 have nfree:∀ b,s.heap.objs.size<=b->H b=none:=λb hb=>I.hok.fresh hb
 refine⟨⟨I.ok.mod,?_,I.ok.glob,I.ok.blt,hsz,λx y c h1 h2=>?_,λx hx=>?_,λx c hx h=>?_,λh=>I.ok.hd hc,I.ok.frames,.inl rfl,λb hb=>⟨?_,λx c h=>?_⟩,I.bs,Ah I.ok.bsz I.sz,λb u e hb=>?_,λb hb hz=>?_,I.stack,I.stkFree⟩,
  rfl,I.bare,Un.kept hk,⟨λ_=>none,?_,λi x v h1 h2 h3=>?_⟩,cells4,?_,λx c h=>?_,λp hp=>absurd (show p∈[] from hp) ↥1,I.hok.kept hk,?_⟩
 ·exact S.kind
 ·-- injective
  rcases split x c h1 with ⟨a,_⟩ | a
  ·exact QC scope.names (C+1) _ (λp hp=>by obtain⟨y,_,_,e⟩:=cloM p hp;exact DP (AW (cellLt y _ e) hsz)) a (Bb h1) (Bb h2)
  ·rcases split y c h2 with ⟨b,_⟩ | b
   ·exact absurd (AW (cellLt x c a) (Ah hsz (ED b))) (BE _)
   ·exact I.ok.inj x y c a b
 ·-- has
  have hx':(GE scope (BP (C+1) scope.names (tW X.env.cells scope.names [])) C X.env).kindOf x=some .cell\/(GE scope (BP (C+1) scope.names (tW X.env.cells scope.names [])) C X.env).kindOf x=some .free:=hx;rw[ABR]at hx';have key:scope.names.lookup x=some .cell\/scope.names.lookup x=some .free:=by
   cases e:scope.names.lookup x with
   | none=>rw[e]at hx';rcases hx' with z | z <;> cases z
   | some k =>
    rw[e]at hx';cases k <;> first | exact .inl rfl | exact .inr rfl | (rcases hx' with z | z <;> cases z)
  refine Bc.mp (C9 scope.names _ _ ?_);rcases key with k | k
  ·exact .inl k
  ·exact .inr (OH scope.names [] (.inl (Bb k)))
 ·-- own cells are new
  have hx':(scope.names.lookup x == some By)=true:=hx;have hx'':=by simpa using hx'
  rcases Nx scope.names _ _ h with ⟨a,_⟩ | a
  ·exact Ah hsz (ED a)
  ·rcases Nk scope.names [] a with ⟨hm,_⟩ | z
   ·have:=(S.name hm).2.2.2 rfl;rw[hx'']at this;cases this
   ·cases z
 ·exact Ag (AW (bLt b hb) hsz)
 ·rcases split x c h with ⟨a,_⟩ | a
  ·exact Bk (AW (bLt b hb) (Ah hsz (ED a)))
  ·exact (hf b hb).2.2.2.2.1 x c a
 ·rcases (hf b hb).2.2.2.1 with z | z
  ·exact I.ok.noex b u e z
  ·exact absurd (AW (AM e) (Ah I.ok.bsz z)) (BE _)
 ·rcases AN.mp (I.stkSub b hz) with e | e
  ·exact (hf b hb).2.1 e
  ·exact (hf b hb).2.2.1 e
 ·-- the block's names
  rw[h4e];rw[hC];exact (Heap.Ns.new h3 (.type "dict")).keeps (G6 _ _)
 ·obtain⟨j,e1,e2⟩:=W7 h2;obtain⟨hn,hm⟩:=S.at h1 e1;have hkx:=(S.name hm).2.2.2 rfl;have hox:=(S.name hm).1 rfl;obtain⟨m,hns,hl⟩:=I.loc;have vis:Vis X.env.scope x:=by rcases hox with z | z;exact .inr (.inl z);exact .inr (.inr z)
  obtain⟨u,r,l⟩:=hl j x v hn e2 vis;refine⟨u,r,.inr ⟨?_,?_⟩⟩
  ·show (GE scope _ C X.env).kindOf x=some .cell\/(GE scope _ C X.env).kindOf x=some .free;rw[ABR,hkx];dsimp only;split
   ·exact .inl rfl
   ·exact .inr rfl
  ·rcases l with ⟨k,_⟩ | ⟨_,c,hc',hcell⟩
   ·have k':X.env.scope.names.lookup x=some .local:=k;rcases hox with z | z <;> rw[z]at k' <;> cases k'
   ·have hs:((BP (C+1) scope.names (tW X.env.cells scope.names [])).lookup x).isSome=true:=C9 scope.names _ _ (.inr (OH scope.names [] (.inl hm)));obtain⟨c',e'⟩:=Bc.mp hs;have:c'=c:=by
     rcases split x c' e' with ⟨_,q⟩ | q
     ·have:=(S.name q).2.2.1 rfl;rw[show scope.names.lookup x=some .free from hkx]at this;cases this
     ·rw[hc']at q;exact (Av q).symm
    subst this;exact⟨c',e',hcell.keeps hk⟩
 ·exact nfree C hsz
 ·rcases split x c h with ⟨a,_⟩ | a
  ·exact nfree c (Ah hsz (ED a))
  ·exact I.freeC x c a
 ·show (yZ ix σ).length=N'.length;unfold yZ;rw[Af,S.len]
theorem eW(I:Nat->AR->Prop)
  (turn:∀ n s,I n s->AQ (model prog w) A (E8 it) (λr s₁=>match r with
   | none=>R (.ok .next) s₁
   | some v=>AQ (model prog w) A (G0 target it v) (λ_ s₁'=>AQ (model prog w) A (assign target env v) (λ_ s₂ =>
     AQ (model prog w) A (forIn ifs true λc r=>if r=true then do let ok ← Hu c env (eval c env);pure (Cy ok) else pure (Cy r)) (λok s₃ =>
      if ok=true then AQ (model prog w) A (eval elt env) (λx s₄ =>
       AQ (model prog w) A (call (.builtin "list.append") [acc,x]) (λ_ s₅=>∃ m,m < n/\I m s₅) (λ_ _=>False) s₄) (λ_ _=>False) s₃
      else ∃ m,m < n/\I m s₃) (λ_ _=>False) s₂) (λ_ _=>False) s₁') (λ_ _=>False) s₁) (λ_ _=>False) s)
  n (h:I n s) :
  D7 (model prog w) A (.compLoop (.ListComp elt [⟨target,iter,ifs,0⟩] scope pos) 0 it acc env) R s:=by
 refine codeAny_loop rfl I (λn s hI=>?_) n h;show AQ _ A ((compTurn (.ListComp elt [⟨target,iter,ifs,0⟩] scope pos) 0 it acc env).onRaise (λx=>do noteFrame x env;theTreesLotGoes x)) _ _ s;refine wpAny_noted ?_;rw[compTurn_list];refine AA (Ed (AA (BH (turn n s hI) (λr s₁ h₁=>?_) λ_ _ h'=>h'.elim)));cases r with
 | none=>exact AG h₁
 | some v =>
  refine AA (BH h₁ (λ_ s₁' h₁'=>AA (BH h₁' (λ_ s₂ h₂=>AA (BH h₂ (λok s₃ h₃=>?_) λ_ _ h'=>h'.elim)) λ_ _ h'=>h'.elim)) λ_ _ h'=>h'.elim);cases ok with
  | false=>exact AG ⟨rfl,h₃⟩
  | true =>
   exact AA (AA (BH h₃ (λx s₄ h₄=>AA (BH h₄ (λ_ s₅ h₅=>AG (AG ⟨rfl,h₅⟩)) λ_ _ h'=>h'.elim)) λ_ _ h'=>h'.elim))
def PTs (X:Cx) (ifs:List Expr) (t:TT):Prop:=
 ∀ pins s (σ:St) H Q,Inv X pins σ H s->t σ H Q ->
  AQ (model X.prog X.w) X.A (forIn ifs true λc r=>if r=true then do let ok ← Hu c X.env (eval c X.env);pure (Cy ok) else pure (Cy r)) (TP X pins σ Q) X.xe s
def AFa:TT:=λ_ H Q=>Q true H
def eE:PTs X [] AFa:=λ_ _ _ H _ I h=>wpAny_tests_nil ⟨H,I,h⟩
def kI(h:PT X c t):PTs X [c] t:=λpins s σ H Q I hw=>wpAny_tests_one (h pins s σ H Q I hw)
def ABH (J:It) (ix:List (Option Nat)) (g:TG) (tc:TT) (te:TE) (σ:St) (H1:Hp) (Q:VK):Prop:=∃ W:Nat->Nat->List V->St->Hp->Prop,(∃ m,W 0 m [] (yZ ix σ) H1) /\
 ∀ i m ys σ' H',W i m ys σ' H' ->
  (J.stop i H'/\ys.length<=AC/\∀ D,H' D=none->Q (.ref D) (upd H' D (.lst ys))) \/
  (J.go i H'/\ys.length < AC/\∃ N:List V->St->Hp->Prop,(∀ ys' σ2 H2,N ys' σ2 H2->∃ m',m' < m/\W (i+1) m' ys' σ2 H2) /\
   ∀ x H2,J.yld i H' x H2->g x σ' H2 λσ2 H3=>tc σ2 H3 λb H4=>if b=true then te σ2 H4 λv H5=>N (ys++[v]) σ2 H5 else N ys σ2 H4)
def yt (wi:TI) (ix:List (Option Nat)) (g:TG) (tc:TT) (te:TE):TE:=λσ H Q=>wi σ H λJ H1=>ABH J ix g tc te σ H1 Q
def vO.adopt(x:vO P w H h)(hn:H a=none)(new:tG P w (upd H a o) h a o):vO P w (upd H a o) h:=λb u e=>by
 by_cases hb:b=a
 ·subst hb;rw[Ln]at e;cases e;exact new
 ·rw[Lc hb]at e;exact (x b u e).stay (λc v _ q=>q) (λc q=>by rw[Lc (Lo q hn)];exact q) λc xs q=>by rw[Lc (Lo q hn)];exact q
section
variable {X:Cx}{N':List Str}{ix:List (Option Nat)}{scope:Et}{elt tg iter:Expr}{ifs:List Expr}{pos:Pos}{wi:TI}{g:TG}{tc:TT}{te:TE}
def Uj(S:uU X N' ix scope)(hc:X.calm=true)(hi:PI X tg iter wi)
  (hg:∀ C cs s H ex,PG (zW X N' scope C cs s H ex) tg g) (ht:∀ C cs s H ex,PTs (zW X N' scope C cs s H ex) ifs tc) (he:∀ C cs s H ex,PE (zW X N' scope C cs s H ex) elt te) (I:Inv X pins σ H s) (hw:yt wi ix g tc te σ H Q)
  (fin:∀ D C o H' s',Inv X (pins++[(C,o)]) σ H' s'->(∃ m,s'.heap.Ns C m)->(X.s₀.heap.objs.size<=C)->(∀ x c,X.env.cells.lookup x=some c->c≠C)->(∀ p∈X.pn++pins,p.1≠C)->Q (.ref D) H'->compPost (model X.prog X.w) X.A X.xe use QQ (.ref D) C (.ok .next) s')
  (hs:∀ x,CM iter X.env x=pure x:=by intro _;rfl) :
  AQ (model X.prog X.w) X.A (comprehension (.ListComp elt [⟨tg,iter,ifs,0⟩] scope pos) scope X.env (firstIterPos [⟨tg,iter,ifs,0⟩] pos) (newList []) false (eval iter X.env) use) QQ X.xe s:=by
 refine wpAny_comprehension_free rfl hs (d7 λx hx hk=>I.ok.has x.1 ((S.name hx).1 hk)) S.kind (λx hx hl=>(S.name hx).2.1 hl) ?_;refine tE (hi pins s σ H _ I hw) λv s1 h1=>tE h1 λitv s2 h2=>?_
 obtain⟨it,fp,tn,J,H2,rfl,I2,T,st2,f2,W,⟨m0,w0⟩,turn⟩:=h2;refine A9 (X7 ?_);generalize hH3:s2.heap.push { cls:=.type "list",dict:=none,data:=.seq ([]).toArray }=h3;have hD3:h3.get? s2.heap.objs.size=some { cls:=.type "list",dict:=none,data:=.seq ([]).toArray }:=by rw[← hH3];exact AK _ rfl
 have hk3:∀ b u,s2.heap.get? b=some u->h3.get? b=some u:=λb u e=>by rw[← hH3];exact AB _ e
 have hz3:h3.objs.size=s2.heap.objs.size+1:=by rw[← hH3,BW]
 have ho2:∀ b∈fp,∃ o,s2.heap.get? b=some o:=λb hb=>by obtain⟨o,e,_⟩:=T.obj _ _ st2 b hb;exact⟨o,e⟩
 generalize hD:s2.heap.objs.size=D at hD3 hz3 ⊢;generalize hC:h3.objs.size=C at hz3 ⊢;generalize h4e:Gb (h3.push { cls:=.type "dict",data:=.dict #[] }) scope.names=h4;have hk4:∀ b u,h3.get? b=some u->h4.get? b=some u:=λb u e=>by rw[← h4e];exact G6 _ _ b u (AB _ e)
 have I4:Inv (zW X N' scope C (BP (C+1) scope.names (tW X.env.cells scope.names [])) s2 H2 fp) [] (yZ ix σ) H2 { s2 with heap:=h4,toks:=s2.toks }:=
  fC (D:=D) (o:={ cls:=.none,data:=.dict #[] }) S I2 f2 ho2 hc hk3 hC.symm (by simp_all) h4e.symm
 have hcellD:∀ x c,(BP (C+1) scope.names (tW X.env.cells scope.names [])).lookup x=some c->c≠D:=λx c h z=>by
  rcases Nx scope.names _ _ h with ⟨a,_⟩ | a
  ·rw[z,hz3]at a;lia
  ·rcases Nk scope.names [] a with ⟨hm,e⟩ | a
   ·obtain⟨c',hc'⟩:=I2.ok.has x ((S.name hm).1 rfl);rw[hc']at e;obtain⟨v,q⟩:=I2.cell x c' hc';have e':c=c':=e;rw[← e',z,← hD]at q;exact absurd q.lt (BE _)
   ·cases a
 have hDC:D≠C:=by rw[hz3];exact Ag (CT _)
 have hDfp:D∉fp:=λhb=>by obtain⟨o,e⟩:=ho2 D hb;exact absurd (hD ▸ AM e) (BE _)
 generalize hX':zW X N' scope C (BP (C+1) scope.names (tW X.env.cells scope.names [])) s2 H2 fp=X' at I4;have hfpX:∀ {H':Hp} {oD:Obj},(∀ b∈fp,H' b=none)->∀ b∈fp,yH X' [(D,oD)] H' b:=λ{H' oD} hn b hb=>by
  rw[← hX'];refine⟨hn b hb,λz=>?_,λz=>?_,.inl hb,λx c h z=>?_,λp hp=>?_⟩
  rotate_right
  ·have hp':p∈[(D,oD)]:=hp;have e:=by simpa using hp'
   exact λz=>hDfp (by simp_all)
  ·obtain⟨o,e⟩:=ho2 b hb;have z':b=C:=z;have q:=AM e;rw[z',hz3,hD]at q;exact absurd (Jx (CT D) q) (BE _)
  ·have z':=z;rcases AN.mp (I2.stkSub b z') with e | e
   ·exact (f2 b hb).2.1 e
   ·exact (f2 b hb).2.2.1 e
  ·rw[← hX']at I4;exact (I4.ok.exf b hb).2 x c h z
 have HDnone:=I2.hok.fresh (by rw[hD];exact AF _);have key:∀ s',s'={ s2 with heap:=h4,toks:=s2.toks } ->
   D7 (model X.prog X.w) X.A (.compLoop (.ListComp elt [⟨tg,iter,ifs,0⟩] scope pos) 0 (.ref it) (.ref D) X'.env) (compPost (model X.prog X.w) X.A X.xe use QQ (.ref D) C) s':=by
  rintro s' rfl;refine eW (λn s'=>∃ i ys σ' H' its,Inv X' [] σ' H' s'/\tn i s'.heap/\(∀ b∈fp,H' b=none)/\H' D=none/\s'.heap.PlainList D its/\sP ys its.toList/\W i n ys σ' H') ?_ m0
   ⟨0,[],yZ ix σ,H2,#[],I4,T.keep _ _ _ st2 λb hb o e=>hk4 b o (hk3 b o e),λb hb=>(f2 b hb).1,HDnone,⟨_,hk4 _ _ hD3⟩,.nil,w0⟩
  rintro n s3 ⟨i,ys,σ3,H3,its,I3,st3,fr3,hD3n,hpl,hv,w3⟩;have hc':X'.calm=true:=by rw[← hX'];exact hc
  have xe':∀ e s,X'.xe e s->False:=by rw[← hX'];exact λ_ _ z=>z
  have pr:X'.prog=X.prog:=by rw[← hX'];rfl
  have pw:X'.w=X.w:=by rw[← hX'];rfl
  have pK:X'.K=X.K:=by rw[← hX'];rfl
  have pA:X'.A=X.A:=by rw[← hX'];rfl
  have p0:X'.s₀=s2:=by rw[← hX'];rfl
  have pH:X'.H₀=H2:=by rw[← hX'];rfl
  have px:X'.ex=fp:=by rw[← hX'];rfl
  have pf:X'.fs=yY X.stack:=by rw[← hX'];rfl
  have pL:X'.env.locals=C:=by rw[← hX'];rfl
  have pn0:X'.pn=[]:=by rw[← hX'];rfl
  have pcs:X'.env.cells=BP (C+1) scope.names (tW X.env.cells scope.names []):=by rw[← hX'];rfl
  obtain⟨nD,hoD⟩:=id hpl;have Dfs:D∉X'.fs:=λz=>by
   rw[pf]at z;rcases AN.mp (I2.stkSub D z) with e | e
   ·have q:=I2.lt;rw[← e,hD]at q;exact BE _ q
   ·exact I2.nofs (by rw[hD];exact AF _) e
  have I3':Inv X' [(D,_)] σ3 H3 s3:=I3.pins_of λp hp=>by
   have e:=AD.mp hp;subst e;exact⟨hoD,hD3n,by rw[pL];exact hDC,Dfs,λv z=>by cases z⟩
  have hg':=hX' ▸ hg _ _ _ _ _;have ht':=hX' ▸ ht _ _ _ _ _;have he':=hX' ▸ he _ _ _ _ _;have hsizes:=hv.length.symm;rcases turn i n ys σ3 H3 w3 with ⟨stop,hlen,qn⟩ | ⟨go,hlt,N,hN,step⟩
  ·-- the end
   have T':=T.done X' pr pw pK hc' i _ s3 σ3 H3 (λ_ _=>False) I3' (hfpX fr3) st3 stop;rw[pA]at T';refine tE T' λr s4 ⟨hr,I5⟩=>?_
   subst hr;obtain⟨gD,nDn,_,_,_⟩:=I5.pin (D,_) (Ab _ (AD.mpr rfl));have gD':=gD;obtain⟨m,hns,_⟩:=I5.loc;rw[pL]at hns;obtain⟨oC,es,ep,hoC,hdC,_⟩:=id hns;have ub:Un (yY X.stack) fp H2 H3 s2.heap s4.heap:=by
    have q:=I5.base;rw[px,pH,p0]at q;rw[← pf];exact q
   have bLt:∀ b u,s2.heap.get? b=some u->b≠D:=λb u e z=>by have q:=AM e;rw[z,hD]at q;exact BE _ q
   have u':Un (yY X.stack) fp H2 (upd H3 D (.lst ys)) s2.heap s4.heap:=
    ⟨ub.keep,ub.slot,λb o e n hx=>by rw[Lc (bLt b o e)];exact ub.free b o e n hx,ub.there,λb xs e=>by rw[Lc (Lo (ub.tups b xs e) hD3n)];exact ub.tups b xs e,
     λb o u e=>by rw[Lc (Lo (ub.frzs b o u e) hD3n)];exact ub.frzs b o u e,λb ps e=>by obtain⟨more,q⟩:=ub.tbls b ps e;exact⟨more,by rw[Lc (Lo q hD3n)];exact q⟩⟩
   have hok':vO X.prog X.w (upd H3 D (.lst ys)) s4.heap:=by
    have q:=I5.hok;rw[pr,pw]at q;exact q.adopt hD3n ⟨hlen,its.toList,nD,hv,by simpa using gD'⟩
   have os':=by have q:=I5.os;rw[p0]at q;exact q
   have Iend:=I2.call' os' u' hok' I5.bare λb hb=>⟨(f2 b hb).2.2.2.1,(f2 b hb).2.1,(f2 b hb).2.2.2.2.1,(f2 b hb).2.2.2.2.2⟩
   have hsC:s2.heap.objs.size<=C:=by rw[hz3,hD];exact KP _
   have freeC:upd H3 D (.lst ys) C=none:=by rw[Lc (Ax hDC)];have q:=I5.free;rw[pL]at q;exact q
   have Iend':=Iend.pins_of λp hp=>by
    rcases A6.mp hp with hp | hp
    ·exact Iend.pin p (Ab _ hp)
    ·have e:p=(C,oC):=AD.mp hp;subst e;exact⟨hoC,freeC,Bk (AW I2.lt hsC),I2.nofs hsC,λv z=>by rw[show oC.data=Data.cell v from z]at hdC;cases hdC⟩
   exact fin D C oC _ s4 Iend' ⟨m,hns⟩ (Ah I2.sz hsC) (λx c h z=>by obtain⟨v,q⟩:=I2.cell x c h;exact absurd (AW q.lt hsC) (by rw[z];exact BE _))
    (λp hp z=>by have q:=AM (I2.pin p hp).1;exact absurd (AW q hsC) (by rw[z];exact BE _)) (qn D hD3n)
  ·have T':=T.item X' pr pw pK hc' i _ s3 σ3 H3 (λ_ _=>False) I3' (hfpX fr3) st3 go;rw[pA]at T';refine tE T' λr s4 ⟨u,hr,h4'⟩=>?_
   subst hr;refine tE h4' λ_ s5 ⟨x,H5,I5,r5,y5,st5,fr5⟩=>?_
   have I5':=I5.pinned (hfpX fr5) (T.obj _ _ st5);have A1:=hg' _ s5 σ3 H5 x u _ I5' r5 (step x H5 y5);rw[pr,pw,pA]at A1;refine BH A1 (λ_ s6 ⟨σ6,H6,I6,q6⟩=>?_) xe';have A2:=ht' _ s6 σ6 H6 _ I6 q6;rw[pr,pw,pA]at A2;refine BH A2 (λb s7 ⟨H7,I7,q7⟩=>?_) xe';have pinD:∀ {σ':St} {H':Hp} {s':AR},Inv X' ([(D,{ cls:=.type "list",data:=.seq its nD })]++vb fp s5.heap) σ' H' s'->s'.heap.get? D=some { cls:=.type "list",data:=.seq its nD }/\H' D=none/\(∀ b∈fp,∀ o,s5.heap.get? b=some o->s'.heap.get? b=some o/\H' b=none):=λ{σ' H' s'} J=>by
    obtain⟨a1,a2,_⟩:=J.pin (D,_) (Ab _ (BB _ (AD.mpr rfl)));refine⟨a1,a2,λb hb o e=>?_⟩;obtain⟨b1,b2,_⟩:=J.pin (b,o) (Ab _ (Ab _ (Qh hb e)));exact⟨b1,b2⟩
   have frOf:∀ {σ':St} {H':Hp} {s':AR},Inv X' ([(D,{ cls:=.type "list",data:=.seq its nD })]++vb fp s5.heap) σ' H' s'->∀ b∈fp,H' b=none:=λ{σ' H' s'} J b hb=>by
    obtain⟨o,e,_⟩:=T.obj _ _ st5 b hb;exact ((pinD J).2.2 b hb o e).2
   have bare:∀ {σ':St} {H':Hp} {s':AR},Inv X' ([(D,{ cls:=.type "list",data:=.seq its nD })]++vb fp s5.heap) σ' H' s'->Inv X' [] σ' H' s':=λ{σ' H' s'} J=>J.pins_of λp hp=>nomatch hp
   cases b with
   | false =>
    obtain⟨m',hm,w'⟩:=hN ys σ6 H7 q7;exact⟨m',hm,i+1,ys,σ6,H7,its,bare I7,T.keep _ _ _ st5 λb hb o e=>((pinD I7).2.2 b hb o e).1,frOf I7,(pinD I7).2.1,⟨nD,(pinD I7).1⟩,hv,w'⟩
   | true =>
    have A3:=he' _ s7 σ6 H7 _ I7 q7;rw[pr,pw,pA]at A3;refine BH A3 (λv s8 ⟨x8,H8,I8,r8,q8⟩=>wpAny_list_append_plain (items:=its) ⟨nD,(pinD I8).1⟩ (λh9 hl9 hs9=>?_) (by
     have:its.size=its.toList.length:=by simp
     rw[this,hsizes];exact CY hlt)) xe'
    obtain⟨m',hm,w'⟩:=hN (ys++[x8]) σ6 H8 q8;have I9:=(bare I8).turned (t':=s8.toks) (λb o hb e=>(hs9.2 b hb).trans e) (pinD I8).2.1 (by rw[pL];exact hDC) (.inr (by rw[p0,hD];exact AF _)) (by rw[pcs];exact hcellD) (λp hp=>by rw[pn0]at hp;exact nomatch hp);refine⟨m',hm,i+1,ys++[x8],σ6,H8,its.push v,I9,T.keep _ _ _ st5 λb hb o e=>(hs9.2 b λz=>hDfp (z ▸ hb)).trans ((pinD I8).2.2 b hb o e).1,frOf I8,(pinD I8).2.1,hl9,?_,w'⟩;rw[DM];exact hv.append (.cons r8 .nil)
 rw[← hX']at key;exact codeAny_compStart_list (key _ rfl) (T.self _ 0 _ _ _ (T.keep _ _ _ st2 λb hb o e=>hk4 b o (hk3 b o e)) (key _ rfl))
def Y1(S:uU X N' ix scope)(hc:X.calm=true)(hi:PI X tg iter wi)
  (hg:∀ C cs s H ex,PG (zW X N' scope C cs s H ex) tg g) (ht:∀ C cs s H ex,PTs (zW X N' scope C cs s H ex) ifs tc) (he:∀ C cs s H ex,PE (zW X N' scope C cs s H ex) elt te)
  (hs:∀ x,CM iter X.env x=pure x:=by intro _;rfl):PE X (.ListComp elt [⟨tg,iter,ifs,0⟩] scope pos) (yt wi ix g tc te):=by
 intro pins s σ H Q I h;refine Uj S hc hi hg ht he I h (λD C o H' s' I' hns h1 h2 h3 q=>?_) hs;obtain⟨m,hns⟩:=hns;refine⟨m,hns,λh' hs'=>⟨.ref D,H',?_,rfl,q⟩⟩;obtain⟨a1,a2,a3,a4,_⟩:=I'.pin (C,o) (Ab _ (Ab _ (AD.mpr rfl)));exact I'.unpinned.turned (λb u hb e=>(hs'.2 b hb).trans e) a2 a3 (.inr h1) h2 h3
def cU(hN:X.N.Nodup)(hi':X.N[i]?=some x)(hx:Loc X.env.scope x)(S:uU X N' ix scope)(hc:X.calm=true)(hi:PI X tg iter wi)
  (hg:∀ C cs s H ex,PG (zW X N' scope C cs s H ex) tg g) (ht:∀ C cs s H ex,PTs (zW X N' scope C cs s H ex) ifs tc) (he:∀ C cs s H ex,PE (zW X N' scope C cs s H ex) elt te)
  (hsw:Dj (.ListComp elt [⟨tg,iter,ifs,0⟩] scope pos) (some (.Name x pos')) spos.line X.env=pure true:=by rfl)
  (hf:X.fn x=true\/X.env.scope.names.lookup x=some .local:=by first | exact .inl rfl | exact .inr rfl | assumption)
  (hs:∀ x,CM iter X.env x=pure x:=by intro _;rfl):PS X (.Assign [.Name x pos'] (.ListComp elt [⟨tg,iter,ifs,0⟩] scope pos) spos) (yq (yt wi ix g tc te) (xR i)):=by
 intro pins s σ H D I h;rw[exec_Assign_Name_used _ _ _ _ hsw];refine AA (Ed (AA (AA (tE (Uj S hc hi hg ht he I h (λE C o H' s' I' hns h1 h2 h3 q=>?_) hs) λ_ s' q=>AG (AG q)))));obtain⟨m,hns⟩:=hns;refine tE ((Vy hN hi' hx hf) _ s' σ H' (.ref E) (.ref E) _ I' rfl q) λ_ s2 ⟨σ2,H2,I2,q2⟩=>?_
 obtain⟨a1,_⟩:=I'.pin (C,o) (Ab _ (Ab _ (AD.mpr rfl)));obtain⟨b1,b2,b3,b4,_⟩:=I2.pin (C,o) (Ab _ (Ab _ (AD.mpr rfl)));refine⟨m,?_,λh' hs'=>⟨σ2,H2,I2.unpinned.turned (λb u hb e=>(hs'.2 b hb).trans e) b2 b3 (.inr h1) h2 h3,q2⟩⟩;obtain⟨oC,es,ep,hoC,r⟩:=hns;have e:=Av (hoC.symm.trans a1);subst e;exact⟨oC,es,ep,b1,r⟩
end
structure um(prog:Aj)(w:A5)(it l:Addr)(xs:Array AL)(St:Nat->Heap->Prop):Prop where
 keep:∀ k h h',St k h->(∀ o,h.get? it=some o->h'.get? it=some o)->(∀ o,h.get? l=some o->h'.get? l=some o)->St k h'
 live:∀ k h,St k h->∃ o,h.get? it=some o/\∀ v,o.data≠.cell v
 item:∀ (A:BG) (k:Nat) (s:AR) (x:AL) (Q:AL->AR->Prop) (E:AL->AR->Prop),St k s.heap->xs[k]?=some x ->
  (∀ h',St (k+1) h'->Cv it s.heap h'->Q x { s with heap:=h' })->AQ (model prog w) A (Aq (.ref it)) Q E s
 fini:∀ (A:BG) (k:Nat) (s:AR) (Q:AL->AR->Prop) (E:AL->AR->Prop),A.handled=none->St k s.heap->xs[k]?=none ->
  (∀ h' e,E3 it s.heap h'->(∃ o,h'.get? e=some o/\o.cls=.type "StopIteration")->E (.ref e) { s with heap:=h' })->AQ (model prog w) A (Aq (.ref it)) Q E s
section
variable {prog:Aj}{w:A5}{A:BG}{E:AL->AR->Prop}{s:AR}
def bg it l xs (hne:l≠it):um prog w it l xs (λk h=>h.IsListIter it l k/\h.IsList l xs) where
 keep:=λk h h' st k1 k2=>⟨st.1.at k1,st.2.at k2⟩
 live:=λk h st=>by obtain⟨⟨o,e,_,d⟩,_⟩:=st;exact⟨o,e,λv z=>by rw[d]at z;cases z⟩
 item:=λA k s x Q E st hx hQ=>wpAny_nextOf_list_item st.1 st.2 hx λh' st' sb=>hQ h' ⟨st',st.2.extBut sb.extBut hne⟩ sb
 fini:=λA k s Q E hh st hx hE=>wpAny_nextOf_list_end hh st.1 st.2 hx hE
def hG(hit:s.heap.IsTupleIter it t i)(ht:s.heap.IsTuple t items)(hx:items[i]?=some x)
  (hQ:∀ h',h'.IsTupleIter it t (i+1)->Cv it s.heap h'->Q x { s with heap:=h' }):AQ (model prog w) A (Aq (.ref it)) Q E s:=by
 obtain⟨oi,hoi,hci,hdi⟩:=id hit;obtain⟨ot,hot,_,nt,hdt⟩:=ht;unfold Aq;refine AA (Az hit.typeIs C2 (Ay C2 hit.typeIs Gp ?_ (Gd _)));show AQ _ _ (field (.ref it) 0 >>= _) _ _ s;refine AA (Ap hoi hdi (x:=.ref t) rfl ?_);show AQ _ _ (field (.ref it) 1 >>= _) _ _ s;refine AA (Ap hoi hdi (x:=.int i 0) rfl ?_);show AQ _ _ (Jy (.ref t) >>= _) _ _ s;refine AA (Bm hot hdt ?_);simp[ hx];refine AA (Ko hoi hdi ↥1 (AG ⟨x,rfl,AG (hQ _ ⟨_,CF _ hoi (Obj.isFreed_of_fields (IA hdi _)),(Obj.cls_mapFields ..).trans hci,by rw[IA hdi];simp[Dy]⟩ (Bn ..))⟩))
def Z6(hh:A.handled=none)(hit:s.heap.IsTupleIter it t i)(ht:s.heap.IsTuple t items)(hx:items[i]?=none)
  (hE:∀ h' e,E3 it s.heap h'->(∃ o,h'.get? e=some o/\o.cls=.type "StopIteration")->E (.ref e) { s with heap:=h' }):AQ (model prog w) A (Aq (.ref it)) Q E s:=by
 obtain⟨oi,hoi,hci,hdi⟩:=id hit;obtain⟨ot,hot,_,nt,hdt⟩:=ht;unfold Aq;refine AA (Az hit.typeIs C2 (Ay C2 hit.typeIs Gp ?_ (Gd _)));show AQ _ _ (field (.ref it) 0 >>= _) _ _ s;refine AA (Ap hoi hdi (x:=.ref t) rfl ?_);show AQ _ _ (field (.ref it) 1 >>= _) _ _ s;refine AA (Ap hoi hdi (x:=.int i 0) rfl ?_);show AQ _ _ (Jy (.ref t) >>= _) _ _ s;refine AA (Bm hot hdt ?_);simp[ hx];refine AA (CS (AA (Ko hoi hdi ↥1 ?_)));show AQ _ _ (newExc (.type "StopIteration") [] >>= _) _ _ _;refine AA ?_;simp[newExc];refine AA (A9 ?_ (by size_fits));refine AA (B8 (a:=CV) rfl ?_);refine A9 ?_ (by size_fits);simp only[raiseNew];refine AA (Hc ?_);(first | rw[show A.in1.handled=none from hh] | rw[hh]);refine AA (AG (Ik ?_));exact hE _ _ (((Bn ..).extBut.push _).push _) ⟨_,AK _ rfl,rfl⟩
def Mo it l xs (hne:l≠it):um prog w it l xs (λk h=>h.IsTupleIter it l k/\h.IsTuple l xs) where
 keep:=λk h h' st k1 k2=>⟨let ⟨o,e,r⟩:=st.1;⟨o,k1 o e,r⟩,let ⟨o,e,r⟩:=st.2;⟨o,k2 o e,r⟩⟩
 live:=λk h st=>by obtain⟨⟨o,e,_,d⟩,_⟩:=st;exact⟨o,e,λv z=>by rw[d]at z;cases z⟩
 item:=λA k s x Q E st hx hQ=>hG st.1 st.2 hx λh' st' sb=>hQ h' ⟨st',st.2.extBut sb.extBut hne⟩ sb
 fini:=λA k s Q E hh st hx hE=>Z6 hh st.1 st.2 hx hE
structure ZAp(z TI TO i1 i2 l1 l2:Addr):Prop where
 a:ZipApart z TI TO i1 i2 l1 l2
 l1TI:l1≠TI
 l2TI:l2≠TI
structure ZSt(z TI TO i1 i2:Addr)(S1 S2:Nat->Heap->Prop)(k:Nat)(f0:AL)(h:Heap):Prop where
 z:Hn h z TI TO f0
 ti:DQ h TI (.ref i1) (.ref i2)
 to:∃ a b,DQ h TO a b
 s1:S1 k h
 s2:S2 k h
variable {z TI TO i1 i2 l1 l2:Addr}{S1 S2:Nat->Heap->Prop}{xs ys:Array AL}{k:Nat}
def Wu{Q:AL->AR->Prop}(D:ZAp z TI TO i1 i2 l1 l2)(D1:um prog w i1 l1 xs S1)(D2:um prog w i2 l2 ys S2)(st:ZSt z TI TO i1 i2 S1 S2 k .none s.heap)(hx:xs[k]?=some x)(hy:ys[k]?=some y)
  (hQ:∀ h',ZSt z TI TO i1 i2 S1 S2 (k+1) (Dy s.heap.objs.size) h'->DQ h' s.heap.objs.size x y ->
   (∀ c o,c≠z->c≠TO->c≠i1->c≠i2->s.heap.get? c=some o->h'.get? c=some o)->Q (.ref s.heap.objs.size) { s with heap:=h' }) :
  AQ (model prog w) A (Builtin.«zip.__next__» ⟨[.ref z],[]⟩) (λfin s'=>∃ v,fin=.done (.ret v)/\Q v s') E s:=by
 obtain⟨hz,hTI,⟨a,b,hTO⟩,st1,st2⟩:=st;obtain⟨⟨TIz,TOz,i1z,i2z,TITO,TIi1,TIi2,TOi1,TOi2,i12,l1z,l1TO,l1i1,l1i2,l2z,l2TO,l2i1,l2i2⟩,_,_⟩:=D;show AQ _ _ (field (.ref z) 2 >>= _) _ _ _;refine AA (Ap hz rfl (x:=.bool false) rfl ?_);show AQ _ _ (field (.ref z) 3 >>= _) _ _ _;refine AA (Ap hz rfl (x:=.ref TI) rfl (AA (Bm hTI rfl ?_)));show AQ _ _ (BV (.ref z) >>= _) _ _ _;refine AA ?_;unfold BV;refine AA (Ap hz rfl (x:=.none) rfl (AG (AA (CS (AA (Ap hz rfl (x:=.ref TO) rfl (AA (A4 hz ↥1 λh1 z1 b1=>?_))))))));simp only[if_true];refine AA ?_;simp only[Ff,Il,Eg,Iw];refine AA (AA (Fh ?_));show AQ _ _ (Aq (.ref i1) >>= _) _ _ _;refine AA (D1.item _ k _ x _ _ (D1.keep _ _ _ st1 (λo e=>b1.extBut _ _ i1z e) λo e=>b1.extBut _ _ l1z e) hx λh2 t1 b2=>AG ?_);have o2:=b2.extBut _ _ TOi1 (b1.extBut _ _ TOz hTO);refine AA (Bm o2 rfl (AA (FS o2 λh3 o3 b3=>?_)));have o3':DQ h3 TO x b:=o3;refine AA (Gq (AG (AA (AA (Fh ?_)))));show AQ _ _ (Aq (.ref i2) >>= _) _ _ _;refine AA (D2.item _ k _ y _ _ (D2.keep _ _ _ st2 (λo e=>b3.extBut _ _ TOi2.symm (b2.extBut _ _ i12.symm (b1.extBut _ _ i2z e))) λo e=>b3.extBut _ _ l2TO (b2.extBut _ _ l2i1 (b1.extBut _ _ l2z e))) hy λh4 t2 b4=>AG ?_);have o4:=b4.extBut _ _ TOi2 o3';refine AA (Bm o4 rfl (AA (FS o4 λh5 o5 b5=>?_)));have o5':DQ h5 TO x y:=o5;refine AA (Gq (AG (AG (AA (Bm o5' rfl (AA (EK ?_)))))));have hsz:h5.objs.size=s.heap.objs.size:=by rw[b5.1,b4.1,b3.1,b2.1,b1.1]
 have z5:=b5.extBut _ _ TOz.symm (b4.extBut _ _ i2z.symm (b3.extBut _ _ TOz.symm (b2.extBut _ _ i1z.symm z1)));have k5:∀ c o,c≠z->c≠TO->c≠i1->c≠i2->s.heap.get? c=some o->h5.get? c=some o:=λc o c1 c2 c3 c4 e=>b5.extBut _ _ c2 (b4.extBut _ _ c4 (b3.extBut _ _ c2 (b2.extBut _ _ c3 (b1.extBut _ _ c1 e))))
 have t1':=D1.keep _ _ _ t1 (λo e=>b5.extBut _ _ TOi1.symm (b4.extBut _ _ i12 (b3.extBut _ _ TOi1.symm e))) λo e=>b5.extBut _ _ l1TO (b4.extBut _ _ l1i2 (b3.extBut _ _ l1TO e))
 have t2':=D2.keep _ _ _ t2 (λo e=>b5.extBut _ _ TOi2.symm e) λo e=>b5.extBut _ _ l2TO e
 have hzlt:=AM z5;show AQ _ _ (CU (.ref z) (.ref h5.objs.size) >>= _) _ _ _;refine AA ?_;unfold CU;have z6:Hn (h5.push { cls:=.type "tuple",data:=.seq #[x,y] }) z TI TO .ellipsis:=AB _ z5;refine AA (A4 z6 ↥1 λh7 z7 b7=>?_);have z7':Hn h7 z TI TO (Dy h5.objs.size):=z7;refine A4 z7' ↥1 λh8 z8 b8=>?_
 have z8':Hn h8 z TI TO (Dy h5.objs.size):=z8;have up:∀ c o,c≠z->h5.get? c=some o->h8.get? c=some o:=λc o c1 e=>b8.extBut _ _ c1 (b7.extBut _ _ c1 (AB _ e))
 have p8:=b8.extBut _ _ (Bk hzlt) (b7.extBut _ _ (Bk hzlt) (AK _ rfl));rw[hsz]at z8' p8;refine AG ⟨_,rfl,?_⟩;rw[hsz];have uu:=λc o c1 c2 c3 c4 e=>up c o c1 (k5 c o c1 c2 c3 c4 e)
 exact hQ h8 ⟨z8',uu _ _ TIz TITO TIi1 TIi2 hTI,⟨x,y,up _ _ TOz o5'⟩,D1.keep _ _ _ t1' (λo e=>up _ o i1z e) (λo e=>up _ o l1z e),D2.keep _ _ _ t2' (λo e=>up _ o i2z e) (λo e=>up _ o l2z e)⟩ p8 uu
theorem ft(hh:A.handled=none)(D:ZAp z TI TO i1 i2 l1 l2)(D1:um prog w i1 l1 xs S1)(D2:um prog w i2 l2 ys S2)(st:ZSt z TI TO i1 i2 S1 S2 k .none s.heap)(hend:xs[k]?=none\/ys[k]?=none)
  (hE:∀ h' e,(∀ c o,c≠z->c≠TO->c≠i1->c≠i2->s.heap.get? c=some o->h'.get? c=some o)->(∃ o,h'.get? e=some o/\o.cls=.type "StopIteration")->E (.ref e) { s with heap:=h' }) :
  AQ (model prog w) A (Builtin.«zip.__next__» ⟨[.ref z],[]⟩) Q E s:=by
 obtain⟨hz,hTI,⟨a,b,hTO⟩,st1,st2⟩:=st;obtain⟨⟨TIz,TOz,i1z,i2z,TITO,TIi1,TIi2,TOi1,TOi2,i12,l1z,l1TO,l1i1,l1i2,l2z,l2TO,l2i1,l2i2⟩,_,_⟩:=D;show AQ _ _ (field (.ref z) 2 >>= _) _ _ _;refine AA (Ap hz rfl (x:=.bool false) rfl ?_);show AQ _ _ (field (.ref z) 3 >>= _) _ _ _;refine AA (Ap hz rfl (x:=.ref TI) rfl (AA (Bm hTI rfl ?_)));show AQ _ _ (BV (.ref z) >>= _) _ _ _;refine AA ?_;unfold BV;refine AA (Ap hz rfl (x:=.none) rfl (AG (AA (CS (AA (Ap hz rfl (x:=.ref TO) rfl (AA (A4 hz ↥1 λh1 z1 b1=>?_))))))));simp only[if_true];have z1':Hn h1 z TI TO .ellipsis:=z1;refine AA ?_;simp only[Ff,Il,Eg,Iw];refine AA (AA (Fh ?_));show AQ _ _ (Aq (.ref i1) >>= _) _ _ _;have s1':=D1.keep _ _ _ st1 (λo e=>b1.extBut _ _ i1z e) λo e=>b1.extBut _ _ l1z e
 cases hx:xs[k]? with
 | none =>
  refine AA (D1.fini _ k _ _ _ hh s1' hx λh2 e b2 he=>?_);obtain⟨oe,hoe,hce⟩:=he;have z2:=b2 _ _ i1z.symm z1';have ez:e≠z:=λq=>by subst q;rw[z2]at hoe;cases hoe;simp at hce
  exact A4 z2 ↥1 λh3 _ b3=>hE h3 e (λc o c1 _ c3 _ q=>b3.extBut _ _ c1 (b2 _ _ c3 (b1.extBut _ _ c1 q))) ⟨oe,b3.extBut _ _ ez hoe,hce⟩
 | some x =>
  have hy:ys[k]?=none:=by rcases hend with q | q;(rw[hx]at q;cases q);exact q
  refine AA (D1.item _ k _ x _ _ s1' hx λh2 t1 b2=>AG ?_);have o2:=b2.extBut _ _ TOi1 (b1.extBut _ _ TOz hTO);refine AA (Bm o2 rfl (AA (FS o2 λh3 o3 b3=>?_)));refine AA (Gq (AG (AA (AA (Fh ?_)))));show AQ _ _ (Aq (.ref i2) >>= _) _ _ _;refine AA (D2.fini _ k _ _ _ hh (D2.keep _ _ _ st2 (λo e=>b3.extBut _ _ TOi2.symm (b2.extBut _ _ i12.symm (b1.extBut _ _ i2z e))) λo e=>b3.extBut _ _ l2TO (b2.extBut _ _ l2i1 (b1.extBut _ _ l2z e))) hy λh4 e b4 he=>?_);obtain⟨oe,hoe,hce⟩:=he;have z4:=b4 _ _ i2z.symm (b3.extBut _ _ TOz.symm (b2.extBut _ _ i1z.symm z1'));have ez:e≠z:=λq=>by subst q;rw[z4]at hoe;cases hoe;simp at hce
  exact A4 z4 ↥1 λh5 _ b5=>hE h5 e (λc o c1 c2 c3 c4 q=>b5.extBut _ _ c1 (b4 _ _ c4 (b3.extBut _ _ c2 (b2.extBut _ _ c3 (b1.extBut _ _ c1 q))))) ⟨oe,b5.extBut _ _ ez hoe,hce⟩
end
def Sq (b:Bool) (K:Ae) (H:Hp) (a:Addr) (xs:List V):Prop:=if b then vH K H a xs else uL K H a xs
def SIt (b:Bool) (it l:Addr) (k:Nat) (h:Heap):Prop:=if b then h.IsTupleIter it l k else h.IsListIter it l k
def SOb (b:Bool) (l:Addr) (its:Array AL) (h:Heap):Prop:=if b then h.IsTuple l its else h.IsList l its
theorem SIt.keep(st:SIt b it l k h)(e:∀ o,h.get? it=some o->h'.get? it=some o):SIt b it l k h':=by
 cases b with
 | false=>exact st.at e
 | true=>obtain⟨o,q,r⟩:=st;exact⟨o,e o q,r⟩
theorem SIt.live(st:SIt b it l k h):∃ o,h.get? it=some o/\∀ v,o.data≠.cell v:=by
 cases b with
 | false | true=>obtain⟨o,q,_,d⟩:=st;exact⟨o,q,λv z=>by rw[d]at z;cases z⟩
theorem Vi b it l xs (hne:l≠it):um prog w it l xs (λk h=>SIt b it l k h/\SOb b l xs h):=by
 cases b with
 | false=>exact bg it l xs hne
 | true=>exact Mo it l xs hne
section
variable {X:Cx}{pins:List (Addr×Obj)}{σ:St}{H:Hp}{s:AR}
theorem Inv.sq(I:Inv X pins σ H s)(h:Sq b X.K H a xs):∃ its,sP xs its/\SOb b a its.toArray s.heap/\xs.length<=AC:=by
 cases b with
 | false=>obtain⟨its,r,p,z⟩:=I.list h;exact⟨its,r,p.isList,z⟩
 | true=>obtain⟨its,r,p,z⟩:=I.tuple h;exact⟨its,r,p,z⟩
theorem Inv.sq_inj(I:Inv X pins σ H s)(h:Sq b X.K H a xs)(h':Sq b X.K H a ys):xs=ys:=by
 cases b with
 | false=>exact I.list_inj h h'
 | true=>exact I.tuple_inj h h'
end
structure ZTn(b:Bool)(z TI TO i1 i2 a1 a2:Addr)(k:Nat)(h:Heap):Prop where
 z:Hn h z TI TO .none
 ti:DQ h TI (.ref i1) (.ref i2)
 to:∃ a b,DQ h TO a b
 s1:SIt b i1 a1 k h
 s2:SIt b i2 a2 k h
section
variable {prog:Aj}{w:A5}{A:BG}{E:AL->AR->Prop}{s:AR}
abbrev RA (h:Heap) (l1:Addr):Heap:=h.push { cls:=.type "tuple_iterator",data:=.fields #[.ref l1,.int 0 0] }
abbrev Qs (h:Heap) (l1 l2:Addr):Heap:=(RA h l1).push { cls:=.type "tuple_iterator",data:=.fields #[.ref l2,.int 0 0] }
abbrev RE (h:Heap) (l1 l2:Addr):Heap:=(Qs h l1 l2).push { cls:=.type "tuple",data:=.seq #[.ref h.objs.size,.ref (RA h l1).objs.size] }
abbrev OC (h:Heap) (l1 l2:Addr):Heap:=(RE h l1 l2).push { cls:=.type "tuple",data:=.seq #[.none,.none] }
abbrev Qp (h:Heap) (l1 l2:Addr):Heap:=(OC h l1 l2).push { cls:=.type "zip",data:=.fields #[.none,.bool false,.bool false,.ref (Qs h l1 l2).objs.size,.ref (RE h l1 l2).objs.size] }
def gR l1 l2 xs ys :
  Ij (Builtin.«zip.__new__» ⟨[.type "zip",.ref l1,.ref l2],[]⟩) (λ_ R s=>s.heap.IsTuple l1 xs/\s.heap.IsTuple l2 ys/\R (.ok (.ret (.ref (OC s.heap l1 l2).objs.size))) { s with heap:=Qp s.heap l1 l2 }):=
 .of_wp λprog w A R s h=>by
  obtain⟨hp,g,d,tk,os⟩:=s;obtain⟨hl1,hl2,h⟩:=h;have sub0:=sub_zip;have T1:=hl1;have T2:Heap.IsTuple (Shared.heap ⟨hp.push { cls:=.type "tuple_iterator",data:=.fields #[.ref l1,.int 0 0] },g,d,tk,os⟩) l2 ys:=KQ hl2 _
  wp_walk using Ci T1,Ci T2
  exact⟨_,rfl,h⟩
def jD(hl1:s.heap.IsTuple l1 xs)(hl2:s.heap.IsTuple l2 ys)
  (h:∀ h',ZTn true (s.heap.objs.size+4) (s.heap.objs.size+2) (s.heap.objs.size+3) s.heap.objs.size (s.heap.objs.size+1) l1 l2 0 h'->(∀ c o,s.heap.get? c=some o->h'.get? c=some o)->Q (.ref (s.heap.objs.size+4)) { s with heap:=h' }) :
  AQ (model prog w) A (call (.type "zip") [.ref l1,.ref l2]) Q E s:=by
 refine GF F.called_zip ∅ (F.typeCall_zip_2 _ _) (F.newCall_zip_2 _ _) (λobj=>F.args_object_init_3 obj _ _) F.entry_zip_new (gR l1 l2 xs ys) ⟨hl1,hl2,?_⟩;have z1:(RA s.heap l1).objs.size=s.heap.objs.size+1:=BW ..;have z2:(Qs s.heap l1 l2).objs.size=s.heap.objs.size+2:=by rw[BW,z1]
 have z3:(RE s.heap l1 l2).objs.size=s.heap.objs.size+3:=by rw[BW,z2]
 have z4:(OC s.heap l1 l2).objs.size=s.heap.objs.size+4:=by rw[BW,z3]
 have up:∀ c o,(OC s.heap l1 l2).get? c=some o->(Qp s.heap l1 l2).get? c=some o:=λc o e=>AB _ e
 have g5:(Qp s.heap l1 l2).get? (OC s.heap l1 l2).objs.size=some _:=AK _ rfl;have g4:=up _ _ (AK _ rfl);have g3:=up _ _ (AB _ (AK _ rfl));have g2:=up _ _ (AB _ (AB _ (AK _ rfl)));rw[z2,z3,z4]at g5;rw[z1,z2]at g3;rw[z3]at g4;rw[z1]at g2;rw[z4];exact⟨⟨_,g5,rfl⟩,h _ ⟨g5,g3,⟨_,_,g4⟩,⟨_,(up _ _ (AB _ (AB _ (AB _ (AK _ rfl))))),rfl,rfl⟩,⟨_,g2,rfl,rfl⟩⟩ λc o x=>up _ _ (AB _ (AB _ (AB _ (AB _ x))))⟩
end
open AutoSeq1 (wpAny_loadPart')
def xD (lo:Int) (n:Nat):List V:=(AE n).map λ(i:Nat)=>V.int (lo+(i:Int))
def Qk lo n:(xD lo n).length=n:=by simp[xD]
theorem TZ{lo n acc}(h:Dp (λi v=>∃ t,v=.int (lo+i * 1) t) acc n):sP (xD lo n) acc.toList:=by
 obtain⟨hn,hi⟩:=h;have key:∀ xs us,xs.length=us.length->(∀ (i:Nat) x u,xs[i]?=some x->us[i]?=some u->RelV x u)->sP xs us:=by
  intro xs;induction xs with
  | nil=>intro us hl _;cases us with
   | nil=>exact .nil
   | cons _ _=>cases hl
  | cons x xs ih=>intro us hl hr;cases us with
   | nil=>cases hl
   | cons u us=>exact .cons (hr 0 x u rfl rfl) (ih us (by simpa using hl) λi y v e1 e2=>hr (i+1) y v ‹_› ‹_›)
 refine key _ _ (by rw[Qk];simp[hn]) λi x u e1 e2=>?_
 unfold xD at e1;rw[Ak]at e1;cases e3:(AE n)[i]? with
 | none=>rw[e3]at e1;cases e1
 | some j =>
  rw[e3]at e1;have hj:j=i/\i < n:=by
   obtain⟨h1,h2⟩:=Ac.mp e3;rw[List.getElem_range]at h2;exact⟨h2.symm,by simpa using h1⟩
  obtain⟨rfl,hjn⟩:=hj;have e1':=(Av e1).symm;subst e1';obtain⟨t,ht⟩:=hi j u (by simpa using e2);exact⟨t,by rw[ht];simp⟩
section
variable {prog:Aj}{w:A5}{A:BG}{E:AL->AR->Prop}{s:AR}
theorem Yx{r a b c t u v}{n:Nat}(hh:A.handled=none)(hr:IsRange s.heap r a b c t u v)(hsmall:EL a b c=true)(hn:CG a b c=n)(hlen:n<=2 ^ 24)
  (hQ:∀ h' tk acc,(∀ b o,s.heap.get? b=some o->h'.get? b=some o)->Dp (λi v=>∃ t,v=.int (a+i * c) t) acc n->Q acc.toList { s with heap:=h',toks:=tk }) :
  AQ (model prog w) A (collect (.ref r)) Q E s:=by
 refine AA (wpAny_runValue (D3 F.entry_proto_collect ?_));rw[El F.plain_proto_collect _];refine AA (A9 (AG ⟨Dq Iy _,D3 F.entry_list_iadd ?_⟩));rw[El Iy _];have hS:(s.heap.push { cls:=.type "list",data:=.seq [].toArray }).get? s.heap.objs.size=some { cls:=.type "list",data:=.seq [].toArray }:=AK _ rfl;have hr2:IsRange (s.heap.push { cls:=.type "list",data:=.seq [].toArray }) r a b c t u v:=AB _ hr;let RR:Result->AR->Prop:=λr s'=>match r with
  | .ok (.ret v)=>v=.ref s.heap.objs.size/\∃ h' tk acc c',s'={ s with heap:=h',toks:=tk }/\(∀ b o,s.heap.get? b=some o->h'.get? b=some o)/\h'.get? s.heap.objs.size=some { cls:=.type "list",dict:=none,data:=.seq acc c',slots:=#[] }/\Dp (λi v=>∃ t,v=.int (a+i * c) t) acc n
  | _=>False
 have go:∀ v s',RR (.ok (.ret v)) s'->AQ (model prog w) A (match v with | .ref a=>(do match (← load a).data with | .seq xs _=>pure xs.toList | _=>unsupported "internal:collect") | _=>unsupported "internal:collect") Q E s':=λv s' hR=>by
  obtain⟨rfl,h',tk,acc,c',rfl,hk,hS',hacc⟩:=hR;exact AA (wpAny_load hS' (AG (hQ h' tk acc hk hacc)))
 have base:=wpAny_extend_range (prog:=prog) (w:=w) (R:=RR) (s:={ s with heap:=s.heap.push { cls:=.type "list",data:=.seq [].toArray } }) hh hr2 hsmall hn hlen _ (.ref s.heap.objs.size) _ hS λh' tk acc' c' hk hS' hacc =>
  ⟨rfl,h',tk,acc',c',rfl,λb o e=>hk b o (Ag (AM e)) (AB _ e),hS',hacc⟩
 refine BH base (λfin s' h=>?_) (λe s' h=>C7 h);cases fin with
 | done f=>cases f with
  | ret v=>exact go v s' h
  | next | brk | cont=>exact C7 h
 | again c' =>
  refine⟨h.1,GA h.2 λr s'' hr=>?_⟩;cases r with
  | error e=>exact C7 hr
  | ok f=>cases f with
   | ret v=>exact go v s'' hr
   | next | brk | cont=>exact C7 hr
def lP(r:Addr){a b c:Int}{t u v:Tok}{n:Nat}(hsmall:EL a b c=true)(hn:CG a b c=n)(hlen:n<=2 ^ 24) :
  Ij (Builtin.«tuple.__new__» ⟨[.type "tuple",.ref r],[]⟩) (λA R s=>A.handled=none/\s.heap.get? r=some { cls:=.type "range",data:=.fields #[.int a t,.int b u,.int c v] }/\∀ (h':Heap) (tk:Nat) (acc:Array AL),(∀ b o,s.heap.get? b=some o->h'.get? b=some o) ->
   Dp (λi v=>∃ t,v=.int (a+i * c) t) acc n->R (.ok (.ret (.ref h'.objs.size))) { s with heap:=h'.push { cls:=.type "tuple",data:=.seq acc },toks:=tk }):=
 .of_wp λprog w A R s h=>by
  obtain⟨hh,hr,h⟩:=h;have s1:=Kp;have s2:=Jb;have s3:=Kq;have hT:s.TypeIs (.ref r) "range":=⟨_,hr,rfl⟩
  have hh1:A.in1.handled=none:=hh;have hr':=hr
  wp_walk using C8 hT,Yx hh1 hr' hsmall hn hlen
  intro h' tk acc hk hacc;show AQ _ _ (Dh acc.toList.toArray >>= λv=>ret v) _ _ _;unfold Dh;refine AA (A9 ?_ (show acc.toList.toArray.size<=AC by simp only[HJ];rw[hacc.1,BJ];omega));refine AG ⟨_,rfl,?_⟩;exact h h' tk acc hk hacc
def dw{r a b c t u v}{n:Nat}(hh:A.handled=none)(hr:s.heap.get? r=some { cls:=.type "range",data:=.fields #[.int a t,.int b u,.int c v] })(hsmall:EL a b c=true)
  (hn:CG a b c=n) (hlen:n<=2 ^ 24)
  (h:∀ (h':Heap) tk acc,(∀ b o,s.heap.get? b=some o->h'.get? b=some o)->Dp (λi v=>∃ t,v=.int (a+i * c) t) acc n->Q (.ref h'.objs.size) { s with heap:=h'.push { cls:=.type "tuple",data:=.seq acc },toks:=tk }) :
  AQ (model prog w) A (call (.type "tuple") [.ref r]) Q E s:=
 GF F.called_tuple ∅ (F.typeCall_tuple_1 _) (F.newCall_tuple_1 _) (λobj=>FK obj _) F.entry_tuple_new (lP r hsmall hn hlen) ⟨hh,hr,λh' tk acc hk hacc=>⟨⟨_,AK _ rfl,rfl⟩,h h' tk acc hk hacc⟩⟩
end
section
variable {X:Cx}
def X8:tJ X (.type "range") (λxs H Q=>∃ j,xs=[.int j]/\∀ p,H p=none->Q (.ref p) (upd H p (.rng 0 j))):=by
 intro pins s σ H xs us Q I r h;obtain⟨j,rfl,q⟩:=h;obtain⟨u,rfl,t,rfl⟩:=vals1 r;refine LJ ⟨.ref s.heap.objs.size,_,I.laid (λb o e=>AB _ e) (AF _) (show tG X.prog X.w _ _ _ (.rng 0 j) from ⟨_,_,_,AK _ rfl⟩),rfl,q _ (I.hok.fresh (AF _))⟩
def Xe:tJ X (.type "range") (λxs H Q=>∃ i j,xs=[.int i,.int j]/\∀ p,H p=none->Q (.ref p) (upd H p (.rng i j))):=by
 intro pins s σ H xs us Q I r h;obtain⟨i,j,rfl,q⟩:=h;obtain⟨u,u',rfl,⟨t,rfl⟩,⟨t',rfl⟩⟩:=vals2 r;refine LK ⟨.ref s.heap.objs.size,_,I.laid (λb o e=>AB _ e) (AF _) (show tG X.prog X.w _ _ _ (.rng i j) from ⟨_,_,_,AK _ rfl⟩),rfl,q _ (I.hok.fresh (AF _))⟩
def rsz{lo hi}:CG lo hi 1=(((hi - lo).toNat:Nat):Int):=by rw[Kz];split <;> omega
def YI(hc:X.calm=true):tJ X (.type "list") (λxs H Q=>∃ p lo hi,xs=[.ref p]/\H p=some (.rng lo hi)/\(-(2 ^ 62)<=lo/\lo < 2 ^ 62/\-(2 ^ 62)<=hi/\hi < 2 ^ 62)/\(hi - lo).toNat<=2 ^ 24/\∀ l,H l=none->Q (.ref l) (upd H l (.lst (xD lo (hi - lo).toNat)))):=by
 intro pins s σ H xs us Q I r h;obtain⟨p,lo,hi,rfl,hp,⟨b1,b2,b3,b4⟩,hl,q⟩:=h;obtain⟨u,rfl,rfl⟩:=vals1 r;obtain⟨t,t',t'',ho⟩:=(I.hok p _ hp)
 exact call_list_range (I.ok.hd hc) ho (Jh b1 b2 b3 b4) rsz hl λh' tk acc c' hk e hacc=>⟨.ref s.heap.objs.size,_,I.laid hk (AF _) (show tG X.prog X.w _ h' _ (.lst _) from ⟨by rw[Qk,BJ];omega,acc.toList,c',TZ hacc,by simpa using e⟩),rfl,q _ (I.hok.fresh (AF _))⟩
def iR(hc:X.calm=true):tJ X (.type "tuple") (λxs H Q=>∃ p lo hi,xs=[.ref p]/\H p=some (.rng lo hi)/\(-(2 ^ 62)<=lo/\lo < 2 ^ 62/\-(2 ^ 62)<=hi/\hi < 2 ^ 62)/\(hi - lo).toNat<=2 ^ 24/\∀ l,H l=none->Q (.ref l) (upd H l (.tup (xD lo (hi - lo).toNat)))):=by
 intro pins s σ H xs us Q I r h;obtain⟨p,lo,hi,rfl,hp,⟨b1,b2,b3,b4⟩,hl,q⟩:=h;obtain⟨u,rfl,rfl⟩:=vals1 r;obtain⟨t,t',t'',ho⟩:=(I.hok p _ hp)
 refine dw (I.ok.hd hc) ho (Jh b1 b2 b3 b4) rsz hl λh' tk acc hk hacc=>?_
 have I1:Inv X pins σ H { s with heap:=h',toks:=tk }:=I.kept hk;exact⟨.ref h'.objs.size,_,I1.laid (λb o e=>AB _ e) (AF _) (show tG X.prog X.w _ _ _ (.tup _) from ⟨by rw[Qk,BJ];omega,acc.toList,TZ hacc,by simpa using wm.new h' acc⟩),rfl,q _ (I1.hok.fresh (AF _))⟩
theorem df:∀ {us},sP (bs.map V.bl) us->LSm.BoolsAre us bs:=by
 induction bs with
 | nil=>intro us h;cases h;exact .nil
 | cons b bs ih=>intro us h;cases h with
  | cons r t=>cases r;exact .cons b (ih t)
def mF(hc:X.calm=true):tJ X (.builtin "all") (λxs H Q=>∃ (p:Addr) (bs:List Bool),xs=[.ref p]/\uL X.K H p (bs.map V.bl)/\Q (.bl (bs.all id)) H):=by
 intro pins s σ H xs us Q I r h;obtain⟨p,bs,rfl,hq,q⟩:=h;obtain⟨u,rfl,rfl⟩:=vals1 r;obtain⟨its,rv,pl,hz⟩:=I.list hq;have hb:=df rv;have hl:=pl.isList;have hlt:p < s.heap.objs.size:=by obtain⟨_,e,_⟩:=hl;exact AM e
 refine call_all_walk (GG hl ⟨s.heap.objs.size,[s.heap.objs.size,p],[s.heap.objs.size],its.toArray.size,_,_,λi=>(bs[i]?).getD true,rfl,Jz (A:=X.A.in1) (I.ok.hd hc) _ p (Ag hlt) its.toArray,⟨⟨_,AK _ rfl,rfl,rfl⟩,hl.push _⟩,λi v s' Q' E' hP hQ=>?_,λh' tk hk=>?_⟩)
 ·obtain⟨b,e,rfl⟩:=hb.get i v (by simpa using hP);simp[e]at hQ;exact Bi hQ
 ·have e:((AE its.toArray.size).all λi=>(bs[i]?).getD true)=bs.all id:=by rw[Ad,hb.length];exact LSm.range_all bs
  rw[e];exact⟨.bl (bs.all id),H,I.kept (G7 hk),rfl,q⟩
end
def aX t items n dd sl x (e:AL->Bool) (j:Nat) hj (hit:e items[j]=true) (hno:∀ m hm,m < j->e items[m]=false) :
  Ij (Builtin.«tuple.index» ⟨[.ref t,x],[]⟩) (λA R s=>s.heap.get? t=some { cls:=.type "tuple",dict:=dd,data:=.seq items n,slots:=sl }/\(∀ y,y∈items->GB A.in1 s y x (e y))/\R (.ok (.ret (.int j s.toks))) { s with toks:=s.toks+1 }):=
 .of_wp λprog w A R s h=>by
  obtain⟨hp,g,d,tk,os⟩:=s;obtain⟨hl,he,h⟩:=h
  wp_walk using G5 hl
  show AQ _ _ (forIn [:min items.size items.size] (none,()) _) _ _ _;rw[Iz];refine Jq _ (λrest b s'=>b=(none,())/\s'=⟨hp,g,d,tk,os⟩/\∃ i,i<=j/\rest=D9 i (items.size - i) 1) _ ?_ ?_ _ _ ?_
  ·rintro i rest b s' ⟨rfl,rfl,k,hk,hr⟩;have hlt:k < items.size:=by lia
   obtain⟨m,hm⟩:∃ m,items.size - k=m+1:=⟨items.size - k - 1,by lia⟩
   rw[hm]at hr;injection hr with h1 h2;subst h1;have hi:items[i]?=some items[i]:=by simp
   simp only[hi];refine AA (he items[i] (Array.getElem_mem hlt) prog w _ _ ?_);by_cases hij:i=j
   ·subst hij;rw[hit];refine AA ?_;exact AA (Gr (AG (AG (AG ⟨_,rfl,h⟩))))
   ·rw[hno i hlt ⋯];exact AG ⟨rfl,rfl,i+1,by lia,by rw[h2];congr 1;lia⟩
  ·rintro b s' ⟨rfl,rfl,k,hk,hr⟩;have q:items.size - k=0:=by have q:=congrArg HS hr;simp at q;lia
   lia
  ·refine⟨rfl,rfl,0,As _,?_⟩;simp
section
variable {X:Cx}
def vW (K:Ae):V->List V->Hp->VK->Prop:=λx vs H Q=>∃ t xs y j,x=.ref t/\vs=[y]/\vH K H t xs/\tM y=true/\xs.all tM=true/\(xs.findIdx? λz=>xM z y)=some j/\Q (.int j) H
def XR:MtM X "tuple.index" (vW X.K):=by
 intro pins s σ H x vs v us Q I rx rv h;obtain⟨t,xs,y,j,rfl,rfl,hq,fy,fx,hj,q⟩:=h;cases rx;obtain⟨u,rfl,ru⟩:=rv.one;obtain⟨its,r,⟨⟨cls,dd,data,sl⟩,ho,hc,n,hd⟩,hz⟩:=I.tuple hq;simp only at hc hd;subst hc hd;have hlen:=r.length;obtain⟨hjl,hjt,hjn⟩:=FT.mp hj;have hiU:∀ m (hm:m < its.length),zq y its[m]=xM (xs[m]'⋯) y:=λm hm=>by
  have e1:xs[m]?=some (xs[m]'⋯):=by simp
  obtain⟨u',hu',ru'⟩:=r.get e1;have e2:=by rw[AU hm]at hu';exact Av hu'
  rw[e2];exact Q6 ru' (AJ.mp fx _ (ET _))
 refine C5 F.slot_tuple_index ⟨_,ho,rfl⟩ F.entry_tuple_index (F.args_tuple_index_2 _ _)
  (aX t its.toArray n dd sl u (zq y) j ↥2 (by simp_all) (λm hm hmj=>by
   show zq y its[m]=false;rw[hiU m ‹_›];exact FX.mpr (hjn m hmj))) ⟨ho,?_,?_⟩
 ·intro z hzm;exact PQ ru fy r fx z (by simp_all)
 ·exact⟨.int j,H,I.tok _,⟨_,rfl⟩,q⟩
end
section
variable {X:Cx}
theorem wG.upd(h:H p=none):wG H (upd H p o):=λb u e=>by rw[Lc (Lo e h)];exact e
end
def cK(hg:Gl X x)(hm:X.mg x=none)(hv:CD x=some (.type T))(hn:x≠"__name__":=by decide)(hd:(x == ("__debug__":Str))=false:=by decide):PE X (.Name x pos) (tC (.ty T)):=dq hg hm hv rfl hn hd
def jI K (hK:X.K=K) (hc:X.calm=true) (h:PGs X es t) (hn:(CC es X.env).length=n:=by rfl) (hst:(CC es X.env).findIdx? (·.1)=none:=by rfl):PG X (.Tuple es k pos) (ACc K n t):=by
 subst hK;exact Xx hc h hn hst
section
variable {prog:Aj}{w:A5}{A:BG}{E:AL->AR->Prop}{s:AR}
def iK(hT:T="list"\/T="tuple")(ho:s.heap.get? it=some o)(hc:o.cls=.type T)(hd:o.data=.seq vs.toArray n)(hI:Bx vs ns)(h64:vs.length < 64)
  (h:∀ (h1 h':Heap) out e ns',(∀ b o,s.heap.get? b=some o->h1.get? b=some o)->(∀ b o,h1.get? b=some o->h'.get? b=some o)->h'.get? h1.objs.size=some (B6 "list" out e)->Bx out.toList ns'->ns'.Perm ns->ns'.Pairwise (·<=·)->Q (.ref h1.objs.size) { s with heap:=h' }) :
  AQ (model prog w) A (call (.builtin "sorted") [.ref it]) Q E s:=by
 refine GL kind_sorted LO LP (LQ _) ?_;unfold Builtin.«sorted»;refine AA (AG ?_);refine AA (wpAny_collect_seq it hT ho hc hd (λh1 hk1=>AA (Fi ?_)) (by rw[Ad,BJ];lia));have hoL:(h1.push (B6 "list" vs.toArray 0)).get? h1.objs.size=some (B6 "list" vs.toArray 0):=AK _ rfl;refine AA (BQ (Ay Kr ⟨_,hoL,rfl⟩ KR (list_sort_tree hoL hI h64 λout ns' a1 a2 a3=>⟨_,rfl,?_⟩) (Ks _)));obtain⟨e,he⟩:=sortedHeap_at hoL;refine AG ⟨_,rfl,h h1 _ out e ns' hk1 (λb ob q=>?_) he a1 a2 a3⟩;have hlt:=AM q;rw[sortedHeap_old (Ag hlt) (by rw[size_push'];exact DP hlt)];exact AB _ q
end
theorem S6:∀ {us ns},Bx us ns->sP (ns.map V.int) us
 | _,_,.nil=>.nil
 | _,_,.cons _ t r=>.cons ⟨t,rfl⟩ (S6 r)
section
variable {X:Cx}
def mH:tJ X (.builtin "sorted") (λxs H Q=>∃ (p:Addr) (ns:List Int),xs=[.ref p]/\(uL X.K H p (ns.map V.int)\/vH X.K H p (ns.map V.int))/\ns.length < 64/\∀ l (ns':List Int),H l=none->ns'.Perm ns->ns'.Pairwise (·<=·)->Q (.ref l) (upd H l (.lst (ns'.map V.int)))):=by
 intro pins s σ H xs us Q I r h;obtain⟨p,ns,rfl,hq,hl,q⟩:=h;obtain⟨u,rfl,rfl⟩:=vals1 r;have go:∀ T o its n,(T="list"\/T="tuple")->s.heap.get? p=some o->o.cls=.type T->o.data=.seq its.toArray n->sP (ns.map V.int) its->AQ (model X.prog X.w) X.A (call (.builtin "sorted") [.ref p]) (EP X pins σ Q) X.xe s:=λT o its n hT ho hc hd rv=>by
  have hlen:=rv.length;rw[Af]at hlen;refine iK hT ho hc hd (Wn rv) ⋯ λh1 h' out e ns' k1 k2 he hI hp hs=>?_
  have I1:=I.kept (t':=s.toks) k1;have hl':ns'.length < 64:=by rw[hp.length_eq];exact hl
  exact⟨.ref h1.objs.size,_,I1.laid k2 (AF _) (show tG X.prog X.w _ h' _ (.lst _) from ⟨by rw[Af,BJ];lia,out.toList,e,S6 hI,by simpa using he⟩),rfl,q _ ns' (I1.hok.fresh (AF _)) hp hs⟩
 rcases hq with hq | hq
 ·obtain⟨its,rv,⟨o,n,e,c,_,d⟩,_⟩:=I.list hq;exact go "list" o its n (.inl rfl) e c d rv
 ·obtain⟨its,rv,⟨o,e,c,n,d⟩,_⟩:=I.tuple hq;exact go "tuple" o its n (.inr rfl) e c d rv
end
section
variable {prog:Aj}{w:A5}{A:BG}{E:AL->AR->Prop}{s:AR}
def Xt{items vl vu lo hi Q}(ht:E9 s.heap t items)(hs:s.heap.IsSliceOf sl vl vu .none)(pl:FQ vl lo)(pu:FQ vu hi)
  (hw:HT.sIx items.size 0 lo=0/\HT.sIx items.size items.size hi=items.size) (h:Q (.ref t) s):AQ (model prog w) A (EY (.ref t) (.ref sl)) Q E s:=by
 obtain⟨os,hos,hcs,hds⟩:=id hs;have hTs:s.TypeIs (.ref sl) "slice":=⟨os,hos,hcs⟩
 unfold EY;try with_reducible refine BQ ?_
 refine AA (JW ht.typeIs ∅ ?_);refine AA (Az ht.typeIs Bp (Ay Bp ht.typeIs Iv ?_ (JG _ _)));show AQ _ _ (FJ (.ref t) >>= _) _ _ s;refine AA (K1 ht ?_);refine AA (C8 hTs ?_);rw[if_pos ∅];refine AA (HT.sliceApplied_gen hs pl pu ?_);have hyes:((((HT.sIx items.size 0 lo):Int) == 0 && (1:Int) == 1 && (HT.sIx items.size items.size hi - HT.sIx items.size 0 lo) == items.size)=true):=by
  rw[hw.1,hw.2];simp
 show AQ _ _ (if (((HT.sIx items.size 0 lo):Int) == 0 && 1 == 1 && (HT.sIx items.size items.size hi - HT.sIx items.size 0 lo) == items.size)=true then _ else _) _ _ s;rw[if_pos hyes];exact AA (AA (C8 ht.typeIs (AG (AA (CS (AG ⟨_,rfl,AG h⟩))))))
end
end L2
namespace D
open PySem L2
abbrev Fg:=Ae
inductive T where
 | a (v:V)
 | t (xs:List T)
 | l (xs:List T)
 | f (n:Str)
 | x (c:Str) (fs:List (Str×V))
 | w (xs:List T)
abbrev Dk:=Sum (List (tu×T)) (List (List tu×T))
inductive G where
 | v (t:T)
 | l (xs:List T)
 | r (xs:List T)
 | k (xs:List T)
 | d (kvs:Dk)
 | e (kvs:Dk)
noncomputable def uX:G->Bool
 | .l _=>true
 | .d _=>true
 | _=>false
inductive S where
 | v (t:T)
 | l (xs:List T)
 | s (i:Nat)
 | d (kvs:Dk)
abbrev En:=List (Option G)
abbrev DE:=En->Option (S×En)
abbrev DT:=En->Option (Bool×En)
abbrev DA:=En->Option (List S×En)
inductive O where
 | nx (g:En) | rt (s:S) (g:En) | bk (g:En) | ct (g:En)
abbrev DS:=En->Option O
noncomputable def cOk:List V->Bool
 | [.int _]=>false
 | [.int _,.int _,.int _,.int _,.int _]=>false
 | .int _::_=>true
 | .ref _::_=>true
 | [.str x]=>decide (x="yes") || decide (x="no")
 | _=>false
def KT (K:Fg) (a:Addr) (xs:List V):Prop:=∃ (o:Obj) (its:Array AL) (n:Nat),K.lookup a=some o/\o.cls=.type "tuple"/\o.dict=none/\o.data=.seq its n/\its.size<=AC/\sP xs its.toList/\cOk xs=true
def Tp (K:Fg) (H:Hp) (p:Addr) (vs:List V):Prop:=H p=some (.tup vs)\/KT K p vs
def Tp.sq(h:Tp K H p vs):vH K H p vs:=by
 rcases h with h | ⟨o,its,n,a,b,c,d,e,f,_⟩
 ·exact vH.of h
 ·exact .inr ⟨o,its,n,a,b,d,e,f⟩
def Tp.of(h:H p=some (.tup vs)):Tp K H p vs:=.inl h
def KW (K:Fg) (a:Addr) (xs:List V):Prop:=∃ (o:Obj) (its:Array AL) (n:Nat),K.lookup a=some o/\o.cls=.type "tuple"/\o.dict=none/\o.data=.seq its n/\its.size<=AC/\sP xs its.toList
def KW.sq(h:KW K p vs):vH K H p vs:=let ⟨o,its,n,a,b,_,d,e,f⟩:=h;.inr ⟨o,its,n,a,b,d,e,f⟩
def KL (K:Fg) (a:Addr) (xs:List V):Prop:=∃ (o:Obj) (its:Array AL) (n:Nat),K.lookup a=some o/\o.cls=.type "list"/\o.dict=none/\o.data=.seq its n/\its.size<=AC/\sP xs its.toList
def KF (K:Fg) (H:Hp) (p:Addr) (vs:List V):Prop:=(∃ o,H p=some (.frz o (.lst vs)))\/KL K p vs
def XOk (K:Fg) (H:Hp) (p:Addr) (c:Str) (fs:List (Str×V)):Prop:=∃ (C:Addr) (d:Option Addr),CH K A0 c=some (some (.ref C)) /\
 H p=some (.ext λh=>∃ o,h.get? p=some o/\o.cls=.ref C/\o.dict=d/\PySem.W.notCls o=true)/\((d=none/\fs=[])\/∃ dx,d=some dx/\H dx=some (.xd fs))
def FOk (K:Fg) (v:V) (n:Str):Prop:=∃ p,v=.ref p/\CH K A0 n=some (some (.ref p))
mutual
noncomputable def Im (K:Fg) (H:Hp):V->T->Prop
 | v,.a u=>v=u
 | v,.t ts=>∃ p vs,v=.ref p/\Tp K H p vs/\sf K H vs ts
 | v,.l ts=>∃ p vs,v=.ref p/\KF K H p vs/\sf K H vs ts
 | v,.f n=>FOk K v n
 | v,.x c fs=>∃ p,v=.ref p/\XOk K H p c fs
 | v,.w ts=>∃ p vs,v=.ref p/\KW K p vs/\sf K H vs ts
noncomputable def sf (K:Fg) (H:Hp):List V->List T->Prop
 | vs,[]=>vs=[]
 | vs,t::ts=>∃ v r,vs=v::r/\Im K H v t/\sf K H r ts
end
structure W where
 L:List Addr
 R:Addr->Prop
structure Fr where
 H0:Hp
 fx:List Addr
 pins:List (Nat×Addr)
def tP (L:List Addr) (H H':Hp):Prop:=∀ b o,H b=some o->b∉L->H' b=some o
noncomputable def Mu:HO->Prop
 | .lst _=>True
 | .dK _=>True
 | .dT _=>True
 | _=>False
def LL (L:List Addr) (H:Hp):Prop:=∀ p∈L,∃ o,H p=some o/\Mu o
def tP.refl:tP L H H:=λ_ _ h _=>h
def tP.trans(a:tP L H H1)(b:tP L H1 H2):tP L H H2:=λc o h n=>b c o (a c o h n) n
def tP.wide(a:tP L' H H')(h:∀ p∈L',p∈L):tP L H H':=λc o e n=>a c o e λz=>n (h c z)
def tP.new(h:H p=none):tP L H (upd H p o):=λb u e _=>by rw[Lc (Lo e h)];exact e
def tP.of_same(h:wG H H'):tP L H H':=λb u e _=>h b u e
def Qo(e:tP L H H')(hL:LL L H)(h:Tp K H p vs):Tp K H' p vs:=by
 rcases h with h | h
 ·refine .inl (e _ _ h λz=>?_);obtain⟨o,q,m⟩:=hL p z;rw[h]at q;cases q;exact m
 ·exact .inr h
def KF.evo(e:tP L H H')(hL:LL L H)(h:KF K H p vs):KF K H' p vs:=by
 rcases h with ⟨o,h⟩ | h
 ·refine .inl ⟨o,e _ _ h λz=>?_⟩;obtain⟨o,q,m⟩:=hL p z;rw[h]at q;cases q;exact m
 ·exact .inr h
def XOk.evo(e:tP L H H')(hL:LL L H)(h:XOk K H p c fs):XOk K H' p c fs:=by
 obtain⟨C,d,h1,h2,h3⟩:=h;refine⟨C,d,h1,e _ _ h2 λz=>?_,h3.imp id λ⟨dx,a,b⟩=>⟨dx,a,e _ _ b λz=>?_⟩⟩
 ·obtain⟨o,q,m⟩:=hL p z;rw[h2]at q;cases q;exact m
 ·obtain⟨o,q,m⟩:=hL dx z;rw[b]at q;cases q;exact m
mutual
theorem Im.evo(e:tP L H H')(hL:LL L H):∀ {v t},Im K H v t->Im K H' v t
 | _,.a _,h=>h
 | _,.t _,h=>by
  obtain⟨p,vs,rfl,hs,hi⟩:=h;exact⟨p,vs,rfl,Qo e hL hs,sf.evo e hL hi⟩
 | _,.l _,h=>by
  obtain⟨p,vs,rfl,hs,hi⟩:=h;exact⟨p,vs,rfl,hs.evo e hL,sf.evo e hL hi⟩
 | _,.f _,h=>by
  unfold Im at h ⊢;exact h
 | _,.x _ _,h=>by
  obtain⟨p,rfl,hs⟩:=h;exact⟨p,rfl,hs.evo e hL⟩
 | _,.w _,h=>by
  obtain⟨p,vs,rfl,hs,hi⟩:=h;exact⟨p,vs,rfl,hs,sf.evo e hL hi⟩
theorem sf.evo(e:tP L H H')(hL:LL L H):∀ {vs:List V} {ts:List T},sf K H vs ts->sf K H' vs ts
 | _,[],h=>h
 | _,_::_,h=>by
  unfold sf at h ⊢;obtain⟨v,r,rfl,h1,h2⟩:=h;exact⟨v,r,rfl,Im.evo e hL h1,sf.evo e hL h2⟩
end
section
variable {K:Fg}{H H':Hp}
def sf.nil:sf K H [] []:=rfl
def sf.cons(h:Im K H v t)(hs:sf K H vs ts):sf K H (v::vs) (t::ts):=by unfold sf;exact⟨v,vs,rfl,h,hs⟩
def sf.inv(h:sf K H vs (t::ts)):∃ v r,vs=v::r/\Im K H v t/\sf K H r ts:=by unfold sf at h;exact h
def sf.inv0(h:sf K H vs []):vs=[]:=by unfold sf at h;exact h
theorem sf.len:∀ {vs ts},sf K H vs ts->vs.length=ts.length
 | _,[],h=>by rw[h.inv0];rfl
 | _,_::_,h=>by obtain⟨v,r,rfl,_,h2⟩:=h.inv;simp[h2.len]
theorem sf.app:∀ {vs us ts ss},sf K H vs ts->sf K H us ss->sf K H (vs++us) (ts++ss)
 | _,_,[],_,h,h'=>by rw[h.inv0];exact h'
 | _,_,_::_,_,h,h'=>by obtain⟨v,r,rfl,h1,h2⟩:=h.inv;exact .cons h1 (h2.app h')
def sf.one(h:Im K H v t):sf K H [v] [t]:=.cons h .nil
theorem sf.get:∀ {vs ts} {i:Nat} {t},sf K H vs ts->ts[i]?=some t->∃ v,vs[i]?=some v/\Im K H v t
 | _,[],_,_,_,e=>by simp at e
 | _,_::_,0,_,h,e=>by obtain⟨v,r,rfl,h1,h2⟩:=h.inv;simp at e;subst e;exact⟨v,rfl,h1⟩
 | _,_::_,i+1,_,h,e=>by obtain⟨v,r,rfl,h1,h2⟩:=h.inv;simpa using h2.get ‹_›
theorem sf.take:∀ n {vs ts},sf K H vs ts->sf K H (vs.take n) (ts.take n)
 | 0,_,_,_=>by simp;exact .nil
 | _+1,_,[],h=>by rw[h.inv0];exact .nil
 | n+1,_,_::_,h=>by obtain⟨v,r,rfl,h1,h2⟩:=h.inv;exact .cons h1 (h2.take n)
theorem sf.drop:∀ n {vs ts},sf K H vs ts->sf K H (vs.drop n) (ts.drop n)
 | 0,_,_,h=>h
 | _+1,_,[],h=>by rw[h.inv0];exact .nil
 | n+1,_,_::_,h=>by obtain⟨v,r,rfl,h1,h2⟩:=h.inv;exact h2.drop n
theorem sf.set:∀ {vs ts} i {v t},sf K H vs ts->Im K H v t->sf K H (vs.set i v) (ts.set i t)
 | _,[],_,_,_,h,_=>by rw[h.inv0];exact .nil
 | _,_::_,0,_,_,h,h'=>by obtain⟨v,r,rfl,h1,h2⟩:=h.inv;exact .cons h' h2
 | _,_::_,i+1,_,_,h,h'=>by obtain⟨v,r,rfl,h1,h2⟩:=h.inv;exact .cons h1 (h2.set i h')
theorem sf.erase:∀ {vs ts} i,sf K H vs ts->sf K H (vs.eraseIdx i) (ts.eraseIdx i)
 | _,[],_,h=>by rw[h.inv0];exact .nil
 | _,_::_,0,h=>by obtain⟨v,r,rfl,h1,h2⟩:=h.inv;exact h2
 | _,_::_,i+1,h=>by obtain⟨v,r,rfl,h1,h2⟩:=h.inv;exact .cons h1 (h2.erase i)
theorem sf.rev:∀ {vs ts},sf K H vs ts->sf K H vs.reverse ts.reverse
 | _,[],h=>by rw[h.inv0];exact .nil
 | _,_::_,h=>by obtain⟨v,r,rfl,h1,h2⟩:=h.inv;simp;exact h2.rev.app (.one h1)
theorem sf.atoms:∀ vs,sf K H vs (vs.map T.a)
 | []=>.nil
 | v::r=>.cons rfl (sf.atoms r)
theorem sf.of_atoms:∀ {vs us},sf K H vs (us.map T.a)->vs=us
 | _,[],h=>h.inv0
 | _,_::_,h=>by obtain⟨v,r,rfl,h1,h2⟩:=h.inv;unfold Im at h1;rw[h1,sf.of_atoms h2]
def Im.atom:Im K H v (.a v):=rfl
theorem Im.tup(h:H p=some (.tup vs))(hs:sf K H vs ts):Im K H (.ref p) (.t ts):=by unfold Im;exact⟨p,vs,rfl,Tp.of h,hs⟩
def Im.inv(h:Im K H v (.t ts)):∃ p vs,v=.ref p/\Tp K H p vs/\sf K H vs ts:=by unfold Im at h;exact h
def Im.invl(h:Im K H v (.l ts)):∃ p vs,v=.ref p/\KF K H p vs/\sf K H vs ts:=by unfold Im at h;exact h
def Im.fn(h:FOk K v n):Im K H v (.f n):=by unfold Im;exact h
def Im.invf(h:Im K H v (.f n)):FOk K v n:=by unfold Im at h;exact h
def Im.invx(h:Im K H v (.x c fs)):∃ p,v=.ref p/\XOk K H p c fs:=by unfold Im at h;exact h
def Im.invw(h:Im K H v (.w ts)):∃ p vs,v=.ref p/\KW K p vs/\sf K H vs ts:=by unfold Im at h;exact h
def Im.inva(h:Im K H v (.a u)):v=u:=by unfold Im at h;exact h
end
def KF.sq(h:KF K H p vs):uL K H p vs:=by
 rcases h with h | h
 ·exact .inl (.inr h)
 ·exact .inr h
def KF.of(h:uL K H p vs)(n:∀ us,H p≠some (.lst us)):KF K H p vs:=by
 rcases h with (h | h) | h
 ·exact absurd h (n vs)
 ·exact .inl h
 ·exact .inr h
noncomputable def wN (K:Fg) (H:Hp):HO->Dk->Prop
 | .dK l,.inl kvs=>EG (λa b=>a.1=b.1/\Im K H a.2 b.2) l kvs
 | .dT l,.inr kvs=>EG (λa b=>a.1=b.1/\Im K H a.2 b.2) l kvs
 | _,_=>False
def wN.mu(h:wN K H o kvs):Mu o:=by
 unfold wN at h;split at h
 ·trivial
 ·trivial
 ·exact h.elim
theorem wN.evo(e:tP L H H')(hL:LL L H)(h:wN K H o kvs):wN K H' o kvs:=by
 unfold wN at h ⊢;split at h
 iterate 2
  ·exact Paired.mapP h λ_ _ z=>⟨z.1,z.2.evo e hL⟩
 ·exact h.elim
noncomputable def GOk (K:Fg) (w:W) (H:Hp) (v:V):G->Prop
 | .v t=>Im K H v t
 | .l xs=>∃ p vs,v=.ref p/\p∈w.L/\H p=some (.lst vs)/\sf K H vs xs
 | .r xs=>∃ p vs,v=.ref p/\sf K H vs xs/\H p=some (.lst vs)/\p∉w.L/\w.R p
 | .k xs=>∃ p vs,v=.ref p/\sf K H vs xs/\KF K H p vs
 | .d kvs=>∃ p o,v=.ref p/\p∈w.L/\H p=some o/\wN K H o kvs
 | .e kvs=>∃ p o,v=.ref p/\wN K H o kvs/\H p=some o/\p∉w.L/\w.R p
theorem GOk.own(m:uX g=true)(h:GOk K w H v g):∃ p,v=.ref p/\p∈w.L:=by
 cases g with
 | l xs | d xs=>obtain⟨p,vs,e,m,_⟩:=h;exact⟨p,e,m⟩
 | v _ | r _ | k _ | e _=>cases m
def Ow (C:Fr) (p:Addr):Prop:=p∈C.fx\/C.H0 p=none
structure sV(K:Fg)(C:Fr)(w:W)(Γ:En)(σ:St)(H:Hp):Prop where
 len:σ.length=Γ.length
 val:∀ (i:Nat) g,Γ[i]?=some (some g)->∃ v,σ[i]?=some (some v)/\GOk K w H v g
 apart:∀ (i j:Nat) p g g',uX g=true->uX g'=true->Γ[i]?=some (some g)->Γ[j]?=some (some g')->σ[i]?=some (some (.ref p))->σ[j]?=some (some (.ref p))->i=j
 lst:LL w.L H
 own:∀ p∈w.L,Ow C p
 ra:∀ p,w.R p->∃ o,H p=some o
 rl:∀ p,w.R p->p∉w.L
 frame:∀ b o,C.H0 b=some o->b∉C.fx->H b=some o
 pin:∀ q∈C.pins,σ[q.1]?=some (some (.ref q.2))/\∃ xs,Γ[q.1]?=some (some (.l xs))
noncomputable def tH (K:Fg) (C:Fr) (w:W) (σ:St) (H:Hp) (v:V):S->Prop
 | .v t=>Im K H v t
 | .l xs=>∃ p vs,v=.ref p/\p∉w.L/\¬ w.R p/\Ow C p/\H p=some (.lst vs)/\sf K H vs xs
 | .s i=>σ[i]?=some (some v)
 | .d kvs=>∃ p o,v=.ref p/\p∉w.L/\¬ w.R p/\Ow C p/\H p=some o/\wN K H o kvs
section
variable {K:Fg}{C:Fr}{w:W}{Γ Γ':En}{σ:St}{H H':Hp}
theorem GOk.evo(e:tP w.L H H')(hL:LL w.L H)(hl:uX g=false)(h:GOk K w H v g):GOk K w H' v g:=by
 cases g with
 | v t=>exact Im.evo e hL h
 | l xs | d xs=>cases hl
 | e kvs =>
  obtain⟨p,o,rfl,hi,h⟩:=h;exact⟨p,o,rfl,hi.evo e hL,e _ _ h.1 h.2.1,h.2⟩
 | r xs =>
  obtain⟨p,vs,rfl,hi,h⟩:=h;exact⟨p,vs,rfl,hi.evo e hL,e _ _ h.1 h.2.1,h.2⟩
 | k xs =>
  obtain⟨p,vs,rfl,hi,h⟩:=h;exact⟨p,vs,rfl,hi.evo e hL,h.evo e hL⟩
theorem tH.evo(e:tP w.L H H')(hL:LL w.L H)(h:tH K C w σ H v s):tH K C w σ H' v s:=by
 cases s with
 | v t=>exact Im.evo e hL h
 | l xs =>
  obtain⟨p,vs,rfl,n1,n2,o,h1,h2⟩:=h;exact⟨p,vs,rfl,n1,n2,o,e _ _ h1 n1,h2.evo e hL⟩
 | s i=>exact h
 | d kvs =>
  obtain⟨p,o,rfl,n1,n2,ow,h1,h2⟩:=h;exact⟨p,o,rfl,n1,n2,ow,e _ _ h1 n1,h2.evo e hL⟩
def tH.atom:tH K C w σ H v (.v (.a v)):=rfl
theorem tH.inva(h:tH K C w σ H v (.v (.a u))):v=u:=by
 have h':Im K H v (.a u):=h;exact h'.inva
def tH.invt(h:tH K C w σ H v (.v (.t ts))):∃ p vs,v=.ref p/\Tp K H p vs/\sf K H vs ts:=h.inv
def sV.evo0(r:sV K C w Γ σ H)(e:∀ b o,H b=some o->H' b=some o):sV K C w Γ σ H' where
 len:=r.len
 val:=λi g h=>by
  obtain⟨v,e1,e2⟩:=r.val i g h;refine⟨v,e1,?_⟩;cases g with
  | l xs =>
   obtain⟨p,vs,rfl,hp,h1,h2⟩:=e2;exact⟨p,vs,rfl,hp,e _ _ h1,h2.evo (λb o h _=>e b o h) r.lst⟩
  | d xs =>
   obtain⟨p,o,rfl,hp,h1,h2⟩:=e2;exact⟨p,o,rfl,hp,e _ _ h1,h2.evo (λb o h _=>e b o h) r.lst⟩
  | v t | r xs | k xs | e xs=>exact GOk.evo (λb o h _=>e b o h) r.lst rfl e2
 apart:=r.apart
 lst:=λp hp=>by obtain⟨o,h,m⟩:=r.lst p hp;exact⟨o,e _ _ h,m⟩
 own:=r.own
 ra:=λp hp=>by obtain⟨o,h⟩:=r.ra p hp;exact⟨o,e _ _ h⟩
 rl:=r.rl
 frame:=λb o h n=>e _ _ (r.frame b o h n)
 pin:=r.pin
def sV.same(r:sV K C w Γ σ H)(e:wG H H'):sV K C w Γ σ H':=r.evo0 e
def sV.new(r:sV K C w Γ σ H)(h:H p=none):sV K C w Γ σ (upd H p o):=r.evo0 λb u e=>by rw[Lc (Lo e h)];exact e
def sV.fresh(r:sV K C w Γ σ H)(h:H p=none):p∉w.L/\¬ w.R p/\Ow C p:=by
 refine⟨λz=>?_,λz=>?_,?_⟩
 ·obtain⟨vs,e,_⟩:=r.lst p z;rw[h]at e;cases e
 ·obtain⟨o,e⟩:=r.ra p z;rw[h]at e;cases e
 ·by_cases q:p∈C.fx
  ·exact .inl q
  ·refine .inr ?_;cases e:C.H0 p with
   | none=>rfl
   | some o=>rw[r.frame p o e q]at h;cases h
def sV.newl(r:sV K C w Γ σ H)(h:H p=none)(hi:sf K H vs ts):tH K C w σ (upd H p (.lst vs)) (.ref p) (.l ts):=by
 obtain⟨a,b,c⟩:=r.fresh h;exact⟨p,vs,rfl,a,b,c,Ln,hi.evo (tP.new h) r.lst⟩
def sV.newt(r:sV K C w Γ σ H)(h:H p=none)(hi:sf K H vs ts):tH K C w σ (upd H p (.tup vs)) (.ref p) (.v (.t ts)):=Im.tup Ln (hi.evo (tP.new h) r.lst)
def sV.put3(r:sV K C w Γ σ H)(m0:uX g0=true)(m1:uX g1=true)(hpin:∀ xs,g0=.l xs->∃ ys,g1=.l ys)(hi:Γ[i]?=some (some g0))(hp:σ[i]?=some (some (.ref p)))(ev1:tP [p] H H')(hp':H' p=some ob)(mb:Mu ob)(hq:p∈w.L)(hu:GOk K w H' (.ref p) g1) :
  sV K C w (Γ.set i (some g1)) σ H'/\tP w.L H H':=by
 have hiΓ:=(Ac.mp hi).1;have ev:=ev1.wide λq hq'=>AD.mp hq' ▸ hq
 have ne:∀ {c:Addr} {o:HO},c≠p->H c=some o->H' c=some o:=λn e=>ev1 _ _ e λz=>n (AD.mp z)
 refine⟨⟨by simpa using r.len,λj g h=>?_,λj k c g g' mg mg' h1 h2 h3 h4=>?_,λc hc=>?_,r.own,λc hc=>?_,r.rl,λb o h n=>?_,λc hc=>?_⟩,ev⟩
 ·by_cases hj:j=i
  ·subst hj;rw[Am hiΓ]at h;cases h;exact⟨_,hp,hu⟩
  ·rw[AO (Ax hj)]at h;obtain⟨v,e1,e2⟩:=r.val j g h;refine⟨v,e1,?_⟩;cases g with
   | l zs | d zs =>
    obtain⟨c,vs',rfl,hc,h1,h2⟩:=e2;have:c≠p:=λz=>hj (r.apart j i p _ _ rfl m0 h hi (z ▸ e1) hp)
    exact⟨c,vs',rfl,hc,ne this h1,h2.evo ev r.lst⟩
   | v t | r zs | k zs | e zs=>exact GOk.evo ev r.lst rfl e2
 ·have back:∀ (m:Nat) g,uX g=true->(Γ.set i (some g1))[m]?=some (some g)->∃ g',uX g'=true/\Γ[m]?=some (some g'):=λm g mg h=>by
   by_cases hm:m=i
   ·subst hm;exact⟨g0,m0,hi⟩
   ·rw[AO (Ax hm)]at h;exact⟨g,mg,h⟩
  obtain⟨z1,y1,g1⟩:=back j g mg h1;obtain⟨z2,y2,g2⟩:=back k g' mg' h2;exact r.apart j k c z1 z2 y1 y2 g1 g2 h3 h4
 ·by_cases hcp:c=p
  ·subst hcp;exact⟨ob,hp',mb⟩
  ·obtain⟨o,e,m⟩:=r.lst c hc;exact⟨o,ne hcp e,m⟩
 ·have:c≠p:=λz=>r.rl c hc (z ▸ hq)
  obtain⟨o,e⟩:=r.ra c hc;exact⟨o,ne this e⟩
 ·by_cases hb:b=p
  ·subst hb;rcases r.own b hq with z | z
   ·exact absurd z n
   ·rw[z]at h;cases h
  ·exact ne hb (r.frame b o h n)
 ·obtain⟨h1,zs,h2⟩:=r.pin c hc;refine⟨h1,?_⟩;by_cases hm:c.1=i
  ·rw[hm,hi]at h2;cases h2;obtain⟨ys,e⟩:=hpin zs rfl;exact⟨ys,by rw[hm,Am hiΓ,e]⟩
  ·exact⟨zs,by rw[AO (Ax hm)];exact h2⟩
def sV.put2(r:sV K C w Γ σ H)(hi:Γ[i]?=some (some (.l xs)))(hp:σ[i]?=some (some (.ref p)))(ev1:tP [p] H H')(hp':H' p=some (.lst us))(hu:sf K H' us ys) :
  sV K C w (Γ.set i (some (.l ys))) σ H'/\tP w.L H H':=by
 obtain⟨v,e1,q,vs,rfl,hq,hv,_⟩:=r.val i _ hi;rw[hp]at e1;cases e1;exact r.put3 rfl rfl (λ_ _=>⟨ys,rfl⟩) hi hp ev1 hp' trivial hq ⟨p,us,rfl,hq,hp',hu⟩
def sV.putD(r:sV K C w Γ σ H)(hi:Γ[i]?=some (some (.d kvs)))(hp:σ[i]?=some (some (.ref p)))(hu:wN K H ob kvs') :
  sV K C w (Γ.set i (some (.d kvs'))) σ (upd H p ob)/\tP w.L H (upd H p ob):=by
 obtain⟨v,e1,q,vs,rfl,hq,hv,_⟩:=r.val i _ hi;rw[hp]at e1;cases e1;have ev1:tP [p] H (upd H p ob):=λb o e n=>by rw[Lc (λz=>n (AD.mpr z))];exact e
 have hu':=hu.evo (ev1.wide λq hq'=>AD.mp hq' ▸ hq) r.lst;exact r.put3 rfl rfl (λ_ e=>by cases e) hi hp ev1 Ln hu'.mu hq ⟨p,ob,rfl,hq,Ln,hu'⟩
def sV.put(r:sV K C w Γ σ H)(hi:Γ[i]?=some (some (.l xs)))(hp:σ[i]?=some (some (.ref p)))(hu:sf K H us ys) :
  sV K C w (Γ.set i (some (.l ys))) σ (upd H p (.lst us))/\tP w.L H (upd H p (.lst us)):=by
 obtain⟨v,e1,q,vs,rfl,hq,hv,_⟩:=r.val i _ hi;rw[hp]at e1;cases e1;have ev1:tP [p] H (upd H p (.lst us)):=λb o e n=>by rw[Lc (λz=>n (AD.mpr z))];exact e
 exact r.put2 hi hp ev1 Ln (hu.evo (ev1.wide λq hq'=>AD.mp hq' ▸ hq) r.lst)
def sV.temp(r:sV K C w Γ σ H)(n1:p∉w.L)(n2:¬ w.R p)(ow:Ow C p)(hl:∃ o,H p=some o/\Mu o)(ev1:tP [p] H H'):sV K C w Γ σ H':=by
 have ne:∀ {c:Addr} {o:HO},c≠p->H c=some o->H' c=some o:=λn e=>ev1 _ _ e λz=>n (AD.mp z)
 have hL:LL [p] H:=λq hq=>by rw[AD.mp hq];exact hl
 refine⟨r.len,λj g h=>?_,r.apart,λc hc=>?_,r.own,λc hc=>?_,r.rl,λb o h n=>?_,r.pin⟩
 ·obtain⟨v,e1,e2⟩:=r.val j g h;refine⟨v,e1,?_⟩;cases g with
  | v t=>exact Im.evo ev1 hL e2
  | l zs | d zs =>
   obtain⟨c,vs',rfl,hc,h1,h2⟩:=e2;exact⟨c,vs',rfl,hc,ne (λz=>n1 (z ▸ hc)) h1,h2.evo ev1 hL⟩
  | r zs | e zs =>
   obtain⟨c,vs',rfl,h1,h2⟩:=e2;exact⟨c,vs',rfl,h1.evo ev1 hL,ne (λz=>n2 (z ▸ h2.2.2)) h2.1,h2.2⟩
  | k zs =>
   obtain⟨c,vs',rfl,h1,h2⟩:=e2;exact⟨c,vs',rfl,h1.evo ev1 hL,h2.evo ev1 hL⟩
 ·obtain⟨o,e,m⟩:=r.lst c hc;exact⟨o,ne (λz=>n1 (z ▸ hc)) e,m⟩
 ·obtain⟨o,e⟩:=r.ra c hc;exact⟨o,ne (λz=>n2 (z ▸ hc)) e⟩
 ·by_cases hb:b=p
  ·subst hb;rcases ow with z | z
   ·exact absurd z n
   ·rw[z]at h;cases h
  ·exact ne hb (r.frame b o h n)
def sV.setv(r:sV K C w Γ σ H)(hg:uX g=false)(h:GOk K w H v g)(hn:∀ q∈C.pins,q.1≠i):sV K C w (Γ.set i (some g)) (σ.set i (some v)) H where
 len:=by simpa using r.len
 val:=λj g' hj=>by
  by_cases hji:j=i
  ·subst hji;have hjl:j < Γ.length:=by
    rcases Bt j Γ.length with z | z
    ·exact z
    ·rw[Ce (by simpa using z)]at hj;cases hj
   rw[Am hjl]at hj;cases hj;exact⟨v,by rw[Am (by rw[r.len];exact hjl)],h⟩
  ·rw[AO (Ax hji)]at hj;rw[AO (Ax hji)];exact r.val j g' hj
 apart:=λj k p ga gb ma mb h1 h2 h3 h4=>by
  have ne:∀ m gc,uX gc=true->(Γ.set i (some g))[m]?=some (some gc)->m≠i/\Γ[m]?=some (some gc):=λm gc mc hm=>by
   by_cases e:m=i
   ·subst e;rcases Bt m Γ.length with z | z
    ·rw[Am z]at hm;cases hm;rw[hg]at mc;cases mc
    ·rw[Ce (by simpa using z)]at hm;cases hm
   ·rw[AO (Ax e)]at hm;exact⟨e,hm⟩
  obtain⟨n1,g1⟩:=ne j ga ma h1;obtain⟨n2,g2⟩:=ne k gb mb h2;rw[AO (Ax n1)]at h3;rw[AO (Ax n2)]at h4;exact r.apart j k p ga gb ma mb g1 g2 h3 h4
 lst:=r.lst
 own:=r.own
 ra:=r.ra
 rl:=r.rl
 frame:=r.frame
 pin:=λq hq=>by
  obtain⟨h1,xs,h2⟩:=r.pin q hq;have:=hn q hq;exact⟨by rw[AO (Ax this)];exact h1,xs,by rw[AO (Ax this)];exact h2⟩
def sV.setm(r:sV K C w Γ σ H)(mg:uX g=true)(n1:p∉w.L)(n2:¬ w.R p)(ow:Ow C p)(hp:H p=some ob)(mb:Mu ob)(hv:GOk K ⟨p::w.L,w.R⟩ H (.ref p) g)(hn:∀ q∈C.pins,q.1≠i) :
  sV K C ⟨p::w.L,w.R⟩ (Γ.set i (some g)) (σ.set i (some (.ref p))) H where
 len:=by simpa using r.len
 val:=λj g' hj=>by
  by_cases hji:j=i
  ·subst hji;have hjl:j < Γ.length:=by
    rcases Bt j Γ.length with z | z
    ·exact z
    ·rw[Ce (by simpa using z)]at hj;cases hj
   rw[Am hjl]at hj;cases hj;exact⟨_,by rw[Am (by rw[r.len];exact hjl)],hv⟩
  ·rw[AO (Ax hji)]at hj;rw[AO (Ax hji)];obtain⟨v,e1,e2⟩:=r.val j g' hj;refine⟨v,e1,?_⟩;cases g' with
   | v t | k ys=>exact e2
   | l ys | d ys=>obtain⟨c,us,rfl,hc,h1,h2⟩:=e2;exact⟨c,us,rfl,AI _ hc,h1,h2⟩
   | r ys | e ys =>
    obtain⟨c,us,rfl,hi,h⟩:=e2;refine⟨c,us,rfl,hi,h.1,λz=>?_,h.2.2⟩;rcases AN.mp z with z | z
    ·exact n2 (z ▸ h.2.2)
    ·exact h.2.1 z
 apart:=λj k c ga gb ma mb' h1 h2 h3 h4=>by
  have ne:∀ m gc,uX gc=true->m≠i->(Γ.set i (some g))[m]?=some (some gc)->(σ.set i (some (.ref p)))[m]?=some (some (.ref c))->Γ[m]?=some (some gc)/\σ[m]?=some (some (.ref c))/\c≠p:=λm gc mc e h h'=>by
   rw[AO (Ax e)]at h;rw[AO (Ax e)]at h';refine⟨h,h',λz=>?_⟩;obtain⟨v,e1,hg⟩:=r.val m _ h;obtain⟨q,rfl,hq⟩:=hg.own mc;rw[h']at e1;cases e1;exact n1 (z ▸ hq)
  have at_i:∀ m,m=i->(σ.set i (some (.ref p)))[m]?=some (some (.ref c))->c=p:=λm e h=>by
   subst e;rcases Bt m σ.length with z | z
   ·rw[Am z]at h;cases h;rfl
   ·rw[Ce (by simpa using z)]at h;cases h
  by_cases e1:j=i
  ·by_cases e2:k=i
   ·rw[e1,e2]
   ·obtain⟨_,_,n⟩:=ne k gb mb' e2 h2 h4;exact absurd (at_i j e1 h3) n
  ·obtain⟨g1,s1,n⟩:=ne j ga ma e1 h1 h3;by_cases e2:k=i
   ·exact absurd (at_i k e2 h4) n
   ·obtain⟨g2,s2,_⟩:=ne k gb mb' e2 h2 h4;exact r.apart j k c ga gb ma mb' g1 g2 s1 s2
 lst:=λc hc=>by
  rcases AN.mp hc with e | e
  ·subst e;exact⟨ob,hp,mb⟩
  ·exact r.lst c e
 own:=λc hc=>by
  rcases AN.mp hc with e | e
  ·subst e;exact ow
  ·exact r.own c e
 ra:=r.ra
 rl:=λc hc z=>by
  rcases AN.mp z with e | e
  ·subst e;exact n2 hc
  ·exact r.rl c hc e
 frame:=r.frame
 pin:=λq hq=>by
  obtain⟨h1,xs',h2⟩:=r.pin q hq;have:=hn q hq;exact⟨by rw[AO (Ax this)];exact h1,xs',by rw[AO (Ax this)];exact h2⟩
def sV.setl(r:sV K C w Γ σ H)(n1:p∉w.L)(n2:¬ w.R p)(ow:Ow C p)(hp:H p=some (.lst vs))(hv:sf K H vs xs)(hn:∀ q∈C.pins,q.1≠i) :
  sV K C ⟨p::w.L,w.R⟩ (Γ.set i (some (.l xs))) (σ.set i (some (.ref p))) H:=
 r.setm rfl n1 n2 ow hp trivial ⟨p,vs,rfl,AH,hp,hv⟩ hn
def sV.setd(r:sV K C w Γ σ H)(n1:p∉w.L)(n2:¬ w.R p)(ow:Ow C p)(hp:H p=some ob)(hv:wN K H ob kvs)(hn:∀ q∈C.pins,q.1≠i) :
  sV K C ⟨p::w.L,w.R⟩ (Γ.set i (some (.d kvs))) (σ.set i (some (.ref p))) H:=
 r.setm rfl n1 n2 ow hp hv.mu ⟨p,ob,rfl,AH,hp,hv⟩ hn
def sV.newd(r:sV K C w Γ σ H)(h:H p=none)(hi:wN K H ob kvs):tH K C w σ (upd H p ob) (.ref p) (.d kvs):=by
 obtain⟨a,b,c⟩:=r.fresh h;exact⟨p,ob,rfl,a,b,c,Ln,hi.evo (tP.new h) r.lst⟩
end
noncomputable def ud (K:Fg) (C:Fr) (w:W) (σ:St) (H:Hp):List V->List S->Prop
 | [],[]=>True
 | v::vs,s::ss=>tH K C w σ H v s/\ud K C w σ H vs ss
 | _,_=>False
noncomputable def Nw (H:Hp) (v:V):S->Prop
 | .l _=>∃ p,v=.ref p/\H p=none
 | .d _=>∃ p,v=.ref p/\H p=none
 | _=>True
noncomputable def Nws (H:Hp):List V->List S->Prop
 | v::vs,s::ss=>Nw H v s/\Nws H vs ss
 | _,_=>True
theorem Mr(e:tP L H H')(hL:LL L H')(h:H' p=none):H p=none:=by
 cases q:H p with
 | none=>rfl
 | some o =>
  by_cases z:p∈L
  ·obtain⟨vs,u,_⟩:=hL p z;rw[h]at u;cases u
  ·rw[e p o q z]at h;cases h
theorem Nw.back{H H' v s}(n:Nw H' v s)(e:tP L H H')(hL:LL L H'):Nw H v s:=by
 cases s with
 | l xs | d xs=>obtain⟨p,a,b⟩:=n;exact⟨p,a,Mr e hL b⟩
 | v t | s i=>trivial
theorem Nws.back(e:tP L H H')(hL:LL L H'):∀ {vs ss},Nws H' vs ss->Nws H vs ss
 | [],[],_ | [],_::_,_ | _::_,[],_=>trivial
 | _::_,_::_,h=>⟨h.1.back e hL,Nws.back e hL h.2⟩
theorem Nws.get:∀ {vs ss} {k:Nat} {v s},Nws H vs ss->vs[k]?=some v->ss[k]?=some s->Nw H v s
 | [],_,_,_,_,_,e,_ | _::_,[],_,_,_,_,_,e=>by simp at e
 | _::_,_::_,0,_,_,h,e,e'=>by simp at e e';subst e e';exact h.1
 | _::_,_::_,k+1,_,_,h,e,e'=>Nws.get h.2 ‹_› ‹_›
def sW (K:Fg) (te:TE) (f:DE):Prop:=∀ C w Γ σ H s Γ' Q,sV K C w Γ σ H->f Γ=some (s,Γ') ->
 (∀ v H',sV K C w Γ' σ H'->tP w.L H H'->tH K C w σ H' v s->Nw H v s->Q v H')->te σ H Q
def vG (K:Fg) (tt:TT) (f:DT):Prop:=∀ C w Γ σ H b Γ' Q,sV K C w Γ σ H->f Γ=some (b,Γ') ->
 (∀ H',sV K C w Γ' σ H'->tP w.L H H'->Q b H')->tt σ H Q
def ui (K:Fg) (ta:TA) (f:DA):Prop:=∀ C w Γ σ H ss Γ' Q,sV K C w Γ σ H->f Γ=some (ss,Γ') ->
 (∀ vs H',sV K C w Γ' σ H'->tP w.L H H'->ud K C w σ H' vs ss->Nws H vs ss->Q vs H')->ta σ H Q
noncomputable def OkO (K:Fg) (C:Fr) (D:ve):O->Prop
 | .nx Γ=>∀ w σ H,sV K C w Γ σ H->D.nx σ H
 | .rt s Γ=>∀ w σ H v,sV K C w Γ σ H->tH K C w σ H v s->D.rt v H
 | .bk Γ=>∀ w σ H,sV K C w Γ σ H->D.bk σ H
 | .ct Γ=>∀ w σ H,sV K C w Γ σ H->D.ct σ H
def uc (K:Fg) (ip:Option Nat) (ts:TS) (g:DS):Prop:=∀ C w Γ σ H D o,C.pins.map (·.1)=ip.toList->sV K C w Γ σ H->g Γ=some o->OkO K C D o->ts D σ H
def sx (K:Fg) (r:R2) (h:En->S->S->Option S):Prop:=∀ C w Γ σ H x y a b s Q,sV K C w Γ σ H->tH K C w σ H x a->tH K C w σ H y b->h Γ a b=some s ->
 (∀ v H',sV K C w Γ σ H'->tP w.L H H'->tH K C w σ H' v s->Nw H v s->Q v H')->r x y H Q
def ABP (K:Fg) (r:V->Hp->VK->Prop) (h:En->S->Option S):Prop:=∀ C w Γ σ H x a s Q,sV K C w Γ σ H->tH K C w σ H x a->h Γ a=some s ->
 (∀ v H',sV K C w Γ σ H'->tP w.L H H'->tH K C w σ H' v s->Nw H v s->Q v H')->r x H Q
def vA (K:Fg) (r:List V->Hp->VK->Prop) (h:En->List S->Option S):Prop:=∀ C w Γ σ H xs as s Q,sV K C w Γ σ H->ud K C w σ H xs as->h Γ as=some s ->
 (∀ v H',sV K C w Γ σ H'->tP w.L H H'->tH K C w σ H' v s->Nw H v s->Q v H')->r xs H Q
noncomputable def jV (i:Nat):DE:=λΓ=>match Γ[i]? with
 | some (some (.v t))=>some (.v t,Γ)
 | some (some (.l _))=>some (.s i,Γ)
 | some (some (.r _))=>some (.s i,Γ)
 | some (some (.k _))=>some (.s i,Γ)
 | some (some (.d _))=>some (.s i,Γ)
 | some (some (.e _))=>some (.s i,Γ)
 | _=>none
noncomputable def dC (v:V):DE:=λΓ=>some (.v (.a v),Γ)
noncomputable def sI (h:En->S->S->Option S) (fa fb:DE):DE:=λΓ=>(fa Γ).bind λp=>(fb p.2).bind λq=>(h q.2 p.1 q.1).map λs=>(s,q.2)
noncomputable def zt (h:En->S->Option S) (fa:DE):DE:=λΓ=>(fa Γ).bind λp=>(h p.2 p.1).map λs=>(s,p.2)
noncomputable def uC (h:En->List S->Option S) (fa:DA):DE:=λΓ=>(fa Γ).bind λp=>(h p.2 p.1).map λs=>(s,p.2)
noncomputable def qQ:DA:=λΓ=>some ([],Γ)
noncomputable def jW (fa:DE) (fr:DA):DA:=λΓ=>(fa Γ).bind λp=>(fr p.2).bind λq=>some (p.1::q.1,q.2)
noncomputable def S.tree:S->Option T
 | .v t=>some t
 | _=>none
noncomputable def trees:List S->Option (List T)
 | []=>some []
 | s::r=>s.tree.bind λt=>(trees r).map λts=>t::ts
noncomputable def gd {α:Type} (n:Nat) (x:α):Option α:=if n<=AC then some x else none
def ML{x y:α}(h:gd n x=some y):n<=AC/\x=y:=by
 unfold gd at h;split at h
 ·exact⟨by assumption,Av h⟩
 ·cases h
noncomputable def sg (fa:DA):DE:=λΓ=>(fa Γ).bind λp=>(trees p.1).bind λts=>gd ts.length (.v (.t ts),p.2)
noncomputable def tO (fa:DA):DE:=λΓ=>(fa Γ).bind λp=>(trees p.1).bind λts=>gd ts.length (.l ts,p.2)
noncomputable def sM (f:DE):DT:=λΓ=>(f Γ).bind λp=>match p.1 with
 | .v (.a (.bl b))=>some (b,p.2)
 | _=>none
noncomputable def xi (f g:DT):DT:=λΓ=>(f Γ).bind λp=>if p.1=true then g p.2 else some (false,p.2)
noncomputable def z9 (f g:DT):DT:=λΓ=>(f Γ).bind λp=>if p.1=true then some (true,p.2) else g p.2
noncomputable def w8 (f:DT):DT:=λΓ=>(f Γ).bind λp=>some (!p.1,p.2)
noncomputable def yr (f g:DE):DE:=λΓ=>(sM f Γ).bind λp=>if p.1=true then g p.2 else some (.v (.a (.bl false)),p.2)
noncomputable def yL (f:DE):DE:=λΓ=>(sM f Γ).bind λp=>some (.v (.a (.bl !p.1)),p.2)
noncomputable def zX (c:DT) (f g:DE):DE:=λΓ=>(c Γ).bind λp=>if p.1=true then f p.2 else g p.2
noncomputable def wI (h h':En->S->S->Option S) (fa fb fc:DE):DE:=λΓ=>(fa Γ).bind λp=>(fb p.2).bind λq=>(h q.2 p.1 q.1).bind λz=>match z with
 | .v (.a (.bl k))=>if k=true then (fc q.2).bind λu=>(h' u.2 q.1 u.1).map λs=>(s,u.2) else some (.v (.a (.bl false)),q.2)
 | _=>none
section
variable {K:Fg}{ip:Option Nat}
theorem sC{α β:Type}{x:Option α}{f}{y:β}(h:x.bind f=some y):∃ a,x=some a/\f a=some y:=by
 cases x with
 | none=>cases h
 | some a=>exact⟨a,rfl,h⟩
def Lb{α β:Type}{x:Option α}{f}{y:β}(h:x.map f=some y):∃ a,x=some a/\f a=y:=by simp_all
def lQ:sW K (vz i) (jV i):=by
 intro C w Γ σ H s Γ' Q R h k;unfold jV at h;split at h
 ·rename_i t e;cases h;obtain⟨v,e1,e2⟩:=R.val i _ e;exact⟨v,e1,k v H R .refl e2 trivial⟩
 iterate 5
  ·rename_i xs e;cases h;obtain⟨v,e1,e2⟩:=R.val i _ e;exact⟨v,e1,k v H R .refl e1 trivial⟩
 ·cases h
def OA:sW K (tC v) (dC v):=by
 intro C w Γ σ H s Γ' Q R h k;cases h;exact k v H R .refl tH.atom trivial
def M3{h ta tb fa fb}(hr:sx K r h)(ha:sW K ta fa)(hb:sW K tb fb):sW K (tOp r ta tb) (sI h fa fb):=by
 intro C w Γ σ H s Γ' Q R e k;obtain⟨p,e1,e⟩:=sC e;obtain⟨q,e2,e⟩:=sC e;obtain⟨z,e3,e⟩:=Lb e;cases e;exact ha C w Γ σ H p.1 p.2 _ R e1 λv1 H1 R1 ev1 o1 n1=>hb C w p.2 σ H1 q.1 q.2 _ R1 e2 λv2 H2 R2 ev2 o2 n2=>hr C w q.2 σ H2 v1 v2 _ _ _ Q R2 (o1.evo ev2 R1.lst) o2 e3 λv H3 R3 ev3 o3 n3=>k v H3 R3 ((ev1.trans ev2).trans ev3) o3 (n3.back (ev1.trans ev2) R2.lst)
def X0{fa}(hr:ABP K r h)(ha:sW K ta fa):sW K (tUn r ta) (zt h fa):=by
 intro C w Γ σ H s Γ' Q R e k;obtain⟨p,e1,e⟩:=sC e;obtain⟨z,e3,e⟩:=Lb e;cases e;exact ha C w Γ σ H p.1 p.2 _ R e1 λv1 H1 R1 ev1 o1 n1=>hr C w p.2 σ H1 v1 _ _ Q R1 o1 e3 λv H3 R3 ev3 o3 n3=>k v H3 R3 (ev1.trans ev3) o3 (n3.back ev1 R1.lst)
def U7(hr:vA K r h)(ha:ui K ta fa):sW K (tCB r ta) (uC h fa):=by
 intro C w Γ σ H s Γ' Q R e k;obtain⟨p,e1,e⟩:=sC e;obtain⟨z,e3,e⟩:=Lb e;cases e;exact ha C w Γ σ H p.1 p.2 _ R e1 λv1 H1 R1 ev1 o1 n1=>hr C w p.2 σ H1 v1 _ _ Q R1 o1 e3 λv H3 R3 ev3 o3 n3=>k v H3 R3 (ev1.trans ev3) o3 (n3.back ev1 R1.lst)
def SW:ui K ACF qQ:=by
 intro C w Γ σ H s Γ' Q R e k;cases e;exact k [] H R .refl trivial trivial
def iB{tr fa fr}(ha:sW K ta fa)(hr:ui K tr fr):ui K (yw ta tr) (jW fa fr):=by
 intro C w Γ σ H s Γ' Q R e k;obtain⟨p,e1,e⟩:=sC e;obtain⟨q,e2,e⟩:=sC e;cases e;exact ha C w Γ σ H p.1 p.2 _ R e1 λv1 H1 R1 ev1 o1 n1=>hr C w p.2 σ H1 q.1 q.2 _ R1 e2 λvs H2 R2 ev2 o2 n2=>k (v1::vs) H2 R2 (ev1.trans ev2) ⟨o1.evo ev2 R1.lst,o2⟩ ⟨n1,n2.back ev1 R1.lst⟩
theorem Oz{σ H}:∀ {vs ss ts},ud K C w σ H vs ss->trees ss=some ts->sf K H vs ts
 | [],[],_,_,e=>by cases e;exact .nil
 | v::vs,s::ss,_,h,e=>by
  obtain⟨t,e1,e⟩:=sC e;obtain⟨ts,e2,rfl⟩:=Lb e;cases s with
  | v t'=>cases e1;exact .cons h.1 (Oz h.2 e2)
  | l _ | s _ | d _=>cases e1
 | [],_::_,_,h,_ | _::_,[],_,h,_=>h.elim
def kG{fa}(ha:ui K ta fa):sW K (AEE ta) (sg fa):=by
 intro C w Γ σ H s Γ' Q R e k;obtain⟨p,e1,e⟩:=sC e;obtain⟨ts,e2,e⟩:=sC e;obtain⟨hn,e⟩:=ML e;cases e;refine ha C w Γ σ H p.1 p.2 _ R e1 λvs H1 R1 ev1 o1 _=>?_
 have hi:=Oz o1 e2;exact⟨by rw[hi.len];exact hn,λq hq=>k _ _ (R1.new hq) (ev1.trans (tP.new hq)) (R1.newt hq hi) trivial⟩
def lY{fa}(ha:ui K ta fa):sW K (ADA ta) (tO fa):=by
 intro C w Γ σ H s Γ' Q R e k;obtain⟨p,e1,e⟩:=sC e;obtain⟨ts,e2,e⟩:=sC e;obtain⟨hn,e⟩:=ML e;cases e;refine ha C w Γ σ H p.1 p.2 _ R e1 λvs H1 R1 ev1 o1 _=>?_
 have hi:=Oz o1 e2;exact⟨by rw[hi.len];exact hn,λq hq=>k _ _ (R1.new hq) (ev1.trans (tP.new hq)) (R1.newl hq hi) ⟨_,rfl,Mr ev1 R1.lst hq⟩⟩
def Nv(ha:sW K ta fa):vG K (AAO ta) (sM fa):=by
 intro C w Γ σ H s Γ' Q R e k;obtain⟨p,e1,e⟩:=sC e;obtain⟨p1,p2⟩:=p;dsimp only at e;split at e
 ·cases e;exact ha C w Γ σ H _ _ _ R e1 λv H1 R1 ev1 o1 _=>⟨_,tH.inva o1,k H1 R1 ev1⟩
 ·cases e
theorem W9{fa fb}(ha:vG K ta fa)(hb:vG K tb fb):vG K (ADl ta tb) (xi fa fb):=by
 intro C w Γ σ H s Γ' Q R e k;obtain⟨⟨p,G1⟩,e1,e⟩:=sC e;refine ha C w Γ σ H p G1 _ R e1 λH1 R1 ev1=>?_
 cases p with
 | true=>exact (if_pos rfl).mpr (hb C w G1 σ H1 s Γ' Q R1 ‹_› λH2 R2 ev2=>k H2 R2 (ev1.trans ev2))
 | false =>
  have e':(false,G1)=(s,Γ'):=by simpa using e
  cases e';exact (if_neg AZ).mpr (k H1 R1 ev1)
theorem kg{fa fb}(ha:vG K ta fa)(hb:vG K tb fb):vG K (tOr ta tb) (z9 fa fb):=by
 intro C w Γ σ H s Γ' Q R e k;obtain⟨⟨p,G1⟩,e1,e⟩:=sC e;refine ha C w Γ σ H p G1 _ R e1 λH1 R1 ev1=>?_
 cases p with
 | false=>exact (if_neg AZ).mpr (hb C w G1 σ H1 s Γ' Q R1 ‹_› λH2 R2 ev2=>k H2 R2 (ev1.trans ev2))
 | true =>
  have e':(true,G1)=(s,Γ'):=by simpa using e
  cases e';exact (if_pos rfl).mpr (k H1 R1 ev1)
def mW{fa}(ha:vG K ta fa):vG K (AEI ta) (w8 fa):=by
 intro C w Γ σ H s Γ' Q R e k;obtain⟨p,e1,e⟩:=sC e;cases e;exact ha C w Γ σ H p.1 p.2 _ R e1 λH1 R1 ev1=>k H1 R1 ev1
theorem fE{fa fb}(ha:sW K ta fa)(hb:sW K tb fb):sW K (ABG ta tb) (yr fa fb):=by
 intro C w Γ σ H s Γ' Q R e k;obtain⟨⟨p,G1⟩,e1,e⟩:=sC e;refine (Nv ha) C w Γ σ H p G1 (λc H1=>if c=true then tb σ H1 Q else Q (.bl false) H1) R e1 λH1 R1 ev1=>?_
 cases p with
 | true=>exact (if_pos rfl).mpr (hb C w G1 σ H1 s Γ' Q R1 ‹_› λv H2 R2 ev2 o n=>k v H2 R2 (ev1.trans ev2) o (n.back ev1 R1.lst))
 | false =>
  have e':(S.v (.a (.bl false)),G1)=(s,Γ'):=by simpa using e
  cases e';exact (if_neg AZ).mpr (k _ H1 R1 ev1 tH.atom trivial)
def Ws{ta:TE}{fa:DE}(ha:sW K ta fa):sW K (ABQ ta) (yL fa):=by
 intro C w Γ σ H s Γ' Q R e k;obtain⟨⟨p,G1⟩,e1,e⟩:=sC e;cases e;exact (Nv ha) C w Γ σ H p G1 (λc H1=>Q (.bl (!c)) H1) R e1 λH1 R1 ev1=>k _ H1 R1 ev1 tH.atom trivial
theorem mn{ta tb fc fa fb}(hc:vG K tc fc)(ha:sW K ta fa)(hb:sW K tb fb):sW K (tIf tc ta tb) (zX fc fa fb):=by
 intro C w Γ σ H s Γ' Q R e k;obtain⟨⟨p,G1⟩,e1,e⟩:=sC e;refine hc C w Γ σ H p G1 _ R e1 λH1 R1 ev1=>?_
 cases p with
 | true=>exact (if_pos rfl).mpr (ha C w G1 σ H1 s Γ' Q R1 ‹_› λv H2 R2 ev2 o n=>k v H2 R2 (ev1.trans ev2) o (n.back ev1 R1.lst))
 | false=>exact (if_neg AZ).mpr (hb C w G1 σ H1 s Γ' Q R1 ‹_› λv H2 R2 ev2 o n=>k v H2 R2 (ev1.trans ev2) o (n.back ev1 R1.lst))
def eD{r r':R2}{h h':En->S->S->Option S}{ta tb tc:TE}{fa fb fc:DE}(hr:sx K r h)(hr':sx K r' h')(ha:sW K ta fa)(hb:sW K tb fb)(hc:sW K tc fc):sW K (AAD r r' ta tb tc) (wI h h' fa fb fc):=by
 intro C w Γ σ H s Γ' Q R e k;obtain⟨⟨p,G1⟩,e1,e⟩:=sC e;obtain⟨⟨q,G2⟩,e2,e⟩:=sC e;obtain⟨z,e3,e⟩:=sC e;dsimp only at e3 e;refine ha C w Γ σ H p G1 _ R e1 λv1 H1 R1 ev1 o1 n1=>?_
 refine hb C w G1 σ H1 q G2 _ R1 e2 λv2 H2 R2 ev2 o2 n2=>?_
 refine hr C w G2 σ H2 v1 v2 _ _ _ _ R2 (o1.evo ev2 R1.lst) o2 e3 λv H3 R3 ev3 o3 n3=>?_
 split at e
 ·rename_i c;refine⟨c,tH.inva o3,?_⟩;cases c with
  | true =>
   rw[if_pos rfl]at e ⊢;obtain⟨⟨u,G3⟩,e4,e⟩:=sC e;obtain⟨z,e5,e⟩:=Lb e;cases e;refine hc C w G2 σ H3 u G3 _ R3 e4 λv4 H4 R4 ev4 o4 _=>?_
   exact hr' C w G3 σ H4 v2 v4 _ _ _ Q R4 ((o2.evo ev3 R2.lst).evo ev4 R3.lst) o4 e5 λv H5 R5 ev5 o5 n5=>k v H5 R5 ((((ev1.trans ev2).trans ev3).trans ev4).trans ev5) o5 (n5.back (((ev1.trans ev2).trans ev3).trans ev4) R4.lst)
  | false =>
   rw[if_neg AZ]at e ⊢;cases e;exact k _ H3 R3 ((ev1.trans ev2).trans ev3) tH.atom trivial
 ·cases e
end
noncomputable def sU:DS:=λΓ=>some (.nx Γ)
noncomputable def sG (f g:DS):DS:=λΓ=>(f Γ).bind λo=>match o with
 | .nx Γ'=>g Γ'
 | o=>some o
noncomputable def ux:DS:=λ_=>none
noncomputable def t6 (f:DE):DS:=λΓ=>(f Γ).map λp=>.nx p.2
noncomputable def sS (f:DE):DS:=λΓ=>(f Γ).map λp=>.rt p.1 p.2
noncomputable def uI (c:DT) (f g:DS):DS:=λΓ=>(c Γ).bind λp=>if p.1=true then f p.2 else g p.2
noncomputable def ye (i:Nat) (s:S) (Γ:En):Option En:=match s with
 | .v t=>some (Γ.set i (some (.v t)))
 | .l xs=>some (Γ.set i (some (.l xs)))
 | .d xs=>some (Γ.set i (some (.d xs)))
 | .s j=>match Γ[j]? with
  | some (some (.r xs))=>some (Γ.set i (some (.r xs)))
  | _=>none
noncomputable def sQ (i:Nat) (f:DE):DS:=λΓ=>(f Γ).bind λp=>(ye i p.1 p.2).map .nx
noncomputable def su (c:DT) (b:DS):Nat->DS
 | 0=>λ_=>none
 | n+1=>λΓ=>(c Γ).bind λp=>if p.1=true then (b p.2).bind λo=>match o with
   | .nx Γ'=>su c b n Γ'
   | .ct Γ'=>su c b n Γ'
   | .bk Γ'=>some (.nx Γ')
   | .rt s Γ'=>some (.rt s Γ')
  else some (.nx p.2)
section
variable {K:Fg}{ip:Option Nat}
def jT:uc K ip ABd sU:=λC w Γ σ H D o _ R e k=>by cases e;exact k w σ H R
def YQ{ts:DS}:uc K ip AAL ux:=λC w Γ σ H D o _ R e k=>by cases e
theorem dX{f g}(h1:uc K ip t f)(h2:uc K ip u g):uc K ip (ADO t u) (sG f g):=by
 intro C w Γ σ H D o hp R e k;obtain⟨o1,e1,e⟩:=sC e;refine h1 C w Γ σ H _ o1 hp R e1 ?_;cases o1 with
 | nx Γ1=>exact λw' σ' H' R'=>h2 C w' Γ1 σ' H' D o hp R' e k
 | rt s Γ1 | bk Γ1 | ct Γ1=>cases e;exact k
def aE(h:sW K te f):uc K ip (ABN te) (t6 f):=by
 intro C w Γ σ H D o hp R e k;obtain⟨p,e1,rfl⟩:=Lb e;exact h C w Γ σ H p.1 p.2 _ R e1 λv H1 R1 _ _ _=>k w σ H1 R1
def aM(h:sW K te f):uc K ip (ADT te) (sS f):=by
 intro C w Γ σ H D o hp R e k;obtain⟨p,e1,rfl⟩:=Lb e;exact h C w Γ σ H p.1 p.2 _ R e1 λv H1 R1 _ o _=>k w σ H1 v R1 o
theorem jw{t u c f g}(hc:vG K tc c)(h1:uc K ip t f)(h2:uc K ip u g):uc K ip (AEh tc t u) (uI c f g):=by
 intro C w Γ σ H D o hp R e k;obtain⟨⟨p,G1⟩,e1,e⟩:=sC e;refine hc C w Γ σ H p G1 _ R e1 λH1 R1 _=>?_
 cases p with
 | true=>exact (if_pos rfl).mpr (h1 C w G1 σ H1 D o hp R1 ‹_› k)
 | false=>exact (if_neg AZ).mpr (h2 C w G1 σ H1 D o hp R1 ‹_› k)
def MU{C:Fr}{i}(hp:C.pins.map (·.1)=ip.toList)(hi:ip≠some i):∀ q∈C.pins,q.1≠i:=λq hq e=>by
 have:=hp ▸ Ao.mpr ⟨q,hq,rfl⟩;simp_all
theorem Zk{Γ Γ' σ H v s i}(R:sV K C w Γ σ H)(o:tH K C w σ H v s)(e:ye i s Γ=some Γ')(hn:∀ q∈C.pins,q.1≠i):∃ w',sV K C w' Γ' (σ.set i (some v)) H:=by
 cases s with
 | v t=>cases e;exact⟨w,R.setv rfl o hn⟩
 | d xs =>
  cases e;obtain⟨p,vs,rfl,n1,n2,ow,h1,h2⟩:=o;exact⟨_,R.setd n1 n2 ow h1 h2 hn⟩
 | l xs =>
  cases e;obtain⟨p,vs,rfl,n1,n2,ow,h1,h2⟩:=o;exact⟨_,R.setl n1 n2 ow h1 h2 hn⟩
 | s j =>
  unfold ye at e;dsimp only at e;split at e
  ·rename_i xs he;cases e;obtain⟨v',e1,e2⟩:=R.val j _ he;rw[o]at e1;cases e1;exact⟨w,R.setv rfl e2 hn⟩
  ·cases e
def R9{i}(h:sW K te f)(hi:ip≠some i):uc K ip (yq te (xR i)) (sQ i f):=by
 intro C w Γ σ H D o hp R e k;obtain⟨p,e1,e⟩:=sC e;obtain⟨Γ1,e2,rfl⟩:=Lb e;refine h C w Γ σ H p.1 p.2 _ R e1 λv H1 R1 _ o1 _=>?_
 obtain⟨w',R'⟩:=Zk R1 o1 e2 (MU hp hi);exact k w' _ H1 R'
theorem cN{tb c b} n (hc:vG K tc c) (hb:uc K ip tb b):uc K ip (AAE tc tb) (su c b n):=by
 intro C w Γ σ H D o hp R e k;refine⟨λm σ H=>∃ w Γ,sV K C w Γ σ H/\su c b m Γ=some o,⟨n,w,Γ,R,e⟩,?_⟩;rintro m σ1 H1 ⟨w1,Γ1,R1,e1⟩;cases m with
 | zero=>cases e1
 | succ m =>
  unfold su at e1;obtain⟨⟨p,G2⟩,e2,e1⟩:=sC e1;refine hc C w1 Γ1 σ1 H1 p G2 _ R1 e2 λH2 R2 _=>?_
  cases p with
  | false =>
   cases e1;exact k w1 σ1 H2 R2
  | true =>
   obtain⟨o2,e3,e1⟩:=sC e1;refine⟨λσ' H'=>∃ w Γ,sV K C w Γ σ' H'/\su c b m Γ=some o,λσ' H' ⟨w',Γ',R',e'⟩=>⟨m,CT _,w',Γ',R',e'⟩,hb C w1 G2 σ1 H2 _ o2 hp R2 e3 ?_⟩;cases o2 with
   | nx Γ' | ct Γ'=>exact λw' σ' H' R'=>⟨w',Γ',R',e1⟩
   | bk Γ' | rt s Γ'=>cases e1;exact k
end
section
variable {K:Fg}{C:Fr}{w:W}{Γ Γ':En}{σ:St}{H H':Hp}
def sV.base(R:sV K C w Γ σ H):sV K ⟨H,w.L,C.pins⟩ w Γ σ H:=
 ⟨R.len,R.val,R.apart,R.lst,λp hp=>.inl hp,R.ra,R.rl,λb o h _=>h,R.pin⟩
def sV.back(R:sV K C w Γ σ H)(hC:C1=⟨H,w.L,C.pins⟩)(R1:sV K C1 w1 Γ1 σ1 H1):sV K C w1 Γ1 σ1 H1:=by
 subst hC;refine⟨R1.len,R1.val,R1.apart,R1.lst,λp hp=>?_,R1.ra,R1.rl,λb o h n=>R1.frame b o (R.frame b o h n) λz=>?_,R1.pin⟩
 ·rcases R1.own p hp with z | z
  ·exact R.own p z
  ·exact (R.fresh z).2.2
 ·rcases R.own b z with q | q
  ·exact n q
  ·rw[q]at h;cases h
def Ow.back(R:sV K C w Γ σ H)(hC:C1=⟨H,w.L,C.pins⟩)(h:Ow C1 p):Ow C p:=by
 subst hC;rcases h with z | z
 ·exact R.own p z
 ·exact (R.fresh z).2.2
theorem tH.back(R:sV K C w Γ σ H)(hC:C1=⟨H,w.L,C.pins⟩)(o:tH K C1 w1 σ1 H1 v s):tH K C w1 σ1 H1 v s:=by
 cases s with
 | v t | s i=>exact o
 | l xs | d xs =>
  obtain⟨p,vs,e,n1,n2,ow,h1,h2⟩:=o;exact⟨p,vs,e,n1,n2,Ow.back R hC ow,h1,h2⟩
def sV.freeze(R:sV K C w Γ σ H)(hi:Γ[i]?=some (some (.l xs)))(hp:σ[i]?=some (some (.ref p)))(hn:∀ q∈C.pins,q.1≠i) :
  sV K C ⟨w.L.filter (λq=>decide (q≠p)),λq=>q=p\/w.R q⟩ (Γ.set i (some (.r xs))) σ H:=by
 have hiΓ:=(Ac.mp hi).1;obtain⟨v0,e0,q0,vs0,rfl,hq0,hv0,hi0⟩:=R.val i _ hi;rw[hp]at e0;cases e0;have mem:∀ {q:Addr},q∈w.L.filter (λq=>decide (q≠p)) ↔ q∈w.L/\q≠p:=by intro q;simp
 have back:∀ m g,uX g=true->(Γ.set i (some (.r xs)))[m]?=some (some g)->m≠i/\Γ[m]?=some (some g):=λm g mg h=>by
  by_cases hm:m=i
  ·subst hm;rw[Am hiΓ]at h;cases h;cases mg
  ·rw[AO (Ax hm)]at h;exact⟨hm,h⟩
 refine⟨by simpa using R.len,λj g h=>?_,λj k c ga gb ma mb h1 h2 h3 h4=>?_,λc hc=>R.lst c (mem.mp hc).1,λc hc=>R.own c (mem.mp hc).1,λc hc=>?_,λc hc z=>?_,R.frame,λq hq=>?_⟩
 ·by_cases hj:j=i
  ·subst hj;rw[Am hiΓ]at h;cases h;exact⟨_,hp,p,vs0,rfl,hi0,hv0,λz=>(mem.mp z).2 rfl,.inl rfl⟩
  ·rw[AO (Ax hj)]at h;obtain⟨v,e1,e2⟩:=R.val j g h;refine⟨v,e1,?_⟩;cases g with
   | v t | k ys=>exact e2
   | l ys | d ys =>
    obtain⟨c,us,rfl,hc,h1,h2⟩:=e2;exact⟨c,us,rfl,mem.mpr ⟨hc,λz=>hj (R.apart j i p _ _ rfl rfl h hi (z ▸ e1) hp)⟩,h1,h2⟩
   | r ys | e ys =>
    obtain⟨c,us,rfl,h1,h2⟩:=e2;exact⟨c,us,rfl,h1,h2.1,λz=>h2.2.1 (mem.mp z).1,.inr h2.2.2⟩
 ·obtain⟨_,g1⟩:=back j ga ma h1;obtain⟨_,g2⟩:=back k gb mb h2;exact R.apart j k c ga gb ma mb g1 g2 h3 h4
 ·rcases hc with e | e
  ·subst e;exact⟨_,hv0⟩
  ·exact R.ra c e
 ·rcases hc with e | e
  ·exact (mem.mp z).2 e
  ·exact R.rl c e (mem.mp z).1
 ·obtain⟨h1,zs,h2⟩:=R.pin q hq;exact⟨h1,zs,by rw[AO (Ax (hn q hq))];exact h2⟩
noncomputable def x6 (Γ:En) (i:Nat):En:=match Γ[i]? with
 | some (some (.l xs))=>Γ.set i (some (.r xs))
 | _=>Γ
noncomputable def frz (Γ:En) (src:List Nat):En:=src.foldl x6 Γ
theorem sV.frz:∀ src {w Γ},sV K C w Γ σ H->(∀ i∈src,∀ q∈C.pins,q.1≠i) ->
  ∃ w',sV K C w' (frz Γ src) σ H/\(∀ p∈w'.L,p∈w.L)/\∀ i∈src,∀ p,σ[i]?=some (some (.ref p))->(∃ xs,Γ[i]?=some (some (.l xs)))->p∉w'.L:=by
 intro src;induction src with
 | nil=>intro w Γ R _;exact⟨w,R,λp h=>h,λi hi=>nomatch hi⟩
 | cons i r ih =>
  intro w Γ R hn;have step:∃ w1,sV K C w1 (x6 Γ i) σ H/\(∀ p∈w1.L,p∈w.L)/\(∀ p,σ[i]?=some (some (.ref p))->(∃ xs,Γ[i]?=some (some (.l xs)))->p∉w1.L):=by
   unfold x6;split
   ·rename_i xs e;obtain⟨v,e1,p,vs,rfl,_⟩:=R.val i _ e;refine⟨_,R.freeze e e1 (hn i AH),λq hq=>(Bu.mp hq).1,λq hq _ z=>?_⟩;simp_all
   ·rename_i e;exact⟨w,R,λp h=>h,λp _ ⟨xs,h⟩=>absurd h (e xs)⟩
  obtain⟨w1,R1,s1,n1⟩:=step;obtain⟨w2,R2,s2,n2⟩:=ih R1 (λj hj=>hn j (AI _ hj));refine⟨w2,R2,λp h=>s1 p (s2 p h),λj hj p hp hx=>?_⟩;rcases AN.mp hj with e | e
  ·subst e;exact λz=>n1 p hp hx (s2 p z)
  ·by_cases hji:j=i
   ·subst hji;exact λz=>n1 p hp hx (s2 p z)
   ·refine n2 j e p hp ?_;obtain⟨xs,hx⟩:=hx;refine⟨xs,?_⟩;unfold x6;split
    ·rw[AO (Ax hji)];exact hx
    ·exact hx
end
abbrev DI:=En->Option ((List T×List Nat)×En)
def ADW (K:Fg) (w:W) (Γ:En) (σ:St) (J:It) (H:Hp) (its:List T) (src:List Nat):Prop:=its.length<=AC/\∀ L',(∀ p∈L',p∈w.L)->(∀ i∈src,∀ p,σ[i]?=some (some (.ref p))->(∃ xs,Γ[i]?=some (some (.l xs)))->p∉L')->∀ H2,tP L' H H2 ->
 (∀ i t,its[i]?=some t->J.go i H2/\∀ x H3,J.yld i H2 x H3->(∀ b o,H2 b=some o->H3 b=some o)/\Im K H3 x t)/\J.stop its.length H2
def yJ (K:Fg) (wi:TI) (di:DI):Prop:=∀ C w Γ σ H its src Γ' R,sV K C w Γ σ H->di Γ=some ((its,src),Γ') ->
 (∀ J H',sV K C w Γ' σ H'->tP w.L H H'->ADW K w Γ' σ J H' its src->R J H')->wi σ H R
def yA (K:Fg) (ip:Option Nat) (g:TG) (tg:En->T->Option En):Prop:=∀ C w Γ σ H v t Γ' Q,C.pins.map (·.1)=ip.toList->sV K C w Γ σ H->Im K H v t->tg Γ t=some Γ' ->
 (∀ σ',sV K C w Γ' σ' H->Q σ' H)->g v σ H Q
def yF (K:Fg) (ip:Option Nat) (g:TGs) (tg:En->List T->Option En):Prop:=∀ C w Γ σ H vs ts Γ' Q,C.pins.map (·.1)=ip.toList->sV K C w Γ σ H->sf K H vs ts->tg Γ ts=some Γ' ->
 (∀ σ',sV K C w Γ' σ' H->Q σ' H)->g vs σ H Q
noncomputable def sJ (i:Nat):En->T->Option En:=λΓ t=>some (Γ.set i (some (.v t)))
noncomputable def wO:En->List T->Option En:=λΓ ts=>match ts with
 | []=>some Γ
 | _=>none
noncomputable def uF (f:En->T->Option En) (g:En->List T->Option En):En->List T->Option En:=λΓ ts=>match ts with
 | []=>none
 | t::r=>(f Γ t).bind λΓ1=>g Γ1 r
noncomputable def vj (n:Nat) (g:En->List T->Option En):En->T->Option En:=λΓ t=>match t with
 | .t ts=>if ts.length=n then g Γ ts else none
 | _=>none
section
variable {K:Fg}{ip:Option Nat}
def fW(hi:ip≠some i):yA K ip (xR i) (sJ i):=by
 intro C w Γ σ H v t Γ' Q hp R h e k;cases e;exact k _ (R.setv rfl h (MU hp hi))
theorem af:yF K ip ADg wO:=by
 intro C w Γ σ H vs ts Γ' Q hp R h e k;cases ts with
 | nil=>cases e;exact⟨h.inv0,k σ R⟩
 | cons t r=>cases e
theorem mN(h1:yA K ip g f)(h2:yF K ip gs fs):yF K ip (ABa g gs) (uF f fs):=by
 intro C w Γ σ H vs ts Γ' Q hp R h e k;cases ts with
 | nil=>cases e
 | cons t r =>
  obtain⟨Γ1,e1,e2⟩:=sC e;obtain⟨v,us,rfl,i1,i2⟩:=h.inv;exact⟨v,us,rfl,h1 C w Γ σ H v t Γ1 _ hp R i1 e1 λσ1 R1=>h2 C w Γ1 σ1 H us r Γ' Q hp R1 i2 e2 k⟩
theorem kM(h:yF K ip gs fs):yA K ip (ACc K n gs) (vj n fs):=by
 intro C w Γ σ H v t Γ' Q hp R hi e k;cases t with
 | a u | l u | f u | x u v | w u=>cases e
 | t ts =>
  unfold vj at e;dsimp only at e;split at e
  ·rename_i hn;obtain⟨p,us,rfl,h1,h2⟩:=hi.inv;exact⟨p,us,rfl,h1.sq,by rw[h2.len];exact hn,h C w Γ σ H us ts Γ' Q hp R h2 e k⟩
  ·cases e
end
noncomputable def tX (tg:En->T->Option En) (b:DS):List T->DS
 | []=>λΓ=>some (.nx Γ)
 | t::r=>λΓ=>(tg Γ t).bind λΓ1=>(b Γ1).bind λo=>match o with
  | .nx Γ'=>tX tg b r Γ'
  | .ct Γ'=>tX tg b r Γ'
  | .bk Γ'=>some (.nx Γ')
  | .rt s Γ'=>some (.rt s Γ')
noncomputable def uy (ip:Option Nat) (di:DI) (tg:En->T->Option En) (b:DS):DS:=λΓ=>(di Γ).bind λp=>if p.1.2.all (λi=>decide (ip≠some i))=true then tX tg b p.1.1 (frz p.2 p.1.2) else none
def fG(hi:yJ K wi di)(hg:yA K ip g tg)(hb:uc K ip tb b):uc K ip (ADH wi g tb) (uy ip di tg b):=by
 intro C w Γ σ H D o hp R e k;obtain⟨⟨⟨its,src⟩,Γ1⟩,e1,e⟩:=sC e;dsimp only at e;split at e
 rotate_left
 ·cases e
 rename_i hsrc;refine hi C w Γ σ H its src Γ1 _ R e1 λJ H1 R1 _ ⟨hl,hJ⟩=>?_
 obtain⟨w2,R2,sub,avoid⟩:=R1.frz src (λi hi'=>MU hp (by have:=AJ.mp hsrc i hi';simpa using this));have hC:∃ C1:Fr,C1=⟨H1,w2.L,C.pins⟩:=⟨_,rfl⟩
 obtain⟨C1,hC⟩:=hC;have hp1:C1.pins.map (·.1)=ip.toList:=by rw[hC];exact hp
 refine⟨λi m σ H=>m=its.length - i/\i<=its.length/\∃ w Γ,sV K C1 w Γ σ H/\tX tg b (its.drop i) Γ=some o,⟨_,rfl,As _,w2,_,(hC ▸ R2.base),e⟩,?_⟩;rintro i m σ' H' ⟨rfl,hi',w',Γ',R',e'⟩;have ev:tP w2.L H1 H':=λb o h n=>R'.frame b o (by rw[hC];exact h) (by rw[hC];exact n)
 obtain⟨go,stop⟩:=hJ w2.L sub avoid H' ev;by_cases hlt:i < its.length
 ·obtain⟨t,ht⟩:∃ t,its[i]?=some t:=⟨its[i],by simp⟩
  have hd:its.drop i=t::its.drop (i+1):=by
   obtain⟨h1,h2⟩:=Ac.mp ht;rw[← h2];exact Ge h1
  rw[hd]at e';unfold tX at e';obtain⟨Γ2,e2,e'⟩:=sC e';obtain⟨o2,e3,e'⟩:=sC e';obtain⟨g1,g2⟩:=go i t ht;refine .inr ⟨g1,λσ H=>∃ w Γ,sV K C1 w Γ σ H/\tX tg b (its.drop (i+1)) Γ=some o,λσ2 H2 ⟨w2,Γ2,R2,e2⟩=>⟨_,by lia,rfl,hlt,w2,Γ2,R2,e2⟩,λx H3 hx=>?_⟩;obtain⟨k1,k2⟩:=g2 x H3 hx;refine hg C1 w' Γ' σ' H3 x t Γ2 _ hp1 (R'.evo0 k1) k2 e2 λσ4 R4=>hb C1 w' Γ2 σ4 H3 _ o2 hp1 R4 e3 ?_
  cases o2 with
  | nx Γ5 | ct Γ5=>exact λw5 σ5 H5 R5=>⟨w5,Γ5,R5,e'⟩
  | bk Γ5=>cases e';exact λw5 σ5 H5 R5=>k w5 σ5 H5 (R2.back hC R5)
  | rt s Γ5=>cases e';exact λw5 σ5 H5 v R5 o5=>k w5 σ5 H5 v (R2.back hC R5) (o5.back R2 hC)
 ·have:i=its.length:=by lia
  subst this;rw[IY]at e';cases e';exact .inl ⟨stop,k w' σ' H' (R2.back hC R')⟩
noncomputable def u7 (mu:Option Nat) (k:Nat):Option G->Option G
 | some (.l xs)=>if mu=some k then some (.l xs) else some (.r xs)
 | some (.d xs)=>some (.e xs)
 | o=>o
noncomputable def vQ (mu:Option Nat) (ix:List (Option Nat)) (Γ:En):En:=ix.map λo=>o.bind λk=>u7 mu k (Γ[k]?).join
noncomputable def uD (tg:En->T->Option En) (dc:DT) (de:DE):List T->En->Option (List T×En)
 | [],Γ=>some ([],Γ)
 | t::r,Γ=>(tg Γ t).bind λΓ1=>(dc Γ1).bind λp=>if p.1=true then (de p.2).bind λq=>q.1.tree.bind λt'=>(uD tg dc de r q.2).map λz=>(t'::z.1,z.2) else uD tg dc de r p.2
noncomputable def xu (mu:Option (Nat×Nat)) (Γ Γo:En):En:=match mu with
 | none=>Γ
 | some (j,i)=>match Γo[j]? with
  | some (some (.l xs))=>Γ.set i (some (.l xs))
  | _=>Γ
noncomputable def uE (mu:Option (Nat×Nat)) (ix:List (Option Nat)) (di:DI) (tg:En->T->Option En) (dc:DT) (de:DE):DE:=λΓ=>(di Γ).bind λp =>
 match mu with
 | none=>(uD tg dc de p.1.1 (vQ none ix p.2)).map λz=>(.l z.1,p.2)
 | some (j,i)=>if i∈p.1.2 then none else match p.2[i]? with
  | some (some (.l _))=>(uD tg dc de p.1.1 (vQ (some i) ix p.2)).map λz=>(.l z.1,xu mu p.2 z.2)
  | _=>none
section
variable {K:Fg}
def WO
  (hp:C1.pins.map (·.1)=jp.toList) (hg:yA K jp g tg) (hc:vG K tc dc) (he:sW K te de) (hl:its.length<=AC) (hC:C1.H0=H1)
  (hJ:∀ H2,tP C1.fx H1 H2->(∀ i t,its[i]?=some t->J.go i H2/\∀ x H3,J.yld i H2 x H3->(∀ b o,H2 b=some o->H3 b=some o)/\Im K H3 x t)/\J.stop its.length H2)
  (hfx:∀ p,p∈w1.L->p∈C1.fx)
  (R:sV K C1 w1 Γ0 (yZ ix σ) H1) (e:uD tg dc de its Γ0=some (ts,Γe))
  (k:∀ σ' H' ys,sV K C1 w1 Γe σ' H'->sf K H' ys ts->ys.length<=AC->∀ D,H' D=none->Q (.ref D) (upd H' D (.lst ys))):ABH J ix g tc te σ H1 Q:=by
 refine⟨λi m ys σ' H'=>m=its.length - i/\i<=its.length/\ys.length<=i/\∃ Γ pre post,sV K C1 w1 Γ σ' H'/\sf K H' ys pre/\uD tg dc de (its.drop i) Γ=some (post,Γe)/\ts=pre++post,⟨_,rfl,As _,As _,Γ0,[],ts,R,.nil,e,rfl⟩,?_⟩;rintro i m ys σ' H' ⟨rfl,hi,hy,Γ,pre,post,R',hpre,e',rfl⟩;obtain⟨go,stop⟩:=hJ H' (λb o h n=>R'.frame b o (by rw[hC];exact h) n);by_cases hlt:i < its.length
 ·obtain⟨t,ht⟩:∃ t,its[i]?=some t:=⟨its[i],by simp⟩
  have hd:its.drop i=t::its.drop (i+1):=by
   obtain⟨h1,h2⟩:=Ac.mp ht;rw[← h2];exact Ge h1
  rw[hd]at e';unfold uD at e';obtain⟨Γ1,e1,e'⟩:=sC e';obtain⟨⟨b,Γ2⟩,e2,e'⟩:=sC e';obtain⟨g1,g2⟩:=go i t ht;refine .inr ⟨g1,by lia,λys' σ2 H2=>ys'.length<=i+1/\∃ Γ pre' post',sV K C1 w1 Γ σ2 H2/\sf K H2 ys' pre'/\uD tg dc de (its.drop (i+1)) Γ=some (post',Γe)/\pre++post=pre'++post',λys' σ2 H2 ⟨a,b⟩=>⟨_,by lia,rfl,hlt,a,b⟩,λx H2 hx=>?_⟩;obtain⟨k1,k2⟩:=g2 x H2 hx;have ev1:tP w1.L H' H2:=λb o h _=>k1 b o h
  refine hg C1 w1 Γ σ' H2 x t Γ1 _ hp (R'.evo0 k1) k2 e1 λσ3 R3=>hc C1 w1 Γ1 σ3 H2 b Γ2 _ R3 e2 λH4 R4 ev4=>?_
  have hpre4:=(hpre.evo ev1 R'.lst).evo ev4 R3.lst;cases b with
  | true =>
   rw[if_pos rfl]at e' ⊢;obtain⟨⟨s,Γ3⟩,e3,e'⟩:=sC e';obtain⟨t',e4,e'⟩:=sC e';obtain⟨⟨ts',Γ4⟩,e5,e'⟩:=Lb e';cases e';refine he C1 w1 Γ2 σ3 H4 s Γ3 _ R4 e3 λv H5 R5 ev5 o5 _=>?_
   cases s with
   | l _ | s _ | d _=>cases e4
   | v t'' =>
    cases e4;exact⟨by simp;lia,Γ3,pre++[t'],ts',R5,(hpre4.evo ev5 R4.lst).app (.one o5),e5,by simp⟩
  | false =>
   exact⟨by lia,Γ2,pre,post,R4,hpre4,e',rfl⟩
 ·have:i=its.length:=by lia
  subst this;rw[IY]at e';cases e';rw[Bv]at k;exact .inl ⟨stop,by lia,k σ' H' ys R' hpre ⋯⟩
theorem O6{ix Γ}{j:Nat}{g}(h:(vQ mu ix Γ)[j]?=some (some g)):∃ k g',ix[j]?=some (some k)/\Γ[k]?=some (some g')/\u7 mu k (some g')=some g:=by
 unfold vQ at h;rw[Ak]at h;cases e:ix[j]? with
 | none=>rw[e]at h;cases h
 | some o =>
  rw[e]at h;cases o with
  | none=>cases h
  | some k =>
   have h':u7 mu k (Γ[k]?).join=some g:=Av h;cases e2:Γ[k]? with
   | none=>rw[e2]at h';cases h'
   | some o2 =>
    cases o2 with
    | none=>rw[e2]at h';cases h'
    | some g'=>rw[e2]at h';exact⟨k,g',rfl,e2,h'⟩
def P0{j k:Nat}{v}(h:ix[j]?=some (some k))(hv:σ[k]?=some (some v)):(yZ ix σ)[j]?=some (some v):=by
 unfold yZ;simp_all
theorem V7{wi g tc te di tg dc de}(hi:yJ K wi di)(hg:yA K (mu.map (·.1)) g tg)(hc:vG K tc dc)(he:sW K te de)
  (hmu:∀ j i,mu=some (j,i)->ix[j]?=some (some i)) (hix:∀ (j j' i:Nat),mu.map (·.2)=some i->ix[j]?=some (some i)->ix[j']?=some (some i)->j=j'):sW K (yt wi ix g tc te) (uE mu ix di tg dc de):=by
 intro C w Γ σ H s Γ' Q R e k;obtain⟨⟨⟨its,src⟩,Γ1⟩,e1,e⟩:=sC e;refine hi C w Γ σ H its src Γ1 _ R e1 λJ H1 R1 ev1 ⟨hl,hJ⟩=>?_
 cases mu with
 | none =>
  obtain⟨⟨ts,Γe⟩,e2,e⟩:=Lb e;cases e;have Rin:sV K ⟨H1,[],[]⟩ ⟨[],λq=>w.R q\/q∈w.L⟩ (vQ none ix Γ1) (yZ ix σ) H1:=by
   refine⟨by simp[vQ,yZ],λj g h=>?_,λi j p ga gb ma mb h1 h2 h3 h4=>?_,λp hp=>(nomatch hp),λp hp=>(nomatch hp),λp hp=>?_,λp hp=>(nofun),λb o h _=>h,λq hq=>(nomatch hq)⟩
   ·obtain⟨k',g',a1,a2,a3⟩:=O6 h;obtain⟨v,b1,b2⟩:=R1.val k' g' a2;refine⟨v,P0 a1 b1,?_⟩;cases g' with
    | v t | k xs=>cases a3;exact b2
    | l xs =>
     have:=by simpa [u7] using a3.symm
     subst this;obtain⟨p,vs,rfl,c1,c2,c3⟩:=b2;exact⟨p,vs,rfl,c3,c2,nofun,.inr c1⟩
    | r xs | e xs =>
     cases a3;obtain⟨p,vs,rfl,c1,c2⟩:=b2;exact⟨p,vs,rfl,c1,c2.1,nofun,.inl c2.2.2⟩
    | d xs =>
     cases a3;obtain⟨p,vs,rfl,c1,c2,c3⟩:=b2;exact⟨p,vs,rfl,c3,c2,nofun,.inr c1⟩
   ·obtain⟨k',g',a1,a2,a3⟩:=O6 h1;cases g' with
    | v t | r xs | k xs | d xs | e xs=>cases a3;cases ma
    | l xs =>
     have:=by simpa [u7] using a3.symm
     subst this;cases ma
   ·rcases hp with z | z
    ·exact R1.ra p z
    ·obtain⟨o,z,_⟩:=R1.lst p z;exact⟨o,z⟩
  refine WO rfl hg hc he hl rfl (λH2 ev=>hJ [] (λp hp=>nomatch hp) (λ_ _ _ _ _=>nofun) H2 ev) (λp hp=>hp) Rin e2 λσ' H' ys R' hy hz D hD=>?_
  have R2:=R1.evo0 λb o h=>R'.frame b o h nofun
  exact k _ _ (R2.new hD) ((ev1.trans λb o h _=>R'.frame b o h nofun).trans (tP.new hD)) (R2.newl hD hy) ⟨_,rfl,Mr (ev1.trans λb o h _=>R'.frame b o h nofun) R2.lst hD⟩
 | some m =>
  obtain⟨j,i⟩:=m;dsimp only at e;split at e
  ·cases e
  rename_i hsrc;split at e
  rotate_left
  ·cases e
  rename_i xs0 hx0;obtain⟨⟨ts,Γe⟩,e2,e⟩:=Lb e;cases e;obtain⟨v0,s0,p,vs0,rfl,m0,h0,i0⟩:=R1.val i _ hx0;have hij:=hmu j i rfl;have Rin:sV K ⟨H1,[p],[(j,p)]⟩ ⟨[p],λq=>w.R q\/(q∈w.L/\q≠p)⟩ (vQ (some i) ix Γ1) (yZ ix σ) H1:=by
   refine⟨by simp[vQ,yZ],λj' g h=>?_,λi1 i2 p' ga gb ma mb h1 h2 h3 h4=>?_,λq hq=>?_,λq hq=>.inl hq,λq hq=>?_,λq hq z=>?_,λb o h _=>h,λq hq=>?_⟩
   ·obtain⟨k',g',a1,a2,a3⟩:=O6 h;obtain⟨v,b1,b2⟩:=R1.val k' g' a2;refine⟨v,P0 a1 b1,?_⟩;cases g' with
    | v t | k xs=>cases a3;exact b2
    | l xs =>
     obtain⟨p',vs,rfl,c1,c2,c3⟩:=b2;by_cases hk:i=k'
     ·subst hk;have:=by simpa [u7] using a3.symm
      subst this;rw[s0]at b1;cases b1;exact⟨p,vs,rfl,AD.mpr rfl,c2,c3⟩
     ·have:=by simpa [u7,hk] using a3.symm
      subst this;have hne:p'≠p:=λz=>hk (R1.apart i k' p _ _ rfl rfl hx0 a2 s0 (z ▸ b1))
      exact⟨p',vs,rfl,c3,c2,λz=>hne (AD.mp z),.inr ⟨c1,hne⟩⟩
    | d xs =>
     cases a3;obtain⟨p',o',rfl,c1,c2,c3⟩:=b2;have hne:p'≠p:=λz=>by
      subst z;rw[h0]at c2;cases c2;exact c3
     exact⟨p',o',rfl,c3,c2,λz=>hne (AD.mp z),.inr ⟨c1,hne⟩⟩
    | r xs | e xs =>
     cases a3;obtain⟨p',vs,rfl,c1,c2⟩:=b2;exact⟨p',vs,rfl,c1,c2.1,λz=>c2.2.1 (AD.mp z ▸ m0),.inl c2.2.2⟩
   ·have only:∀ n gc,uX gc=true->(vQ (some i) ix Γ1)[n]?=some (some gc)->ix[n]?=some (some i):=λn gc mc h=>by
     obtain⟨k',g',a1,a2,a3⟩:=O6 h;cases g' with
     | v t | r xs | k xs | d xs | e xs=>cases a3;cases mc
     | l xs =>
      by_cases hk:i=k'
      ·subst hk;exact a1
      ·have:=by simpa [u7,hk] using a3.symm
       subst this;cases mc
    exact hix i1 i2 i rfl (only i1 ga ma h1) (only i2 gb mb h2)
   ·rw[AD.mp hq];exact⟨_,h0,trivial⟩
   ·rcases hq with z | z
    ·exact R1.ra q z
    ·obtain⟨o,z,_⟩:=R1.lst q z.1;exact⟨o,z⟩
   ·have e:=AD.mp z;rcases hq with z | z
    ·exact R1.rl q z (e ▸ m0)
    ·exact z.2 e
   ·rw[AD.mp hq];refine⟨P0 hij s0,xs0,?_⟩;unfold vQ;rw[Ak,hij];show some (u7 (some i) i (Γ1[i]?).join)=_;rw[hx0];simp[u7]
  have av:∀ i'∈src,∀ q,σ[i']?=some (some (.ref q))->(∃ xs,Γ1[i']?=some (some (.l xs)))->q∉[p]:=λi' hi' q hq ⟨xs,hx⟩ z=>by
   rw[AD.mp z]at hq;have:=R1.apart i i' p _ _ rfl rfl hx0 hx s0 hq;subst this;exact hsrc hi'
  refine WO rfl hg hc he hl rfl (λH2 ev=>hJ [p] (λq hq=>AD.mp hq ▸ m0) av H2 ev) (λp hp=>hp) Rin e2 λσ' H' ys R' hy hz D hD=>?_
  obtain⟨q1,xs',q2⟩:=R'.pin (j,p) (AD.mpr rfl);obtain⟨v',s',p',us',rfl,_,h',i'⟩:=R'.val j _ q2;have s'':σ'[j]?=some (some (.ref p)):=q1;rw[s'']at s';cases s';have evp:tP [p] H1 H':=R'.frame;have R2:=(R1.put2 hx0 s0 evp h' i').1;have eb:xu (some (j,i)) Γ1 Γe=Γ1.set i (some (.l xs')):=by unfold xu;dsimp only;rw[q2]
  rw[eb]at k;exact k _ _ (R2.new hD) ((ev1.trans (evp.wide λq hq=>AD.mp hq ▸ m0)).trans (tP.new hD)) (R2.newl hD hy) ⟨_,rfl,Mr (ev1.trans (evp.wide λq hq=>AD.mp hq ▸ m0)) R2.lst hD⟩
end
abbrev DF:=List G->Option (G×List T)
noncomputable def ROk (K:Fg) (H H':Hp) (v:V):G->Prop
 | .v t=>Im K H' v t
 | .l xs=>∃ p us,v=.ref p/\H p=none/\H' p=some (.lst us)/\sf K H' us xs
 | .r _=>False
 | .k _=>False
 | .d kvs=>∃ p o,v=.ref p/\H p=none/\H' p=some o/\wN K H' o kvs
 | .e _=>False
def Qd(h:wN K H (.lst vs) kvs):False:=h
noncomputable def vF (ip:Option Nat) (vs:List V):List (Nat×Addr):=match ip with
 | none=>[]
 | some k=>match vs[k]? with
  | some (.ref p)=>[(k,p)]
  | _=>[]
noncomputable def xT (K:Fg) (ip:Option Nat) (n:Nat) (F:DF):Sp:=λvs H Q _=>vs.length=n/\∃ (w:W) (gs:List G) (r:G) (ys:List T),F gs=some (r,ys)/\sV K ⟨H,w.L,vF ip vs⟩ w (gs.map some) (vs.map some) H /\
 (vF ip vs).map (·.1)=ip.toList/\(∀ p∈w.L,p∈(vF ip vs).map (·.2)) /\
 ∀ v H',tP w.L H H'->(∀ q∈vF ip vs,∃ us,H' q.2=some (.lst us)/\sf K H' us ys)->ROk K H H' v r->Q v H'
noncomputable def zg (ip:Option Nat) (Γ:En):List T:=match ip with
 | none=>[]
 | some k=>match Γ[k]? with
  | some (some (.l xs))=>xs
  | _=>[]
noncomputable def zL (ip:Option Nat) (Γ:En):S->Option G
 | .v t=>some (.v t)
 | .l xs=>some (.l xs)
 | .s i=>if ip=some i then none else match Γ[i]? with
  | some (some (.l xs))=>some (.l xs)
  | some (some (.d xs))=>some (.d xs)
  | _=>none
 | .d xs=>some (.d xs)
noncomputable def sX (ip:Option Nat) (np nN:Nat) (g:DS):DF:=λgs=>if gs.length=np then (g (gs.map some++Aa (nN - np) none)).bind λo=>match o with
  | .nx Γ=>some (.v (.a .non),zg ip Γ)
  | .rt s Γ=>(zL ip Γ s).map λr=>(r,zg ip Γ)
  | _=>none
 else none
section
variable {K:Fg}
def sV.more(R:sV K C w Γ σ H) n:sV K C w (Γ++Aa n none) (σ++Aa n none) H:=by
 have get:∀ {j:Nat} {g:G},(Γ++Aa n none)[j]?=some (some g)->Γ[j]?=some (some g):=λ{j g} h=>by
  rcases Bt j Γ.length with z | z
  ·rw[BK z]at h;exact h
  ·rw[Cs z,G4]at h;split at h <;> cases h
 have put:∀ {j:Nat} {o:Option V},j < σ.length->(σ++Aa n none)[j]?=σ[j]?:=BK;have lt:∀ {j:Nat} {g:G},Γ[j]?=some (some g)->j < σ.length:=λh=>by rw[R.len];exact (Ac.mp h).1
 refine⟨by simp[R.len],λi g h=>?_,λi j p ga gb ma mb h1 h2 h3 h4=>?_,R.lst,R.own,R.ra,R.rl,R.frame,λq hq=>?_⟩
 ·have h':=get h;obtain⟨v,e1,e2⟩:=R.val i g h';exact⟨v,by rw[put (o:=none) (lt h')];exact e1,e2⟩
 ·have g1:=get h1;have g2:=get h2;rw[put (o:=none) (lt g1)]at h3;rw[put (o:=none) (lt g2)]at h4;exact R.apart i j p ga gb ma mb g1 g2 h3 h4
 ·obtain⟨h1,xs,h2⟩:=R.pin q hq;exact⟨by rw[put (o:=none) (lt h2)];exact h1,xs,by rw[BK (Ac.mp h2).1];exact h2⟩
theorem QR(hb:uc K ip ts g)(h:xT K ip np (sX ip np N.length g) vs H Q E):ts { nx:=λ_ H'=>Q .non H',rt:=Q } (L2.start N vs) H:=by
 obtain⟨hn,w,gs,r,ys,e,R,hp,hL,k⟩:=h;unfold sX at e;have hg:gs.length=np:=by
  have:=R.len;simp at this;lia
 rw[if_pos hg]at e;obtain⟨o,e1,e⟩:=sC e;have R0:sV K ⟨H,w.L,vF ip vs⟩ w (gs.map some++Aa (N.length - np) none) (L2.start N vs) H:=by
  unfold L2.start;rw[hn];exact R.more _
 have fin:∀ {w':W} {Γ':En} {σ':St} {H':Hp},sV K ⟨H,w.L,vF ip vs⟩ w' Γ' σ' H'->zg ip Γ'=ys->∀ v,ROk K H H' v r->Q v H':=λ{w' Γ' σ' H'} R' eo v hr=>by
  refine k v H' (R'.frame) (λq hq=>?_) hr;obtain⟨h1,xs,h2⟩:=R'.pin q hq;obtain⟨v',e1,p,us,rfl,_,h3,h4⟩:=R'.val q.1 _ h2;rw[h1]at e1;cases e1;refine⟨us,h3,?_⟩;have hq1:=hp ▸ Ao.mpr ⟨q,hq,rfl⟩;rw[Hd]at hq1;unfold zg at eo;rw[hq1]at eo;dsimp only at eo;rw[h2]at eo;rw[← eo];exact h4
 have notpin:∀ {w':W} {Γ':En} {σ':St} {H':Hp} {p:Addr},sV K ⟨H,w.L,vF ip vs⟩ w' Γ' σ' H'->(∀ q∈vF ip vs,q.2≠p)->Ow ⟨H,w.L,vF ip vs⟩ p->H p=none:=λ{w' Γ' σ' H' p} R' hne ow=>by
  rcases ow with z | z
  ·obtain⟨q,hq,e⟩:=Ao.mp (hL p z);exact absurd e (hne q hq)
  ·exact z
 refine hb _ w _ _ H _ o hp R0 e1 ?_;cases o with
 | nx Γ' =>
  cases e;exact λw' σ' H' R'=>fin R' rfl _ rfl
 | rt s Γ' =>
  obtain⟨r',e2,e⟩:=Lb e;cases e;refine λw' σ' H' v R' o'=>fin R' rfl v ?_
  have inL:∀ q∈vF ip vs,q.2∈w'.L:=λq hq=>by
   obtain⟨h1,xs,h2⟩:=R'.pin q hq;obtain⟨v',e1,p,us,rfl,h3,_⟩:=R'.val q.1 _ h2;rw[h1]at e1;cases e1;exact h3
  cases s with
  | v t=>cases e2;exact o'
  | l xs | d xs =>
   cases e2;obtain⟨p,us,rfl,n1,n2,ow,h1,h2⟩:=o';exact⟨p,us,rfl,notpin R' (λq hq z=>n1 (z ▸ inL q hq)) ow,h1,h2⟩
  | s i =>
   unfold zL at e2;dsimp only at e2;split at e2
   ·cases e2
   rename_i hi;split at e2
   iterate 2
    ·rename_i xs hx;cases e2;obtain⟨v',e3,p,us,rfl,h3,h4,h5⟩:=R'.val i _ hx;have o'':σ'[i]?=some (some v):=o';rw[o'']at e3;cases e3;refine⟨p,us,rfl,notpin R' (λq hq z=>?_) (R'.own p h3),h4,h5⟩;obtain⟨h1,ys',h2⟩:=R'.pin q hq;have:=R'.apart q.1 i q.2 _ _ rfl rfl h2 hx h1 (z ▸ o'');have hq1:=hp ▸ Ao.mpr ⟨q,hq,rfl⟩;rw[Hd]at hq1;exact hi (by rw[hq1,this])
   ·cases e2
 | bk Γ' | ct Γ'=>cases e
noncomputable def uT (ip:Option Nat) (Γ:En) (k:Nat):S->Option G
 | .v t=>some (.v t)
 | .l xs=>some (if ip=some k then .l xs else .r xs)
 | .s i=>match Γ[i]? with
  | some (some (.l xs))=>some (if ip=some k then .l xs else .r xs)
  | some (some (.r xs))=>if ip=some k then none else some (.r xs)
  | some (some (.k xs))=>if ip=some k then none else some (.k xs)
  | some (some (.d xs))=>if ip=some k then none else some (.e xs)
  | some (some (.e xs))=>if ip=some k then none else some (.e xs)
  | _=>none
 | .d xs=>if ip=some k then none else some (.e xs)
noncomputable def uh (ip:Option Nat) (Γ:En):Nat->List S->Option (List G)
 | _,[]=>some []
 | k,s::r=>(uT ip Γ k s).bind λg=>(uh ip Γ (k+1) r).map λgs=>g::gs
noncomputable def zO (i:Nat):S->Bool
 | .s j=>j == i
 | _=>false
noncomputable def AAT:S->Bool
 | .l _=>true
 | _=>false
noncomputable def vt (ip:Option Nat) (ss:List S):Bool:=match ip with
 | none=>true
 | some k=>match ss[k]? with
  | some (.s i)=>(ss.eraseIdx k).all λs=>!zO i s
  | some (.l _)=>(ss.eraseIdx k).all λs=>!AAT s
  | _=>false
noncomputable def vm (ip:Option Nat) (Γ:En) (ss:List S) (ys:List T):En:=match ip with
 | none=>Γ
 | some k=>match ss[k]? with
  | some (.s i)=>Γ.set i (some (.l ys))
  | _=>Γ
noncomputable def toS:G->S
 | .v t=>.v t
 | .l xs=>.l xs
 | .r xs=>.l xs
 | .k xs=>.l xs
 | .d xs=>.d xs
 | .e xs=>.d xs
noncomputable def sE (ip:Option Nat) (F:DF) (ds:List V) (fa:DA):DE:=λΓ=>(fa Γ).bind λp=>if vt ip p.1=true then (uh ip p.2 0 (p.1++ds.map λv=>.v (.a v))).bind λgs=>(F gs).map λq=>(toS q.1,vm ip p.2 p.1 q.2) else none
theorem ud.app:∀ {vs ss},ud K C w σ H vs ss->∀ ds,ud K C w σ H (vs++ds) (ss++ds.map λv=>.v (.a v))
 | [],[],_,[]=>trivial
 | [],[],_,d::ds=>⟨tH.atom,ud.app (vs:=[]) (ss:=[]) trivial ds⟩
 | _::_,_::_,h,ds=>⟨h.1,ud.app h.2 ds⟩
 | [],_::_,h,_ | _::_,[],h,_=>h.elim
theorem ud.len:∀ {vs ss},ud K C w σ H vs ss->vs.length=ss.length
 | [],[],_=>rfl
 | _::_,_::_,h=>by simp[ud.len h.2]
 | [],_::_,h | _::_,[],h=>h.elim
theorem ud.get:∀ {vs ss} {k:Nat} {s},ud K C w σ H vs ss->ss[k]?=some s->∃ v,vs[k]?=some v/\tH K C w σ H v s
 | [],[],_,_,_,e=>by simp at e
 | v::_,_::_,0,_,h,e=>by simp at e;subst e;exact⟨v,rfl,h.1⟩
 | _::_,_::_,k+1,_,h,e=>by simpa using ud.get h.2 ‹_›
 | [],_::_,_,_,h,_ | _::_,[],_,_,h,_=>h.elim
theorem UG:∀ {ss k gs},uh ip Γ k ss=some gs->gs.length=ss.length
 | [],_,_,e=>by cases e;rfl
 | s::r,k,_,e=>by
  obtain⟨g,e1,e⟩:=sC e;obtain⟨gs,e2,rfl⟩:=Lb e;simp[UG e2]
theorem NJ:∀ {ss k gs j g},uh ip Γ k ss=some gs->gs[j]?=some g->∃ s,ss[j]?=some s/\uT ip Γ (k+j) s=some g
 | [],_,_,_,_,e,h=>by cases e;simp at h
 | s::r,k,_,j,g,e,h=>by
  obtain⟨g',e1,e⟩:=sC e;obtain⟨gs,e2,rfl⟩:=Lb e;cases j with
  | zero=>simp at h;subst h;exact⟨s,rfl,e1⟩
  | succ j =>
   obtain⟨s',a,b⟩:=NJ e2 ‹_›;exact⟨s',by simpa using a,by rw[← b];congr 1;lia⟩
theorem Qt(hF:∀ gs r,F gs=some r->gs.length=n)(ha:ui K ta fa):sW K (zC (xT K ip n F) ds E ta) (sE ip F ds fa):=by
 intro C w Γ σ H s Γ' Q R e k;obtain⟨⟨ss,Γ1⟩,e1,e⟩:=sC e;dsimp only at e;split at e
 rotate_left
 ·cases e
 rename_i honce;obtain⟨gs,e2,e⟩:=sC e;obtain⟨⟨r,ys⟩,e3,e⟩:=Lb e;cases e;refine ha C w Γ σ H ss Γ1 _ R e1 λvs0 H1 R1 ev1 o0 n0=>?_
 have o1:=o0.app ds;have hl0:=o0.len;generalize hvs:vs0++ds=vs at o1 ⊢;generalize hss:ss++(ds.map λv=>S.v (.a v))=ss' at o1 e2;have hl:=o1.len;have hgl:=UG e2;have hn:vs.length=n:=by rw[hl,← hgl];exact hF _ _ e3
 have resOk:∀ {H2:Hp} {v:V} {L:List Addr},tP L H1 H2->ROk K H1 H2 v r->sV K C w Γ1 σ H1->tH K C w σ H2 v (toS r):=λ{H2 v L} ev hr R=>by
  cases r with
  | v t=>exact hr
  | l xs | d xs =>
   obtain⟨p,us,rfl,h1,h2,h3⟩:=hr;obtain⟨a,b,c⟩:=R.fresh h1;exact⟨p,us,rfl,a,b,c,h2,h3⟩
  | r xs | k xs | e xs=>exact hr.elim
 have resNew:∀ {H2:Hp} {v:V},ROk K H1 H2 v r->Nw H v (toS r):=λ{H2 v} hr=>by
  cases r with
  | v t=>trivial
  | l xs | d xs =>
   obtain⟨p,us,rfl,h1,h2,h3⟩:=hr;exact⟨p,rfl,Mr ev1 R1.lst h1⟩
  | r xs | k xs | e xs=>exact hr.elim
 cases ip with
 | none =>
  have Rc:sV K ⟨H1,[],[]⟩ ⟨[],λq=>∃ o,H1 q=some o⟩ (gs.map some) (vs.map some) H1:=by
   refine⟨by simp[hl,hgl],λj g h=>?_,λi j p ga gb ma mb h1 h2 h3 h4=>?_,λp hp=>(nomatch hp),λp hp=>(nomatch hp),λp hp=>hp,λp hp=>nofun,λb o h _=>h,λq hq=>(nomatch hq)⟩
   ·rw[Ak]at h;obtain⟨g',h',h⟩:=Lb h;cases h;obtain⟨s,a1,a2⟩:=NJ e2 h';obtain⟨v,b1,b2⟩:=o1.get a1;refine⟨v,by rw[Ak,b1];rfl,?_⟩;cases s with
    | v t=>cases a2;exact b2
    | l xs =>
     simp[uT,BZ]at a2;subst a2;obtain⟨p,us,rfl,n1,n2,ow,h1,h2⟩:=b2;exact⟨p,us,rfl,h2,h1,nofun,⟨_,h1⟩⟩
    | d xs =>
     simp[uT,reduceCtorEq,if_false,BZ]at a2;subst a2;obtain⟨p,us,rfl,n1,n2,ow,h1,h2⟩:=b2;exact⟨p,us,rfl,h2,h1,nofun,⟨_,h1⟩⟩
    | s i =>
     unfold uT at a2;dsimp only at a2;split at a2
     ·rename_i xs hx;simp at a2;subst a2;obtain⟨v',c1,p,us,rfl,c2,c3,c4⟩:=R1.val i _ hx;have b2':=b2;rw[b2']at c1;cases c1;exact⟨p,us,rfl,c4,c3,nofun,⟨_,c3⟩⟩
     ·rename_i xs hx;simp at a2;subst a2;obtain⟨v',c1,p,us,rfl,c2,c3⟩:=R1.val i _ hx;have b2':=b2;rw[b2']at c1;cases c1;exact⟨p,us,rfl,c2,c3.1,nofun,R1.ra p c3.2.2⟩
     ·rename_i xs hx;simp at a2;subst a2;obtain⟨v',c1,c2⟩:=R1.val i _ hx;have b2':=b2;rw[b2']at c1;cases c1;exact c2
     ·rename_i xs hx;simp[reduceCtorEq,if_false,BZ]at a2;subst a2;obtain⟨v',c1,p,us,rfl,c2,c3,c4⟩:=R1.val i _ hx;have b2':=b2;rw[b2']at c1;cases c1;exact⟨p,us,rfl,c4,c3,nofun,⟨_,c3⟩⟩
     ·rename_i xs hx;simp at a2;subst a2;obtain⟨v',c1,p,us,rfl,c2,c3⟩:=R1.val i _ hx;have b2':=b2;rw[b2']at c1;cases c1;exact⟨p,us,rfl,c2,c3.1,nofun,R1.ra p c3.2.2⟩
     ·cases a2
   ·rw[Ak]at h1;obtain⟨g',h',h⟩:=Lb h1;cases h;obtain⟨s,a1,a2⟩:=NJ e2 h';cases s with
    | v t=>cases a2;cases ma
    | l xs | d xs=>simp[uT]at a2;subst a2;cases ma
    | s i =>
     unfold uT at a2;dsimp only at a2;split at a2 <;> simp at a2 <;> (subst a2;cases ma)
  refine⟨hn,⟨[],λq=>∃ o,H1 q=some o⟩,gs,r,ys,e3,Rc,rfl,(λp hp=>nomatch hp),λv H2 ev _ hr=>?_⟩;have R2:=R1.evo0 λb o h=>ev b o h nofun
  exact k v H2 R2 (ev1.trans λb o h _=>ev b o h nofun) (resOk ev hr R1) (resNew hr)
 | some kk =>
  have hkk:∃ s,ss[kk]?=some s:=by
   unfold vt at honce;dsimp only at honce;cases z:ss[kk]? with
   | none=>rw[z]at honce;cases honce
   | some s=>exact⟨s,rfl⟩
  obtain⟨sk,hsk⟩:=hkk;have hkl:=(Ac.mp hsk).1;have hsk':ss'[kk]?=some sk:=by rw[← hss,BK hkl];exact hsk
  obtain⟨vk,hvk,ok⟩:=o1.get hsk';have at_k:∃ p us xs,vk=.ref p/\H1 p=some (.lst us)/\sf K H1 us xs/\uT (some kk) Γ1 kk sk=some (.l xs)/\((∃ i,sk=.s i/\Γ1[i]?=some (some (.l xs))/\σ[i]?=some (some (.ref p))/\p∈w.L)\/(sk=.l xs/\p∉w.L/\¬ w.R p/\Ow C p)):=by
   obtain⟨gk,hgk⟩:∃ g,gs[kk]?=some g:=⟨gs[kk]'(by rw[hgl,← hss];simp;lia),by simp⟩
   obtain⟨s,a1,a2⟩:=NJ e2 hgk;rw[hsk']at a1;cases a1;rw[BU]at a2;cases sk with
   | v t | d xs=>unfold vt at honce;dsimp only at honce;rw[hsk]at honce;cases honce
   | l xs =>
    obtain⟨p,us,rfl,n1,n2,ow,h1,h2⟩:=ok;exact⟨p,us,xs,rfl,h1,h2,by simp[uT],.inr ⟨rfl,n1,n2,ow⟩⟩
   | s i =>
    unfold uT at a2;dsimp only at a2;have ok':=ok;split at a2
    ·rename_i xs hx;obtain⟨v',c1,p,us,rfl,c2,c3,c4⟩:=R1.val i _ hx;rw[ok']at c1;cases c1;exact⟨p,us,xs,rfl,c3,c4,by simp[uT,hx],.inl ⟨i,rfl,hx,ok',c2⟩⟩
    iterate 4
     ·rw[if_pos rfl]at a2;cases a2
    ·cases a2
  obtain⟨p,us,xs,rfl,hpu,hus,hag,hsort⟩:=at_k;have other:∀ j s,j≠kk->ss'[j]?=some s->(∀ i xs',s=.s i->Γ1[i]?=some (some (.l xs'))->σ[i]?≠some (some (.ref p)))/\(∀ xs' q,s=.l xs'->tH K C w σ H1 (.ref q) s->q≠p):=λj s hj hs=>by
   rcases hsort with ⟨i0,rfl,g0,s0,m0⟩ | ⟨rfl,n1,n2,ow⟩
   ·refine⟨λi xs' e hx z=>?_,λxs' q e h z=>?_⟩
    ·subst e;have:=R1.apart i0 i p _ _ rfl rfl g0 hx s0 z;subst this;have hjl:j < ss.length:=by
      rcases Bt j ss.length with z | z
      ·exact z
      ·rw[← hss,Cs z,Ak]at hs;obtain⟨d,_,hs⟩:=Lb hs;cases hs
     rw[← hss,BK hjl]at hs;unfold vt at honce;dsimp only at honce;rw[hsk]at honce;have:=AJ.mp honce (.s i0) (Fj.mpr ⟨j,hj,hs⟩);simp[zO]at this
    ·subst e;obtain⟨q',us'',e,n1,_⟩:=h;cases e;exact n1 (z ▸ m0)
   ·refine⟨λi xs' e hx z=>?_,λxs' q e h z=>?_⟩
    ·obtain⟨v',c1,p',us2,rfl,c2,_⟩:=R1.val i _ hx;rw[z]at c1;cases c1;exact n1 c2
    ·subst e;have hjl:j < ss.length:=by
      rcases Bt j ss.length with z | z
      ·exact z
      ·rw[← hss,Cs z,Ak]at hs;obtain⟨d,_,hs⟩:=Lb hs;cases hs
     rw[← hss,BK hjl]at hs;unfold vt at honce;dsimp only at honce;rw[hsk]at honce;have:=AJ.mp honce _ (Fj.mpr ⟨j,hj,hs⟩);simp[AAT]at this
  have hpins:vF (some kk) vs=[(kk,p)]:=by unfold vF;dsimp only;rw[hvk]
  have Rc:sV K ⟨H1,[p],[(kk,p)]⟩ ⟨[p],λq=>(∃ o,H1 q=some o)/\q≠p⟩ (gs.map some) (vs.map some) H1:=by
   have get:∀ {j:Nat} {g:G},(gs.map some)[j]?=some (some g)->∃ s,ss'[j]?=some s/\uT (some kk) Γ1 j s=some g:=λ{j g} h=>by
    rw[Ak]at h;obtain⟨g',h',h⟩:=Lb h;cases h;obtain⟨s,a1,a2⟩:=NJ e2 h';exact⟨s,a1,by rw[BU]at a2;exact a2⟩
   have only:∀ {j:Nat} {gc:G},uX gc=true->(gs.map some)[j]?=some (some gc)->j=kk:=λ{j gc} mc h=>by
    obtain⟨s,a1,a2⟩:=get h;by_cases hj:kk=j
    ·exact hj.symm
    ·cases s with
     | v t=>cases a2;cases mc
     | l xs | d xs=>simp[uT,hj]at a2;subst a2;cases mc
     | s i =>
      unfold uT at a2;dsimp only at a2;split at a2 <;> simp[hj]at a2 <;> (subst a2;cases mc)
   refine⟨by simp[hl,hgl],λj g h=>?_,λi j p' ga gb ma mb h1 h2 h3 h4=>(only ma h1).trans (only mb h2).symm,λq hq=>?_,λq hq=>.inl hq,λq hq=>hq.1,λq hq z=>hq.2 (AD.mp z),λb o h _=>h,λq hq=>?_⟩
   ·obtain⟨s,a1,a2⟩:=get h;obtain⟨v,b1,b2⟩:=o1.get a1;refine⟨v,by rw[Ak,b1];rfl,?_⟩;by_cases hj:j=kk
    ·subst hj;rw[hsk']at a1;cases a1;rw[hag]at a2;cases a2;rw[hvk]at b1;cases b1;exact⟨p,us,rfl,AD.mpr rfl,hpu,hus⟩
    ·have hj':¬ kk=j:=λz=>hj z.symm
     obtain⟨x1,x2⟩:=other j s hj a1;cases s with
     | v t=>cases a2;exact b2
     | l xs' =>
      simp[uT,BZ,hj']at a2;subst a2;have b3:=b2;obtain⟨q,us',rfl,n1,n2,ow,h1,h2⟩:=b2;have hne:=x2 xs' q rfl b3;exact⟨q,us',rfl,h2,h1,λz=>hne (AD.mp z),⟨_,h1⟩,hne⟩
     | s i =>
      have b2':=b2;unfold uT at a2;dsimp only at a2;split at a2
      ·rename_i xs' hx;simp[BZ,hj',if_false]at a2;subst a2;obtain⟨v',c1,q,us',rfl,c2,c3,c4⟩:=R1.val i _ hx;rw[b2']at c1;cases c1;have hne:q≠p:=λz=>x1 i xs' rfl hx (z ▸ b2')
       exact⟨q,us',rfl,c4,c3,λz=>hne (AD.mp z),⟨_,c3⟩,hne⟩
      ·rename_i xs' hx;simp[BZ,hj',if_false]at a2;subst a2;obtain⟨v',c1,q,us',rfl,c2,c3⟩:=R1.val i _ hx;rw[b2']at c1;cases c1;have hne:q≠p:=λz=>by
        subst z;rcases hsort with ⟨_,_,_,_,m0⟩ | ⟨_,n1,n2,ow⟩
        ·exact c3.2.1 m0
        ·exact n2 c3.2.2
       exact⟨q,us',rfl,c2,c3.1,λz=>hne (AD.mp z),R1.ra q c3.2.2,hne⟩
      ·rename_i xs' hx;simp[BZ,hj',if_false]at a2;subst a2;obtain⟨v',c1,c2⟩:=R1.val i _ hx;rw[b2']at c1;cases c1;exact c2
      ·rename_i xs' hx;simp only[BZ,hj',if_false]at a2;subst a2;obtain⟨v',c1,q,us',rfl,c2,c3,c4⟩:=R1.val i _ hx;rw[b2']at c1;cases c1;have hne:q≠p:=λz=>by subst z;rw[hpu]at c3;cases c3;exact Qd c4
       exact⟨q,us',rfl,c4,c3,λz=>hne (AD.mp z),⟨_,c3⟩,hne⟩
      ·rename_i xs' hx;simp only[BZ,hj',if_false]at a2;subst a2;obtain⟨v',c1,q,us',rfl,c2,c3⟩:=R1.val i _ hx;rw[b2']at c1;cases c1;have hne:q≠p:=λz=>by subst z;have c4:=c3.1;rw[hpu]at c4;cases c4;exact Qd c2
       exact⟨q,us',rfl,c2,c3.1,λz=>hne (AD.mp z),R1.ra q c3.2.2,hne⟩
      ·cases a2
     | d xs' =>
      simp[uT,BZ,hj',if_false]at a2;subst a2;obtain⟨q,us',rfl,n1,n2,ow,h1,h2⟩:=b2;have hne:q≠p:=λz=>by subst z;rw[hpu]at h1;cases h1;exact Qd h2
      exact⟨q,us',rfl,h2,h1,λz=>hne (AD.mp z),⟨_,h1⟩,hne⟩
   ·rw[AD.mp hq];exact⟨_,hpu,trivial⟩
   ·rw[AD.mp hq];refine⟨by rw[Ak,hvk];rfl,xs,?_⟩;obtain⟨gk,hgk⟩:∃ g,gs[kk]?=some g:=⟨gs[kk]'(by rw[hgl,← hss];simp;lia),by simp⟩
    obtain⟨s,a1,a2⟩:=NJ e2 hgk;rw[hsk']at a1;cases a1;rw[BU,hag]at a2;cases a2;rw[Ak,hgk];rfl
  refine⟨hn,⟨[p],λq=>(∃ o,H1 q=some o)/\q≠p⟩,gs,r,ys,e3,by rw[hpins];exact Rc,by rw[hpins];rfl,by rw[hpins];exact λq hq=>hq,λv H2 ev hch hr=>?_⟩;rw[hpins]at hch;obtain⟨us2,hp2,hu2⟩:=hch (kk,p) (AD.mpr rfl);rcases hsort with ⟨i0,rfl,g0,s0,m0⟩ | ⟨rfl,n1,n2,ow⟩
  ·obtain⟨R2,ev2⟩:=R1.put2 g0 s0 ev hp2 hu2;have hb:vm (some kk) Γ1 ss ys=Γ1.set i0 (some (.l ys)):=by unfold vm;dsimp only;rw[hsk]
   rw[hb]at k;exact k v H2 R2 (ev1.trans ev2) (resOk ev hr R1) (resNew hr)
  ·have hb:vm (some kk) Γ1 ss ys=Γ1:=by unfold vm;dsimp only;rw[hsk]
   rw[hb]at k;refine k v H2 (R1.temp n1 n2 ow ⟨_,hpu,trivial⟩ ev) (λb o h n=>?_) (resOk ev hr R1) (resNew hr);by_cases z:b=p
   ·subst z;have hv0:=by
     rw[← hvs,BK (by simp_all)]at hvk;exact hvk
    obtain⟨p',e',hn'⟩:=n0.get hv0 hsk;cases e';rw[hn']at h;cases h
   ·exact ev b o (ev1 b o h n) λq=>z (AD.mp q)
end
noncomputable def xC (Γ:En):S->Option (List T)
 | .l xs=>some xs
 | .s i=>match Γ[i]? with
  | some (some (.l xs))=>some xs
  | some (some (.r xs))=>some xs
  | _=>none
 | .v _=>none
 | .d _=>none
noncomputable def s9 (Γ:En):S->Option (List T)
 | .l xs=>some xs
 | .s i=>match Γ[i]? with
  | some (some (.l xs))=>some xs
  | some (some (.r xs))=>some xs
  | some (some (.k xs))=>some xs
  | _=>none
 | .v (.l xs)=>some xs
 | .v _=>none
 | .d _=>none
section
variable {K:Fg}{C:Fr}{w:W}{Γ:En}{σ:St}{H:Hp}
theorem PL(R:sV K C w Γ σ H)(o:tH K C w σ H x s)(e:xC Γ s=some xs):∃ p vs,x=.ref p/\H p=some (.lst vs)/\sf K H vs xs:=by
 cases s with
 | v t | d _=>cases e
 | l ys=>cases e;obtain⟨p,vs,rfl,_,_,_,h1,h2⟩:=o;exact⟨p,vs,rfl,h1,h2⟩
 | s i =>
  have o':=o;unfold xC at e;dsimp only at e;split at e
  ·rename_i ys h;cases e;obtain⟨v,e1,p,vs,rfl,_,h1,h2⟩:=R.val i _ h;rw[o']at e1;cases e1;exact⟨p,vs,rfl,h1,h2⟩
  ·rename_i ys h;cases e;obtain⟨v,e1,p,vs,rfl,h1,h2,_⟩:=R.val i _ h;rw[o']at e1;cases e1;exact⟨p,vs,rfl,h2,h1⟩
  ·cases e
theorem MD(R:sV K C w Γ σ H)(o:tH K C w σ H x s)(e:s9 Γ s=some xs):∃ p vs,x=.ref p/\uL K H p vs/\sf K H vs xs:=by
 cases s with
 | v t =>
  cases t with
  | l ys =>
   cases e;obtain⟨p,vs,rfl,h1,h2⟩:=o.invl;exact⟨p,vs,rfl,h1.sq,h2⟩
  | a _ | t _ | f _ | x _ _ | w _=>cases e
 | d _=>cases e
 | l ys=>cases e;obtain⟨p,vs,rfl,_,_,_,h1,h2⟩:=o;exact⟨p,vs,rfl,uL.of h1,h2⟩
 | s i =>
  have o':=o;unfold s9 at e;dsimp only at e;split at e
  ·rename_i ys h;cases e;obtain⟨v,e1,p,vs,rfl,_,h1,h2⟩:=R.val i _ h;rw[o']at e1;cases e1;exact⟨p,vs,rfl,uL.of h1,h2⟩
  ·rename_i ys h;cases e;obtain⟨v,e1,p,vs,rfl,h1,h2,_⟩:=R.val i _ h;rw[o']at e1;cases e1;exact⟨p,vs,rfl,uL.of h2,h1⟩
  ·rename_i ys h;cases e;obtain⟨v,e1,p,vs,rfl,h1,h2⟩:=R.val i _ h;rw[o']at e1;cases e1;exact⟨p,vs,rfl,h2.sq,h1⟩
  ·cases e
end
noncomputable def iS:S->Option Int
 | .v (.a (.int i))=>some i
 | _=>none
noncomputable def y6 (i:Int):S:=.v (.a (.int i))
noncomputable def zE (b:Bool):S:=.v (.a (.bl b))
section
variable {K:Fg}{C:Fr}{w:W}{Γ:En}{σ:St}{H:Hp}
def MX(o:tH K C w σ H x s)(e:iS s=some i):x=.int i:=by
 unfold iS at e;split at e
 ·cases e;exact o.inva
 ·cases e
end
noncomputable def inR (b:Nat):Int->Bool
 | .ofNat n=>Eh n b
 | .negSucc n=>Eh n b
theorem OY:inR b i=true ↔ -(b+1)<=i/\i<=b:=by
 cases i with
 | ofNat n =>
  simp[inR];lia
 | negSucc n =>
  simp[inR,Int.negSucc_eq];lia
def xY(h:inR 4611686018427387903 i=true):-(2 ^ 62)<=i/\i < 2 ^ 62:=by have:=OY.mp h;lia
def ABW(h:inR 9223372036854775807 i=true):-(2 ^ 63)<=i/\i < 2 ^ 63:=by have:=OY.mp h;lia
def NI(h:n<=b):inR b n=true:=OY.mpr ⟨by lia,by lia⟩
noncomputable def yj (g:Int->Int->V):En->S->S->Option S:=λ_ a b=>(iS a).bind λi=>(iS b).bind λj=>some (.v (.a (g i j)))
noncomputable def xS (c:Int->Int->Prop) [∀ i j,Decidable (c i j)] (g:Int->Int->V):En->S->S->Option S:=λ_ a b=>(iS a).bind λi=>(iS b).bind λj=>if c i j then some (.v (.a (g i j))) else none
def NV:sx K (rI0 g) (yj g):=by
 intro C w Γ σ H x y a b s Q R ox oy e k;obtain⟨i,e1,e⟩:=sC e;obtain⟨j,e2,e⟩:=sC e;cases e;exact⟨i,j,MX ox e1,MX oy e2,k _ H R .refl tH.atom trivial⟩
def ON [∀ i j,Decidable (c i j)]:sx K (rI c g) (xS c g):=by
 intro C w Γ σ H x y a b s Q R ox oy e k;obtain⟨i,e1,e⟩:=sC e;obtain⟨j,e2,e⟩:=sC e;split at e
 ·rename_i hc;cases e;exact⟨i,j,MX ox e1,MX oy e2,hc,k _ H R .refl tH.atom trivial⟩
 ·cases e
def Ys:((inR 18446744073709551615 i && inR 18446744073709551615 (-i)) || (inR 18446744073709551615 j && inR 18446744073709551615 (-j)))=true ↔ ua i j:=by
 unfold ua;simp[ OY];lia
noncomputable instance (i j:Int):Decidable (ua i j):=decidable_of_iff _ Ys
noncomputable instance (i j:Int):Decidable (wo i j):=by unfold wo;infer_instance
noncomputable instance (i j:Int):Decidable (zK i j):=by unfold zK;infer_instance
theorem sx.or(a:sx K r h)(b:sx K r' h'):sx K (λx y H Q=>r x y H Q\/r' x y H Q) (λΓ x y=>(h Γ x y).or (h' Γ x y)):=by
 intro C w Γ σ H x y s1 s2 s Q R ox oy e k;dsimp only at e;cases q:h Γ s1 s2 with
 | some z =>
  rw[q]at e;cases e;exact .inl (a C w Γ σ H x y s1 s2 _ Q R ox oy q k)
 | none =>
  rw[q]at e;exact .inr (b C w Γ σ H x y s1 s2 _ Q R ox oy e k)
noncomputable def yU:En->S->S->Option S:=λ_ a b=>match a,b with
 | .v (.a (.str x)),.v (.a (.str y))=>gd (x.length+y.length) (.v (.a (.str (x++y))))
 | _,_=>none
noncomputable def y9:R2:=λx y H Q=>∃ i j,x=.str i/\y=.str j/\i.length+j.length<=AC/\Q (.str (i++j)) H
def cF:sx K y9 yU:=by
 intro C w Γ σ H x y a b s Q R ox oy e k;unfold yU at e;split at e
 ·obtain⟨h,rfl⟩:=ML e;exact⟨_,_,ox.inva,oy.inva,h,k _ H R .refl tH.atom trivial⟩
 ·cases e
noncomputable def AAR (K:Fg):R2:=λx y H Q=>∃ a b xs ys,x=.ref a/\y=.ref b/\Tp K H a xs/\Tp K H b ys/\xs.length+ys.length<=AC/\∀ p H',wG H H'->Tp K H' p (xs++ys)->Q (.ref p) H'
open PySem.Spec PyProof.Rows in
def ZG:u5 X (CZ .Add) (AAR X.K):=by
 intro pins s σ H x y v u Q I rx ry h;obtain⟨a,b,xs,ys,rfl,rfl,ha,hb,hz,q⟩:=h;cases rx;cases ry;obtain⟨its,r1,t1,z1⟩:=I.tuple ha.sq;obtain⟨its2,r2,t2,z2⟩:=I.tuple hb.sq;by_cases hx:xs=[]
 ·subst hx;have e:its=[]:=by have:=r1.length;simpa using this.symm
  subst e;obtain⟨⟨cls,dd,data,sl⟩,ho,hc,n,hd⟩:=id t1;obtain⟨⟨cls2,dd2,data2,zo⟩,ho2,hc2,n2,hd2⟩:=id t2;simp only at hc hd hc2 hd2;subst hc hd hc2 hd2;refine Hv ⟨_,ho,rfl⟩ ⟨_,ho2,rfl⟩ GZ Ha EJ D8 (Dz _ _)
   (tuple_addW0 a b _ its2.toArray n n2 dd dd2 sl zo ↥1) ⟨ho,ho2,?_⟩
  exact⟨.ref b,H,I,rfl,q b H (wG.refl H) (by simpa using hb)⟩
 ·have hne:its≠[]:=λe=>hx (by have:=r1.length;rw[e]at this;simpa using this)
  refine HT.cat_tup t1 t2 hne (λe=>?_) (λe=>?_) (by rw[← r1.length,← r2.length];exact hz)
  ·have ey:ys=[]:=by have:=r2.length;rw[e]at this;simpa using this
   subst ey;exact⟨.ref a,H,I,rfl,q a H (wG.refl H) (by simpa using ha)⟩
  ·have hf:H s.heap.objs.size=none:=I.hok.fresh (AF _);refine⟨.ref s.heap.objs.size,_,I.laid (t':=s.toks) (λb o e=>AB _ e) (AF _) (show tG X.prog X.w _ _ _ (.tup (xs++ys)) from ⟨by simpa using hz,its++its2,r1.append r2,wm.new _ _⟩),rfl,q _ _ (wG.upd hf) (.inl Ln)⟩
noncomputable def xB:En->S->S->Option S:=λ_ a b=>match a,b with
 | .v (.t xs),.v (.t ys)=>gd (xs.length+ys.length) (.v (.t (xs++ys)))
 | _,_=>none
def gN:sx K (AAR K) xB:=by
 intro C w Γ σ H x y a b s Q R ox oy e k;unfold xB at e;split at e
 ·obtain⟨h,rfl⟩:=ML e;obtain⟨p,vs,rfl,h1,i1⟩:=ox.invt;obtain⟨q,us,rfl,h2,i2⟩:=oy.invt;refine⟨p,q,vs,us,rfl,rfl,h1,h2,by rw[i1.len,i2.len];exact h,λc H' sm hc=>k _ H' (R.same sm) (.of_same sm) ?_ trivial⟩;have ev:tP w.L H H':=.of_same sm;exact⟨c,_,rfl,hc,(i1.evo ev R.lst).app (i2.evo ev R.lst)⟩
 ·cases e
noncomputable def va:En->S->S->Option S:=λΓ a b=>(xC Γ a).bind λxs=>(xC Γ b).bind λys=>gd (xs.length+ys.length) (.l (xs++ys))
def lH:sx K ACT va:=by
 intro C w Γ σ H x y a b s Q R ox oy e k;obtain⟨xs,e1,e⟩:=sC e;obtain⟨ys,e2,e⟩:=sC e;obtain⟨h,rfl⟩:=ML e;obtain⟨p,vs,rfl,h1,i1⟩:=PL R ox e1;obtain⟨q,us,rfl,h2,i2⟩:=PL R oy e2;exact⟨p,q,vs,us,rfl,rfl,h1,h2,by rw[i1.len,i2.len];exact h,λc hc=>k _ _ (R.new hc) (tP.new hc) (R.newl hc (i1.app i2)) ⟨c,rfl,hc⟩⟩
noncomputable def tN:En->S->S->Option S:=λΓ x y=>((yj λi j=>.int (i+j)) Γ x y).or ((xB Γ x y).or ((va Γ x y).or (yU Γ x y)))
noncomputable def ABc (K:Fg):R2:=λx y H Q=>rI0 (λi j=>.int (i+j)) x y H Q\/AAR K x y H Q\/ACT x y H Q\/y9 x y H Q
def fu:sx K (ABc K) tN:=NV.or (gN.or (lH.or cF))
def dv:u5 X (CZ .Add) (ABc X.K):=bY.or (ZG.or (mQ.or eB))
noncomputable def ACL (n:Nat) (k:Int):Bool:=inR 9223372036854775807 k && Eh (n * k.toNat) AC
noncomputable def xm:En->S->S->Option S:=λΓ a b=>(xC Γ a).bind λxs=>(iS b).bind λk=>if ACL xs.length k=true then some (.l (Aa k.toNat xs).flatten) else none
theorem sf.rep(h:sf K H vs ts):∀ n,sf K H (Aa n vs).flatten (Aa n ts).flatten
 | 0=>.nil
 | n+1=>by rw[C3];exact h.app (h.rep n)
def Yh:sx K ACa xm:=by
 intro C w Γ σ H x y a b s Q R ox oy e k;obtain⟨xs,e1,e⟩:=sC e;obtain⟨n,e2,e⟩:=sC e;split at e
 ·rename_i h;cases e;unfold ACL at h;rw[Ar]at h;have h0:=ABW h.1;obtain⟨p,vs,rfl,h1,i1⟩:=PL R ox e1;exact⟨p,n,vs,rfl,MX oy e2,h1,h0.1,h0.2,by rw[i1.len];exact (Ex h.2),λc hc=>k _ _ (R.new hc) (tP.new hc) (R.newl hc (i1.rep _)) ⟨c,rfl,hc⟩⟩
 ·cases e
noncomputable def uf:En->S->S->Option S:=λΓ x y=>(xS ua (λi j=>.int (i * j)) Γ x y).or (xm Γ x y)
noncomputable def ABJ:R2:=λx y H Q=>rI ua (λi j=>.int (i * j)) x y H Q\/ACa x y H Q
def f9:sx K ABJ uf:=ON.or Yh
def W5:u5 X (CZ .Mult) ABJ:=eA.or bt
noncomputable def v7:En->S->S->Option S:=xS (λ_ j=>0 < j) λi j=>.int (i % j)
noncomputable def vv:En->S->S->Option S:=xS wo λi j=>.int (i / j)
noncomputable def ABh:En->S->S->Option S:=xS zK λi j=>.int (i ^ j.toNat)
noncomputable def uK:En->S->S->Option S:=yj λi j=>.int (i - j)
noncomputable def zR:En->S->S->Option S:=yj λi j=>.bl (decide (i < j))
noncomputable def leS:En->S->S->Option S:=yj λi j=>.bl (decide (i<=j))
noncomputable def yS:En->S->S->Option S:=yj λi j=>.bl (decide (j < i))
noncomputable def geS:En->S->S->Option S:=yj λi j=>.bl (decide (j<=i))
noncomputable def wR:En->S->Option S:=λ_ a=>(iS a).map λi=>y6 (-i)
def iD:ABP K (rU λi=>.int (-i)) wR:=by
 intro C w Γ σ H x a s Q R ox e k;obtain⟨i,e1,rfl⟩:=Lb e;exact⟨i,MX ox e1,k _ H R .refl tH.atom trivial⟩
noncomputable def sY:En->S->S->Option S:=λΓ a b=>(iS b).bind λi=>match a with
 | .v (.t xs)=>(vB xs i).map .v
 | .v (.w xs)=>(vB xs i).map .v
 | .v (.a (.str z))=>if z.length<=AC then (vB z.cps.toList i).map λc=>.v (.a (.str ⟨#[c]⟩)) else none
 | a=>(s9 Γ a).bind λxs=>(vB xs i).map .v
def Ql(h:sf K H vs ts)(e:vB ts i=some t):∃ v,vB vs i=some v/\Im K H v t:=by
 unfold vB at e ⊢;rw[h.len];obtain⟨j,e1,e⟩:=sC e;obtain⟨v,e2,hv⟩:=h.get e;exact⟨v,by rw[e1];exact e2,hv⟩
def l9:sx K (rIx K) sY:=by
 intro C w Γ σ H x y a b s Q R ox oy e k;obtain⟨i,e1,e⟩:=sC e;have hy:=MX oy e1;split at e
 ·obtain⟨t,e2,e⟩:=Lb e;cases e;obtain⟨p,vs,rfl,h1,i1⟩:=ox.invt;obtain⟨v,e3,hv⟩:=Ql i1 e2;exact .inr (.inl ⟨p,vs,i,v,rfl,hy,h1.sq,e3,k v H R .refl hv trivial⟩)
 ·obtain⟨t,e2,e⟩:=Lb e;cases e;obtain⟨p,vs,rfl,h1,i1⟩:=Im.invw ox;obtain⟨v,e3,hv⟩:=Ql i1 e2;exact .inr (.inl ⟨p,vs,i,v,rfl,hy,h1.sq,e3,k v H R .refl hv trivial⟩)
 ·split at e
  ·rename_i hz;obtain⟨c,e2,rfl⟩:=Lb e;exact .inr (.inr ⟨_,i,c,ox.inva,hy,hz,e2,k _ H R .refl tH.atom trivial⟩)
  ·cases e
 ·obtain⟨xs,e2,e⟩:=sC e;obtain⟨t,e3,rfl⟩:=Lb e;obtain⟨p,vs,rfl,h1,i1⟩:=MD R ox e2;obtain⟨v,e4,hv⟩:=Ql i1 e3;exact .inl ⟨p,vs,i,v,rfl,hy,h1,e4,k v H R .refl hv trivial⟩
noncomputable def AEd (Γ:En):S->Option S
 | .v (.t xs)=>some (y6 xs.length)
 | .v (.w xs)=>some (y6 xs.length)
 | .v (.a (.str z))=>if z.length<=AC then some (y6 z.length) else none
 | a=>(s9 Γ a).map λxs=>y6 xs.length
noncomputable def uM:En->List S->Option S:=λΓ as=>match as with
 | [a]=>AEd Γ a
 | _=>none
noncomputable def ABM (K:Fg):List V->Hp->VK->Prop:=λxs H Q=>(∃ p ys,xs=[.ref p]/\(uL K H p ys\/vH K H p ys)/\Q (.int ys.length) H)\/(∃ z,xs=[.str z]/\z.length<=AC/\Q (.int z.length) H)
def ABU(h:ud K C w σ H vs []):vs=[]:=by cases vs with | nil=>rfl | cons _ _=>exact h.elim
def AAQ(h:ud K C w σ H vs (a::l)):∃ v r,vs=v::r/\tH K C w σ H v a/\ud K C w σ H r l:=by
 cases vs with | nil=>exact h.elim | cons v r=>exact⟨v,r,rfl,h⟩
def tK(h:ud K C w σ H vs [a]):∃ v,vs=[v]/\tH K C w σ H v a:=by
 obtain⟨v,r,rfl,h1,k⟩:=AAQ h;exact⟨v,by rw[ABU k],h1⟩
def wL(h:ud K C w σ H vs [a,b]):∃ v u,vs=[v,u]/\tH K C w σ H v a/\tH K C w σ H u b:=by
 obtain⟨v,r,rfl,h1,k⟩:=AAQ h;obtain⟨u,rfl,k2⟩:=tK k;exact⟨v,u,rfl,h1,k2⟩
def m6:vA K (ABM K) uM:=by
 intro C w Γ σ H vs as s Q R o e k;unfold uM at e;split at e
 rotate_left
 ·cases e
 unfold AEd at e;split at e
 ·cases e;obtain⟨v,rfl,o1⟩:=tK o;obtain⟨p,us,rfl,h1,i1⟩:=o1.invt;refine .inl ⟨p,us,rfl,.inr h1.sq,?_⟩;rw[i1.len];exact k _ H R .refl tH.atom trivial
 ·cases e;obtain⟨v,rfl,o1⟩:=tK o;obtain⟨p,us,rfl,h1,i1⟩:=Im.invw o1;refine .inl ⟨p,us,rfl,.inr h1.sq,?_⟩;rw[i1.len];exact k _ H R .refl tH.atom trivial
 ·rename_i z;split at e
  ·rename_i hz;cases e;obtain⟨v,rfl,o1⟩:=tK o;exact .inr ⟨z,by rw[o1.inva],hz,k _ H R .refl tH.atom trivial⟩
  ·cases e
 ·obtain⟨xs,e1,e⟩:=Lb e;cases e;obtain⟨v,rfl,o1⟩:=tK o;obtain⟨p,us,rfl,h1,i1⟩:=MD R o1 e1;refine .inl ⟨p,us,rfl,.inl h1,?_⟩;rw[i1.len];exact k _ H R .refl tH.atom trivial
def bx:tJ X (.builtin "len") (ABM X.K):=i5.or Zx
noncomputable def vP (Γ:En):S->Option (List T)
 | .v (.t xs)=>some xs
 | .v (.w xs)=>some xs
 | a=>s9 Γ a
def OL(R:sV K C w Γ σ H)(o:tH K C w σ H x s)(e:vP Γ s=some xs):∃ p vs,x=.ref p/\(uL K H p vs\/vH K H p vs)/\sf K H vs xs:=by
 unfold vP at e;split at e
 ·cases e;obtain⟨p,us,rfl,h1,i1⟩:=o.invt;exact⟨p,us,rfl,.inr h1.sq,i1⟩
 ·cases e;obtain⟨p,us,rfl,h1,i1⟩:=Im.invw o;exact⟨p,us,rfl,.inr h1.sq,i1⟩
 ·obtain⟨p,us,rfl,h1,i1⟩:=MD R o e;exact⟨p,us,rfl,.inl h1,i1⟩
noncomputable def tT:En->List S->Option S:=λΓ as=>match as with
 | [.v (.t xs)]=>some (.v (.t xs))
 | [a]=>(s9 Γ a).map λxs=>.v (.t xs)
 | _=>none
def dR:vA K (λxs H Q=>∃ p ys,xs=[.ref p]/\((uL K H p ys/\∀ l,H l=none->Q (.ref l) (upd H l (.tup ys)))\/(vH K H p ys/\Q (.ref p) H))) tT:=by
 intro C w Γ σ H vs as s Q R o e k;unfold tT at e;split at e
 ·cases e;obtain⟨v,rfl,o1⟩:=tK o;obtain⟨p,us,rfl,h1,i1⟩:=o1.invt;exact⟨p,us,rfl,.inr ⟨h1.sq,k _ H R .refl o1 trivial⟩⟩
 ·obtain⟨xs,e1,rfl⟩:=Lb e;obtain⟨v,rfl,o1⟩:=tK o;obtain⟨p,us,rfl,h1,i1⟩:=MD R o1 e1;exact⟨p,us,rfl,.inl ⟨h1,λl hl=>k _ _ (R.new hl) (tP.new hl) (R.newt hl i1) trivial⟩⟩
 ·cases e
abbrev DO:=En->Option (Option Int×En)
def ABE (K:Fg) (t:TO) (f:DO):Prop:=∀ C w Γ σ H i Γ' Q,sV K C w Γ σ H->f Γ=some (i,Γ')->(∀ H',sV K C w Γ' σ H'->tP w.L H H'->Q i H')->t σ H Q
noncomputable def uY:DO:=λΓ=>some (none,Γ)
noncomputable def vo (f:DE):DO:=λΓ=>(f Γ).bind λp=>(iS p.1).map λi=>(some i,p.2)
def g6:ABE K yx uY:=λC w Γ σ H i Γ' Q R e k=>by cases e;exact k H R .refl
def kZ(h:sW K t f):ABE K (ABO t) (vo f):=by
 intro C w Γ σ H i Γ' Q R e k;obtain⟨p,e1,e⟩:=sC e;obtain⟨i,e2,e⟩:=Lb e;cases e;exact h C w Γ σ H p.1 p.2 _ R e1 λv H1 R1 ev o _=>⟨i,MX o e2,k H1 R1 ev⟩
noncomputable def vy (xs:List T) (lo hi:Option Int):List T:=(xs.drop (HT.sIx xs.length 0 lo)).take (HT.sIx xs.length xs.length hi - HT.sIx xs.length 0 lo)
def sf.cut(h:sf K H vs ts) lo hi:sf K H (yV vs lo hi) (vy ts lo hi):=by
 unfold yV vy;rw[h.len];exact (h.drop _).take _
noncomputable def slS (Γ:En) (lo hi:Option Int):S->Option S
 | .v (.t xs)=>some (.v (.t (vy xs lo hi)))
 | .v (.a _)=>none
 | a=>(s9 Γ a).map λxs=>.l (vy xs lo hi)
noncomputable def dSl (f:DE) (lo hi:DO):DE:=λΓ=>(f Γ).bind λp=>(lo p.2).bind λl=>(hi l.2).bind λh=>(slS h.2 l.1 h.1 p.1).map λs=>(s,h.2)
noncomputable def ABI (K:Fg):V->Option Int->Option Int->Hp->VK->Prop:=λx lo hi H Q=>∃ a xs,x=.ref a/\Tp K H a xs/\∀ p H',wG H H'->Tp K H' p (yV xs lo hi)->Q (.ref p) H'
def YC:SlR X (ABI X.K):=by
 intro pins s σ H x v vl vu lo hi sl Q I rx hs pl pu h;obtain⟨a,xs,rfl,hx,q⟩:=h;cases rx;obtain⟨its,r,ht,hz⟩:=I.tuple hx.sq;have hlen:its.toArray.size=xs.length:=by rw[Ad];exact r.length.symm
 refine⟨"tuple",_,Bp.lookup,ht.typeIs,?_⟩;by_cases hw:HT.sIx xs.length 0 lo=0/\HT.sIx xs.length xs.length hi=xs.length
 ·refine Xt ht hs pl pu (by rw[hlen];exact hw) ⟨.ref a,H,I,rfl,q a H (wG.refl H) ?_⟩;unfold yV;rw[hw.1,hw.2,GM,HK,BA (AF _)];exact hx
 ·refine HT.qY ht hs pl pu (by rw[hlen];exact hw) ?_ (by rw[hlen];exact hz);rw[hlen];refine⟨.ref s.heap.objs.size,_,I.laid (λb ob q=>AB _ q) (AF _) ?_,rfl,q _ _ (wG.upd (I.hok.fresh (AF _))) (.inl Ln)⟩;exact⟨Ah (Vk xs lo hi) hz,_,(r.drop (HT.sIx xs.length 0 lo)).take (HT.sIx xs.length xs.length hi - HT.sIx xs.length 0 lo),wm.new _ _⟩
noncomputable def ADj (K:Fg):V->Option Int->Option Int->Hp->VK->Prop:=λx lo hi H Q=>ABI K x lo hi H Q\/AEg K x lo hi H Q
def AFQ:SlR X (ADj X.K):=YC.or YR
def kE(he:sW K te f)(hl:ABE K tl lo)(hh:ABE K th hi):sW K (tSl (ADj K) te tl th) (dSl f lo hi):=by
 intro C w Γ σ H s Γ' Q R e k;obtain⟨⟨a,G1⟩,e1,e⟩:=sC e;obtain⟨⟨i,G2⟩,e2,e⟩:=sC e;obtain⟨⟨j,G3⟩,e3,e⟩:=sC e;obtain⟨z,e4,e⟩:=Lb e;cases e;dsimp only at e4;refine he C w Γ σ H a G1 _ R e1 λv H1 R1 ev1 o1 n1=>hl C w G1 σ H1 i G2 _ R1 e2 λH2 R2 ev2=>hh C w G2 σ H2 j G3 _ R2 e3 λH3 R3 ev3=>?_
 have o3:=(o1.evo ev2 R1.lst).evo ev3 R2.lst;have ev:=(ev1.trans ev2).trans ev3;unfold slS at e4;split at e4
 ·cases e4;obtain⟨p,us,rfl,h1,i1⟩:=o3.invt;exact .inl ⟨p,us,rfl,h1,λc H' sm hc=>k _ H' (R3.same sm) (ev.trans (.of_same sm)) (⟨c,_,rfl,hc,(i1.evo (.of_same sm) R3.lst).cut _ _⟩) trivial⟩
 ·cases e4
 ·obtain⟨xs,e5,e4⟩:=Lb e4;cases e4;obtain⟨p,us,rfl,h1,i1⟩:=MD R3 o3 e5;exact .inr ⟨p,us,rfl,h1,λc hc=>k _ _ (R3.new hc) (ev.trans (tP.new hc)) (R3.newl hc (i1.cut _ _)) ⟨c,rfl,Mr ev R3.lst hc⟩⟩
def vN (K:Fg) (r:V->List V->Hp->VK->Prop) (h:En->List T->List S->Option (T×List T)):Prop:=∀ C w Γ σ H l us xs vs as t ys Q,sV K C w Γ σ H->H l=some (.lst us)->sf K H us xs->us.length<=AC->ud K C w σ H vs as->h Γ xs as=some (t,ys) ->
 (∀ v us',sf K H us' ys->Im K H v t->Q v (upd H l (.lst us')))->r (.ref l) vs H Q
noncomputable def ym (Γ:En) (i:Nat):Bool:=match Γ[i]? with
 | some (some (.l _))=>true
 | _=>false
noncomputable def t5 (i:Nat) (h:En->List T->List S->Option (T×List T)) (fa:DA):DE:=λΓ=>if ym Γ i=true then (fa Γ).bind λp=>match p.2[i]? with
 | some (some (.l xs))=>(gd xs.length ()).bind λ_=>(h p.2 xs p.1).map λq=>(.v q.1,p.2.set i (some (.l q.2)))
 | _=>none
 else none
def VH(R:sV K C w Γ σ H)(h:ym Γ i=true):∃ p vs,σ[i]?=some (some (.ref p))/\H p=some (.lst vs):=by
 unfold ym at h;split at h
 ·rename_i xs e;obtain⟨v,e1,p,vs,rfl,_,h1,_⟩:=R.val i _ e;exact⟨p,vs,e1,h1⟩
 ·cases h
def R7(hr:vN K r h)(ha:ui K ta fa):sW K (tBM K "list" r (vz i) ta) (t5 i h fa):=by
 intro C w Γ σ H s Γ' Q R e k;unfold t5 at e;split at e
 rotate_left
 ·cases e
 rename_i hl;obtain⟨p,vs,e1,e2⟩:=VH R hl;obtain⟨⟨as,G1⟩,e3,e⟩:=sC e;dsimp only at e;split at e
 rotate_left
 ·cases e
 rename_i xs hx;obtain⟨_,eg,e⟩:=sC e;obtain⟨hsz,_⟩:=ML eg;obtain⟨⟨t,ys⟩,e4,e⟩:=Lb e;cases e;refine⟨.ref p,e1,.inl ⟨rfl,vs,uL.of e2⟩,ha C w Γ σ H as G1 _ R e3 λus H1 R1 ev1 o1 n1=>?_⟩;obtain⟨v,s1,q,ws,rfl,m1,h1,i1⟩:=R1.val i _ hx;rw[e1]at s1;cases s1;refine hr C w G1 σ H1 p ws xs us as t ys _ R1 h1 i1 (by rw[i1.len];exact hsz) o1 e4 λv us' hu hv=>?_
 obtain⟨R2,ev2⟩:=R1.put hx e1 hu;exact k v _ R2 (ev1.trans ev2) (hv.evo ev2 R1.lst) trivial
def iQ(hr:vN K r h):sW K (ACk K "list" r (vz i)) (t5 i h qQ):=by
 intro C w Γ σ H s Γ' Q R e k;have:=R7 hr (SW) C w Γ σ H s Γ' Q R e k;obtain⟨v,e1,e2,e3⟩:=this;exact⟨v,e1,e2,e3⟩
noncomputable def tS:En->List T->List S->Option (T×List T):=λ_ xs as=>match as with
 | [.v t]=>if xs.length < AC then some (.a .non,xs++[t]) else none
 | _=>none
def ZM:vN K yv tS:=by
 intro C w Γ σ H l us xs vs as t ys Q R hl hi hz o e k;unfold tS at e;split at e
 ·split at e
  ·rename_i hn;cases e;obtain⟨v,rfl,o1⟩:=tK o;exact⟨l,us,v,rfl,rfl,hl,by rw[hi.len];exact hn,k _ _ (hi.app (.one o1)) Im.atom⟩
  ·cases e
 ·cases e
noncomputable def yb:En->List T->List S->Option (T×List T):=λ_ xs as=>match as with
 | []=>(xs[xs.length - 1]?).map λt=>(t,xs.dropLast)
 | _=>none
theorem sf.dropLast(h:sf K H vs ts):sf K H vs.dropLast ts.dropLast:=by
 rw[Em,Em,h.len];exact h.take _
def lF:vN K ADG yb:=by
 intro C w Γ σ H l us xs vs as t ys Q R hl hi hz o e k;unfold yb at e;split at e
 ·obtain⟨t',e1,e⟩:=Lb e;cases e;obtain⟨v,e2,hv⟩:=hi.get e1;exact⟨l,us,v,rfl,ABU o,hl,by rw[hi.len];exact e2,k _ _ hi.dropLast hv⟩
 ·cases e
noncomputable def w9:En->List T->List S->Option (T×List T):=λ_ xs as=>match as with
 | [.v (.a (.int i))]=>if inR 9223372036854775807 i=true then (FW i xs.length).bind λk=>(xs[k]?).map λt=>(t,xs.eraseIdx k) else none
 | _=>none
def gZ:vN K AAF w9:=by
 intro C w Γ σ H l us xs vs as t ys Q R hl hi hz o e k;unfold w9 at e;split at e
 ·rename_i i;split at e
  ·rename_i hb;have hb:=ABW hb;obtain⟨j,e1,e⟩:=sC e;obtain⟨t',e2,e⟩:=Lb e;cases e;obtain⟨v,rfl,o1⟩:=tK o;obtain⟨y,e3,hy⟩:=hi.get e2;exact⟨l,us,i,j,y,rfl,by rw[o1.inva],hl,hb.1,hb.2,by rw[hi.len];exact e1,e3,k _ _ (hi.erase _) hy⟩
  ·cases e
 ·cases e
noncomputable def uP:En->List T->List S->Option (T×List T):=λΓ xs as=>match as with
 | [a]=>(xC Γ a).bind λzs=>gd (xs.length+zs.length) (.a .non,xs++zs)
 | _=>none
def Yb:vN K y0 uP:=by
 intro C w Γ σ H l us xs vs as t ys Q R hl hi hz o e k;unfold uP at e;split at e
 ·obtain⟨zs,e1,e⟩:=sC e;obtain⟨hg,e⟩:=ML e;cases e;obtain⟨v,rfl,o1⟩:=tK o;obtain⟨p,ws,rfl,h1,i1⟩:=PL R o1 e1;exact⟨l,p,us,ws,rfl,rfl,hl,h1,by rw[hi.len,i1.len];exact hg,k _ _ (hi.app i1) Im.atom⟩
 ·cases e
noncomputable def wA (i:Nat) (fe fi:DE):DS:=λΓ=>(fe Γ).bind λp=>p.1.tree.bind λt=>if ym p.2 i=true then (fi p.2).bind λq=>(iS q.1).bind λk=>match q.2[i]? with
  | some (some (.l xs))=>(xt xs.length k).map λj=>.nx (q.2.set i (some (.l (xs.set j t))))
  | _=>none
 else none
theorem kD(he:sW K te fe)(hi:sW K ti fi):uc K ip (yq te (ADK (vz i) ti ABS)) (wA i fe fi):=by
 intro C w Γ σ H D o hp R e k;obtain⟨⟨s,G1⟩,e1,e⟩:=sC e;obtain⟨t,e2,e⟩:=sC e;dsimp only at e e2;split at e
 rotate_left
 ·cases e
 rename_i hl;obtain⟨⟨s2,G2⟩,e3,e⟩:=sC e;obtain⟨n,e4,e⟩:=sC e;dsimp only at e e4;split at e
 rotate_left
 ·cases e
 rename_i xs hx;obtain⟨j,e5,rfl⟩:=Lb e;cases s with
 | l _ | s _ | d _=>cases e2
 | v t' =>
  cases e2;refine he C w Γ σ H _ G1 _ R e1 λv H1 R1 ev1 o1 n1=>?_
  obtain⟨p,vs,s1,h1⟩:=VH R1 hl;refine⟨.ref p,s1,hi C w G1 σ H1 s2 G2 _ R1 e3 λv2 H2 R2 ev2 o2 n2=>?_⟩;obtain⟨v3,s3,q,ws,rfl,m3,h3,i3⟩:=R2.val i _ hx;rw[s1]at s3;cases s3;exact⟨p,ws,n,j,rfl,MX o2 e4,h3,by rw[i3.len];exact e5,k w σ _ (R2.put hx s1 (i3.set j (o1.evo ev2 R1.lst))).1⟩
noncomputable def vV:List T->Option (List Bool)
 | []=>some []
 | .a (.bl b)::r=>(vV r).map λbs=>b::bs
 | _=>none
theorem WT:∀ {vs ts bs},sf K H vs ts->vV ts=some bs->vs=bs.map V.bl
 | _,[],_,h,e=>by cases e;exact h.inv0
 | _,.a (.bl b)::r,_,h,e=>by
  obtain⟨v,us,rfl,h1,h2⟩:=h.inv;obtain⟨bs,e1,rfl⟩:=Lb e;rw[h1.inva,WT h2 e1];rfl
 | _,.t _::_,_,_,e | _,.l _::_,_,_,e | _,.f _::_,_,_,e | _,.x _ _::_,_,_,e | _,.w _::_,_,_,e | _,.a .non::_,_,_,e | _,.a (.int _)::_,_,_,e | _,.a (.str _)::_,_,_,e | _,.a (.byt _)::_,_,_,e | _,.a (.flt _)::_,_,_,e | _,.a (.ref _)::_,_,_,e | _,.a (.ty _)::_,_,_,e=>by cases e
noncomputable def zP:En->List S->Option S:=λΓ as=>match as with
 | [a]=>(s9 Γ a).bind λxs=>(vV xs).map λbs=>zE (bs.all id)
 | _=>none
def bV:vA K (λxs H Q=>∃ (p:Addr) (bs:List Bool),xs=[.ref p]/\uL K H p (bs.map V.bl)/\Q (.bl (bs.all id)) H) zP:=by
 intro C w Γ σ H vs as s Q R o e k;unfold zP at e;split at e
 ·obtain⟨xs,e1,e⟩:=sC e;obtain⟨bs,e2,rfl⟩:=Lb e;obtain⟨v,rfl,o1⟩:=tK o;obtain⟨p,us,rfl,h1,i1⟩:=MD R o1 e1;exact⟨p,bs,rfl,by rw[← WT i1 e2];exact h1,k _ H R .refl tH.atom trivial⟩
 ·cases e
noncomputable def tyN (Γ:En):S->Option String
 | .v (.t _)=>some "tuple"
 | .v (.a (.int _))=>some "int"
 | .v (.a (.bl _))=>some "bool"
 | .v (.a (.str _))=>some "str"
 | .v (.a .non)=>some "NoneType"
 | .v (.l _)=>some "list"
 | .v _=>none
 | a=>(s9 Γ a).map λ_=>"list"
noncomputable def TyS (K:Fg) (H:Hp) (n:String):V->Prop
 | .int _=>n="int"
 | .bl _=>n="bool"
 | .str _=>n="str"
 | .non=>n="NoneType"
 | .ref p=>(n="list"/\∃ xs,uL K H p xs)\/(n="tuple"/\∃ xs,vH K H p xs)
 | _=>False
def TC(R:sV K C w Γ σ H)(o:tH K C w σ H x s)(e:tyN Γ s=some n):TyS K H n x:=by
 unfold tyN at e;split at e
 ·cases e;obtain⟨p,us,rfl,h1,i1⟩:=o.invt;exact .inr ⟨rfl,us,h1.sq⟩
 iterate 4
  ·cases e;rw[o.inva];exact rfl
 ·rename_i ys;cases e;obtain⟨p,us,rfl,h1,i1⟩:=o.invl;exact .inl ⟨rfl,us,h1.sq⟩
 ·cases e
 ·obtain⟨xs,e1,rfl⟩:=Lb e;obtain⟨p,us,rfl,h1,i1⟩:=MD R o e1;exact .inl ⟨rfl,us,h1⟩
theorem To(I:Inv X pins σ H s)(rx:RelV x u)(ty:TyS X.K H n x):∃ P,PySem.W.KitX X.K u (.type n) P/\P s.heap/\u≠.builtin "__main__.__loader__#opaque":=by
 cases x with
 | non=>cases ty;cases rx;exact⟨_,PySem.W.kitx_none,CW,λz=>nomatch z⟩
 | bl y=>cases ty;cases rx;exact⟨_,PySem.W.kitx_bool,CW,λz=>nomatch z⟩
 | int i=>cases ty;obtain⟨t,q⟩:=rx;cases q;exact⟨_,PySem.W.kitx_int,CW,λz=>nomatch z⟩
 | str y=>cases ty;obtain⟨t,q⟩:=rx;cases q;exact⟨_,PySem.W.kitx_str,CW,λz=>nomatch z⟩
 | ref p =>
  cases rx;rcases ty with ⟨rfl,xs,h⟩ | ⟨rfl,xs,h⟩
  ·obtain⟨its,_,pl,_⟩:=I.list h;obtain⟨o,h1,h2,_⟩:=pl.isList;exact⟨_,PySem.W.kitx_list,⟨o,h1,h2⟩,λz=>nomatch z⟩
  ·obtain⟨its,_,pl,_⟩:=I.tuple h;obtain⟨o,h1,h2,_⟩:=pl;exact⟨_,PySem.W.kitx_tuple,⟨o,h1,h2⟩,λz=>nomatch z⟩
 | byt _ | flt _ | ty _=>exact ty.elim
noncomputable def AAq:String->Option Nat
 | "int"=>some 0
 | "bool"=>some 1
 | "str"=>some 2
 | "list"=>some 3
 | "tuple"=>some 4
 | "NoneType"=>some 5
 | _=>none
noncomputable def ACZ:Nat->String
 | 0=>"int" | 1=>"bool" | 2=>"str" | 3=>"list" | 4=>"tuple" | _=>"NoneType"
@[simp] theorem nR:AAq "tuple"=some 4:=(rfl)
def Ua(h:AAq a=some i):a=ACZ i/\i < 6:=by
 unfold AAq at h;split at h <;> first | (cases h;exact⟨rfl,by decide⟩) | cases h
noncomputable def zF (a b:String):Option Bool:=(AAq a).bind λi=>(AAq b).bind λj=>if j=5 then none else some (i == j || (i == 1 && j == 0))
def ke(e:zF a b=some c):IB K (.type a) (.type b)=some c:=by
 obtain⟨i,e1,z0⟩:=sC e;obtain⟨j,e2,z⟩:=sC z0;obtain⟨rfl,hi⟩:=Ua e1;obtain⟨rfl,hj⟩:=Ua e2;clear e1 e2 z0 e;by_cases h5:j=5
 ·rw[if_pos h5]at z;cases z
 rw[if_neg h5]at z;cases z;have key:(AE 6).map (λi=>(AE 5).map λj=>IB K (.type (ACZ i)) (.type (ACZ j)))=(AE 6).map λi=>(AE 5).map λj=>some (i == j || (i == 1 && j == 0)):=by kernel_rfl
 exact IC.mp (IC.mp key i (BN.mpr hi)) j (BN.mpr ⋯)
noncomputable def y7:String->Option Bool
 | "int"=>some false
 | "bool"=>some false
 | "str"=>some false
 | "NoneType"=>some false
 | "list"=>some true
 | "tuple"=>some true
 | _=>none
def Y6(e:y7 a=some c):PySem.W.kitAny K (.type a) [.type "list",.type "tuple"]=some c:=by
 unfold y7 at e;split at e <;> first | (cases e;kernel_rfl) | cases e
noncomputable def AEM (K:Fg):List V->Hp->VK->Prop:=λxs H Q=>∃ x T n b,xs=[x,.ty T]/\TyS K H n x/\zF n T=some b/\Q (.bl b) H
def mI:tJ X (.builtin "isinstance") (AEM X.K):=by
 intro pins s σ H xs us Q I r h;obtain⟨x,T,n,b,rfl,ty,e,q⟩:=h;obtain⟨u,u',rfl,r1,rfl⟩:=vals2 r;obtain⟨P,Z,hP,hx⟩:=To I r1 ty;exact PySem.W.kia_one Z I.kIn hP (ke e) hx λtk=>⟨.bl b,H,I.tok tk,rfl,q⟩
noncomputable def AAK (K:Fg):List V->Hp->VK->Prop:=λxs H Q=>∃ x p n b,xs=[x,.ref p]/\vH K H p [.ty "list",.ty "tuple"]/\TyS K H n x/\y7 n=some b/\Q (.bl b) H
def YA:tJ X (.builtin "isinstance") (AAK X.K):=by
 intro pins s σ H xs us Q I r h;obtain⟨x,p,n,b,rfl,hp,ty,e,q⟩:=h;obtain⟨u,u',rfl,r1,rfl⟩:=vals2 r;obtain⟨its,rv,⟨o,ho,hcl,⟨m,hd⟩⟩,hz⟩:=I.tuple hp;obtain⟨u1,u2,rfl,rfl,rfl⟩:=vals2 rv;obtain⟨P,Z,hP,hx⟩:=To I r1 ty;obtain⟨cls,dd,data,sl⟩:=o;simp only at hcl hd;subst hcl hd;exact PySem.W.kia_tup Z I.kIn hP ho (Y6 e) hx λtk=>⟨.bl b,H,I.tok tk,rfl,q⟩
noncomputable def ACV (Γ:En) (a:S):T->Option S
 | .a (.ty T)=>(tyN Γ a).bind λn=>(zF n T).map zE
 | .t ts=>match ts with
  | [.a (.ty x),.a (.ty y)]=>if x="list"/\y="tuple" then (tyN Γ a).bind λn=>(y7 n).map zE else none
  | _=>none
 | _=>none
noncomputable def xx:En->List S->Option S:=λΓ as=>match as with
 | [a,.v t]=>ACV Γ a t
 | _=>none
noncomputable def ABb (K:Fg):List V->Hp->VK->Prop:=λxs H Q=>AEM K xs H Q\/AAK K xs H Q
def Z5:tJ X (.builtin "isinstance") (ABb X.K):=mI.or YA
def XF:vA K (ABb K) xx:=by
 intro C w Γ σ H vs as s Q R o e k;unfold xx at e;split at e
 rotate_left
 ·cases e
 unfold ACV at e;split at e
 ·obtain⟨n,e1,e⟩:=sC e;obtain⟨b,e2,e⟩:=Lb e;cases e;obtain⟨v,u,rfl,o1,o2⟩:=wL o;exact .inl ⟨v,_,n,b,by rw[o2.inva],TC R o1 e1,e2,k _ H R .refl tH.atom trivial⟩
 ·split at e
  ·split at e
   ·rename_i hxy;obtain⟨rfl,rfl⟩:=hxy;obtain⟨n,e1,e⟩:=sC e;obtain⟨b,e2,e⟩:=Lb e;cases e;obtain⟨v,u,rfl,o1,o2⟩:=wL o;obtain⟨p,us,rfl,h1,i1⟩:=o2.invt;have hus:us=[.ty "list",.ty "tuple"]:=sf.of_atoms i1;subst hus;exact .inr ⟨v,p,n,b,rfl,h1.sq,TC R o1 e1,e2,k _ H R .refl tH.atom trivial⟩
   ·cases e
  ·cases e
 ·cases e
noncomputable def xw:En->List S->Option S:=λ_ as=>match as with
 | [.v (.a (.int i))]=>some (y6 i)
 | [.v (.a (.bl b))]=>some (y6 (if b then 1 else 0))
 | _=>none
def k9:vA K (λxs H Q=>(∃ i,xs=[.int i]/\Q (.int i) H)\/∃ k,xs=[.bl k]/\Q (.int (if k then 1 else 0)) H) xw:=by
 intro C w Γ σ H vs as s Q R o e k;unfold xw at e;split at e
 ·cases e;obtain⟨v,rfl,o1⟩:=tK o;exact .inl ⟨_,by rw[o1.inva],k _ H R .refl tH.atom trivial⟩
 ·cases e;obtain⟨v,rfl,o1⟩:=tK o;exact .inr ⟨_,by rw[o1.inva],k _ H R .refl tH.atom trivial⟩
 ·cases e
noncomputable def w6:En->List S->Option S:=λ_ as=>match as with
 | [.v (.a (.int i)),.v (.a (.int j))]=>some (y6 (if j > i then j else i))
 | _=>none
def kn:vA K (λxs H Q=>∃ i j,xs=[.int i,.int j]/\Q (.int (if j > i then j else i)) H) w6:=by
 intro C w Γ σ H vs as s Q R o e k;unfold w6 at e;split at e
 ·cases e;obtain⟨v,u,rfl,o1,o2⟩:=wL o;exact⟨_,_,by rw[o1.inva,o2.inva],k _ H R .refl tH.atom trivial⟩
 ·cases e
noncomputable def tU:List T->Option (List V)
 | []=>some []
 | .a v::r=>(tU r).map λvs=>v::vs
 | _=>none
theorem OG:∀ {vs ts us},sf K H vs ts->tU ts=some us->vs=us
 | _,[],_,h,e=>by cases e;exact h.inv0
 | _,.a b::r,_,h,e=>by
  obtain⟨v,us,rfl,h1,h2⟩:=h.inv;obtain⟨bs,e1,rfl⟩:=Lb e;rw[h1.inva,OG h2 e1]
 | _,.t _::_,_,_,e | _,.l _::_,_,_,e | _,.f _::_,_,_,e | _,.x _ _::_,_,_,e | _,.w _::_,_,_,e=>by cases e
noncomputable def ACm (K:Fg) (r:V->List V->Hp->VK->Prop) (to:TE) (t:TA):TE:=λσ H Q=>to σ H λx H1=>(∃ p xs,x=.ref p/\(Tp K H1 p xs\/KW K p xs))/\t σ H1 λxs H2=>r x xs H2 Q
open PySem.Spec PyProof.Rows in
def Zm{X:Cx}{o e:Expr}{es:List Expr}{to:TE}{t:TA}{name:Str}{apos cpos:Pos}{id:String}{r:V->List V->Hp->VK->Prop}(slot:Slot "tuple" name id)(hty:Ga (.builtin id)=pure (.type "method_descriptor"))(hm:MtM X id r)(ho:PE X o to)(ha:PA X (e::es) t)
  (hbase:Ct o name X.env (eval o X.env)=eval o X.env:=by rfl)
  (hfew:((CB cpos (AV (e::es) X.env)).all (λx=>!x.1) && (GC cpos (EZ [] X.env)).all (λx=>x.1.isSome) && decide ((e::es).length+([]:List Do).length+(if ([]:List Do).isEmpty then 0 else 1) < 30))=true:=by rfl)
  (hline:(apos.endLine == cpos.line)=true:=by rfl) (hs:AV (e::es) X.env=(false,eval e X.env)::AV es X.env:=by rfl) (hplain:(CB cpos (AV es X.env)).any (·.1)=false:=by rfl) :
  PE X (.Call (.Attribute o name apos) (e::es) [] cpos) (ACm X.K r to t):=by
 intro pins s σ H Q I h;refine Hz hbase hfew hline rfl (tE (ho pins s σ H _ I h) λv s1 ⟨x,H1,I1,r1,⟨p,xs,ex,hp⟩,q1⟩=>?_);subst ex;cases r1;have key:∃ o',s1.heap.get? p=some o'/\o'.cls=.type "tuple"/\o'.dict=none:=by
  rcases hp with (hp | ⟨o',its,n,a1,a2,a3,a4⟩) | ⟨o',its,n,a1,a2,a3,a4⟩
  ·obtain⟨_,its,_,o',ho',hc',_,hd'⟩:=(show tG X.prog X.w H1 s1.heap p (.tup xs) from I1.hok p _ hp)
   exact⟨o',ho',hc',hd'⟩
  ·exact⟨o',I1.kIn p o' a1,a2,a3⟩
  ·exact⟨o',I1.kIn p o' a1,a2,a3⟩
 obtain⟨o',ho',hc',hd'⟩:=key;refine⟨"tuple",id,F.plainAttrs_tuple,slot,hty,⟨o',ho',hc'⟩,λa e=>by cases e;exact⟨o',ho',hd'⟩,?_⟩;have hA:=ha cpos pins s1 σ H1 _ I1 q1;rw[hs]at hA ⊢;refine DK (by show (false || (CB cpos (AV es X.env)).any (·.1))=false;rw[hplain] <;> rfl) (Eu ?_);exact tE hA λus s2 ⟨vs,H2,I2,r2,q2⟩=>hm pins s2 σ H2 (.ref p) vs (.ref p) us Q I2 (show RelV (.ref p) (.ref p) from rfl) r2 q2
noncomputable def wJ (fo:DE) (fa:DA):DE:=λΓ=>(fo Γ).bind λp=>(fa p.2).bind λq=>match p.1,q.1 with
 | .v (.t xs),[.v (.a y)]=>(tU xs).bind λvs=>if tM y=true/\vs.all tM=true then (vs.findIdx? λz=>xM z y).map λj=>(y6 (j:Nat),q.2) else none
 | .v (.w xs),[.v (.a y)]=>(tU xs).bind λvs=>if tM y=true/\vs.all tM=true then (vs.findIdx? λz=>xM z y).map λj=>(y6 (j:Nat),q.2) else none
 | _,_=>none
def jt(ho:sW K to fo)(ha:ui K ta fa):sW K (ACm K (vW K) to ta) (wJ fo fa):=by
 intro C w Γ σ H s Γ' Q R e k;obtain⟨⟨a,G1⟩,e1,e⟩:=sC e;obtain⟨⟨as,G2⟩,e2,e⟩:=sC e;dsimp only at e;split at e
 ·obtain⟨vs,e3,e⟩:=sC e;split at e
  ·rename_i hf;obtain⟨j,e4,e⟩:=Lb e;cases e;refine ho C w Γ σ H _ G1 _ R e1 λv H1 R1 ev1 o1 n1=>?_
   have o1':=o1;obtain⟨p,us,rfl,h1,i1⟩:=o1.invt;refine⟨⟨p,us,rfl,.inl h1⟩,ha C w G1 σ H1 _ _ _ R1 e2 λws H2 R2 ev2 o2 n2=>?_⟩;obtain⟨u,rfl,o3⟩:=tK o2;obtain⟨p',us',e5,h1',i1'⟩:=(o1'.evo ev2 R1.lst).invt;cases e5;have hus:=OG i1' e3;subst hus;exact⟨p,us',_,j,rfl,by rw[o3.inva],h1'.sq,hf.1,hf.2,e4,k _ H2 R2 (ev1.trans ev2) tH.atom trivial⟩
  ·cases e
 ·obtain⟨vs,e3,e⟩:=sC e;split at e
  ·rename_i hf;obtain⟨j,e4,e⟩:=Lb e;cases e;refine ho C w Γ σ H _ G1 _ R e1 λv H1 R1 ev1 o1 n1=>?_
   have o1':=o1;obtain⟨p,us,rfl,h1,i1⟩:=Im.invw o1;refine⟨⟨p,us,rfl,.inr h1⟩,ha C w G1 σ H1 _ _ _ R1 e2 λws H2 R2 ev2 o2 n2=>?_⟩;obtain⟨u,rfl,o3⟩:=tK o2;obtain⟨p',us',e5,h1',i1'⟩:=Im.invw (o1'.evo ev2 R1.lst);cases e5;have hus:=OG i1' e3;subst hus;exact⟨p,us',_,j,rfl,by rw[o3.inva],h1'.sq,hf.1,hf.2,e4,k _ H2 R2 (ev1.trans ev2) tH.atom trivial⟩
  ·cases e
 ·cases e
end D
namespace L2
open PySem PySem.Spec PyProof.Rows
section
variable {X:Cx}{tg:Expr}
def ACU (K:Ae) (tl:TE):TI:=λσ H R=>tl σ H λx H1=>∃ a,x=.ref a/\(((∃ xs,uL K H1 a xs)/\R (Itl K a) H1)\/((∃ xs,vH K H1 a xs)/\R (Itt K a) H1))
def kO(hl:PE X l tl):PI X tg l (ACU X.K tl):=by
 intro pins s σ H R I h;refine tE (hl pins s σ H _ I h) λv s1 ⟨x,H1,I1,r1,q1⟩=>?_
 obtain⟨a,rfl,q⟩:=q1;cases r1;rcases q with ⟨⟨xs,hq⟩,q⟩ | ⟨⟨xs,hq⟩,q⟩
 ·obtain⟨its,rv,p,hz⟩:=I1.list hq;refine GG p.isList ⟨s1.heap.objs.size,[s1.heap.objs.size],_,_,H1,rfl,I1.kept λb o e=>AB _ e,XB a _,⟨_,AK _ rfl,rfl,rfl⟩,λb hb=>?_,q⟩;have e:=by simpa using hb
  subst e;exact I1.fpOk (AF _) (I1.hok.fresh (AF _))
 ·obtain⟨its,rv,p,hz⟩:=I1.tuple hq;refine Ci p ⟨s1.heap.objs.size,[s1.heap.objs.size],_,_,H1,rfl,I1.kept λb o e=>AB _ e,fM a _,⟨_,AK _ rfl,rfl,rfl⟩,λb hb=>?_,q⟩;have e:=by simpa using hb
  subst e;exact I1.fpOk (AF _) (I1.hok.fresh (AF _))
end
section
variable {X:Cx}{pos:Pos}
def ABe (i j k:Nat) (ta:TA):TS:=λD σ H=>ta σ H λvs H1=>∃ v w z,vs=[v,w,z]/\D.nx (((σ.set i (some v)).set j (some w)).set k (some z)) H1
def ZP{kt k2 pt2}(hc:X.calm=true)(hN:X.N.Nodup)(hi:X.N[i]?=some x)(hj:X.N[j]?=some y)(hk:X.N[k]?=some z)(hij:i≠j)(hik:i≠k)(hjk:j≠k)
  (hx:X.env.scope.names.lookup x=some .local) (hy:X.env.scope.names.lookup y=some .local) (hz:X.env.scope.names.lookup z=some .local) (ha:PA X [a,b,c] ta)
  (hw:DH [.Tuple [.Name x px,.Name y py,.Name z pz] kt pt] (.Tuple [a,b,c] k2 pt2) X.env=pure (some [x,y,z]))
  (hs:DG [.Tuple [.Name x px,.Name y py,.Name z pz] kt pt] (.Tuple [a,b,c] k2 pt2) pos.line X.env=pure false:=by rfl) :
  PS X (.Assign [.Tuple [.Name x px,.Name y py,.Name z pz] kt pt] (.Tuple [a,b,c] k2 pt2) pos) (ABe i j k ta):=by
 intro pins s σ H D I h;refine AA (Ed (AA (AG (AA (Tuple_ (tE (ha _ pins s σ H _ I h) λus s1 ⟨vs,H1,I1,r1,q1⟩=>?_))))));obtain⟨v,w,q,rfl,q1⟩:=q1;obtain⟨u1,u2,u3,rfl,rv,rw',rz⟩:∃ u1 u2 u3,us=[u1,u2,u3]/\RelV v u1/\RelV w u2/\RelV q u3:=by
  cases r1 with
  | cons p q =>
   cases q with
   | cons p' q' =>
    cases q' with
    | cons p'' q'' =>
     cases q'';exact⟨_,_,_,rfl,p,p',p''⟩
 refine A9 ?_ (by show 3<=AC;decide);have I2:Inv X pins σ H1 { s1 with heap:=s1.heap.push { cls:=.type "tuple",data:=.seq [u1,u2,u3].toArray } }:=I1.kept λb o e=>AB _ e
 rw[hw];refine AA (AG (AA (CS (AA (JV (items:=#[u1,u2,u3]) (I.ok.hd hc) (J4 s1.heap _) λh' hx'=>?_)))));refine AA (Cf (EH (M0 (I2.kept λb o e=>hx' b o (Ag (AM e)) e) hN hk (.inl hz) rz (λs2 I4=>?_) (.inr hz))));refine Cf (EH (M0 I4 hN hj (.inl hy) rw' (λs3 I5=>Cf (EH (M0 I5 hN hi (.inl hx) rv (λs4 I6=>F7 (AG ?_)) (.inr hx)))) (.inr hy)));rw[FI _ _ (Ax hij),FI _ _ (Ax hik),FI _ _ (Ax hjk)]at I6;exact⟨_,H1,I6,q1⟩
end
end L2
namespace D
open PySem L2
noncomputable def t9 (lo:Int) (n:Nat):List T:=(AE n).map λ(i:Nat)=>T.a (.int (lo+(i:Int)))
noncomputable def vD (fa:DA):DI:=λΓ=>(fa Γ).bind λp=>match p.1 with
 | [.v (.a (.int j))]=>if (inR 4611686018427387903 j && Eh j.toNat AC)=true then some ((t9 0 j.toNat,[]),p.2) else none
 | _=>none
noncomputable def ABT (fa:DA):DI:=λΓ=>(fa Γ).bind λp=>match p.1 with
 | [.v (.a (.int i)),.v (.a (.int j))]=>if (inR 4611686018427387903 i && inR 4611686018427387903 j && Eh (j - i).toNat AC)=true then some ((t9 i (j - i).toNat,[]),p.2) else none
 | _=>none
section
variable {K:Fg}
def Rr(h:n<=AC):ADW K w Γ σ (Itr lo n) H (t9 lo n) []:=by
 refine⟨by simp[t9];exact h,λL' _ _ H2 _=>⟨λi t e=>?_,by simp[t9];exact AF n⟩⟩;unfold t9 at e;rw[Ak]at e;obtain⟨j,e1,e⟩:=Lb e;obtain⟨hi',e1⟩:=Ac.mp e1;have hi:=by simpa using hi'
 have e1':=by simpa using e1
 subst e;subst e1';refine⟨hi,λx H3 y=>?_⟩;obtain⟨a,b⟩:=y;subst a b;exact⟨λ_ _ z=>z,Im.atom⟩
def ADS(h:(inR 4611686018427387903 j && Eh j.toNat AC)=true):-(2 ^ 62)<=j/\j < 2 ^ 62/\j.toNat<=AC:=by
 rw[Ar]at h;exact⟨(xY h.1).1,(xY h.1).2,Ex h.2⟩
def AEJ(h:(inR 4611686018427387903 i && inR 4611686018427387903 j && Eh (j - i).toNat AC)=true):(-(2 ^ 62)<=i/\i < 2 ^ 62/\-(2 ^ 62)<=j/\j < 2 ^ 62)/\(j - i).toNat<=AC:=by
 rw[Ar,Ar]at h;exact⟨⟨(xY h.1.1).1,(xY h.1.1).2,(xY h.1.2).1,(xY h.1.2).2⟩,Ex h.2⟩
def Zn(ha:ui K ta fa):yJ K (ABX ta) (vD fa):=by
 intro C w Γ σ H its src Γ' R Rp e k;obtain⟨⟨as,G1⟩,e1,e⟩:=sC e;dsimp only at e;split at e
 ·split at e
  ·rename_i j hj0;have hj:=ADS hj0;cases e;refine ha C w Γ σ H _ _ _ Rp e1 λvs H1 R1 ev1 o1 n1=>?_
   obtain⟨v,rfl,o2⟩:=tK o1;exact⟨_,by rw[o2.inva],hj.1,hj.2.1,k _ H1 R1 ev1 (Rr hj.2.2)⟩
  ·cases e
 ·cases e
def Wv(ha:ui K ta fa):yJ K (ABL ta) (ABT fa):=by
 intro C w Γ σ H its src Γ' R Rp e k;obtain⟨⟨as,G1⟩,e1,e⟩:=sC e;dsimp only at e;split at e
 ·split at e
  ·rename_i j hj0;have hj:=AEJ hj0;cases e;refine ha C w Γ σ H _ _ _ Rp e1 λvs H1 R1 ev1 o1 n1=>?_
   obtain⟨v,u,rfl,o2,o3⟩:=wL o1;exact⟨_,_,by rw[o2.inva,o3.inva],hj.1,k _ H1 R1 ev1 (Rr hj.2)⟩
  ·cases e
 ·cases e
noncomputable def xJ (Γ:En):S->List Nat
 | .s i=>match Γ[i]? with
  | some (some (.l _))=>[i]
  | _=>[]
 | _=>[]
noncomputable def tV (f:DE):DI:=λΓ=>(f Γ).bind λp=>(vP p.2 p.1).bind λxs=>gd xs.length ((xs,xJ p.2 p.1),p.2)
theorem QN(R:sV K C w Γ σ H)(o:tH K C w σ H x s)(e:s9 Γ s=some xs):∃ p vs,x=.ref p/\uL K H p vs/\sf K H vs xs /\
  ∀ L',(∀ q∈L',q∈w.L)->(∀ i∈xJ Γ s,∀ q,σ[i]?=some (some (.ref q))->(∃ zs,Γ[i]?=some (some (.l zs)))->q∉L')->∀ H2,tP L' H H2->uL K H2 p vs:=by
 cases s with
 | v t =>
  cases t with
  | l ys =>
   cases e;obtain⟨p,vs,rfl,h1,h2⟩:=o.invl;exact⟨p,vs,rfl,h1.sq,h2,λL' hs _ H2 ev=>(h1.evo ev λq hq=>R.lst q (hs q hq)).sq⟩
  | a _ | t _ | f _ | x _ _ | w _=>cases e
 | d _=>cases e
 | l ys =>
  cases e;obtain⟨p,vs,rfl,n1,n2,n3,h1,h2⟩:=o;exact⟨p,vs,rfl,uL.of h1,h2,λL' hs _ H2 ev=>uL.of (ev _ _ h1 λz=>n1 (hs p z))⟩
 | s i =>
  have o':=o;unfold s9 at e;dsimp only at e;split at e
  ·rename_i ys h;cases e;obtain⟨v,e1,p,vs,rfl,_,h1,h2⟩:=R.val i _ h;rw[o']at e1;cases e1;refine⟨p,vs,rfl,uL.of h1,h2,λL' hs av H2 ev=>uL.of (ev _ _ h1 (av i ?_ p o' ⟨_,h⟩))⟩;simp[xJ,h]
  ·rename_i ys h;cases e;obtain⟨v,e1,p,vs,rfl,h1,h2,h3,_⟩:=R.val i _ h;rw[o']at e1;cases e1;exact⟨p,vs,rfl,uL.of h2,h1,λL' hs av H2 ev=>uL.of (ev _ _ h2 λz=>h3 (hs p z))⟩
  ·rename_i ys h;cases e;obtain⟨v,e1,p,vs,rfl,h1,h2⟩:=R.val i _ h;rw[o']at e1;cases e1;exact⟨p,vs,rfl,h2.sq,h1,λL' hs av H2 ev=>(h2.evo ev λq hq=>R.lst q (hs q hq)).sq⟩
  ·cases e
def Wy(hl:sW K tl f):yJ K (ACU K tl) (tV f):=by
 intro C w Γ σ H its src Γ' R Rp e k;obtain⟨⟨a,G1⟩,e1,e⟩:=sC e;obtain⟨xs,e2,e⟩:=sC e;obtain⟨hz,e⟩:=ML e;cases e;refine hl C w Γ σ H a _ _ Rp e1 λv H1 R1 ev1 o1 n1=>?_
 dsimp only at e2;have go:∀ {vs:List V} {H2:Hp} {J:It} (mk:∀ i x,vs[i]?=some x->J.go i H2) (yl:∀ i x H3,J.yld i H2 x H3->H3=H2/\vs[i]?=some x),sf K H2 vs its->∀ i t,its[i]?=some t->J.go i H2/\∀ x H3,J.yld i H2 x H3->(∀ b o,H2 b=some o->H3 b=some o)/\Im K H3 x t:=λ{vs H2 J} mk yl hi i t e=>by
  obtain⟨v,e3,hv⟩:=hi.get e;refine⟨mk i v e3,λx H3 y=>?_⟩;obtain⟨rfl,e4⟩:=yl i x H3 y;rw[e3]at e4;cases e4;exact⟨λ_ _ z=>z,hv⟩
 unfold vP at e2;split at e2
 ·cases e2;obtain⟨p,vs,rfl,h1,i1⟩:=o1.invt;refine⟨p,rfl,.inr ⟨⟨vs,h1.sq⟩,k _ H1 R1 ev1 ⟨hz,λL' hs av H2 ev=>?_⟩⟩⟩;have hL:LL L' H1:=λq hq=>R1.lst q (hs q hq)
  have h2:=(Qo ev hL h1).sq;have i2:=i1.evo ev hL;exact⟨go (λi x e=>⟨vs,x,h2,e⟩) (λi x H3 y=>⟨y.1,y.2 vs h2⟩) i2,⟨vs,h2,by rw[i2.len];exact AF _⟩⟩
 ·cases e2;obtain⟨p,vs,rfl,h1,i1⟩:=Im.invw o1;refine⟨p,rfl,.inr ⟨⟨vs,h1.sq⟩,k _ H1 R1 ev1 ⟨hz,λL' hs av H2 ev=>?_⟩⟩⟩;have hL:LL L' H1:=λq hq=>R1.lst q (hs q hq)
  have h2:vH K H2 p vs:=h1.sq;have i2:=i1.evo ev hL;exact⟨go (λi x e=>⟨vs,x,h2,e⟩) (λi x H3 y=>⟨y.1,y.2 vs h2⟩) i2,⟨vs,h2,by rw[i2.len];exact AF _⟩⟩
 ·obtain⟨p,vs,rfl,h1,i1,st⟩:=QN R1 o1 e2;refine⟨p,rfl,.inl ⟨⟨vs,h1⟩,k _ H1 R1 ev1 ⟨hz,λL' hs av H2 ev=>?_⟩⟩⟩;have hL:LL L' H1:=λq hq=>R1.lst q (hs q hq)
  have h2:=st L' hs av H2 ev;have i2:=i1.evo ev hL;exact⟨go (λi x e=>⟨vs,x,h2,e⟩) (λi x H3 y=>⟨y.1,y.2 vs h2⟩) i2,⟨vs,h2,by rw[i2.len];exact AF _⟩⟩
def RQ lo n:sf K H (xD lo n) (t9 lo n):=by
 have:t9 lo n=(xD lo n).map T.a:=by simp[t9,xD]
 rw[this];exact sf.atoms _
noncomputable def wC (as:List S):Option (List T):=match as with
 | [.v (.a (.int j))]=>if (inR 4611686018427387903 j && Eh j.toNat AC)=true then some (t9 0 j.toNat) else none
 | [.v (.a (.int i)),.v (.a (.int j))]=>if (inR 4611686018427387903 i && inR 4611686018427387903 j && Eh (j - i).toNat AC)=true then some (t9 i (j - i).toNat) else none
 | _=>none
noncomputable def AAs:List V->Hp->VK->Prop:=λxs H Q=>(∃ j,xs=[.int j]/\∀ p,H p=none->Q (.ref p) (upd H p (.rng 0 j)))\/(∃ i j,xs=[.int i,.int j]/\∀ p,H p=none->Q (.ref p) (upd H p (.rng i j)))
noncomputable def AAZ:List V->Hp->VK->Prop:=λxs H Q=>∃ p lo hi,xs=[.ref p]/\H p=some (.rng lo hi)/\(-(2 ^ 62)<=lo/\lo < 2 ^ 62/\-(2 ^ 62)<=hi/\hi < 2 ^ 62)/\(hi - lo).toNat<=2 ^ 24/\∀ l,H l=none->Q (.ref l) (upd H l (.lst (xD lo (hi - lo).toNat)))
noncomputable def AAa:List V->Hp->VK->Prop:=λxs H Q=>∃ p lo hi,xs=[.ref p]/\H p=some (.rng lo hi)/\(-(2 ^ 62)<=lo/\lo < 2 ^ 62/\-(2 ^ 62)<=hi/\hi < 2 ^ 62)/\(hi - lo).toNat<=2 ^ 24/\∀ l,H l=none->Q (.ref l) (upd H l (.tup (xD lo (hi - lo).toNat)))
noncomputable def uk (fa:DA):DE:=λΓ=>(fa Γ).bind λp=>(wC p.1).map λxs=>(.l xs,p.2)
noncomputable def vg (fa:DA):DE:=λΓ=>(fa Γ).bind λp=>(wC p.1).map λxs=>(.v (.t xs),p.2)
def UC(R:sV K C w Γ σ H)(o:ud K C w σ H vs as)(e:wC as=some xs)
  (k:∀ p lo hi,H p=none->(-(2 ^ 62)<=lo/\lo < 2 ^ 62/\-(2 ^ 62)<=hi/\hi < 2 ^ 62)->(hi - lo).toNat<=2 ^ 24->xs=t9 lo (hi - lo).toNat->Q (.ref p) (upd H p (.rng lo hi))):AAs vs H Q:=by
 have hs:AC=2 ^ 24:=by rw[BJ]
 unfold wC at e;split at e
 ·split at e
  ·rename_i j hj0;have hj:=ADS hj0;cases e;obtain⟨v,rfl,o2⟩:=tK o;refine .inl ⟨_,by rw[o2.inva],λp hp=>k p 0 _ hp ⟨by decide,by decide,hj.1,hj.2.1⟩ ?_ (by rw[J0])⟩;rw[J0];have:=hj.2.2;lia
  ·cases e
 ·split at e
  ·rename_i j hj0;have hj:=AEJ hj0;cases e;obtain⟨v,u,rfl,o2,o3⟩:=wL o;exact .inr ⟨_,_,by rw[o2.inva,o3.inva],λp hp=>k p _ _ hp hj.1 ⋯ rfl⟩
  ·cases e
 ·cases e
def Xy(ha:ui K ta fa):sW K (tCB AAZ (yw (tCB AAs ta) ACF)) (uk fa):=by
 intro C w Γ σ H s Γ' Q R e k;obtain⟨⟨as,G1⟩,e1,e⟩:=sC e;obtain⟨xs,e2,e⟩:=Lb e;cases e;refine ha C w Γ σ H as G1 _ R e1 λvs H1 R1 ev1 o1 n1=>UC R1 o1 e2 λp lo hi hp hb hz hx=>?_
 have R2:sV K C w G1 σ (upd H1 p (.rng lo hi)):=R1.new hp;have ev2:tP w.L H (upd H1 p (.rng lo hi)):=ev1.trans (tP.new hp);refine⟨p,lo,hi,rfl,Ln,hb,hz,λl hl=>?_⟩;subst hx;exact k _ _ (R2.new hl) (ev2.trans (tP.new hl)) (R2.newl hl (RQ _ _)) ⟨l,rfl,Mr ev2 R2.lst hl⟩
def mG(ha:ui K ta fa):sW K (tCB AAa (yw (tCB AAs ta) ACF)) (vg fa):=by
 intro C w Γ σ H s Γ' Q R e k;obtain⟨⟨as,G1⟩,e1,e⟩:=sC e;obtain⟨xs,e2,e⟩:=Lb e;cases e;refine ha C w Γ σ H as G1 _ R e1 λvs H1 R1 ev1 o1 n1=>UC R1 o1 e2 λp lo hi hp hb hz hx=>?_
 have R2:sV K C w G1 σ (upd H1 p (.rng lo hi)):=R1.new hp;have ev2:tP w.L H (upd H1 p (.rng lo hi)):=ev1.trans (tP.new hp);refine⟨p,lo,hi,rfl,Ln,hb,hz,λl hl=>?_⟩;subst hx;exact k _ _ (R2.new hl) (ev2.trans (tP.new hl)) (R2.newt hl (RQ _ _)) trivial
theorem dI(ha:ui K ta fa)(hi:ip≠some i)(hj:ip≠some j):uc K ip (ADd i j ta) (λΓ=>(fa Γ).bind λp=>match p.1 with
  | [.v a,.v b]=>some (.nx ((p.2.set i (some (.v a))).set j (some (.v b))))
  | _=>none):=by
 intro C w Γ σ H D o hp R e k;obtain⟨⟨as,G1⟩,e1,e⟩:=sC e;dsimp only at e;split at e
 ·cases e;refine ha C w Γ σ H _ G1 _ R e1 λvs H1 R1 ev1 o1 n1=>?_
  obtain⟨v,u,rfl,o2,o3⟩:=wL o1;exact⟨v,u,rfl,k w _ H1 ((R1.setv (g:=.v _) rfl o2 (MU hp hi)).setv rfl o3 (MU hp hj))⟩
 ·cases e
noncomputable def yy (i j:Nat) (fa:DA):DS:=λΓ=>(fa Γ).bind λp=>match p.1 with
  | [.v a,.v b]=>some (.nx ((p.2.set i (some (.v a))).set j (some (.v b))))
  | _=>none
noncomputable def zG (i j k:Nat) (fa:DA):DS:=λΓ=>(fa Γ).bind λp=>match p.1 with
  | [.v a,.v b,.v c]=>some (.nx (((p.2.set i (some (.v a))).set j (some (.v b))).set k (some (.v c))))
  | _=>none
def ACt(h:ud K C w σ H vs [a,b,c]):∃ v u z,vs=[v,u,z]/\tH K C w σ H v a/\tH K C w σ H u b/\tH K C w σ H z c:=by
 obtain⟨v,r,rfl,h1,k⟩:=AAQ h;obtain⟨u,z,rfl,k2⟩:=wL k;exact⟨v,u,z,rfl,h1,k2⟩
def Xj(ha:ui K ta fa)(hi:ip≠some i)(hj:ip≠some j)(hk:ip≠some k):uc K ip (ABe i j k ta) (zG i j k fa):=by
 intro C w Γ σ H D o hp R e kk;obtain⟨⟨as,G1⟩,e1,e⟩:=sC e;dsimp only at e;split at e
 ·cases e;refine ha C w Γ σ H _ G1 _ R e1 λvs H1 R1 ev1 o1 n1=>?_
  obtain⟨v,u,z,rfl,o2,o3,o4⟩:=ACt o1;exact⟨v,u,z,rfl,kk w _ H1 (((R1.setv (g:=.v _) rfl o2 (MU hp hi)).setv (g:=.v _) rfl o3 (MU hp hj)).setv rfl o4 (MU hp hk))⟩
 ·cases e
noncomputable def ACG (tg:En->T->Option En) (f:DE):DS:=λΓ=>(f Γ).bind λp=>p.1.tree.bind λt=>(tg p.2 t).map .nx
theorem ZY(h:sW K te f)(hg:yA K ip g tg):uc K ip (yq te g) (ACG tg f):=by
 intro C w Γ σ H D o hp R e k;obtain⟨⟨s,G1⟩,e1,e⟩:=sC e;obtain⟨t,e2,e⟩:=sC e;obtain⟨Γ2,e3,rfl⟩:=Lb e;cases s with
 | l _ | s _ | d _=>cases e2
 | v t' =>
  cases e2;exact h C w Γ σ H _ G1 _ R e1 λv H1 R1 ev1 o1 n1=>hg C w G1 σ H1 v t Γ2 _ hp R1 o1 e3 λσ' R'=>k w σ' H1 R'
end
noncomputable def ADv:V->Option Ck
 | .int i=>some (.int i)
 | .bl b=>some (.bool b)
 | .str x=>some (.str x)
 | .non=>some .none
 | _=>none
mutual
noncomputable def yQ:T->Option Ck
 | .a v=>ADv v
 | .t ts=>(ue ts).map .tuple
 | .l ts=>(ue ts).map .list
 | .f _=>none
 | .x _ _=>none
 | .w _=>none
noncomputable def ue:List T->Option (List Ck)
 | []=>some []
 | t::r=>(yQ t).bind λd=>(ue r).map λds=>d::ds
end
mutual
theorem QM(I:Inv X pins σ H s):∀ {v u t d},Im X.K H v t->RelV v u->yQ t=some d->∃ as,Io s.heap u d as
 | v,u,.a x,d,h,r,e=>by
  have hv:=h.inva;subst hv;cases v with
  | int i=>cases e;obtain⟨t,rfl⟩:=r;exact⟨_,.int i t⟩
  | bl b=>cases e;cases r;exact⟨_,.bool b⟩
  | str x=>cases e;obtain⟨t,rfl⟩:=r;exact⟨_,.str x t⟩
  | non=>cases e;cases r;exact⟨_,.none⟩
  | byt _ | flt _ | ref _ | ty _=>cases e
 | v,u,.t ts,d,h,r,e=>by
  obtain⟨p,vs,rfl,h1,h2⟩:=h.inv;cases (show u=Br p from r);obtain⟨ds,e1,rfl⟩:=Lb e;obtain⟨its,rv,⟨o,ho,hc,n,hd⟩,_⟩:=I.tuple h1.sq;obtain⟨as,q⟩:=M9 I h2 rv e1;exact⟨as,.tuple ho hc hd ‹_›⟩
 | v,u,.l ts,d,h,r,e=>by
  obtain⟨p,vs,rfl,h1,h2⟩:=h.invl;cases (show u=Br p from r);obtain⟨ds,e1,rfl⟩:=Lb e;obtain⟨its,rv,pl,_⟩:=I.list h1.sq;obtain⟨o,ho,hc,n,hd⟩:=pl.isList;obtain⟨as,q⟩:=M9 I h2 rv e1;exact⟨_,.list ho hc hd ‹_›⟩
 | v,u,.f _,d,h,r,e | v,u,.x _ _,d,h,r,e | v,u,.w _,d,h,r,e=>by unfold yQ at e;cases e
theorem M9(I:Inv X pins σ H s):∀ {vs:List V} {us:List AL} {ts:List T} {ds:List Ck},sf X.K H vs ts->sP vs us->ue ts=some ds->∃ as,Kt s.heap us ds as
 | vs,us,[],ds,h,r,e=>by
  have:=h.inv0;subst this;cases r;cases e;exact⟨_,.nil⟩
 | vs,us,t::ts,ds,h,r,e=>by
  obtain⟨v,r',rfl,h1,h2⟩:=h.inv;unfold ue at e;obtain⟨d,e1,e⟩:=sC e;obtain⟨ds',e2,rfl⟩:=Lb e;cases r with
  | cons r1 r2 =>
   obtain⟨as,q1⟩:=QM I h1 r1 e1;obtain⟨bs,q2⟩:=M9 I h2 r2 e2;exact⟨_,ID q1 q2⟩
end
def yc (K:Fg) (H:Hp) (x:V) (d:Ck):Prop:=(∃ t,Im K H x t/\yQ t=some d)\/(∃ p vs ts ds,x=.ref p/\uL K H p vs/\sf K H vs ts/\ue ts=some ds/\d=.list ds)
def PP(I:Inv X pins σ H s)(r:RelV x u)(h:yc X.K H x d):∃ as,Io s.heap u d as:=by
 rcases h with ⟨t,h,e⟩ | ⟨p,vs,ts,ds,rfl,h1,h2,e,rfl⟩
 ·exact QM I h r e
 ·cases r;obtain⟨its,rv,pl,_⟩:=I.list h1;obtain⟨o,ho,hc,n,hd⟩:=pl.isList;obtain⟨as,q⟩:=M9 I h2 rv e;exact⟨_,.list ho hc hd ‹_›⟩
noncomputable def ABp (K:Fg):R2:=λx y H Q=>∃ da db,yc K H x da/\yc K H y db/\da.canLay0=true/\db.canLay0=true/\min da.depth db.depth<=100/\Q (.bl (BF da db)) H
noncomputable def ACB (K:Fg):R2:=λx y H Q=>∃ da db,yc K H x da/\yc K H y db/\da.canLay0=true/\db.canLay0=true/\min da.depth db.depth<=100/\Q (.bl (!PyData.eqv da db)) H
def bz(hr:uJ k X.A):u5 X (BO .Eq) (ABp X.K):=by
 intro pins s σ H x y v u Q I rx ry h;obtain⟨da,db,h1,h2,c1,c2,hm,q⟩:=h;obtain⟨_,r1⟩:=PP I rx h1;obtain⟨_,r2⟩:=PP I ry h2;exact SeqAt.compareEq_reads r1 r2 c1 c2 (by have:=hr.un;lia) ⟨.bl _,H,I,rfl,q⟩
def gy(hr:uJ k X.A):u5 X (BO .NotEq) (ACB X.K):=by
 intro pins s σ H x y v u Q I rx ry h;obtain⟨da,db,h1,h2,c1,c2,hm,q⟩:=h;obtain⟨_,r1⟩:=PP I rx h1;obtain⟨_,r2⟩:=PP I ry h2;exact SeqAt.compareNe_reads r1 r2 c1 c2 (by have:=hr.un;lia) ⟨.bl _,H,I,rfl,q⟩
noncomputable def wY (Γ:En):S->Option Ck
 | .v t=>yQ t
 | a=>(s9 Γ a).bind λxs=>(ue xs).map .list
theorem Oq(R:sV K C w Γ σ H)(o:tH K C w σ H x s)(e:wY Γ s=some d):yc K H x d:=by
 have lst:∀ {s:S},tH K C w σ H x s->(s9 Γ s).bind (λxs=>(ue xs).map JK)=some d->yc K H x d:=λ{s} o e=>by
  obtain⟨xs,e1,e⟩:=sC e;obtain⟨ds,e2,rfl⟩:=Lb e;obtain⟨p,vs,rfl,h1,h2⟩:=MD R o e1;exact .inr ⟨p,vs,xs,ds,rfl,h1,h2,e2,rfl⟩
 cases s with
 | v t=>exact .inl ⟨t,o,e⟩
 | l xs | s i=>exact lst o e
 | d _=>cases e
noncomputable def wH (f:Ck->Ck->Bool):En->S->S->Option S:=λΓ a b=>(wY Γ a).bind λda=>(wY Γ b).bind λdb=>if da.canLay0=true/\db.canLay0=true/\min da.depth db.depth<=100 then some (zE (f da db)) else none
noncomputable def eqA (f:V->V->Bool):En->S->S->Option S:=λ_ a b=>match a,b with
 | .v (.a x),.v (.a y)=>if ACr x y=true then some (zE (f x y)) else none
 | _,_=>none
def Zc:sx K rEq (eqA λx y=>decide (x=y)):=by
 intro C w Γ σ H x y a b s Q R ox oy e k;unfold eqA at e;split at e
 ·split at e
  ·rename_i h;cases e;rw[ox.inva,oy.inva];exact⟨h,k _ H R .refl tH.atom trivial⟩
  ·cases e
 ·cases e
def XE:sx K rNe (eqA λx y=>!decide (x=y)):=by
 intro C w Γ σ H x y a b s Q R ox oy e k;unfold eqA at e;split at e
 ·split at e
  ·rename_i h;cases e;rw[ox.inva,oy.inva];exact⟨h,k _ H R .refl tH.atom trivial⟩
  ·cases e
 ·cases e
noncomputable def uw:En->S->S->Option S:=λΓ a b=>(eqA (λx y=>decide (x=y)) Γ a b).or (wH BF Γ a b)
noncomputable def neS:En->S->S->Option S:=λΓ a b=>(eqA (λx y=>!decide (x=y)) Γ a b).or (wH (λa b=>!PyData.eqv a b) Γ a b)
def a9:sx K (ABp K) (wH BF):=by
 intro C w Γ σ H x y a b s Q R ox oy e k;obtain⟨da,e1,e⟩:=sC e;obtain⟨db,e2,e⟩:=sC e;split at e
 ·rename_i h;cases e;exact⟨da,db,Oq R ox e1,Oq R oy e2,h.1,h.2.1,h.2.2,k _ H R .refl tH.atom trivial⟩
 ·cases e
def eM:sx K (ACB K) (wH λa b=>!PyData.eqv a b):=by
 intro C w Γ σ H x y a b s Q R ox oy e k;obtain⟨da,e1,e⟩:=sC e;obtain⟨db,e2,e⟩:=sC e;split at e
 ·rename_i h;cases e;exact⟨da,db,Oq R ox e1,Oq R oy e2,h.1,h.2.1,h.2.2,k _ H R .refl tH.atom trivial⟩
 ·cases e
def XA:sx K (λx y H Q=>rEq x y H Q\/ABp K x y H Q) uw:=Zc.or a9
def YK:sx K (λx y H Q=>rNe x y H Q\/ACB K x y H Q) neS:=XE.or eM
def kx(hr:uJ k X.A):u5 X (BO .Eq) (λx y H Q=>rEq x y H Q\/ABp X.K x y H Q):=gE.or (bz hr)
def jO(hr:uJ k X.A):u5 X (BO .NotEq) (λx y H Q=>rNe x y H Q\/ACB X.K x y H Q):=kL.or (gy hr)
noncomputable def inS (neg:Bool):En->S->S->Option S:=λΓ a b=>match a with
 | .v (.a x)=>(vP Γ b).bind λxs=>(tU xs).bind λvs=>if tM x=true/\vs.all tM=true then some (zE (if neg then !inV x vs else inV x vs)) else none
 | _=>none
def l8:sx K (rIn K neg) (inS neg):=by
 intro C w Γ σ H x y a b s Q R ox oy e k;unfold inS at e;split at e
 ·obtain⟨xs,e1,e⟩:=sC e;obtain⟨vs,e2,e⟩:=sC e;split at e
  ·rename_i h;cases e;obtain⟨p,us,rfl,h1,i1⟩:=OL R oy e1;have:=OG i1 e2;subst this;rw[ox.inva];exact⟨p,us,rfl,h1,h.1,h.2,k _ H R .refl tH.atom trivial⟩
  ·cases e
 ·cases e
noncomputable def AAz (Γ:En):S->Option Bool
 | .v (.a .non)=>some false
 | .v (.a (.bl b))=>some b
 | .v (.a (.int i))=>some (i != 0)
 | .v (.a (.str y))=>if y.length<=AC then some ((y.length:Int) != 0) else none
 | .v (.t xs)=>some (!xs.isEmpty)
 | .v _=>none
 | a=>(s9 Γ a).map λxs=>!xs.isEmpty
noncomputable def wB (f:DE):DT:=λΓ=>(f Γ).bind λp=>(AAz p.2 p.1).map λb=>(b,p.2)
theorem sf.isEmpty(h:sf K H vs ts):vs.isEmpty=ts.isEmpty:=by
 have:=h.len;cases vs <;> cases ts <;> simp at this ⊢
def cA(h:sW K te f):vG K (λσ H Q=>te σ H λx H'=>∃ k,ACK K x H' k/\Q k H') (wB f):=by
 intro C w Γ σ H b Γ' Q R e k;obtain⟨⟨a,G1⟩,e1,e⟩:=sC e;obtain⟨b',e2,e⟩:=Lb e;cases e;refine h C w Γ σ H a _ _ R e1 λv H1 R1 ev1 o1 n1=>⟨b,?_,k H1 R1 ev1⟩
 dsimp only at e2;unfold AAz at e2;split at e2
 iterate 3
  ·cases e2;rw[o1.inva];exact rfl
 ·split at e2
  ·rename_i hz;cases e2;rw[o1.inva];exact⟨hz,rfl⟩
  ·cases e2
 ·cases e2;obtain⟨p,us,rfl,h1,i1⟩:=o1.invt;exact .inr (.inl ⟨us,h1.sq,by rw[i1.isEmpty]⟩)
 ·cases e2
 ·obtain⟨xs,e3,rfl⟩:=Lb e2;obtain⟨p,us,rfl,h1,i1⟩:=MD R1 o1 e3;exact .inl ⟨us,h1,by rw[i1.isEmpty]⟩
noncomputable def rfS (Γ:En):S->Option Unit
 | .v (.x _ _)=>some ()
 | .v (.l _)=>some ()
 | .l _=>some ()
 | .s i=>(s9 Γ (.s i)).map λ_=>()
 | _=>none
def eZ(R:sV K C w Γ σ H)(o:tH K C w σ H x a)(e:rfS Γ a=some u):∃ p,x=.ref p:=by
 unfold rfS at e;split at e
 ·obtain⟨p,rfl,_⟩:=(show Im K H x (.x _ _) from o).invx;exact⟨p,rfl⟩
 ·obtain⟨p,_,rfl,_⟩:=(show Im K H x (.l _) from o).invl;exact⟨p,rfl⟩
 ·obtain⟨p,_,rfl,_⟩:=o;exact⟨p,rfl⟩
 ·obtain⟨xs,e1,_⟩:=Lb e;obtain⟨p,_,rfl,_⟩:=MD R o e1;exact⟨p,rfl⟩
 ·cases e
noncomputable def vi (neg:Bool):En->S->S->Option S:=λΓ a b=>match b with
 | .v (.a .non)=>match a with
  | .v (.a x)=>some (zE (if neg then !decide (x=V.non) else decide (x=V.non)))
  | .v (.t _)=>some (zE neg)
  | a=>(rfS Γ a).map λ_=>zE neg
 | _=>none
def aj:sx K (λx y H Q=>y=.non/\Q (.bl (decide (x=.non))) H) (vi false):=by
 intro C w Γ σ H x y a b s Q R ox oy e k;unfold vi at e;split at e
 ·refine⟨oy.inva,?_⟩;split at e
  ·cases e;rw[ox.inva];exact k _ H R .refl tH.atom trivial
  ·cases e;obtain⟨p,us,rfl,h1,i1⟩:=ox.invt;rw[decide_eq_false (by intro z;cases z)];exact k _ H R .refl tH.atom trivial
  ·obtain⟨u,e1,e⟩:=Lb e;cases e;obtain⟨p,rfl⟩:=eZ R ox e1;rw[decide_eq_false (by intro z;cases z)];exact k _ H R .refl tH.atom trivial
 ·cases e
structure EX{ι:Type}(K:Fg)(X:ι->Cx)(e:Expr)(f:DE):Prop where o:∃ te,(∀ j,PE (X j) e te)/\sW K te f
structure TX{ι:Type}(K:Fg)(X:ι->Cx)(e:Expr)(f:DT):Prop where o:∃ t,(∀ j,PT (X j) e t)/\vG K t f
structure WX{ι:Type}(K:Fg)(X:ι->Cx)(e:Expr)(f:DT):Prop where o:∃ t,(∀ j,PW (X j) e t)/\vG K t f
structure AX{ι:Type}(K:Fg)(X:ι->Cx)(es:List Expr)(f:DA):Prop where o:∃ t,(∀ j,PA (X j) es t)/\ui K t f
structure OX{ι:Type}(K:Fg)(X:ι->Cx)(e:Option Expr)(f:DO):Prop where o:∃ t,(∀ j,PO (X j) e t)/\ABE K t f
structure IX{ι:Type}(K:Fg)(X:ι->Cx)(tg it:Expr)(f:DI):Prop where o:∃ t,(∀ j,PI (X j) tg it t)/\yJ K t f
structure GX{ι:Type}(K:Fg)(X:ι->Cx)(ip:Option Nat)(tg:Expr)(f:En->T->Option En):Prop where o:∃ t,(∀ j,PG (X j) tg t)/\yA K ip t f
structure GXs{ι:Type}(K:Fg)(X:ι->Cx)(ip:Option Nat)(tg:List Expr)(f:En->List T->Option En):Prop where o:∃ t,(∀ j,PGs (X j) tg t)/\yF K ip t f
structure SX{ι:Type}(K:Fg)(X:ι->Cx)(ip:Option Nat)(s:Stmt)(f:DS):Prop where o:∃ t,(∀ j,PS (X j) s t)/\uc K ip t f
structure BX{ι:Type}(K:Fg)(X:ι->Cx)(ip:Option Nat)(s:List Stmt)(f:DS):Prop where o:∃ t,(∀ j,yn (X j) s t)/\uc K ip t f
structure Fm{ι:Type}(K:Fg)(mg:Str->Option AL)(k:Nat)(X:ι->Cx):Prop where
 K:∀ j,(X j).K=K
 mg:∀ j,(X j).mg=mg
 calm:∀ j,(X j).calm=true
 room:∀ j,uJ k (X j).A
section
variable {ι:Type}{K:Fg}{mg:Str->Option AL}{k:Nat}{X:ι->Cx}{ip:Option Nat}{a b c e:Expr}{es:List Expr}{pos:Pos}{fa fb fc:DE}{ta tb:DT}{da:DA}
def jZ i (hN:∀ j,(X j).N[i]?=some x:=by intro _;rfl) (hv:∀ j,Vis (X j).env.scope x:=by intro _;first | exact Eo rfl | exact Dr (Eo rfl) | exact Dr (Dr rfl)) (hd:(x == ("__debug__":Str))=false:=by decide)
  (hcd:(x == ("__classdict__":Str))=false:=by decide):EX K X (.Name x pos) (jV i):=⟨vz i,λj=>QT (hN j) (hv j) hd hcd,lQ⟩
def jJ{u}:EX K X (.Constant (.int i) u pos) (dC (.int i)):=⟨_,λ_=>c9,OA⟩
def ZA{u}:EX K X (.Constant (.bool v) u pos) (dC (.bl v)):=⟨_,λ_=>j9,OA⟩
def iY{u}:EX K X (.Constant .none u pos) (dC .non):=⟨_,λ_=>lp,OA⟩
def gS{u}:EX K X (.Constant (.str v) u pos) (dC (.str v)):=⟨_,λ_=>Rx,OA⟩
def ak(M:Fm K mg k X)(hm:mg x=none)(hv:CD x=some (.type N))(hg:∀ j,Gl (X j) x:=by intro _;rfl)(hn:x≠"__name__":=by decide)(hd:(x == ("__debug__":Str))=false:=by decide):EX K X (.Name x pos) (dC (.ty N)):=
 ⟨_,λj=>cK (hg j) (by rw[M.mg];exact hm) hv hn hd,OA⟩
def NC(ho:∀ j,u5 (X j) (CZ op) r)(hs:sx K r h)(ha:EX K X a fa)(hb:EX K X b fb):EX K X (.BinOp a op b pos) (sI h fa fb):=
 let ⟨_,p,s⟩:=ha;let ⟨_,q,u⟩:=hb;⟨_,λj=>j4 (ho j) (p j) (q j),M3 hs s u⟩
def Th(M:Fm K mg k X)(ha:EX K X a fa)(hb:EX K X b fb):EX K X (.BinOp a .Add b pos) (sI tN fa fb):=NC (λj=>by rw[← M.K j];exact dv) fu ha hb
def mL(ha:EX K X a fa)(hb:EX K X b fb):EX K X (.BinOp a .Sub b pos) (sI uK fa fb):=NC (λj=>ZQ) NV ha hb
def ff(ha:EX K X a fa)(hb:EX K X b fb):EX K X (.BinOp a .Mult b pos) (sI uf fa fb):=NC (λj=>W5) f9 ha hb
def ZF(ha:EX K X a fa)(hb:EX K X b fb):EX K X (.BinOp a .Mod b pos) (sI v7 fa fb):=NC (λj=>gQ) ON ha hb
def eT(ha:EX K X a fa)(hb:EX K X b fb):EX K X (.BinOp a .FloorDiv b pos) (sI vv fa fb):=NC (λj=>mE) ON ha hb
def mh(ha:EX K X a fa)(hb:EX K X b fb):EX K X (.BinOp a .Pow b pos) (sI ABh fa fb):=NC (λj=>eC) ON ha hb
def bh(ha:EX K X a fa):EX K X (.UnaryOp .USub a pos) (zt wR fa):=let ⟨_,p,s⟩:=ha;⟨_,λj=>Yq ic (p j),X0 iD s⟩
def i7(ho:∀ j,u5 (X j) (BO op) r)(hs:sx K r h)(hm:Bl op b=false)(ha:EX K X a fa)(hb:EX K X b fb):EX K X (.Compare a [op] [b] pos) (sI h fa fb):=
 let ⟨_,p,s⟩:=ha;let ⟨_,q,u⟩:=hb;⟨_,λj=>RY (ho j) (p j) (q j) hm,M3 hs s u⟩
def gK(ho:∀ j,u5 (X j) (BO op) r)(hs:sx K r h)(hm:Bl op b=false)(ha:EX K X a fa)(hb:EX K X b fb):TX K X (.Compare a [op] [b] pos) (sM (sI h fa fb)):=
 let ⟨_,p,s⟩:=ha;let ⟨_,q,u⟩:=hb;⟨_,λj=>cW (ho j) (p j) (q j) hm,Nv (M3 hs s u)⟩
structure vp{ι:Type}(K:Fg)(X:ι->Cx)(op:CmpOp)(h:En->S->S->Option S):Prop where
 ex:∃ r,(∀ j,u5 (X j) (BO op) r)/\sx K r h
def iN:vp K X .Lt zR:=⟨_,λ_=>a0,NV⟩
def lI:vp K X .LtE leS:=⟨_,λ_=>Y0,NV⟩
def XG:vp K X .Gt yS:=⟨_,λ_=>jv,NV⟩
def k8:vp K X .GtE geS:=⟨_,λ_=>gC,NV⟩
def TN(M:Fm K mg k X):vp K X .Eq uw:=⟨_,λj=>by have:=kx (M.room j);rw[M.K j]at this;exact this,XA⟩
def iG(M:Fm K mg k X):vp K X .NotEq neS:=⟨_,λj=>by have:=jO (M.room j);rw[M.K j]at this;exact this,YK⟩
def XM(M:Fm K mg k X):vp K X .In (inS false):=⟨_,λj=>by have:=Yf (X:=X j);rw[M.K j]at this;exact this,l8⟩
def Ym:vp K X .Is (vi false):=⟨_,λ_=>lR,aj⟩
def AEF(hc:vp K X op h)(ha:EX K X a fa)(hb:EX K X b fb)(hm:Bl op b=false:=by first | exact AAI _ | with_unfolding_all rfl):EX K X (.Compare a [op] [b] pos) (sI h fa fb):=
 let ⟨_,p,q⟩:=hc.ex;i7 p q hm ha hb
def AFb(hc:vp K X op h)(ha:EX K X a fa)(hb:EX K X b fb)(hm:Bl op b=false:=by first | exact AAI _ | with_unfolding_all rfl):TX K X (.Compare a [op] [b] pos) (sM (sI h fa fb)):=
 let ⟨_,p,q⟩:=hc.ex;gK p q hm ha hb
def du(hc:vp K X op h)(hc':vp K X op' h')(ha:EX K X a fa)(hb:EX K X b fb)(h3:EX K X c fc)(hm:lastMarks [op,op'] [b,c]=false:=by with_unfolding_all rfl):TX K X (.Compare a [op,op'] [b,c] pos) (sM (wI h h' fa fb fc)):=
 let ⟨_,p,q⟩:=hc.ex;let ⟨_,p',q'⟩:=hc'.ex;let ⟨_,a1,a2⟩:=ha;let ⟨_,b1,b2⟩:=hb;let ⟨_,c1,c2⟩:=h3;⟨_,λj=>iW (p j) (p' j) (a1 j) (b1 j) (c1 j) hm,Nv (eD q q' a2 b2 c2)⟩
def AED(M:Fm K mg k X)(ha:EX K X a fa)(he:∀ j whole,Hu a (X j).env whole=(do let v ← whole;JU a.pos;holding [v] (truthy v)):=by intro _ _;rfl):TX K X a (wB fa):=
 let ⟨te,p,s⟩:=ha;⟨(λσ H Q=>te σ H λx H'=>∃ k,ACK K x H' k/\Q k H'),λj=>by have:=dY (p j) (he j);rw[M.K j]at this;exact this,cA s⟩
def RW(ha:TX K X a ta):TX K X (.UnaryOp .Not a pos) (w8 ta):=let ⟨_,p,s⟩:=ha;⟨_,λj=>Xf (p j),mW s⟩
def ki(ha:TX K X a ta):WX K X (.BoolOp .And [a] pos) ta:=let ⟨_,p,s⟩:=ha;⟨_,λj=>fO (p j),s⟩
def T4(ha:TX K X a ta):WX K X (.BoolOp .Or [a] pos) ta:=let ⟨_,p,s⟩:=ha;⟨_,λj=>Y8 (p j),s⟩
def gr(ha:TX K X a ta)(hb:WX K X (.BoolOp .And (b::es) pos) tb):WX K X (.BoolOp .And (a::b::es) pos) (xi ta tb):=let ⟨_,p,s⟩:=ha;let ⟨_,q,u⟩:=hb;⟨_,λj=>aV (p j) (q j),W9 s u⟩
def Wc(ha:TX K X a ta)(hb:WX K X (.BoolOp .Or (b::es) pos) tb):WX K X (.BoolOp .Or (a::b::es) pos) (z9 ta tb):=let ⟨_,p,s⟩:=ha;let ⟨_,q,u⟩:=hb;⟨_,λj=>Y9 (p j) (q j),kg s u⟩
def ADr(ha:WX K X a ta):TX K X a ta:=let ⟨_,p,s⟩:=ha;⟨_,λj=>(p j).pt,s⟩
def Yv{op}(ha:EX K X a fa):EX K X (.BoolOp op [a] pos) fa:=let ⟨_,p,s⟩:=ha;⟨_,λj=>cJ (p j),s⟩
def iV(ha:EX K X a fa)(hb:EX K X (.BoolOp .And (b::es) pos) fb):EX K X (.BoolOp .And (a::b::es) pos) (yr fa fb):=let ⟨_,p,s⟩:=ha;let ⟨_,q,u⟩:=hb;⟨_,λj=>Y5 (p j) (q j),fE s u⟩
def gP(ha:EX K X a fa):EX K X (.UnaryOp .Not a pos) (yL fa):=let ⟨_,p,s⟩:=ha;⟨_,λj=>cE (p j),Ws s⟩
def bZ(hc:TX K X c ta)(ha:EX K X a fa)(hb:EX K X b fb):EX K X (.IfExp c a b pos) (zX ta fa fb):=let ⟨_,p,s⟩:=hc;let ⟨_,q,u⟩:=ha;let ⟨_,q',u'⟩:=hb;⟨_,λj=>lA (p j) (q j) (q' j),mn s u u'⟩
def jY:AX K X [] qQ:=⟨_,λ_=>Pu,SW⟩
def jQ(ha:EX K X e fa)(hr:AX K X es fr)(hs:∀ j,AV (e::es) (X j).env=(false,eval e (X j).env)::AV es (X j).env:=by intro _;rfl):AX K X (e::es) (jW fa fr):=
 let ⟨_,p,s⟩:=ha;let ⟨_,q,u⟩:=hr;⟨_,λj=>QI (p j) (q j) (hs j),iB s u⟩
def Yt{x1}(h:AX K X es da):EX K X (.Tuple es x1 pos) (sg da):=let ⟨_,p,s⟩:=h;⟨_,λj=>aC (p j),kG s⟩
def i9(h:AX K X es da):EX K X (.List es pos) (tO da):=let ⟨_,p,s⟩:=h;⟨_,λj=>fR (p j),lY s⟩
def fS(M:Fm K mg k X)(ha:EX K X a fa)(hb:EX K X b fb)(hs:yz b:=by exact λ_ _=>rfl):EX K X (.Subscript a b pos) (sI sY fa fb):=
 let ⟨_,p,s⟩:=ha;let ⟨_,q,u⟩:=hb;⟨_,λj=>YH (by have:=gB (X:=X j);rw[M.K j]at this;exact this) (p j) (q j) hs,M3 l9 s u⟩
def ZW:OX K X none uY:=⟨_,λ_=>iM,g6⟩
def iC(ha:EX K X a fa):OX K X (some a) (vo fa):=let ⟨_,p,s⟩:=ha;⟨_,λj=>aS (p j),kZ s⟩
def XD(M:Fm K mg k X)(ha:EX K X a fa)(hl:OX K X lo dl)(hh:OX K X hi dh):EX K X (.Subscript a (.Slice lo hi none p2) pos) (dSl fa dl dh):=
 let ⟨_,p,s⟩:=ha;let ⟨_,q,u⟩:=hl;let ⟨_,q',u'⟩:=hh;⟨_,λj=>kP (by have:=AFQ (X:=X j);rw[M.K j]at this;exact this) (p j) (q j) (q' j),kE s u u'⟩
structure wK{ι:Type}(K:Fg)(X:ι->Cx)(f:AL)(h:En->List S->Option S):Prop where
 ex:∃ r,(∀ j,tJ (X j) f r)/\vA K r h
def Mn{p id h}(M:Fm K mg k X)(hc:wK K X (.builtin id) h)(hm:mg x=none)(hv:CD x=some (.builtin id))(ha:AX K X (e::es) da)(hg:∀ j,Gl (X j) x:=by intro _;rfl)(hn:x≠"__name__":=by decide)(hdb:(x == ("__debug__":Str))=false:=by decide)
  (he:∀ j,AV (e::es) (X j).env=(false,eval e (X j).env)::AV es (X j).env:=by intro _;rfl) (hpl:∀ j,(CB pos (AV es (X j).env)).any (·.1)=false:=by intro _;rfl):EX K X (.Call (.Name x p) (e::es) [] pos) (uC h da):=
 let ⟨_,p,s⟩:=hc.ex;let ⟨_,q,u⟩:=ha;⟨_,λj=>iH (p j) (hg j) (by rw[M.mg];exact hm) hv (q j) hn hdb (he j) (hpl j),U7 s u⟩
def Mp(M:Fm K mg k X)(hc:wK K X (.type N) h)(hm:mg x=none)(hv:CD x=some (.type N))(ha:AX K X (e::es) da)(hg:∀ j,Gl (X j) x:=by intro _;rfl)(hn:x≠"__name__":=by decide)(hdb:(x == ("__debug__":Str))=false:=by decide)
  (he:∀ j,AV (e::es) (X j).env=(false,eval e (X j).env)::AV es (X j).env:=by intro _;rfl) (hpl:∀ j,(CB pos (AV es (X j).env)).any (·.1)=false:=by intro _;rfl):EX K X (.Call (.Name x p) (e::es) [] pos) (uC h da):=
 let ⟨_,p,s⟩:=hc.ex;let ⟨_,q,u⟩:=ha;⟨_,λj=>NP (p j) (hg j) (by rw[M.mg];exact hm) hv (q j) hn hdb (he j) (hpl j),U7 s u⟩
def gi(M:Fm K mg k X):wK K X (.builtin "len") uM:=⟨_,λj=>by have:=bx (X:=X j);rw[M.K j]at this;exact this,m6⟩
def lT(M:Fm K mg k X):wK K X (.builtin "all") zP:=⟨_,λj=>by have:=mF (M.calm j);rw[M.K j]at this;exact this,bV⟩
def W6(M:Fm K mg k X):wK K X (.builtin "isinstance") xx:=⟨_,λj=>by have:=Z5 (X:=X j);rw[M.K j]at this;exact this,XF⟩
def Zp(M:Fm K mg k X):wK K X (.builtin "max") w6:=⟨_,λj=>dU (M.calm j),kn⟩
def kQ:wK K X (.type "int") xw:=⟨_,λj=>au,k9⟩
def Nf(M:Fm K mg k X):wK K X (.type "tuple") tT:=⟨_,λj=>by have:=fm (X:=X j);rw[M.K j]at this;exact this,dR⟩
def Pr{X}:tJ X (.type "range") AAs:=X8.or Xe
def jB(M:Fm K mg k X)(hl:mg "list"=none)(hr:mg "range"=none)(ha:AX K X (e::es) da)(hg:∀ j,Gl (X j) "list":=by intro _;rfl)(hg2:∀ j,Gl (X j) "range":=by intro _;rfl)
  (he:∀ j,AV (e::es) (X j).env=(false,eval e (X j).env)::AV es (X j).env:=by intro _;rfl) (hpl:∀ j,(CB pos2 (AV es (X j).env)).any (·.1)=false:=by intro _;rfl) :
  EX K X (.Call (.Name "list" p) [.Call (.Name "range" p2) (e::es) [] pos2] [] pos) (uk da):=
 let ⟨_,q,u⟩:=ha;⟨_,λj=>NP (YI (M.calm j)) (hg j) (by rw[M.mg];exact hl) Fk (QI (NP Pr (hg2 j) (by rw[M.mg];exact hr) Ds (q j) ∅ ∅ (he j) (hpl j)) Pu),Xy u⟩
def cH(M:Fm K mg k X)(hl:mg "tuple"=none)(hr:mg "range"=none)(ha:AX K X (e::es) da)(hg:∀ j,Gl (X j) "tuple":=by intro _;rfl)(hg2:∀ j,Gl (X j) "range":=by intro _;rfl)
  (he:∀ j,AV (e::es) (X j).env=(false,eval e (X j).env)::AV es (X j).env:=by intro _;rfl) (hpl:∀ j,(CB pos2 (AV es (X j).env)).any (·.1)=false:=by intro _;rfl) :
  EX K X (.Call (.Name "tuple" p) [.Call (.Name "range" p2) (e::es) [] pos2] [] pos) (vg da):=
 let ⟨_,q,u⟩:=ha;⟨_,λj=>NP (iR (M.calm j)) (hg j) (by rw[M.mg];exact hl) KS (QI (NP Pr (hg2 j) (by rw[M.mg];exact hr) Ds (q j) ∅ ∅ (he j) (hpl j)) Pu),mG u⟩
end
structure Fb{ι:Type}(P:Aj)(wd:A5)(base:Heap)(X:ι->Cx):Prop where
 P:∀ j,(X j).prog=P
 w:∀ j,(X j).w=wd
 b:∀ j,(X j).base=base
structure FD(P:Aj)(wd:A5)(K:Fg)(mg:Str->Option AL)(base:Heap)(k:Nat)(x:Str)(ip:Option Nat)(n:Nat)(F:DF):Prop where
 ex:∃ (f:Addr) (fd:Dc) (ps:List Str),uj P wd K mg base xh k f fd ps (xT K ip n F)/\mg x=some (.ref f)/\Bq K (.ref f)=true/\Binds K fd ps []
 len:∀ gs r,F gs=some r->gs.length=n
def Qe:∀ gs r,sX ip np nN g gs=some r->gs.length=np:=λgs r e=>by
 unfold sX at e;split at e
 ·assumption
 ·cases e
section
variable {ι:Type}{P:Aj}{wd:A5}{base:Heap}{K:Fg}{mg:Str->Option AL}{k k' n:Nat}{X:ι->Cx}{ip:Option Nat}{a b c e:Expr}{es:List Expr}{pos p:Pos}{fa fb fc:DE}{ta tb:DT}{da:DA}{F:DF}{x:Str}
def Xc(M:Fm K mg k X)(B:Fb P wd base X)(D0:FD P wd K mg base k' x ip n F)(ha:AX K X (e::es) da)(hk:k'<=k:=by first | exact AF _ | decide | lia)(hg:∀ j,Gl (X j) x:=by intro _;rfl)(hdb:(x == ("__debug__":Str))=false:=by decide)
  (he:∀ j,AV (e::es) (X j).env=(false,eval e (X j).env)::AV es (X j).env:=by intro _;rfl) (hpl:∀ j,(CB pos (AV es (X j).env)).any (·.1)=false:=by intro _;rfl) :
  EX K X (.Call (.Name x p) (e::es) [] pos) (sE ip F [] da):=by
 obtain⟨f,fd,ps,h1,h2,h3,h4⟩:=D0.ex;obtain⟨t,q,u⟩:=ha;refine⟨zC (xT K ip n F) [] E0 t,λj=>?_,Qt D0.len u⟩;have hF:uj (X j).prog (X j).w (X j).K (X j).mg (X j).base xh k' f fd ps (xT K ip n F):=by rw[B.P,B.w,M.K,M.mg,B.b];exact h1
 exact V5 hF ((M.room j).mono hk) (hg j) (by rw[M.mg];exact h2) (by rw[M.K];exact h3) (by rw[M.K];exact h4) .nil AAW (q j) hdb (he j) (hpl j)
def aQ(M:Fm K mg k X)(hl:EX K X l fa):IX K X tg l (tV fa):=let ⟨t,p,s⟩:=hl;⟨ACU K t,λj=>by have:=kO (tg:=tg) (p j);rw[M.K j]at this;exact this,Wy s⟩
def kW(M:Fm K mg k X)(hm:mg "range"=none)(ha:AX K X [a] da)(hg:∀ j,Gl (X j) "range":=by intro _;rfl)(hs:∀ j,AV [a] (X j).env=[(false,eval a (X j).env)]:=by intro _;rfl):IX K X tg (.Call (.Name "range" p) [a] [] pos) (vD da):=
 let ⟨_,q,u⟩:=ha;⟨_,λj=>iE (hg j) (by rw[M.mg];exact hm) (q j) (hs j),Zn u⟩
def rb(M:Fm K mg k X)(hm:mg "range"=none)(ha:AX K X [a,b] da)(hg:∀ j,Gl (X j) "range":=by intro _;rfl)(hs:∀ j,AV [a,b] (X j).env=[(false,eval a (X j).env),(false,eval b (X j).env)]:=by intro _;rfl)
  (hs2:∀ j,AV [b] (X j).env=[(false,eval b (X j).env)]:=by intro _;rfl):IX K X tg (.Call (.Name "range" p) [a,b] [] pos) (ABT da):=
 let ⟨_,q,u⟩:=ha;⟨_,λj=>aB (hg j) (by rw[M.mg];exact hm) (q j) (hs j) (hs2 j),Wv u⟩
def UB i (hi:ip≠some i:=by decide) (hN:∀ j,(X j).N.Nodup:=by intro _;show (Ea _);decide +kernel) (hx':∀ j,(X j).N[i]?=some x:=by intro _;rfl) (hx:∀ j,Loc (X j).env.scope x:=by intro _;first | exact Eo rfl | exact Dr rfl)
  (hf:∀ j,(X j).fn x=true\/(X j).env.scope.names.lookup x=some .local:=by intro _;first | exact .inl rfl | exact .inr rfl):GX K X ip (.Name x pos) (sJ i):=⟨_,λj=>Vy (hN j) (hx' j) (hx j) (hf j),fW hi⟩
def kl:GXs K X ip [] wO:=⟨_,λ_=>kf,af⟩
def dS(h1:GX K X ip e f)(h2:GXs K X ip es g)(hst:∀ j,(CC (e::es) (X j).env).map (·.2)=assign e (X j).env::(CC es (X j).env).map (·.2):=by intro _;rfl):GXs K X ip (e::es) (uF f g):=
 let ⟨_,p,s⟩:=h1;let ⟨_,q,u⟩:=h2;⟨_,λj=>XN (p j) (q j) (hst j),mN s u⟩
def aZ n (M:Fm K mg k X) (h:GXs K X ip es g) (hn:∀ j,(CC es (X j).env).length=n:=by intro _;rfl) (hst:∀ j,(CC es (X j).env).findIdx? (·.1)=none:=by intro _;rfl):GX K X ip (.Tuple es kk pos) (vj n g):=
 let ⟨_,p,s⟩:=h;⟨_,λj=>jI K (M.K j) (M.calm j) (p j) (hn j) (hst j),kM s⟩
def QX (K:Fg) (X:ι->Cx) (ifs:List Expr) (f:DT):Prop:=∃ t,(∀ j,PTs (X j) ifs t)/\vG K t f
noncomputable def vI:DT:=λΓ=>some (true,Γ)
def MW:QX K X [] vI:=⟨_,λ_=>eE,λC w Γ σ H b Γ' Q R e k=>by cases e;exact k H R .refl⟩
def ZV(h:TX K X c ta):QX K X [c] ta:=let ⟨_,p,s⟩:=h;⟨_,λj=>kI (p j),s⟩
noncomputable abbrev CI (ι:Type):=ι×Addr×List (Str×Addr)×AR×Hp×List Addr
noncomputable abbrev zi {ι:Type} (X:ι->Cx) (N':List Str) (sc:Et):CI ι->Cx:=λq=>zW (X q.1) N' sc q.2.1 q.2.2.1 q.2.2.2.1 q.2.2.2.2.1 q.2.2.2.2.2
def Fm.comp(M:Fm K mg k X):Fm K mg k (zi X N' sc):=⟨λj=>M.K j.1,λj=>M.mg j.1,λj=>M.calm j.1,λj=>M.room j.1⟩
def Fb.comp(B:Fb P wd base X):Fb P wd base (zi X N' sc):=⟨λj=>B.P j.1,λj=>B.w j.1,λj=>B.b j.1⟩
def Md mu (M:Fm K mg k X) (S:∀ j,uU (X j) N' ix sc) (hi:IX K X tg iter di)
  (hg:GX K (zi X N' sc) (mu.map (·.1)) tg g) (ht:QX K (zi X N' sc) ifs dc) (he:EX K (zi X N' sc) elt de)
  (hmu:∀ j i,mu=some (j,i)->ix[j]?=some (some i):=by intro _ _ e;first | (cases e;rfl) | cases e) (hix:∀ (j j' i:Nat),mu.map (·.2)=some i->ix[j]?=some (some i)->ix[j']?=some (some i)->j=j')
  (hs:∀ j x,CM iter (X j).env x=pure x:=by intro _ _;rfl):EX K X (.ListComp elt [⟨tg,iter,ifs,0⟩] sc pos) (uE mu ix di g dc de):=
 let ⟨_,p1,s1⟩:=hi;let ⟨_,p2,s2⟩:=hg;let ⟨_,p3,s3⟩:=ht;let ⟨_,p4,s4⟩:=he
 ⟨_,λj=>Y1 (S j) (M.calm j) (p1 j) (λC cs s H ex=>p2 (j,C,cs,s,H,ex)) (λC cs s H ex=>p3 (j,C,cs,s,H,ex)) (λC cs s H ex=>p4 (j,C,cs,s,H,ex)) (hs j),V7 s1 s2 s3 s4 hmu hix⟩
def wV{ix:List (Option Nat)}:∀ (j j' i:Nat),(none:Option (Nat×Nat)).map (·.2)=some i->ix[j]?=some (some i)->ix[j']?=some (some i)->j=j':=↥1
noncomputable def ABg (ix:List (Option Nat)) (j i:Nat):Bool:=(AE ix.length).all λm=>decide (ix[m]?=some (some i)->m=j)
def AFO(h:ABg ix j0 i0=true):∀ (j j' i:Nat),(some (j0,i0)).map (·.2)=some i->ix[j]?=some (some i)->ix[j']?=some (some i)->j=j':=by
 intro j j' i e h1 h2;cases e;have key:∀ m,ix[m]?=some (some i0)->m=j0:=λm hm=>by
  have:=AJ.mp h m (by simpa using ((Ac.mp hm).1));exact (of_decide_eq_true this) hm
 rw[key j h1,key j' h2]
def Qw{name apos cpos id r h y yp}(M:Fm K mg k X)(slot:Slot "list" name id)(hty:Ga (.builtin id)=pure (.type "method_descriptor"))(hm:∀ j,MtM (X j) id r)(hr:vN K r h)
  (ho:∀ j,PE (X j) (.Name y yp) (vz i)) (ha:AX K X (e::es) da)
  (hbase:∀ j,Ct (.Name y yp) name (X j).env (eval (.Name y yp) (X j).env)=eval (.Name y yp) (X j).env:=by intro _;rfl)
  (hfew:∀ j,((CB cpos (AV (e::es) (X j).env)).all (λx=>!x.1) && (GC cpos (EZ [] (X j).env)).all (λx=>x.1.isSome) && decide ((e::es).length+([]:List Do).length+(if ([]:List Do).isEmpty then 0 else 1) < 30))=true:=by intro _;rfl)
  (hline:(apos.endLine == cpos.line)=true:=by rfl) (hs:∀ j,AV (e::es) (X j).env=(false,eval e (X j).env)::AV es (X j).env:=by intro _;rfl) (hplain:∀ j,(CB cpos (AV es (X j).env)).any (·.1)=false:=by intro _;rfl) :
  EX K X (.Call (.Attribute (.Name y yp) name apos) (e::es) [] cpos) (t5 i h da):=
 let ⟨t,q,u⟩:=ha;⟨tBM K "list" r (vz i) t,λj=>by have:=T9 EA slot hty (hm j) (ho j) (q j) (hbase j) (hfew j) hline (hs j) (hplain j);rw[M.K j]at this;exact this,R7 hr u⟩
def jr{name apos cpos id r h y yp}(M:Fm K mg k X)(slot:Slot "list" name id)(hty:Ga (.builtin id)=pure (.type "method_descriptor"))(hm:∀ j,MtM (X j) id r)(hr:vN K r h)
  (ho:∀ j,PE (X j) (.Name y yp) (vz i)) (hbase:∀ j,Ct (.Name y yp) name (X j).env (eval (.Name y yp) (X j).env)=eval (.Name y yp) (X j).env:=by intro _;rfl) (hline:(apos.endLine == cpos.line)=true:=by rfl) :
  EX K X (.Call (.Attribute (.Name y yp) name apos) [] [] cpos) (t5 i h qQ):=
 ⟨ACk K "list" r (vz i),λj=>by have:=bU EA slot hty (hm j) (ho j) (hbase j) hline;rw[M.K j]at this;exact this,iQ hr⟩
def gF(M:Fm K mg k X)(ho:EX K X o fa)(ha:AX K X (e::es) da)
  (hbase:∀ j,Ct o "index" (X j).env (eval o (X j).env)=eval o (X j).env:=by intro _;rfl)
  (hfew:∀ j,((CB cpos (AV (e::es) (X j).env)).all (λx=>!x.1) && (GC cpos (EZ [] (X j).env)).all (λx=>x.1.isSome) && decide ((e::es).length+([]:List Do).length+(if ([]:List Do).isEmpty then 0 else 1) < 30))=true:=by intro _;rfl)
  (hline:(apos.endLine == cpos.line)=true:=by rfl) (hs:∀ j,AV (e::es) (X j).env=(false,eval e (X j).env)::AV es (X j).env:=by intro _;rfl) (hplain:∀ j,(CB cpos (AV es (X j).env)).any (·.1)=false:=by intro _;rfl) :
  EX K X (.Call (.Attribute o "index" apos) (e::es) [] cpos) (wJ fa da):=
 have hm:∀ j,MtM (X j) "tuple.index" (vW K):=λj=>by have:=XR (X:=X j);rw[M.K j]at this;exact this
 let ⟨t0,q0,u0⟩:=ho;let ⟨t,q,u⟩:=ha;⟨ACm K (vW K) t0 t,λj=>by have:=Zm PySem.F.slot_tuple_index PySem.F.type_tuple_index (hm j) (q0 j) (q j) (hbase j) (hfew j) hline (hs j) (hplain j);rw[M.K j]at this;exact this,jt u0 u⟩
def pv' i (hN:∀ j,(X j).N[i]?=some x:=by intro _;rfl) (hv:∀ j,Vis (X j).env.scope x:=by intro _;first | exact Eo rfl | exact Dr (Eo rfl) | exact Dr (Dr rfl)) (hd:(x == ("__debug__":Str))=false:=by decide)
  (hcd:(x == ("__classdict__":Str))=false:=by decide):∀ j,PE (X j) (.Name x pos) (vz i):=λj=>QT (hN j) (hv j) hd hcd
variable {st:Stmt}{sts sts':List Stmt}{f g:DS}
def Tj:BX K X ip [] sU:=⟨_,λ_=>kh,jT⟩
def MV(h:SX K X ip st f):BX K X ip [st] f:=let ⟨_,p,s⟩:=h;⟨_,λj=>bQ (p j),s⟩
def L8(h:SX K X ip st f)(h2:BX K X ip sts g):BX K X ip (st::sts) (sG f g):=let ⟨_,p,s⟩:=h;let ⟨_,q,u⟩:=h2;⟨_,λj=>kT (p j) (q j),dX s u⟩
def cz:SX K X ip st ux:=⟨_,λ_=>Zv,YQ (ts:=ux)⟩
def Yz(h:EX K X e fa)(hs:∀ j,Dj e none pos.line (X j).env=pure false:=by intro _;rfl):SX K X ip (.Expr e pos) (t6 fa):=let ⟨_,p,s⟩:=h;⟨_,λj=>Wz (p j) (hs j),aE s⟩
def Mh(h:EX K X e fa):SX K X ip (.Return (some e) pos) (sS fa):=let ⟨_,p,s⟩:=h;⟨_,λj=>l4 (p j),aM s⟩
def Td(hc:TX K X c ta)(h1:BX K X ip sts f)(h2:BX K X ip sts' g):SX K X ip (.If c sts sts' pos) (uI ta f g):=let ⟨_,p,s⟩:=hc;let ⟨_,q,u⟩:=h1;let ⟨_,q',u'⟩:=h2;⟨_,λj=>jz (p j) (q j) (q' j),jw s u u'⟩
def mM i (h:EX K X e fa) (hi:ip≠some i:=by decide) (hN:∀ j,(X j).N.Nodup:=by intro _;show (Ea _);decide +kernel) (hx':∀ j,(X j).N[i]?=some x:=by intro _;rfl) (hx:∀ j,Loc (X j).env.scope x:=by intro _;first | exact Eo rfl | exact Dr rfl)
  (hs:∀ j,Dj e (some (.Name x pos')) pos.line (X j).env=pure false:=by intro _;rfl) (hf:∀ j,(X j).fn x=true\/(X j).env.scope.names.lookup x=some .local:=by intro _;first | exact .inl rfl | exact .inr rfl):SX K X ip (.Assign [.Name x pos'] e pos) (sQ i fa):=
 let ⟨_,p,s⟩:=h;⟨_,λj=>RM (hN j) (hx' j) (hx j) (p j) (hs j) (hf j),R9 s hi⟩
def PB i mu (M:Fm K mg k X) (S:∀ j,uU (X j) N' ix sc) (h1:IX K X tg iter di)
  (hg:GX K (zi X N' sc) (mu.map (·.1)) tg gg) (ht:QX K (zi X N' sc) ifs dc) (he:EX K (zi X N' sc) elt de)
  (hix:∀ (j j' i:Nat),mu.map (·.2)=some i->ix[j]?=some (some i)->ix[j']?=some (some i)->j=j') (hi:ip≠some i:=by decide) (hmu:∀ j i,mu=some (j,i)->ix[j]?=some (some i):=by intro _ _ e;first | (cases e;rfl) | cases e)
  (hN:∀ j,(X j).N.Nodup:=by intro _;show (Ea _);decide +kernel) (hx':∀ j,(X j).N[i]?=some x:=by intro _;rfl) (hx:∀ j,Loc (X j).env.scope x:=by intro _;first | exact Eo rfl | exact Dr rfl)
  (hsw:∀ j,Dj (.ListComp elt [⟨tg,iter,ifs,0⟩] sc pos) (some (.Name x pos')) spos.line (X j).env=pure true:=by intro _;rfl)
  (hf:∀ j,(X j).fn x=true\/(X j).env.scope.names.lookup x=some .local:=by intro _;first | exact .inl rfl | exact .inr rfl)
  (hs:∀ j x,CM iter (X j).env x=pure x:=by intro _ _;rfl):SX K X ip (.Assign [.Name x pos'] (.ListComp elt [⟨tg,iter,ifs,0⟩] sc pos) spos) (sQ i (uE mu ix di gg dc de)):=
 let ⟨_,p1,s1⟩:=h1;let ⟨_,p2,s2⟩:=hg;let ⟨_,p3,s3⟩:=ht;let ⟨_,p4,s4⟩:=he
 ⟨_,λj=>cU (hN j) (hx' j) (hx j) (S j) (M.calm j) (p1 j) (λC cs s H ex=>p2 (j,C,cs,s,H,ex)) (λC cs s H ex=>p3 (j,C,cs,s,H,ex)) (λC cs s H ex=>p4 (j,C,cs,s,H,ex)) (hsw j) (hf j) (hs j),R9 (V7 s1 s2 s3 s4 hmu hix) hi⟩
def m7 i (he:EX K X e fa) (ho:∀ j,PE (X j) (.Name y yp) (vz i)) (hb:EX K X b fb) (hs:∀ j,DG [.Subscript (.Name y yp) b p2] e pos.line (X j).env=pure false:=by intro _;rfl) (hw:∀ j,DH [.Subscript (.Name y yp) b p2] e (X j).env=pure none:=by intro _;rfl)
  (hA:∀ j v,assign (.Subscript (.Name y yp) b p2) (X j).env v=(do let ov ← holding [v] (eval (.Name y yp) (X j).env);let iv ← holding [v,ov] (eval b (X j).env);JU p2;holding [v,ov,iv] (JT ov iv v);release [v,ov,iv] []):=by intro _ _;rfl) (h1:∀ j,(CC [.Subscript (.Name y yp) b p2] (X j).env).map (·.2)=[assign (.Subscript (.Name y yp) b p2) (X j).env]:=by intro _;rfl) :
  SX K X ip (.Assign [.Subscript (.Name y yp) b p2] e pos) (wA i fa fb):=
 let ⟨_,p,s⟩:=he;let ⟨_,q,u⟩:=hb;⟨_,λj=>SY (p j) (ZH (ho j) (q j) bS (hA j)) (hs j) (hw j) (h1 j),kD s u⟩
def jn(he:EX K X e fa)(hg:GX K X ip tg gg)(hs:∀ j,DG [tg] e pos.line (X j).env=pure false:=by intro _;rfl)(hw:∀ j,DH [tg] e (X j).env=pure none:=by intro _;rfl)(h1:∀ j,(CC [tg] (X j).env).map (·.2)=[assign tg (X j).env]:=by intro _;rfl):SX K X ip (.Assign [tg] e pos) (ACG gg fa):=
 let ⟨_,p,s⟩:=he;let ⟨_,q,u⟩:=hg;⟨_,λj=>SY (p j) (q j) (hs j) (hw j) (h1 j),ZY s u⟩
def bX i1 i2 {kt k2 pt2} (M:Fm K mg k X) (ha:AX K X [a,b] da) (h12:i1≠i2:=by decide) (hi1:ip≠some i1:=by decide) (hi2:ip≠some i2:=by decide) (hN:∀ j,(X j).N.Nodup:=by intro _;show (Ea _);decide +kernel)
  (e1:∀ j,(X j).N[i1]?=some x1:=by intro _;rfl) (e2:∀ j,(X j).N[i2]?=some x2:=by intro _;rfl) (l1:∀ j,(X j).env.scope.names.lookup x1=some .local:=by intro _;rfl) (l2:∀ j,(X j).env.scope.names.lookup x2=some .local:=by intro _;rfl)
  (hw:∀ j,DH [.Tuple [.Name x1 px,.Name x2 py] kt pt] (.Tuple [a,b] k2 pt2) (X j).env=pure (some [x1,x2]):=by intro _;rfl)
  (hs:∀ j,DG [.Tuple [.Name x1 px,.Name x2 py] kt pt] (.Tuple [a,b] k2 pt2) pos.line (X j).env=pure false:=by intro _;rfl) :
  SX K X ip (.Assign [.Tuple [.Name x1 px,.Name x2 py] kt pt] (.Tuple [a,b] k2 pt2) pos) (yy i1 i2 da):=
 let ⟨_,q,u⟩:=ha;⟨_,λj=>iA (M.calm j) (hN j) (e1 j) (e2 j) h12 (l1 j) (l2 j) (q j) (hw j) (hs j),dI u hi1 hi2⟩
def c6 i1 i2 i3 {kt k2 pt2} (M:Fm K mg k X) (ha:AX K X [a,b,c] da) (h12:i1≠i2:=by decide) (h13:i1≠i3:=by decide) (h23:i2≠i3:=by decide) (hi1:ip≠some i1:=by decide) (hi2:ip≠some i2:=by decide) (hi3:ip≠some i3:=by decide) (hN:∀ j,(X j).N.Nodup:=by intro _;show (Ea _);decide +kernel)
  (e1:∀ j,(X j).N[i1]?=some x1:=by intro _;rfl) (e2:∀ j,(X j).N[i2]?=some x2:=by intro _;rfl) (e3:∀ j,(X j).N[i3]?=some x3:=by intro _;rfl) (l1:∀ j,(X j).env.scope.names.lookup x1=some .local:=by intro _;rfl) (l2:∀ j,(X j).env.scope.names.lookup x2=some .local:=by intro _;rfl) (l3:∀ j,(X j).env.scope.names.lookup x3=some .local:=by intro _;rfl)
  (hw:∀ j,DH [.Tuple [.Name x1 px,.Name x2 py,.Name x3 pz] kt pt] (.Tuple [a,b,c] k2 pt2) (X j).env=pure (some [x1,x2,x3]):=by intro _;rfl)
  (hs:∀ j,DG [.Tuple [.Name x1 px,.Name x2 py,.Name x3 pz] kt pt] (.Tuple [a,b,c] k2 pt2) pos.line (X j).env=pure false:=by intro _;rfl) :
  SX K X ip (.Assign [.Tuple [.Name x1 px,.Name x2 py,.Name x3 pz] kt pt] (.Tuple [a,b,c] k2 pt2) pos) (zG i1 i2 i3 da):=
 let ⟨_,q,u⟩:=ha;⟨_,λj=>ZP (M.calm j) (hN j) (e1 j) (e2 j) (e3 j) h12 h13 h23 (l1 j) (l2 j) (l3 j) (q j) (hw j) (hs j),Xj u hi1 hi2 hi3⟩
def fB nn (hp:∀ j,Hi (model (X j).prog (X j).w) (X j).A (X j).env (X j).xe) (hc:TX K X c ta) (hb:BX K X ip sts f):SX K X ip (.While c sts [] pos) (su ta f nn):=
 let ⟨_,p,s⟩:=hc;let ⟨_,q,u⟩:=hb;⟨_,λj=>dQ (hp j) (p j) (q j),cN nn s u⟩
def Px(M:Fm K mg k X)(hp:∀ j,Hi (model (X j).prog (X j).w) (X j).A (X j).env (X j).xe)(hi:IX K X tg iter di)(hg:GX K X ip tg gg)(hb:BX K X ip sts f)
  (hs:∀ j x,CM iter (X j).env x=pure x:=by intro _ _;rfl):SX K X ip (.For tg iter sts [] pos) (uy ip di gg f):=
 let ⟨_,p1,s1⟩:=hi;let ⟨_,p2,s2⟩:=hg;let ⟨_,p3,s3⟩:=hb;⟨_,λj=>Zq (hp j) (M.calm j) (p1 j) (p2 j) (p3 j) (hs j),fG s1 s2 s3⟩
end
section
variable {P:Aj}{wd:A5}{base:Heap}{K:Fg}{mg:Str->Option AL}{k:Nat}
noncomputable abbrev zk (P:Aj) (wd:A5) (K:Fg) (mg:Str->Option AL) (base:Heap) (N:List Str) (qual:Str) (sc:Et) (f:Addr) (cdv:AL) (A:BG) (outer:List Env) (s:AR) (H:Hp) (E:XK):Unit->Cx:=λ_=>(x4 xh P wd K mg base N qual sc f cdv A outer s H E).nox
def XY(F:zm K x x st f fd)(S:sH N ps (sD st))(hm:mg x=some (.ref f))(hb:Binds K fd ps [])
  (body:∀ cdv A outer s H E,Fm K mg k (zk P wd K mg base N x (sD st) f cdv A outer s H E)->Fb P wd base (zk P wd K mg base N x (sD st) f cdv A outer s H E)->BX K (zk P wd K mg base N x (sD st) f cdv A outer s H E) ip (sv st) g) :
  FD P wd K mg base (k+1) x ip ps.length (sX ip ps.length N.length g):=by
 refine⟨⟨f,fd,ps,F.ok S (λvs H Q E h=>h.1) λcdv A outer s H vs Q E hr h=>?_,hm,F.kp,hb⟩,Qe⟩;obtain⟨t,p,u⟩:=body cdv A outer s H E ⟨λ_=>rfl,λ_=>rfl,λ_=>rfl,λ_=>hr⟩ ⟨λ_=>rfl,λ_=>rfl,λ_=>rfl⟩;exact⟨t,p (),QR u h⟩
end
section
variable {P:Aj}{wd:A5}{base:Heap}{K:Fg}{mg:Str->Option AL}{k:Nat}
def jS(F:zm K x x st f fd)(S:sH N ps (sD st))
  (body:∀ cdv A outer s H E,Fm K mg k (zk P wd K mg base N x (sD st) f cdv A outer s H E)->Fb P wd base (zk P wd K mg base N x (sD st) f cdv A outer s H E)->BX K (zk P wd K mg base N x (sD st) f cdv A outer s H E) ip (sv st) g) :
  uj P wd K mg base xh (k+1) f fd ps (xT K ip ps.length (sX ip ps.length N.length g)):=by
 refine F.ok S (λvs H Q E h=>h.1) λcdv A outer s H vs Q E hr h=>?_
 obtain⟨t,p,u⟩:=body cdv A outer s H E ⟨λ_=>rfl,λ_=>rfl,λ_=>rfl,λ_=>hr⟩ ⟨λ_=>rfl,λ_=>rfl,λ_=>rfl⟩;exact⟨t,p (),QR u h⟩
def dk(F:zm K x x st f fd)(hm:mg x=some (.ref f))(hb:Binds K fd ps [])(hn:ps.length=n):FD P wd K mg base k x ip n (λ_=>none):=by
 refine⟨⟨f,fd,ps,⟨λvs H Q E h=>h.1.trans hn.symm,λA outer s H args us vs Q E _ _ _ _ h=>?_⟩,hm,F.kp,hb⟩,λgs r e=>nomatch e⟩;obtain⟨_,w,gs,r,ys,e,_⟩:=h;cases e
def AEW(h:us.length=1):∃ a,us=[a]:=List.length_eq_one_iff.mp h
theorem AAS(h:us.length=n+1):∃ a r,us=a::r/\r.length=n:=by
 cases us with
 | nil=>cases h
 | cons a r=>exact⟨a,r,rfl,Nat.succ.inj h⟩
def AEO(h:us.length=2):∃ a b,us=[a,b]:=by
 obtain⟨a,r,rfl,h'⟩:=AAS h;obtain⟨b,rfl⟩:=AEW h';exact⟨a,b,rfl⟩
def ACg(h:us.length=3):∃ a b c,us=[a,b,c]:=by
 obtain⟨a,r,rfl,h'⟩:=AAS h;obtain⟨b,c,rfl⟩:=AEO h';exact⟨a,b,c,rfl⟩
def ADf(h:us.length=4):∃ a b c d,us=[a,b,c,d]:=by
 obtain⟨a,r,rfl,h'⟩:=AAS h;obtain⟨b,c,d,rfl⟩:=ACg h';exact⟨a,b,c,d,rfl⟩
noncomputable def u6 (ns:List Int):List T:=ns.map λi=>.a (.int i)
def gY(hO:ABl H)(hS:uL K H a (ns.map V.int))(h:F [.k (u6 ns)]=some (.v (.a (.bl true)),[])):xT K none 1 F [.ref a] H (λv _=>v=.bl true) λ_ _ _=>False:=by
 have hK:=KF.of hS λus e=>by
  rcases hO a with z | ⟨o,xs,z⟩
  iterate 2
   ·rw[e]at z;cases z
 refine⟨rfl,⟨[],λ_=>False⟩,_,_,_,h,⟨rfl,λi g e=>?_,λi j p ga gb ma mb e=>?_,λp hp=>(nomatch hp),λp hp=>(nomatch hp),λp hp=>hp.elim,λp hp=>hp.elim,λb o e _=>e,λq hq=>(nomatch hq)⟩,rfl,(λp hp=>nomatch hp),λv H' _ _ hr=>?_⟩
 ·match i,e with
  | 0,e =>
   cases e;refine⟨_,rfl,a,ns.map V.int,rfl,?_,hK⟩;have:u6 ns=(ns.map V.int).map T.a:=by simp[u6]
   rw[this];exact sf.atoms _
  | i+1,e=>simp at e
 ·match i,e with
  | 0,e=>cases e;cases ma
  | i+1,e=>simp at e
 ·exact (show Im K H' v (.a (.bl true)) from hr).inva
end
noncomputable def zV (i:Nat) (s:S) (Γ:En):Option En:=match s with
 | .v t=>some (Γ.set i (some (.v t)))
 | .l xs=>some (Γ.set i (some (.l xs)))
 | .d _=>none
 | .s j=>match Γ[j]? with
  | some (some (.r xs))=>some (Γ.set i (some (.r xs)))
  | some (some (.l xs))=>some ((Γ.set j none).set i (some (.l xs)))
  | _=>none
noncomputable def dMv (i j:Nat):DS:=λΓ=>(jV j Γ).bind λp=>(zV i p.1 p.2).map .nx
def sV.forget(r:sV K C w Γ σ H)(hn:∀ q∈C.pins,q.1≠j):sV K C w (Γ.set j none) σ H where
 len:=by simpa using r.len
 val:=λi g h=>by
  by_cases e:i=j
  ·subst e;rw[IE]at h;split at h
   ·split at h <;> simp at h
   ·exact absurd rfl ‹_›
  ·rw[AO (Ax e)]at h;exact r.val i g h
 apart:=λa b p ga gb ma mb h1 h2 h3 h4=>by
  have back:∀ m zs,(Γ.set j none)[m]?=some (some zs)->Γ[m]?=some (some zs):=λm zs h=>by
   by_cases e:m=j
   ·subst e;rw[IE]at h;split at h
    ·split at h <;> simp at h
    ·exact absurd rfl ‹_›
   ·rw[AO (Ax e)]at h;exact h
  exact r.apart a b p ga gb ma mb (back _ _ h1) (back _ _ h2) h3 h4
 lst:=r.lst
 own:=r.own
 ra:=r.ra
 rl:=r.rl
 frame:=r.frame
 pin:=λq hq=>by
  obtain⟨a,xs,b⟩:=r.pin q hq;exact⟨a,xs,by rw[AO (Ax (hn q hq))];exact b⟩
def sV.move(r:sV K C w Γ σ H)(hj:Γ[j]?=some (some (.l xs)))(hv:σ[j]?=some (some v))(hni:∀ q∈C.pins,q.1≠i)(hnj:∀ q∈C.pins,q.1≠j) :
  sV K C w ((Γ.set j none).set i (some (.l xs))) (σ.set i (some v)) H:=by
 have r':=r.forget hnj;obtain⟨v',e1,e2⟩:=r.val j _ hj;rw[hv]at e1;cases e1;obtain⟨p,vs,rfl,hp,h1,h2⟩:=e2;have hjl:=(Ac.mp hj).1;refine⟨by simpa using r.len,λm g h=>?_,λa b c ga gb ma mb g1 g2 g3 g4=>?_,r.lst,r.own,r.ra,r.rl,r.frame,λq hq=>?_⟩
 ·by_cases e:m=i
  ·subst e;have hml:m < (Γ.set j none).length:=by
    rcases Bt m (Γ.set j none).length with z | z
    ·exact z
    ·rw[Ce (by simpa using z)]at h;cases h
   rw[Am hml]at h;cases h;exact⟨_,by rw[Am (by rw[r'.len];exact hml)],p,vs,rfl,hp,h1,h2⟩
  ·rw[AO (Ax e)]at h;rw[AO (Ax e)];exact r'.val m g h
 ·have old:∀ m gc,uX gc=true->m≠i->((Γ.set j none).set i (some (.l xs)))[m]?=some (some gc)->(σ.set i (some (.ref p)))[m]?=some (some (.ref c))->m≠j/\Γ[m]?=some (some gc)/\σ[m]?=some (some (.ref c))/\c≠p:=λm gc mc e h h'=>by
   rw[AO (Ax e)]at h;rw[AO (Ax e)]at h';have hmj:m≠j:=λz=>by subst z;rw[Am hjl]at h;cases h
   rw[AO (Ax hmj)]at h;exact⟨hmj,h,h',λz=>hmj (r.apart m j c _ _ mc rfl h hj h' (z ▸ hv))⟩
  have at_i:∀ (h:(σ.set i (some (.ref p)))[i]?=some (some (V.ref c))),c=p:=λh=>by
   have hil:=(Ac.mp h).1;rw[Am (by simpa using hil)]at h;cases h;rfl
  by_cases ea:a=i
  ·by_cases eb:b=i
   ·rw[ea,eb]
   ·exact absurd (at_i (ea ▸ g3)) (old b gb mb eb g2 g4).2.2.2
  ·by_cases eb:b=i
   ·exact absurd (at_i (eb ▸ g4)) (old a ga ma ea g1 g3).2.2.2
   ·exact r.apart a b c ga gb ma mb (old a ga ma ea g1 g3).2.1 (old b gb mb eb g2 g4).2.1 (old a ga ma ea g1 g3).2.2.1 (old b gb mb eb g2 g4).2.2.1
 ·obtain⟨a,ys,b⟩:=r'.pin q hq;exact⟨by rw[AO (Ax (hni q hq))];exact a,ys,by rw[AO (Ax (hni q hq))];exact b⟩
theorem bL(R:sV K C w Γ σ H)(o:tH K C w σ H v s)(e:zV i s Γ=some Γ')(hs:∀ m,s=.s m->m=j)(hn:∀ q∈C.pins,q.1≠i)(hm:∀ q∈C.pins,q.1≠j):∃ w',sV K C w' Γ' (σ.set i (some v)) H:=by
 cases s with
 | v t=>cases e;exact⟨w,R.setv rfl o hn⟩
 | d _=>cases e
 | l xs =>
  cases e;obtain⟨p,vs,rfl,n1,n2,ow,h1,h2⟩:=o;exact⟨_,R.setl n1 n2 ow h1 h2 hn⟩
 | s m =>
  cases hs m rfl;unfold zV at e;dsimp only at e;have o':=o;split at e
  ·rename_i xs he;cases e;obtain⟨v',e1,e2⟩:=R.val j _ he;rw[o']at e1;cases e1;exact⟨w,R.setv rfl e2 hn⟩
  ·rename_i xs he;cases e;exact⟨w,R.move he o' hn hm⟩
  ·cases e
def Ze(e:jV j Γ=some p):∀ m,p.1=.s m->m=j:=by
 intro m hm;unfold jV at e;split at e <;> first | cases e | (cases e;cases hm) | (cases e;cases hm;rfl)
 all_goals first | (cases hm;done) | (cases hm;rfl)
def bK(h:sW K te (jV j))(hi:ip≠some i)(hj:ip≠some j):uc K ip (yq te (xR i)) (dMv i j):=by
 intro C w Γ σ H D o hp R e k;obtain⟨p,e1,e⟩:=sC e;obtain⟨Γ1,e2,rfl⟩:=Lb e;refine h C w Γ σ H p.1 p.2 _ R e1 λv H1 R1 _ o1 _=>?_
 obtain⟨w',R'⟩:=bL R1 o1 e2 (Ze e1) (MU hp hi) (MU hp hj);exact k w' _ H1 R'
section
variable {ι:Type}{K:Fg}{X:ι->Cx}{ip:Option Nat}{e:Expr}{x:Str}{pos:Pos}
def Ya i j (h:EX K X e (jV j)) (hi:ip≠some i:=by decide) (hj:ip≠some j:=by decide) (hN:∀ j,(X j).N.Nodup:=by intro _;show (Ea _);decide +kernel) (hx':∀ j,(X j).N[i]?=some x:=by intro _;rfl) (hx:∀ j,Loc (X j).env.scope x:=by intro _;first | exact Eo rfl | exact Dr rfl)
  (hs:∀ j,Dj e (some (.Name x pos')) pos.line (X j).env=pure false:=by intro _;rfl) (hf:∀ j,(X j).fn x=true\/(X j).env.scope.names.lookup x=some .local:=by intro _;first | exact .inl rfl | exact .inr rfl):SX K X ip (.Assign [.Name x pos'] e pos) (dMv i j):=
 let ⟨_,p,s⟩:=h;⟨_,λj=>RM (hN j) (hx' j) (hx j) (p j) (hs j) (hf j),bK s hi hj⟩
end
end D
namespace L2
open PySem PySem.Spec PyProof.Rows
section
variable {prog:Aj}{w:A5}{A:BG}{E:AL->AR->Prop}{s:AR}
variable {e it l:Addr}{S1:Nat->Heap->Prop}{xs:Array AL}{k:Nat}
def YO{x old}{Q:AL->AR->Prop}(hne:e≠it)(hle:l≠e)(D:um prog w it l xs S1)(he:Ku s.heap e it k old)(st:S1 k s.heap)(hx:xs[k]?=some x)
  (hQ:∀ h',IsEnumOut h' e it (k+1) x s.heap.objs.size->S1 (k+1) h'->DQ h' s.heap.objs.size (.int k s.toks) x ->
   (∀ c o,c≠e->c≠it->s.heap.get? c=some o->h'.get? c=some o)->Q (.ref s.heap.objs.size) { s with heap:=h',toks:=s.toks+1 }) :
  AQ (model prog w) A (Builtin.«enumerate.__next__» ⟨[.ref e],[]⟩) (λfin s'=>∃ v,fin=.done (.ret v)/\Q v s') E s:=by
 obtain⟨hp,g,d,tk,os⟩:=s;show AQ _ _ (field (.ref e) 2 >>= _) _ _ _;refine AA (Ap he rfl (x:=.ref it) rfl (AA (D.item _ k _ x _ _ st hx λh1 t1 b1=>?_)));have e1:=(b1.2 e hne).trans he;refine AA (Ap e1 rfl (x:=Dy k) rfl (AA (Ap e1 rfl (x:=.none) rfl ?_)));refine AA (Gr ?_);refine AA (A4 e1 ↥1 λh2 e2 b2=>AA (A4 e2 ↥1 λh3 e3 b3=>?_));show AQ _ _ (newTuple [.int k tk,x] >>= _) _ _ ⟨h3,g,d,tk+1,os⟩;refine AA (EK ?_);have hsz:h3.objs.size=hp.objs.size:=by rw[b3.1,b2.1,b1.1]
 have e4:Ku (h3.push { cls:=.type "tuple",data:=.seq #[.int k tk,x] }) e it (k+1) old:=AB _ e3;have p4:DQ (h3.push { cls:=.type "tuple",data:=.seq #[.int k tk,x] }) hp.objs.size (.int k tk) x:=by rw[← hsz];exact AK _ rfl
 have k4:∀ c o,c≠e->h1.get? c=some o->(h3.push { cls:=.type "tuple",data:=.seq #[.int k tk,x] }).get? c=some o:=λc o hc q=>AB _ (b3.extBut c o hc (b2.extBut c o hc q))
 rw[hsz];refine AA (AA (Ap e4 rfl (x:=.none) rfl (AG ?_)));refine AA (CS (AA (Ap e4 rfl (x:=old) rfl (AA (A4 e4 ↥1 λh5 e5 b5=>?_)))));replace e5:Ku h5 e it (k+1) x:=e5;show AQ _ _ (CU (.ref e) (.ref hp.objs.size) >>= _) _ _ ⟨h5,g,d,tk+1,os⟩;refine AA ?_;refine AA (A4 e5 ↥1 λh6 e6 b6=>A4 e6 ↥1 λh7 e7 b7=>?_);have up:=λc o hc q=>b7.extBut c o hc (b6.extBut c o hc (b5.extBut c o hc q))
 exact AA (Gq (AG ⟨_,rfl,hQ h7 e7 (D.keep _ _ _ t1 (λo q=>up _ o hne.symm (k4 _ o hne.symm q)) λo q=>up _ o hle (k4 _ o hle q)) (up _ _ (Bk (AM he)) p4) λc o c1 c2 q=>up c o c1 (k4 c o c1 (b1.extBut c o c2 q))⟩))
end
def Ite (b:Bool) (K:Ae) (a1:Addr):It:=
 ⟨λi H=>∃ xs x,Sq b K H a1 xs/\xs[i]?=some x,
  λi H v H'=>∃ T x,v=.ref T/\H T=none/\H'=upd H T (.tup [.int i,x])/\(∀ xs,Sq b K H a1 xs->xs[i]?=some x),
  λi H=>∃ xs,Sq b K H a1 xs/\xs.length<=i⟩
structure ETn(b:Bool)(e it a1:Addr)(k:Nat)(h:Heap):Prop where
 z:∃ old,Ku h e it k old
 s1:SIt b it a1 k h
def ku{K elts x1 tp} b {e it a1} (hne:e≠it) (hle:a1≠e) (hli:a1≠it) :
  zf P w K (.Tuple elts x1 tp) (Ite b K a1) [e,it] e (ETn b e it a1) where
 mem:=by simp
 obj:=λi h st c hc=>by
  simp at hc;rcases hc with q | q
  ·have ⟨old,z⟩:=st.z;exact⟨_,q ▸ z,λv z=>by cases z⟩
  ·obtain⟨o,r,d⟩:=st.s1.live;exact⟨o,q ▸ r,d⟩
 keep:=λi h h' st k=>⟨(let ⟨old,z⟩:=st.z;⟨old,k e ↥1 _ z⟩),st.s1.keep λo q=>k it ↥1 o q⟩
 item:=by
  intro X hP hw hK hc i pins s σ H E I hf st hg;subst hP hw hK;obtain⟨xs,x,h1,hx⟩:=hg;obtain⟨its1,v1,o1,z1⟩:=I.sq h1;obtain⟨u1,e1,r1⟩:=v1.get hx;have ⟨old,hz⟩:=st.z;have hT:s.TypeIs (.ref e) "enumerate":=⟨_,hz,rfl⟩
  have nH:=λc hc=>(hf c hc).1
  refine AA (B7 (Az hT Dg (Ay Dg hT He
   (YO hne hle (Vi b it a1 its1.toArray hli) hz ⟨st.s1,o1⟩ (by simpa using e1) λh' ho st' hp hk=>AG ?_) (HU _))))
  refine⟨_,rfl,?_⟩;have fT:=I.hok.fresh (AF _);have hk':∀ c o,c∉[e,it]->s.heap.get? c=some o->h'.get? c=some o:=λc o hc q=>by
   simp at hc;exact hk c o hc.1 hc.2 q
  have trk:∀ c u,H c=some u->c∉[e,it]:=λc u q hc=>by rw[nH c hc]at q;cases q
  have nT:∀ c o,s.heap.get? c=some o->c≠s.heap.objs.size:=λc o q=>Ag (AM q)
  have hok1:vO X.prog X.w H h':=λc u q=>(I.hok c u q).stay (λd v hd r=>hk' d v (by
   rcases hd with rfl | hd
   ·exact trk d u q
   ·exact trk d _ hd) r) (λ_ r=>r) λ_ _ r=>r
  have I1:Inv X pins σ (upd H s.heap.objs.size (.tup [.int i,x])) { s with heap:=h',toks:=s.toks+1 }:=by
   refine I.step (λc hc=>?_) (λc o _ _ hc q _=>hk' c o hc q) (λc o _ _ hc q _=>⟨o.slots,hk' c o hc q⟩)
    (λc o _ q n=>by rw[Lc (nT c o q)];exact n) (λc o hc q=>⟨o,hk' c o hc q⟩) (λc xs q=>by rw[Lc (Lo q fT)];exact q) (λc o u q=>by rw[Lc (Lo q fT)];exact q)
    (λc ps q=>⟨#[],by rw[Lc (Lo q fT),q];simp⟩) (λm hm=>?_) (hok1.adopt fT ⟨by show 2<=AC;decide,[.int i s.toks,u1],.cons ⟨_,rfl⟩ (.cons r1 .nil),_,hp,rfl,⟨0,rfl⟩,rfl⟩) I.bare
   ·obtain⟨_,f1,f2,f3,f4,f5⟩:=hf c hc;exact⟨f3,f1,f4,f5⟩
   ·obtain⟨o,es,ep,ho,r⟩:=hm;exact⟨o,es,ep,hk' _ o (λhc=>(hf _ hc).2.1 rfl) ho,r⟩
  refine wpAny_letOwnedTupleGo_enum ho λh9 hz2 hs2=>?_
  obtain⟨_,f1,f2,f3,f4,f5⟩:=hf e ↥1;have nz:upd H s.heap.objs.size (.tup [.int i,x]) e=none:=by rw[Lc (nT e _ hz)];exact nH e ↥1
  have I2:=by
   have q:=I1.turned (t':=s.toks+1) (λc o hc q=>(hs2.2 c hc).trans q) nz f1 f3 f4 f5;exact q
  refine⟨.ref s.heap.objs.size,_,I2,rfl,⟨s.heap.objs.size,x,rfl,fT,rfl,λxs' q=>by rw[I.sq_inj q h1];exact hx⟩,?_,λc hc=>?_⟩
  ·have up:∀ c o,c≠e->h'.get? c=some o->h9.get? c=some o:=λc o hc q=>(hs2.2 c hc).trans q
   exact⟨⟨_,by simpa using hz2⟩,st'.1.keep λo q=>up _ o hne.symm q⟩
  ·obtain⟨o,q,_⟩:∃ o,s.heap.get? c=some o/\True:=by
    simp at hc;rcases hc with q | q
    ·exact⟨_,q ▸ hz,trivial⟩
    ·obtain⟨o,r,d⟩:=st.s1.live;exact⟨o,q ▸ r,trivial⟩
   rw[Lc (nT c o q)];exact nH c hc
 done:=by
  intro X hP hw hK hc i pins s σ H E I hf st hg;subst hP hw hK;obtain⟨xs,h1,hl⟩:=hg;obtain⟨its1,v1,o1,z1⟩:=I.sq h1;have l1:=v1.length;have ⟨old,hz⟩:=st.z;have hT:s.TypeIs (.ref e) "enumerate":=⟨_,hz,rfl⟩
  refine AA (B7 (Az hT Dg (Ay Dg hT He ?_ (HU _))));show AQ _ _ (field (.ref e) 2 >>= _) _ _ _;refine AA (Ap hz rfl (x:=.ref it) rfl (AA ((Vi b it a1 its1.toArray hli).fini _ i _ _ _ (I.ok.hd hc) ⟨st.s1,o1⟩ ↥2 λh' x hk hx'=>?_)));obtain⟨o,ho,hcl⟩:=hx';refine AA (CJ ⟨o,ho,hcl⟩ EM (AG ⟨rfl,?_⟩));have hk':∀ c o,c∉[it]->s.heap.get? c=some o->h'.get? c=some o:=λc o hc q=>hk c o (λz=>hc (by simp[z])) q
  have sub:∀ c∈[it],c∈[e,it]:=λc hc=>by simp at hc ⊢;exact .inr hc
  have trk:∀ c u,H c=some u->c∉[it]:=λc u q hc=>by rw[(hf c (sub c hc)).1]at q;cases q
  refine I.step (λc hc=>?_) (λc o _ _ hc q _=>hk' c o hc q) (λc o _ _ hc q _=>⟨o.slots,hk' c o hc q⟩)
   (λc o _ q n=>n) (λc o hc q=>⟨o,hk' c o hc q⟩) (λc xs q=>q) (λc o u q=>q) (λc ps q=>⟨#[],by rw[q];simp⟩) (λm hm=>?_) (λc u q=>(I.hok c u q).stay (λd v hd r=>hk' d v (by
    rcases hd with rfl | hd
    ·exact trk d u q
    ·exact trk d _ hd) r) (λ_ r=>r) λ_ _ r=>r) I.bare
  ·obtain⟨_,f1,f2,f3,f4,f5⟩:=hf c (sub c hc);exact⟨f3,f1,f4,f5⟩
  ·obtain⟨o,es,ep,ho,r⟩:=hm;exact⟨o,es,ep,hk' _ o (λhc=>(hf _ (sub _ hc)).2.1 rfl) ho,r⟩
 self:=λ_ _ _ _ _ st h=>let ⟨_,z⟩:=st.z;Jc z h
section
variable {prog:Aj}{w:A5}{A:BG}{E:AL->AR->Prop}{s:AR}
def cM l xs :
  Ij (Builtin.«enumerate.__new__» ⟨[.type "enumerate",.ref l],[]⟩) (λ_ R s=>s.heap.IsTuple l xs /\
   R (.ok (.ret (.ref (s.heap.push { cls:=.type "tuple_iterator",data:=.fields #[.ref l,.int 0 0] }).objs.size)))
    { s with heap:=(s.heap.push { cls:=.type "tuple_iterator",data:=.fields #[.ref l,.int 0 0] }).push { cls:=.type "enumerate",data:=.fields #[.none,.bool false,.ref s.heap.objs.size,Dy 0,.none,.none] } }):=
 .of_wp λprog w A R s h=>by
  obtain⟨hp,g,d,tk,os⟩:=s;obtain⟨hl,h⟩:=h;have hsub:=sub_enumerate;have T1:=hl
  wp_walk
  refine wpAny_stack_any λst=>AG ?_
  split
  ·rename_i c _ _ _ _ _;cases (c == C6 "enumerate")
   iterate 2
    ·wp_walk using Ci T1
     exact⟨_,rfl,h⟩
  ·wp_walk using Ci T1
   exact⟨_,rfl,h⟩
def jl(hl:s.heap.IsTuple l xs)
  (h:∀ h',ETn true (s.heap.objs.size+1) s.heap.objs.size l 0 h'->(∀ c o,s.heap.get? c=some o->h'.get? c=some o)->Q (.ref (s.heap.objs.size+1)) { s with heap:=h' }) :
  AQ (model prog w) A (call (.type "enumerate") [.ref l]) Q E s:=by
 refine GF F.called_enumerate ∅ (F.typeCall_enumerate_1 _) (F.newCall_enumerate_1 _) (λobj=>FK obj _) F.entry_enumerate_new (cM l xs) ⟨hl,?_⟩;have z1:(s.heap.push { cls:=.type "tuple_iterator",data:=.fields #[.ref l,.int 0 0] }).objs.size=s.heap.objs.size+1:=BW ..;have g2:=AK (s.heap.push { cls:=.type "tuple_iterator",data:=.fields #[.ref l,.int 0 0] }) (o:={ cls:=.type "enumerate",data:=.fields #[.none,.bool false,.ref s.heap.objs.size,Dy 0,.none,.none] }) rfl;rw[z1]at g2;rw[z1];exact⟨⟨_,g2,rfl⟩,h _ ⟨⟨.none,g2⟩,⟨_,AB _ (AK _ rfl),rfl,rfl⟩⟩ λc o x=>AB _ (AB _ x)⟩
end
section
variable {X:Cx}{elts:List Expr}{x1:Nat}{tp:Pos}
def ya (K:Ae) (ta:TA):TI:=λσ H R=>ta σ H λvs H1=>∃ (b:Bool) (a1:Addr),vs=[.ref a1]/\(∃ xs,Sq b K H1 a1 xs)/\R (Ite b K a1) H1
theorem jU(hg:Gl X "enumerate")(hm:X.mg "enumerate"=none)(ha:PA X [e1] ta)(hs:AV [e1] X.env=[(false,eval e1 X.env)]:=by rfl) :
  PI X (.Tuple elts x1 tp) (.Call (.Name "enumerate" p) [e1] [] pos) (ya X.K ta):=by
 intro pins s σ H R I h;refine Hj (MK I hg hm boot_enumerate (A7 (tE (ha pos pins s σ H _ I h) λus s1 ⟨vs,H1,I1,r1,q1⟩=>?_) ‹_› (by rfl)));obtain⟨b,a1,rfl,⟨xs,h1⟩,q⟩:=q1;obtain⟨u1,rfl,rfl⟩:=r1.one;obtain⟨its1,v1,o1,z1⟩:=I1.sq h1;have lt1:a1 < s1.heap.objs.size:=by cases b with
  | false | true=>obtain⟨o,e,_⟩:=o1;exact AM e
 have fin:∀ h',ETn b (s1.heap.objs.size+1) s1.heap.objs.size a1 0 h'->(∀ c o,s1.heap.get? c=some o->h'.get? c=some o) ->
   AQ (model X.prog X.w) X.A (GW (.ref (s1.heap.objs.size+1))) (PIE X pins σ (.Tuple elts x1 tp) R) X.xe { s1 with heap:=h' }:=λh' st hk=>by
  obtain⟨old,z⟩:=st.z;refine Jc z ⟨_,_,_,_,H1,rfl,I1.kept hk,ku b (Bk (CT _)) (Ag (AW lt1 (Ba _ 1))) (Ag lt1),st,λc hc=>?_,q⟩;have hc':s1.heap.objs.size<=c:=by
   simp at hc;rcases hc with e | e <;> (rw[e]) <;> first | exact AF _ | exact Ba _ _
  exact I1.fpOk hc' (I1.hok.fresh hc')
 cases b with
 | false=>exact call_enumerate_list o1 λh' hz hit _ hk=>fin h' ⟨⟨_,hz⟩,hit⟩ hk
 | true=>exact jl o1 fin
end
end L2
namespace D
open PySem L2
noncomputable def vE (xs:List T):List T:=xs.zipIdx.map λp=>.t [.a (.int (p.2:Int)),p.1]
noncomputable def wj (fa:DA):DI:=λΓ=>(fa Γ).bind λp=>match p.1 with
 | [.v (.t xs)]=>gd xs.length ((vE xs,[]),p.2)
 | [a]=>(s9 p.2 a).bind λxs=>gd xs.length ((vE xs,xJ p.2 a),p.2)
 | _=>none
section
variable {K:Fg}
def Ud(h1:Sq b K H2 a1 vs)(i1:sf K H2 vs xs) :
  (∀ i t,(vE xs)[i]?=some t->(Ite b K a1).go i H2/\∀ x H3,(Ite b K a1).yld i H2 x H3->(∀ b o,H2 b=some o->H3 b=some o)/\Im K H3 x t)/\(Ite b K a1).stop (vE xs).length H2:=by
 refine⟨λi t e=>?_,⟨vs,h1,?_⟩⟩
 ·unfold vE at e;rw[Ak]at e;obtain⟨⟨t1,j⟩,e1,rfl⟩:=Lb e;have e1':xs[i]?=some t1/\j=i:=by
   rw[List.getElem?_zipIdx]at e1;obtain⟨y,q,e1⟩:=Lb e1;cases e1;exact⟨q,by simp⟩
  obtain⟨g1,rfl⟩:=e1';obtain⟨v,e3,hv⟩:=i1.get g1;refine⟨⟨vs,v,h1,e3⟩,λx H3 y=>?_⟩;obtain⟨T',x',rfl,hT,rfl,k1⟩:=y;have q1:=k1 vs h1;rw[e3]at q1;cases q1;have ev:tP [] H2 (upd H2 T' (.tup [.int j,v])):=tP.new hT;have hL:LL [] H2:=λq hq=>nomatch hq
  refine⟨λb o e=>ev b o e nofun,Im.tup Ln (.cons Im.atom (.one (hv.evo ev hL)))⟩
 ·have l1:=i1.len;simp[vE];lia
def dE(ha:ui K ta fa):yJ K (ya K ta) (wj fa):=by
 intro C w Γ σ H its src Γ' R Rp e k;obtain⟨⟨as,G1⟩,e1,e⟩:=sC e;dsimp only at e;have zl:∀ xs,(vE xs).length<=xs.length:=λxs=>by simp[vE]
 split at e
 ·obtain⟨hz,e⟩:=ML e;cases e;refine ha C w Γ σ H _ _ _ Rp e1 λvs H1 R1 ev1 o1 n1=>?_
  obtain⟨v,rfl,o2⟩:=tK o1;obtain⟨p,vs,rfl,h1,i1⟩:=o2.invt;refine⟨true,p,rfl,⟨vs,h1.sq⟩,k _ H1 R1 ev1 ⟨Ah (zl _) hz,λL' hs av H2 ev=>?_⟩⟩;have hL:LL L' H1:=λq hq=>R1.lst q (hs q hq)
  exact Ud (Qo ev hL h1).sq (i1.evo ev hL)
 ·obtain⟨xs,e2,e⟩:=sC e;obtain⟨hz,e⟩:=ML e;cases e;refine ha C w Γ σ H _ _ _ Rp e1 λvs H1 R1 ev1 o1 n1=>?_
  obtain⟨v,rfl,o2⟩:=tK o1;obtain⟨p,vs,rfl,h1,i1,st1⟩:=QN R1 o2 e2;refine⟨false,p,rfl,⟨vs,h1⟩,k _ H1 R1 ev1 ⟨Ah (zl _) hz,λL' hs av H2 ev=>?_⟩⟩;have hL:LL L' H1:=λq hq=>R1.lst q (hs q hq)
  exact Ud (st1 L' hs av H2 ev) (i1.evo ev hL)
 ·cases e
end
section
variable {ι:Type}{K:Fg}{X:ι->Cx}{mg:Str->Option AL}{k:Nat}{a:Expr}{da:DA}{p pos:Pos}
def dm(M:Fm K mg k X)(hm:mg "enumerate"=none)(ha:AX K X [a] da)(hg:∀ j,Gl (X j) "enumerate":=by intro _;rfl)(hs:∀ j,AV [a] (X j).env=[(false,eval a (X j).env)]:=by intro _;rfl) :
  IX K X (.Tuple elts x1 tp) (.Call (.Name "enumerate" p) [a] [] pos) (wj da):=
 let ⟨t,q,u⟩:=ha;⟨ya K t,λj=>by have:=jU (elts:=elts) (x1:=x1) (tp:=tp) (p:=p) (pos:=pos) (hg j) (by rw[M.mg];exact hm) (q j) (hs j);rw[M.K j]at this;exact this,dE u⟩
end
end D
namespace L2
open PySem PySem.Spec PyProof.Rows
def XH:Slot "reversed" "__init__" "object.__init__" :=
 .of (owner:="object") (n:="__init__") rfl ↥4 ↥4 ↥4
  (by first | exact .inl ↥4 | exact .inr rfl) rfl
def g8:TypeCalled "reversed" "reversed.__new__" "object.__init__" :=
 ⟨by decide +kernel,by decide +kernel,⟨_,_,F.mro_reversed⟩,F.made_reversed,by decide +kernel,by rw[Kv];kernel_rfl,XH⟩
def Pd:Manifest.owners.lookup (String.ofList ['d','e','s','r','e','v','e','r'].reverse)=some Manifest.sig_reversed:=by kernel_rfl
def OB:Slot "reversed" "__next__" "reversed.__next__" :=
 .of (owner:="reversed") (n:="__next__") rfl rfl rfl rfl
  (by first | exact .inl rfl | exact .inr rfl) rfl
def VA:HL table "reversed.__next__"=some Builtin.«reversed.__next__»:=Gf rfl
def Sj:Slot "reversed" "__iter__" "reversed.__iter__" :=
 .of (owner:="reversed") (n:="__iter__") rfl rfl rfl rfl
  (by first | exact .inl rfl | exact .inr rfl) rfl
def bC:Fq (.type "tuple") "__reversed__"=pure none:=by rw[FE];kernel_rfl
def Yp:isSubtype (.type "tuple") (.type "dict")=pure false:=by rw[Kv];kernel_rfl
def Uw a:IF "reversed.__next__" ⟨[a],[]⟩:=by
 unfold IF;rw[Hf (n:=['_','_','t','x','e','n','_','_']) rfl Pd];kernel_rfl
def jX a:IF "reversed.__iter__" ⟨[a],[]⟩:=by
 unfold IF;rw[Hf (n:=['_','_','r','e','t','i','_','_']) rfl Pd];kernel_rfl
def j3:HL table "reversed.__iter__"=some Builtin.«dict_keyiterator.__iter__» :=
 Kw (id':="dict_keyiterator.__iter__") rfl rfl ↥4 rfl
abbrev zh (h:Heap) (e l:Addr) (i:Int):Prop:=h.get? e=some { cls:=.type "reversed",dict:=none,data:=.fields #[.ref l,Dy i],slots:=#[] }
section
variable {prog:Aj}{w:A5}{A:BG}{E:AL->AR->Prop}{s:AR}
theorem bR(hl:s.heap.IsTuple l xs)(hQ:Q true s):AQ (model prog w) A (do
  if ← isInstance (.ref l) (.type "dict") then return false
  match ← specialOf (.ref l) "__getitem__" with
  | none=>return false
  | some (.builtin id) =>
   if ["tuple.__getitem__","str.__getitem__","bytes.__getitem__","bytearray.__getitem__","memoryview.__getitem__","numpy.ndarray.__getitem__","sqlite3.Row.__getitem__"].contains id then return true
   if id == "sqlite3.Blob.__getitem__" then return false
   unsupported "reversed.__new__:is-it-a-sequence"
  | some _=>return true) Q E s:=AA (CJ hl.typeIs Yp (AA (CL hl.typeIs IG.lookup (AG hQ))))
def Zg l xs (hz:xs.size<=AC) :
  Ij (Builtin.«reversed.__new__» ⟨[.type "reversed",.ref l],[]⟩) (λ_ R s=>s.heap.IsTuple l xs /\
   R (.ok (.ret (.ref s.heap.objs.size))) { s with heap:=s.heap.push { cls:=.type "reversed",data:=.fields #[.ref l,Dy ((xs.size:Int) - 1)] },toks:=s.toks+1+1 }):=
 .of_wp λprog w A R s h=>by
  obtain⟨hl,h⟩:=h;refine AA (B8 (newClass_reversed _) ?_);refine AA (B8 rfl (AA (B8 rfl (AA (CL hl.typeIs bC (AA (bR hl ?_)))))));refine AA (Ju hl (by have:=hz;rw[BJ]at this;lia) (AA (m:=Eb _ _) ?_));unfold Eb;exact A9 (AG ⟨_,rfl,h⟩) (by size_fits)
def Wk(he:zh s.heap e l i)(h:Q (.ref e) s):AQ (model prog w) A (GW (.ref e)) Q E s:=by
 have hT:s.TypeIs (.ref e) "reversed":=⟨_,he,rfl⟩
 exact Jd hT Sj (Ay Sj hT j3 (AG ⟨_,rfl,"reversed",_,hT,OB.lookup,h⟩) (jX _))
def Xh{i:Nat}{xs x Q}(he:zh s.heap e l i)(hl:s.heap.IsTuple l xs)(hz:xs.size<=AC)(hx:xs[i]?=some x)
  (hQ:∀ h' tk,zh h' e l (i - 1)->Cv e s.heap h'->Q (some x) { s with heap:=h',toks:=tk }):AQ (model prog w) A (E8 (.ref e)) Q E s:=by
 have hT:s.TypeIs (.ref e) "reversed":=⟨_,he,rfl⟩
 have hi:=(Array.getElem?_eq_some_iff.mp hx).1;rw[BJ]at hz;refine AA (B7 (Az hT OB (Ay OB hT VA ?_ (Uw _))));refine AA (B8 rfl (AA (Ap he rfl (x:=.ref l) rfl ?_)));refine AA (Ap he rfl rfl (AA (CL hl.typeIs IG.lookup ?_)));exact AA (Gr (AA (B7 (KU (j:=i) hl ⋯ ⋯ (by rw[Gn ⋯ ⋯,Co]) hx (AA (Ap he rfl rfl (AA (A4 he ↥1 λh1 e1 b1=>AG ⟨x,rfl,AG (hQ h1 _ e1 b1)⟩))))))))
def kH(hh:A.handled=none)(he:zh s.heap e l (-1))(hQ:∀ h',E3 e s.heap h'->Q none { s with heap:=h' }):AQ (model prog w) A (E8 (.ref e)) Q E s:=by
 have hT:s.TypeIs (.ref e) "reversed":=⟨_,he,rfl⟩
 obtain⟨hp,g,d,tk,os⟩:=s;refine AA (B7 (Az hT OB (Ay OB hT VA ?_ (Uw _))));refine AA (B8 rfl (AA (Ap he rfl (x:=.ref l) rfl (AA (Ap he rfl (x:=Dy (-1)) rfl ?_)))));refine AA (CS (AA (AA (A4 he ↥1 λh1 e1 b1=>A4 e1 ↥1 λh2 e2 b2=>?_))));have x2:E3 e hp h2:=λc o hc q=>b2.extBut c o hc (b1.extBut c o hc q)
 refine AA (AA (AA (m:=firstArgMember _ _) (B8 (a:=CV) rfl ?_)));refine A9 (AA (Hc ?_)) (by size_fits)
 first | rw[show A.in1.handled=none from hh] | rw[hh]
 refine AA (AG (Ik ?_));refine AA (CJ ⟨_,AK _ rfl,rfl⟩ EM ?_);exact AG (hQ _ ((x2.push _).push _))
end
end L2
namespace D
open PySem L2
noncomputable def insI (x:Int):List Int->List Int
 | []=>[x]
 | y::r=>if x<=y then x::y::r else y::insI x r
noncomputable def sortI:List Int->List Int
 | []=>[]
 | x::r=>insI x (sortI r)
theorem QP x:∀ l,(insI x l).Perm (x::l)
 | []=>.refl _
 | y::r=>by
  unfold insI;split
  ·exact .refl _
  ·exact ((QP x r).cons y).trans (LR x y r)
theorem Q3:∀ l,(sortI l).Perm l
 | []=>.refl _
 | x::r=>(QP x _).trans ((Q3 r).cons x)
theorem RU x:∀ l,l.Pairwise (·<=·)->(insI x l).Pairwise (·<=·)
 | [],_=>by simp[insI]
 | y::r,h=>by
  unfold insI;have h':=Bz.mp h;split
  ·exact Bz.mpr ⟨λz hz=>by
    rcases AN.mp hz with e | e
    ·lia
    ·have:=h'.1 z e;lia,h⟩
  ·exact Bz.mpr ⟨λz hz=>by
    have:=(QP x r).subset hz;rcases AN.mp this with e | e
    ·lia
    ·exact h'.1 z e,RU x r h'.2⟩
theorem QE:∀ l,(sortI l).Pairwise (·<=·)
 | []=>.nil
 | x::r=>RU x _ (QE r)
theorem RB:∀ {a b:List Int},a.Perm b->a.Pairwise (·<=·)->b.Pairwise (·<=·)->a=b
 | [],b,p,_,_=>(List.nil_perm.mp p).symm
 | x::r,[],p,_,_=>by have:=p.length_eq;simp at this
 | x::r,y::s,p,ha,hb=>by
  have ha':=Bz.mp ha;have hb':=Bz.mp hb;have e:x=y:=by
   rcases AN.mp (p.subset AH) with e | e
   ·exact e
   ·rcases AN.mp (p.symm.subset AH) with f | f
    ·exact f.symm
    ·have:=ha'.1 y f;have:=hb'.1 x e;lia
  subst e;rw[RB ((List.perm_cons x).mp p) ha'.2 hb'.2]
noncomputable def uH:List T->Option (List Int)
 | []=>some []
 | .a (.int n)::r=>(uH r).map λns=>n::ns
 | _::_=>none
theorem PH:∀ {xs ns},uH xs=some ns->xs=(ns.map V.int).map T.a
 | [],ns,e=>by cases e;rfl
 | x::r,ns,e=>by
  unfold uH at e;split at e
  ·rename_i h;cases h
  ·rename_i n r' h;cases h;obtain⟨ms,e1,rfl⟩:=Lb e;rw[PH e1];rfl
  ·cases e
noncomputable def sortedS:En->List S->Option S:=λΓ as=>match as with
 | [a]=>(vP Γ a).bind λxs=>(uH xs).bind λns=>if ns.length < 64 then some (.l ((sortI ns).map λn=>.a (.int n))) else none
 | _=>none
def XU:vA K (λxs H Q=>∃ (p:Addr) (ns:List Int),xs=[.ref p]/\(uL K H p (ns.map V.int)\/vH K H p (ns.map V.int))/\ns.length < 64/\∀ l (ns':List Int),H l=none->ns'.Perm ns->ns'.Pairwise (·<=·)->Q (.ref l) (upd H l (.lst (ns'.map V.int)))) sortedS:=by
 intro C w Γ σ H vs as s Q R o e k;unfold sortedS at e;split at e
 ·obtain⟨xs,e1,e⟩:=sC e;obtain⟨ns,e2,e⟩:=sC e;split at e
  ·rename_i hl;cases e;obtain⟨v,rfl,o1⟩:=tK o;obtain⟨p,us,rfl,h1,i1⟩:=OL R o1 e1;have hu:=by rw[PH e2]at i1;exact i1.of_atoms
   subst hu;refine⟨p,ns,rfl,h1,hl,λl ns' hl' hp hs=>?_⟩;have:=RB (hp.trans (Q3 ns).symm) hs (QE ns);subst this;have hi:=by
    have:=sf.atoms (K:=K) (H:=H) ((sortI ns).map V.int);rwa [Ec]at this
   exact k _ _ (R.new hl') (tP.new hl') (R.newl hl' hi) ⟨l,rfl,hl'⟩
  ·cases e
 ·cases e
section
variable {ι:Type}{K:Fg}{X:ι->Cx}{mg:Str->Option AL}{k:Nat}
def ll(M:Fm K mg k X):wK K X (.builtin "sorted") sortedS:=⟨_,λj=>by have:=mH (X:=X j);rw[M.K j]at this;exact this,XU⟩
end
end D
namespace L2
open PySem
section
variable {X:Cx}
def jf:u5 X (BO .IsNot) (λx y H Q=>∃ a b:Bool,x=.bl a/\y=.bl b/\Q (.bl (!decide (a=b))) H):=by
 intro pins s σ H x y v u Q I rx ry h;obtain⟨a,b,rfl,rfl,q⟩:=h;cases rx;cases ry;exact wpAny_isNot_plain rfl (Le I q (by cases a <;> cases b <;> rfl))
end
end L2
namespace D
open PySem L2
noncomputable def AAx (neg:Bool):En->S->S->Option S:=λ_ a b=>match a,b with
 | .v (.a (.bl x)),.v (.a (.bl y))=>some (zE (if neg then !decide (x=y) else decide (x=y)))
 | _,_=>none
def lS:sx K (λx y H Q=>∃ a b:Bool,x=.bl a/\y=.bl b/\Q (.bl (!decide (a=b))) H) (AAx true):=by
 intro C w Γ σ H x y a b s Q R ox oy e k;unfold AAx at e;split at e
 ·cases e;exact⟨_,_,ox.inva,oy.inva,k _ H R .refl tH.atom trivial⟩
 ·cases e
section
variable {ι:Type}{K:Fg}{X:ι->Cx}
def dz:vp K X .IsNot (AAx true):=⟨_,λ_=>jf,lS⟩
end
noncomputable def xl {α:Type} (l:List α) (i:Nat):Option α:=l[i]?
@[simp,simp ↓] theorem qp{α:Type}{x:α}{r:List α}:xl (x::r) 0=some x:=rfl
@[simp,simp ↓] theorem oW{α:Type}{x:α}{r:List α}:xl (x::r) (n+1)=xl r n:=rfl
@[simp high,simp ↓ high] theorem AFp{α:Type}{x:α}:gd 0 x=some x:=rfl
@[simp high,simp ↓ high] theorem AFm{α:Type}{x:α}:gd 1 x=some x:=rfl
@[simp high,simp ↓ high] theorem AFn{α:Type}{x:α}:gd 2 x=some x:=rfl
@[simp high,simp ↓ high] theorem AFo{α:Type}{x:α}:gd 3 x=some x:=rfl
@[simp high,simp ↓ high] theorem AFr{α:Type}{x:α}:gd 4 x=some x:=rfl
@[simp high,simp ↓ high] theorem AFq{α:Type}{x:α}:gd 5 x=some x:=rfl
class Kf (α β:Type) where
 k:α->Option β
class Kg (α β:Type) where
 k:α->β
noncomputable def t8 {α β:Type} (x:Option α) [f:Kf α β]:Option β:=x.bind f.k
@[simp,simp ↓] theorem rL{α β:Type}{a:α}{f:α->Option β}:t8 (some a) (f:=⟨f⟩)=f a:=rfl
noncomputable def vM {α β:Type} (x:Option α) [f:Kg α β]:Option β:=x.map f.k
@[simp,simp ↓] theorem ng{α β:Type}{a:α}{f:α->β}:vM (some a) (f:=⟨f⟩)=some (f a):=rfl
class Ka (α:Type) where
 v:α
noncomputable def ifB {α:Type} (b:Bool) [x:Ka α] [y:Ka α]:α:=if b=true then x.v else y.v
@[simp high,simp ↓ high] theorem oa{α:Type}{x:α}{y:Ka α}:ifB true (x:=⟨x⟩) (y:=y)=x:=rfl
@[simp high,simp ↓ high] theorem pe{α:Type}{x:Ka α}{y:α}:ifB false (x:=x) (y:=⟨y⟩)=y:=rfl
noncomputable def ifO {α:Type} (p:Option Nat) (k:Nat) (x y:α):α:=if p=some k then x else y
@[simp high,simp ↓ high] theorem pN{α:Type}{x y:α}:ifO none k x y=y:=rfl
noncomputable def ifN {α:Type} (m n:Nat) (x y:α):α:=if m=n then x else y
noncomputable def ifM {α:Type} (i:Nat) (l:List Nat) (x y:α):α:=if i∈l then x else y
@[simp high,simp ↓ high] theorem oX{α:Type}{x y:α}:ifM i [] x y=y:=rfl
noncomputable def apE {α:Type} (l:List α):List α:=l++[]
@[simp,simp ↓] theorem qf{α:Type}:apE ([]:List α)=[]:=rfl
@[simp,simp ↓] theorem rX{α:Type}{x:α}{r:List α}:apE (x::r)=x::apE r:=rfl
@[simp high,simp ↓ high] theorem nX{α:Type}{x y:α}:ifO (some 0) 0 x y=x:=rfl
@[simp high,simp ↓ high] theorem nJ{α:Type}{x y:α}:ifN 2 2 x y=x:=rfl
@[simp high,simp ↓ high] theorem oG{α:Type}{x y:α}:ifN 3 3 x y=x:=rfl
section
variable {f g:DS}{fa fb fc fi:DE}{da fr:DA}{ta tb:DT}{Γ:En}{i j k:Nat}{h h':En->S->S->Option S}
@[simp,simp ↓] theorem P3:sG f g Γ=t8 (f Γ) (f:=⟨λo=>match o with | .nx Γ'=>g Γ' | o=>some o⟩):=rfl
@[simp,simp ↓] theorem rR:sU Γ=some (.nx Γ):=rfl
@[simp,simp ↓] theorem qF:sS fa Γ=vM (fa Γ) (f:=⟨λp=>.rt p.1 p.2⟩):=rfl
@[simp,simp ↓] theorem pG:t6 fa Γ=vM (fa Γ) (f:=⟨λp=>.nx p.2⟩):=rfl
@[simp,simp ↓] theorem rZ:uI ta f g Γ=t8 (ta Γ) (f:=⟨λp=>ifB p.1 (x:=⟨(f p.2)⟩) (y:=⟨(g p.2)⟩)⟩):=rfl
def QK:uI ta f g Γ=(ta Γ).bind λp=>if p.1=true then f p.2 else g p.2:=rfl
@[simp,simp ↓] theorem nc:sQ i fa Γ=t8 (fa Γ) (f:=⟨λp=>vM (ye i p.1 p.2) (f:=⟨.nx⟩)⟩):=rfl
@[simp,simp ↓] theorem qJ:ye i (.v t) Γ=some (Γ.set i (~~~t)):=rfl
@[simp,simp ↓] theorem nZ:ye i (.l t) Γ=some (Γ.set i (some (.l t))):=rfl
@[simp,simp ↓] theorem qv:jV i Γ=match xl Γ i with
 | some (some (.v t))=>some (.v t,Γ)
 | some (some (.l _)) | some (some (.r _)) | some (some (.k _)) | some (some (.d _)) | some (some (.e _))=>some (.s i,Γ)
 | _=>none:=rfl
@[simp,simp ↓] theorem qh:dC v Γ=some (.v (.a v),Γ):=rfl
@[simp,simp ↓] theorem oH:sI h fa fb Γ=t8 (fa Γ) (f:=⟨λp=>t8 (fb p.2) (f:=⟨λq=>vM (h q.2 p.1 q.1) (f:=⟨λs=>(s,q.2)⟩)⟩)⟩):=rfl
@[simp,simp ↓] theorem qg{h:En->S->Option S}:zt h fa Γ=t8 (fa Γ) (f:=⟨λp=>vM (h p.2 p.1) (f:=⟨λs=>(s,p.2)⟩)⟩):=rfl
@[simp,simp ↓] theorem qN{h:En->List S->Option S}:uC h da Γ=t8 (da Γ) (f:=⟨λp=>vM (h p.2 p.1) (f:=⟨λs=>(s,p.2)⟩)⟩):=rfl
@[simp,simp ↓] theorem rm:qQ Γ=some ([],Γ):=rfl
@[simp,simp ↓] theorem pY:jW fa fr Γ=t8 (fa Γ) (f:=⟨λp=>t8 (fr p.2) (f:=⟨λq=>some (p.1::q.1,q.2)⟩)⟩):=rfl
@[simp,simp ↓] theorem oI:S.tree (.v t)=some t:=rfl
@[simp,simp ↓] theorem rS:trees []=some []:=rfl
@[simp,simp ↓] theorem qV:trees (.v t::r)=vM (trees r) (f:=⟨λts=>t::ts⟩):=rfl
@[simp,simp ↓] theorem qu:sg da Γ=t8 (da Γ) (f:=⟨λp=>t8 (trees p.1) (f:=⟨λts=>gd ts.length (.v (.t ts),p.2)⟩)⟩):=rfl
@[simp,simp ↓] theorem rD:tO da Γ=t8 (da Γ) (f:=⟨λp=>t8 (trees p.1) (f:=⟨λts=>gd ts.length (.l ts,p.2)⟩)⟩):=rfl
@[simp,simp ↓] theorem oV:sM fa Γ=t8 (fa Γ) (f:=⟨λp=>match p.1 with | .v (.a (.bl b))=>some (b,p.2) | _=>none⟩):=rfl
@[simp,simp ↓] theorem qa:xi ta tb Γ=t8 (ta Γ) (f:=⟨λp=>ifB p.1 (x:=⟨(tb p.2)⟩) (y:=⟨(some (false,p.2))⟩)⟩):=rfl
@[simp,simp ↓] theorem nS:z9 ta tb Γ=t8 (ta Γ) (f:=⟨λp=>ifB p.1 (x:=⟨(some (true,p.2))⟩) (y:=⟨(tb p.2)⟩)⟩):=rfl
@[simp,simp ↓] theorem pv:w8 ta Γ=t8 (ta Γ) (f:=⟨λp=>some (!p.1,p.2)⟩):=rfl
@[simp,simp ↓] theorem qP:yL fa Γ=t8 (sM fa Γ) (f:=⟨λp=>some (.v (.a (.bl !p.1)),p.2)⟩):=rfl
@[simp,simp ↓] theorem qX:zX ta fa fb Γ=t8 (ta Γ) (f:=⟨λp=>ifB p.1 (x:=⟨(fa p.2)⟩) (y:=⟨(fb p.2)⟩)⟩):=rfl
@[simp] theorem qU:wI h h' fa fb fc Γ=t8 (fa Γ) (f:=⟨λp=>t8 (fb p.2) (f:=⟨λq=>t8 (h q.2 p.1 q.1) (f:=⟨λz=>match z with
 | .v (.a (.bl k))=>if k=true then t8 (fc q.2) (f:=⟨λu=>vM (h' u.2 q.1 u.1) (f:=⟨λs=>(s,u.2)⟩)⟩) else some (.v (.a (.bl false)),q.2)
 | _=>none⟩)⟩)⟩):=rfl
@[simp,simp ↓] theorem pF{h:En->List T->List S->Option (T×List T)}:t5 i h da Γ=ifB (ym Γ i) (x:=⟨(t8 (da Γ) (f:=⟨λp=>match xl p.2 i with
 | some (some (.l xs))=>t8 (gd xs.length ()) (f:=⟨λ_=>vM (h p.2 xs p.1) (f:=⟨λq=>(.v q.1,p.2.set i (some (.l q.2)))⟩)⟩)
 | _=>none⟩))⟩) (y:=⟨none⟩):=rfl
@[simp,simp ↓] theorem qK:ym Γ i=match xl Γ i with | some (some (.l _))=>true | _=>false:=rfl
@[simp,simp ↓] theorem oU:wA i fa fi Γ=t8 (fa Γ) (f:=⟨λp=>t8 p.1.tree (f:=⟨λt=>ifB (ym p.2 i) (x:=⟨(t8 (fi p.2) (f:=⟨λq=>t8 (iS q.1) (f:=⟨λk=>match xl q.2 i with
  | some (some (.l xs))=>vM (xt xs.length k) (f:=⟨λj=>.nx (q.2.set i (some (.l (xs.set j t))))⟩)
  | _=>none⟩)⟩))⟩) (y:=⟨none⟩)⟩)⟩):=rfl
@[simp,simp ↓] theorem iF:iS (.v (⇑n))=some n:=rfl
@[simp] theorem il{c:Int->Int->Prop} [∀ i j,Decidable (c i j)] {g:Int->Int->V} {xs:List T} {b:S}:xS c g Γ (.l xs) b=none:=(rfl)
@[simp,simp ↓] theorem qw:tN Γ (.v (⇑m)) (.v (⇑n))= ~~~(⇑(m+n)):=rfl
@[simp] theorem qE:tN Γ (.v (.t xs)) (.v (.t ys))=gd (xs.length+ys.length) (.v (.t (xs++ys))):=by
 show ((none:Option S).or ((xB Γ (.v (.t xs)) (.v (.t ys))).or ((none:Option S).or none)))=_;simp[xB]
@[simp] theorem r9:tN Γ (.s m) b=va Γ (.s m) b:=by
 show ((none:Option S).or ((none:Option S).or ((va Γ (.s m) b).or none)))=_;simp
@[simp] theorem qo:tN Γ (.l xs) b=va Γ (.l xs) b:=by
 show ((none:Option S).or ((none:Option S).or ((va Γ (.l xs) b).or none)))=_;simp
@[simp,simp ↓] theorem nV:va Γ a b=t8 (xC Γ a) (f:=⟨λxs=>t8 (xC Γ b) (f:=⟨λys=>gd (xs.length+ys.length) (.l (xs++ys))⟩)⟩):=rfl
@[simp,simp ↓] theorem qb:uK Γ (.v (⇑m)) (.v (⇑n))= ~~~(⇑(m - n)):=rfl
@[simp] theorem oJ:uf Γ (.v (⇑m)) (.v (⇑n))=if ua m n then some (.v (⇑(m * n))) else none:=by
 show ((if ua m n then some _ else none).or (none:Option S))=_;simp
def Xr{l n:Nat}(h:l * n<=100000)(h2:n<=100000):ACL l n=true:=by
 unfold ACL;rw[NI ⋯];exact Ey (Ah h ∅)
def jd xs (n:Nat) (h:xs.length * n<=100000) (h2:n<=100000):uf Γ (.l xs) (.v (⇑n))=some (.l (Aa n xs).flatten):=by
 have e:uf Γ (.l xs) (.v (.a (.int n)))=xm Γ (.l xs) (.v (.a (.int n))):=by unfold uf;rw[il,IZ]
 rw[e];unfold xm;have e1:xC Γ (.l xs)=some xs:=rfl;rw[e1,Ai,iF,Ai,if_pos (Xr h h2),Co]
@[simp] theorem oS:v7 Γ (.v (⇑m)) (.v (⇑n))=if 0 < n then some (.v (⇑(m % n))) else none:=(rfl)
@[simp] theorem qG:vv Γ (.v (⇑m)) (.v (⇑n))=if wo m n then some (.v (⇑(m / n))) else none:=(rfl)
@[simp] theorem oB:ABh Γ (.v (⇑m)) (.v (⇑n))=if zK m n then some (.v (⇑(m ^ n.toNat))) else none:=(rfl)
@[simp,simp ↓] theorem ql:zR Γ (.v (⇑m)) (.v (⇑n))= ~~~(.a (.bl (decide (m < n)))):=rfl
@[simp,simp ↓] theorem oY:leS Γ (.v (⇑m)) (.v (⇑n))= ~~~(.a (.bl (decide (m<=n)))):=rfl
@[simp,simp ↓] theorem sA:yS Γ (.v (⇑m)) (.v (⇑n))= ~~~(.a (.bl (decide (n < m)))):=rfl
@[simp,simp ↓] theorem pJ:geS Γ (.v (⇑m)) (.v (⇑n))= ~~~(.a (.bl (decide (n<=m)))):=rfl
@[simp,simp ↓] theorem nE:wR Γ (.v (⇑m))= ~~~(⇑(-m)):=rfl
@[simp,simp ↓] theorem rT:sY Γ (.v (.t xs)) (.v (⇑n))=vM (vB xs n) (f:=⟨.v⟩):=rfl
@[simp,simp ↓] theorem qd:sY Γ (.l xs) (.v (⇑n))=vM (vB xs n) (f:=⟨.v⟩):=rfl
@[simp,simp ↓] theorem oF:sY Γ (.s m) (.v (⇑n))=t8 (s9 Γ (.s m)) (f:=⟨λxs=>vM (vB xs n) (f:=⟨.v⟩)⟩):=rfl
@[simp,simp ↓] theorem nM:s9 Γ (.s m)=match xl Γ m with
  | some (some (.l xs)) | some (some (.r xs)) | some (some (.k xs))=>some xs
  | _=>none:=rfl
@[simp,simp ↓] theorem Xp:s9 Γ (.l xs)=some xs:=rfl
@[simp,simp ↓] theorem qq:xC Γ (.l xs)=some xs:=rfl
@[simp,simp ↓] theorem rn:xC Γ (.s m)=match xl Γ m with
  | some (some (.l xs)) | some (some (.r xs))=>some xs
  | _=>none:=rfl
@[simp,simp ↓] theorem pj:uM Γ [.v (.t xs)]= ~~~(⇑xs.length):=rfl
@[simp,simp ↓] theorem rA:uM Γ [.s m]=vM (s9 Γ (.s m)) (f:=⟨λxs=>.v (⇑xs.length)⟩):=rfl
@[simp,simp ↓] theorem qZ:tT Γ [.l xs]= ~~~(.t xs):=rfl
@[simp,simp ↓] theorem qe:tT Γ [.s m]=vM (s9 Γ (.s m)) (f:=⟨λxs=>.v (.t xs)⟩):=rfl
@[simp,simp ↓] theorem rK:uY Γ=some (none,Γ):=rfl
@[simp,simp ↓] theorem qm:vo fa Γ=t8 (fa Γ) (f:=⟨λp=>vM (iS p.1) (f:=⟨λi=>(some i,p.2)⟩)⟩):=rfl
@[simp,simp ↓] theorem oo:dSl fa lo hi Γ=t8 (fa Γ) (f:=⟨λp=>t8 (lo p.2) (f:=⟨λl=>t8 (hi l.2) (f:=⟨λh=>vM (slS h.2 l.1 h.1 p.1) (f:=⟨λs=>(s,h.2)⟩)⟩)⟩)⟩):=rfl
@[simp,simp ↓] theorem rH:slS Γ lo hi (.v (.t xs))= ~~~(.t (vy xs lo hi)):=rfl
@[simp,simp ↓] theorem pO:tS Γ xs [.v t]=if xs.length < AC then some (.a .non,xs++[t]) else none:=rfl
@[simp,simp ↓] theorem rj:yb Γ xs []=vM (xs[xs.length - 1]?) (f:=⟨λt=>(t,xs.dropLast)⟩):=rfl
@[simp] theorem oZ:w9 Γ xs [.v (⇑n)]=if inR 9223372036854775807 n=true then t8 (FW n xs.length) (f:=⟨λk=>vM (xs[k]?) (f:=⟨λt=>(t,xs.eraseIdx k)⟩)⟩) else none:=rfl
@[simp,simp ↓] theorem nI:xw Γ [.v (.a (.bl b))]= ~~~(⇑(if b then 1 else 0)):=rfl
@[simp,simp ↓] theorem qz:w6 Γ [.v (⇑m),.v (⇑n)]= ~~~(⇑(if n > m then n else m)):=rfl
@[simp] theorem qH:wJ fo da Γ=t8 (fo Γ) (f:=⟨λp=>t8 (da p.2) (f:=⟨λq=>match p.1,q.1 with
 | .v (.t xs),[.v (.a y)] | .v (.w xs),[.v (.a y)]=>t8 (tU xs) (f:=⟨λvs=>if tM y=true/\vs.all tM=true then vM (vs.findIdx? λz=>xM z y) (f:=⟨λj=>(y6 (j:Nat),q.2)⟩) else none⟩)
 | _,_=>none⟩)⟩):=rfl
@[simp,simp ↓] theorem om:y6 n=.v (⇑n):=rfl
@[simp,simp ↓] theorem qO:zE b=.v (.a (.bl b)):=rfl
@[simp] theorem nY:uk da Γ=t8 (da Γ) (f:=⟨λp=>vM (wC p.1) (f:=⟨λxs=>(.l xs,p.2)⟩)⟩):=rfl
@[simp] theorem rE:vg da Γ=t8 (da Γ) (f:=⟨λp=>vM (wC p.1) (f:=⟨λxs=>(.v (.t xs),p.2)⟩)⟩):=rfl
def Mg(n:Nat)(h:n<=100000):wC [.v (⇑n)]=some (t9 0 n):=by
 unfold wC;dsimp only;rw[NI ⋯,Co,Gs,Ey (Ah h ∅),if_pos rfl]
def YB(m n:Nat)(h1:m<=100000)(h:n<=100000):wC [.v (⇑m),.v (⇑n)]=some (t9 m (n - m)):=by
 unfold wC;dsimp only;have e:(n - (m:Int)).toNat=n - m:=by lia
 rw[NI ⋯,NI ⋯,e,Gs,Gs,Ey (Ah (show n - m<=100000 by lia) ∅),if_pos rfl]
@[simp] theorem nU:vD da Γ=(da Γ).bind λp=>if p.1.length=1 then (wC p.1).map λxs=>((xs,[]),p.2) else none:=by
 unfold vD;congr 1;funext p;obtain⟨as,G⟩:=p
 match as with
 | []=>rfl
 | [a] =>
  match a with
  | .v (.a (.int j))=>simp only[wC,HI,if_true];split <;> rfl
  | .v (.a .non) | .v (.a (.bl _)) | .v (.a (.str _)) | .v (.a (.byt _)) | .v (.a (.flt _)) | .v (.a (.ref _)) | .v (.a (.ty _)) | .v (.t _) | .v (.l _) | .v (.f _) | .v (.x _ _) | .v (.w _) | .l _ | .s _ | .d _=>rfl
 | a::b::r =>
  have:¬ (a::b::r).length=1:=by simp
  rw[if_neg this];dsimp only;split
  ·rename_i h;simp at h
  ·rfl
@[simp,simp ↓] theorem qj:tV fa Γ=t8 (fa Γ) (f:=⟨λp=>t8 (vP p.2 p.1) (f:=⟨λxs=>gd xs.length ((xs,xJ p.2 p.1),p.2)⟩)⟩):=rfl
@[simp,simp ↓] theorem pR:vP Γ (.v (.t xs))=some xs:=rfl
@[simp,simp ↓] theorem qr:vP Γ (.l xs)=some xs:=rfl
@[simp,simp ↓] theorem qD:vP Γ (.s m)=s9 Γ (.s m):=rfl
@[simp,simp ↓] theorem rV:xJ Γ (.v t)=[]:=rfl
@[simp,simp ↓] theorem oj:xJ Γ (.l t)=[]:=rfl
@[simp,simp ↓] theorem rY:xJ Γ (.s m)=match xl Γ m with | some (some (.l _))=>[m] | _=>[]:=rfl
@[simp,simp ↓] theorem aa:vI Γ=some (true,Γ):=rfl
@[simp,simp ↓] theorem pC:wB fa Γ=t8 (fa Γ) (f:=⟨λp=>vM (AAz p.2 p.1) (f:=⟨λb=>(b,p.2)⟩)⟩):=rfl
@[simp,simp ↓] theorem pE:AAz Γ (.v (.a (.bl b)))=some b:=rfl
@[simp,simp ↓] theorem oK:AAz Γ (.s m)=vM (s9 Γ (.s m)) (f:=⟨λxs=>!xs.isEmpty⟩):=rfl
@[simp] theorem qR:yy i j da Γ=t8 (da Γ) (f:=⟨λp=>match p.1 with
  | [.v a,.v b]=>some (.nx ((p.2.set i (some (.v a))).set j (some (.v b))))
  | _=>none⟩):=rfl
@[simp] theorem oR:zG i j k da Γ=t8 (da Γ) (f:=⟨λp=>match p.1 with
  | [.v a,.v b,.v c]=>some (.nx (((p.2.set i (some (.v a))).set j (some (.v b))).set k (some (.v c))))
  | _=>none⟩):=rfl
@[simp,simp ↓] theorem pI:ACG tg fa Γ=t8 (fa Γ) (f:=⟨λp=>t8 p.1.tree (f:=⟨λt=>vM (tg p.2 t) (f:=⟨.nx⟩)⟩)⟩):=rfl
@[simp,simp ↓] theorem lM:sJ i Γ t=some (Γ.set i (~~~t)):=rfl
@[simp,simp ↓] theorem pW:wO Γ []=some Γ:=rfl
@[simp,simp ↓] theorem pk:uF p q Γ (t::r)=t8 (p Γ t) (f:=⟨λΓ1=>q Γ1 r⟩):=rfl
@[simp,simp ↓] theorem pP:vj i q Γ (.t ts)=ifN ts.length i (q Γ ts) none:=rfl
@[simp,simp ↓] theorem rO:sE ip F [] da Γ=t8 (da Γ) (f:=⟨λp=>ifB (vt ip p.1) (x:=⟨(t8 (uh ip p.2 0 (apE p.1)) (f:=⟨λgs=>vM (F gs) (f:=⟨λq=>(toS q.1,vm ip p.2 p.1 q.2)⟩)⟩))⟩) (y:=⟨none⟩)⟩):=rfl
@[simp,simp ↓] theorem p9:uh ip Γ k []=some []:=rfl
@[simp high,simp ↓ high] theorem ni:uh ip Γ 0 (s::r)=t8 (uT ip Γ 0 s) (f:=⟨λg=>vM (uh ip Γ 1 r) (f:=⟨λgs=>g::gs⟩)⟩):=rfl
@[simp high,simp ↓ high] theorem nO:uh ip Γ 1 (s::r)=t8 (uT ip Γ 1 s) (f:=⟨λg=>vM (uh ip Γ 2 r) (f:=⟨λgs=>g::gs⟩)⟩):=rfl
@[simp high,simp ↓ high] theorem nu:uh ip Γ 2 (s::r)=t8 (uT ip Γ 2 s) (f:=⟨λg=>vM (uh ip Γ 3 r) (f:=⟨λgs=>g::gs⟩)⟩):=rfl
@[simp high,simp ↓ high] theorem ou:uh ip Γ 3 (s::r)=t8 (uT ip Γ 3 s) (f:=⟨λg=>vM (uh ip Γ 4 r) (f:=⟨λgs=>g::gs⟩)⟩):=rfl
@[simp,simp ↓] theorem rC:uT ip Γ k (.v t)= ~~~t:=rfl
@[simp,simp ↓] theorem pg:uT ip Γ k (.l xs)=some (ifO ip k (.l xs) (.r xs)):=rfl
@[simp,simp ↓] theorem qW:uT ip Γ k (.s m)=match xl Γ m with
  | some (some (.l xs))=>some (ifO ip k (.l xs) (.r xs))
  | some (some (.r xs))=>ifO ip k none (some (.r xs))
  | some (some (.k xs))=>ifO ip k none (some (.k xs))
  | some (some (.d xs)) | some (some (.e xs))=>ifO ip k none (some (.e xs))
  | _=>none:=rfl
@[simp,simp ↓] theorem rQ:uT ip Γ k (.d xs)=if ip=some k then none else some (.e xs):=rfl
@[simp,simp ↓] theorem qS:ye i (.d xs) Γ=some (Γ.set i (some (.d xs))):=rfl
@[simp,simp ↓] theorem r6:toS (.d xs)=.d xs:=rfl
@[simp,simp ↓] theorem oP:vt none ss=true:=rfl
@[simp high,simp ↓ high] theorem qx:(LG ([]:List S) λs=>!zO i s)=true:=rfl
@[simp high,simp ↓ high] theorem nh:(LG (.v t::r) λs=>!zO i s)=r.all λs=>!zO i s:=rfl
@[simp,simp ↓] theorem rJ:vt (some k) ss=match xl ss k with
  | some (.s i)=>(ss.eraseIdx k).all λs=>!zO i s
  | some (.l _)=>(ss.eraseIdx k).all λs=>!AAT s
  | _=>false:=rfl
@[simp,simp ↓] theorem oh:vm none Γ ss ys=Γ:=rfl
@[simp,simp ↓] theorem qt:vm (some k) Γ ss ys=match xl ss k with | some (.s i)=>Γ.set i (some (.l ys)) | _=>Γ:=rfl
@[simp,simp ↓] theorem pQ:toS (.v t)=.v t:=rfl
@[simp,simp ↓] theorem n8:toS (.l t)=.l t:=rfl
@[simp,simp ↓] theorem nL:zg none Γ=[]:=rfl
@[simp,simp ↓] theorem qy:zg (some k) Γ=match xl Γ k with | some (some (.l xs))=>xs | _=>[]:=rfl
@[simp,simp ↓] theorem rh:zL ip Γ (.v t)= ~~~t:=rfl
@[simp,simp ↓] theorem oN:zL ip Γ (.l t)=some (.l t):=rfl
@[simp,simp ↓] theorem pU:zL ip Γ (.s i)=if ip=some i then none else match xl Γ i with | some (some (.l xs))=>some (.l xs) | some (some (.d xs))=>some (.d xs) | _=>none:=rfl
@[simp,simp ↓] theorem oA:zP Γ [.l xs]=vM (vV xs) (f:=⟨λbs=>.v (.a (.bl (bs.all id)))⟩):=rfl
end
def ME{n:Nat}:vB xs n=xs[n]?:=by
 unfold vB xt;rw[if_pos (Int.natCast_nonneg n)];by_cases h:n < xs.length
 ·simp_all
 ·simp_all
@[simp] theorem nK{α:Type}{xs:List α}:vB xs 0=xs[0]?:=ME (n:=0)
@[simp] theorem oq{α:Type}{xs:List α}:vB xs 1=xs[1]?:=ME (n:=1)
@[simp] theorem qL{α:Type}{xs:List α}:vB xs 2=xs[2]?:=ME (n:=2)
@[simp] theorem rG{α:Type}{xs:List α}:vB xs 3=xs[3]?:=ME (n:=3)
def Rk(h:xs≠[]):vB xs (-1)=xs[xs.length - 1]?:=by
 have:=C4.mpr h;unfold vB xt;rw[if_neg ⋯,if_pos ⋯];show xs[(-1+(xs.length:Int)).toNat]?=_;congr 1;lia
def Vs(h:j < n):xt n j=some j:=by
 unfold xt;rw[if_pos ⋯,if_pos ⋯];simp
def Ld(h:n<=100000):n<=AC:=Ah h ∅
def Mm(h:n<=100000):n < AC:=IH h ∅
@[simp] noncomputable abbrev iT (n:Int):T:=.a (.int n)
@[simp] noncomputable abbrev bT (b:Bool):T:=.a (.bl b)
def Ry ns {i} (h0:0<=i) (h1:i < ns.length):∃ z,vB (u6 ns) i=some (iT z):=by
 obtain⟨j,rfl⟩:∃ j:Nat,i=j:=⟨i.toNat,by lia⟩
 exact⟨ns[j]'⋯,by rw[ME,u6,Ak,AU ⋯];rfl⟩
theorem L6:su c b (n+1) Γ=(c Γ).bind λp=>if p.1=true then (b p.2).bind λo=>match o with
   | .nx Γ' | .ct Γ'=>su c b n Γ'
   | .bk Γ'=>some (.nx Γ')
   | .rt s Γ'=>some (.rt s Γ')
  else some (.nx p.2):=(rfl)
def MB:tX tg b [] Γ=some (.nx Γ):=(rfl)
theorem Np:tX tg b (t::r) Γ=(tg Γ t).bind λΓ1=>(b Γ1).bind λo=>match o with
  | .nx Γ' | .ct Γ'=>tX tg b r Γ'
  | .bk Γ'=>some (.nx Γ')
  | .rt s Γ'=>some (.rt s Γ'):=(rfl)
def MC:uD tg dc de [] Γ=some ([],Γ):=(rfl)
def L7:uD tg dc de (t::r) Γ=(tg Γ t).bind λΓ1=>(dc Γ1).bind λp=>if p.1=true then (de p.2).bind λq=>q.1.tree.bind λt'=>(uD tg dc de r q.2).map λz=>(t'::z.1,z.2) else uD tg dc de r p.2:=(rfl)
@[simp,simp ↓] theorem oM:uE none ix di tg dc de Γ=t8 (di Γ) (f:=⟨λp=>vM (uD tg dc de p.1.1 (vQ none ix p.2)) (f:=⟨λz=>(.l z.1,p.2)⟩)⟩):=rfl
@[simp,simp ↓] theorem qT:uE (some (j,i)) ix di tg dc de Γ=t8 (di Γ) (f:=⟨λp=>ifM i p.1.2 none (match xl p.2 i with
  | some (some (.l _))=>vM (uD tg dc de p.1.1 (vQ (some i) ix p.2)) (f:=⟨λz=>(.l z.1,xu (some (j,i)) p.2 z.2)⟩)
  | _=>none)⟩):=rfl
@[simp,simp ↓] theorem qc:uy ip di tg b Γ=t8 (di Γ) (f:=⟨λp=>ifB (p.1.2.all λi=>decide (ip≠some i)) (x:=⟨(tX tg b p.1.1 (frz p.2 p.1.2))⟩) (y:=⟨none⟩)⟩):=rfl
@[simp,simp ↓] theorem rM:frz Γ []=Γ:=rfl
@[simp,simp ↓] theorem pX:frz Γ (i::r)=frz (x6 Γ i) r:=rfl
@[simp,simp ↓] theorem qC:vQ mu [] Γ=[]:=rfl
@[simp,simp ↓] theorem rP:vQ mu (none::ix) Γ=none::vQ mu ix Γ:=rfl
@[simp,simp ↓] theorem nW:vQ mu (some k::ix) Γ=u7 mu k (xl Γ k).join::vQ mu ix Γ:=rfl
@[simp,simp ↓] theorem qB:u7 mu k (~~~t)= ~~~t:=rfl
@[simp,simp ↓] theorem rN:u7 mu k (some (.l t))=ifO mu k (some (.l t)) (some (.r t)):=rfl
@[simp,simp ↓] theorem pD:xu (some (j,i)) Γ Γo=match xl Γo j with | some (some (.l xs))=>Γ.set i (some (.l xs)) | _=>Γ:=rfl
theorem N9{α:Type} f g:∀ (is:List α),(∀ i∈is,de (some (.v (f i))::R)=some (.v (g i),some (.v (f i))::R))->∀ o,∃ o',uD (sJ 0) vI de (is.map f) (o::R)=some (is.map g,o'::R)
 | [],_,o=>⟨o,rfl⟩
 | i::r,h,o=>by
  obtain⟨o',e⟩:=N9 f g r (λj hj=>h j (AI _ hj)) (some (.v (f i)));refine⟨o',?_⟩;rw[AY,L7];simp[h i AH,e]
@[simp] theorem oz:vV (Aa n (.a (.bl b)))=some (Aa n b):=by
 induction n with
 | zero=>rfl
 | succ n ih=>rw[C3,C3];simp only[vV];rw[ih];rfl
def UT:(Aa n true).all id=true:=↥1
def V9{n m:Nat}(h:n < m):FW n m=some n:=(P2 (Vs h)).1
def Oi:Bd (.int n)=true:=rfl
@[simp] theorem pZ:uw Γ (.v (⇑m)) (.v (⇑n))= ~~~(.a (.bl (decide (m=n)))):=by
 show ((some (zE (decide (V.int m=V.int n)))).or _)=_;simp
@[simp] theorem qM:uw Γ (.v (.a (.str m))) (.v (.a (.str n)))= ~~~(.a (.bl (decide (m=n)))):=by
 show ((some (zE (decide (V.str m=V.str n)))).or _)=_;simp
@[simp] theorem nq:neS Γ (.v (.a (.str m))) (.v (.a (.str n)))= ~~~(.a (.bl (!decide (m=n)))):=by
 show ((some (zE (!decide (V.str m=V.str n)))).or _)=_;simp
@[simp] noncomputable abbrev uG (t:List Nat):List T:=t.map λ(k:Nat)=>iT (k:Int)
@[simp] noncomputable abbrev sF (t:List Nat):T:=.t (uG t)
structure IsT(n:Nat)(t:List Nat):Prop where
 len:t.length=n
 lt:∀ k∈t,k < n
 nd:t.Nodup
def IsT.get(h:IsT n t)(hi:i < n):∃ k,t[i]?=some k/\k < n:=by
 have hl:=h.len;refine⟨t[i]'⋯,by simp,h.lt _ (ET _)⟩
theorem YF:∀ n (t:List Nat),t.length=n->(∀ k∈t,k < n)->t.Nodup->∀ i,i < n->i∈t:=by
 intro n;induction n with
 | zero=>intro t _ _ _ i hi;lia
 | succ n ih =>
  intro t hl hlt hnd i hi;by_cases hn:n∈t
  ·have h1:(t.erase n).length=n:=by rw[Gu hn];lia
   have h2:∀ k∈t.erase n,k < n:=λk hk=>by
    have:=hlt k (HM hk);have hne:k≠n:=λe=>by subst e;exact (LH hnd) hk
    lia
   by_cases e:i=n
   ·subst e;exact hn
   ·exact HM (ih (t.erase n) h1 h2 (hnd.erase n) i ⋯)
  ·exfalso;have h2:∀ k∈t,k < n:=λk hk=>by
    have:=hlt k hk;have hne:k≠n:=λe=>by subst e;exact hn hk
    lia
   cases t with
   | nil=>simp at hl
   | cons x r =>
    exact (BI.mp hnd).1 (ih r (by simpa using hl) (λk hk=>h2 k (AI _ hk)) (BI.mp hnd).2 x (h2 x AH))
def IsT.mem(h:IsT n t)(hi:i < n):i∈t:=YF n t h.len h.lt h.nd i hi
theorem nodup_map_on{α β:Type}{f:α->β}{l:List α}(h:∀ x∈l,∀ y∈l,f x=f y->x=y)(nd:l.Nodup):(l.map f).Nodup:=by
 induction l with
 | nil=>exact GN
 | cons a r ih =>
  obtain⟨h1,h2⟩:=BI.mp nd;refine BI.mpr ⟨λhm=>?_,ih (λx hx y hy=>h x (AI _ hx) y (AI _ hy)) h2⟩;obtain⟨y,hy,e⟩:=Ao.mp hm;have:=h y (AI _ hy) a AH e;subst this;exact h1 hy
noncomputable def sO (a b:List Nat):List Nat:=a.map λk=>b.getD k 0
noncomputable def sR (t:List Nat):List Nat:=(AE t.length).map λi=>t.idxOf i
def OD(h:IsT n t)(e:t[i]?=some k):t.idxOf k=i:=by
 obtain⟨hi,e'⟩:=Ac.mp e;rw[← e'];exact h.nd.idxOf_getElem i hi
def Ml{i k m:Nat}(h1:a[i]?=some k)(h2:b[k]?=some m):(sO a b)[i]?=some m:=by simp[sO,h1,h2]
def PZ(h:i < t.length):(sR t)[i]?=some (t.idxOf i):=by simp[sR,h]
def Li(ha:IsT n a)(hb:IsT n b):IsT n (sO a b):=by
 refine⟨by simp[sO,ha.len],λk hk=>?_,?_⟩
 ·obtain⟨x,hx,rfl⟩:=Ao.mp hk;obtain⟨m,hm,hmn⟩:=hb.get (ha.lt x hx);simpa [hm] using hmn
 ·refine nodup_map_on ?_ ha.nd;intro x hx y hy e;obtain⟨m,hm,_⟩:=hb.get (ha.lt x hx);obtain⟨m',hm',_⟩:=hb.get (ha.lt y hy);simp[hm,hm']at e;subst e;exact (OD hb hm).symm.trans (OD hb hm')
def Lp(h:IsT n t):IsT n (sR t):=by
 refine⟨by simp[sR,h.len],λk hk=>?_,?_⟩
 ·obtain⟨x,hx,rfl⟩:=Ao.mp hk;have hx':x < n:=by rw[← h.len];simpa using hx
  have:=CK.mpr (h.mem hx');rw[h.len]at this;exact this
 ·refine nodup_map_on ?_ DZ;intro x hx y hy e;have hx':=h.mem (by rw[← h.len];simpa using hx);have hy':=h.mem (by rw[← h.len];simpa using hy);rw[← (Ho (CK.mpr hx')),← (Ho (CK.mpr hy'))];congr 1
def Pk(h:t.Perm (AE n)):IsT n t:=
 ⟨by rw[h.length_eq];simp,λk hk=>by simpa using h.mem_iff.mp hk,h.nodup_iff.mpr DZ⟩
def Lq n:IsT n (AE n):=⟨by simp,λk hk=>by simpa using hk,DZ⟩
def NQ n:t9 0 n=uG (AE n):=by simp[t9]
def Vg(hk:ls[k]?=some z):((fs++[z])++ls.eraseIdx k).Perm (fs++ls):=by
 rw[BC];refine LS fs ?_;obtain⟨hk1,hk2⟩:=Ac.mp hk;rw[DV];have e:ls=ls.take k++z::ls.drop (k+1):=by
  rw[← hk2,List.getElem_cons_drop,HN]
 conv=>rhs;rw[e]
 show (z::(ls.take k++ls.drop (k+1))).Perm _;exact List.perm_middle.symm
def UR{α β:Type}(f:α->β)(t:List α) k:(t.map f).eraseIdx k=(t.eraseIdx k).map f:=by
 rw[DV,DV];simp
theorem P6:∀ t,tU (uG t)=some (t.map λ(k:Nat)=>V.int k)
 | []=>rfl
 | k::r=>by simp only[ AY,tU];rw[show tU (r.map λ(k:Nat)=>iT k)=_ from P6 r];rfl
def UY(t:List Nat):(t.map λ(k:Nat)=>V.int k).all tM=true:=by simp[tM]
def Uq{t:List Nat}{i}(h:i∈t):((t.map λ(k:Nat)=>V.int k).findIdx? λz=>xM z (V.int i))=some (t.idxOf i):=by
 have hlt:=CK.mpr h;refine FT.mpr ⟨by simpa using hlt,?_,λj hj=>?_⟩
 ·simp[xM]
 ·have hne:t[j]'⋯≠i:=λe=>by
   have:=List.not_of_lt_findIdx hj;simp[e]at this
  simp[ xM];simpa using λe=>hne (by exact_mod_cast e)
def cx xs (n:Nat):vy xs none (some n)=xs.take n:=by
 unfold vy;rw[HT.sIx_none,HT.sIx_nat,GM,HK];by_cases h:n<=xs.length
 ·rw[I0 h]
 ·simp_all
def X4 xs (n:Nat):vy xs (some n) none=xs.drop n:=by
 unfold vy;rw[HT.sIx_none,HT.sIx_nat];by_cases h:n<=xs.length
 ·rw[I0 h,BA ↥1]
 ·rw[Nat.min_eq_right ⋯,Nat.sub_self,List.take_zero,List.drop_eq_nil_of_le ⋯]
def NW{i k:Nat}(h:t[i]?=some k):vB (uG t) i=some (iT k):=by
 rw[ME];simp[h]
abbrev yO:=Nat×List Nat×List Nat
@[simp] noncomputable abbrev uB (s:yO):T:=.t [iT (s.1:Int),sF s.2.1,sF s.2.2]
def ur (n qs:Nat) (st:List yO):Prop:=∀ s∈st,s.1 < qs/\IsT n s.2.1/\IsT n s.2.2
structure vq(qs:Nat)(as:List Nat):Prop where
 len:as.length=qs
 lt:∀ x∈as,x < 2
noncomputable def tL (as:List Nat) (s:yO):List Nat:=if as.getD s.1 0=1 then s.2.1 else s.2.2
def On(h:s.1 < qs/\IsT n s.2.1/\IsT n s.2.2):IsT n (tL as s):=by
 unfold tL;split
 ·exact h.2.1
 ·exact h.2.2
noncomputable def vR (as:List Nat):List Nat->List yO->List (List Nat)
 | _,[]=>[]
 | c,s::r=>sO c (tL as s)::vR as (sO c (tL as s)) r
theorem Uy as:∀ c st,(vR as c st).length=st.length
 | _,[]=>rfl
 | c,s::r=>by simp[vR,Uy]
noncomputable def sh (as:List Nat):List Nat->List yO->List Nat
 | c,[]=>c
 | c,s::r=>sh as (sO c (tL as s)) r
theorem Pq:∀ {c:List Nat} {st:List yO},IsT n c->ur n qs st->IsT n (sh as c st)
 | _,[],hc,_=>hc
 | c,s::r,hc,hs=>Pq (c:=sO c (tL as s)) (st:=r) (Li hc (On (as:=as) (hs s AH))) λx hx=>hs x (AI _ hx)
theorem RI(as:List Nat):∀ (c:List Nat) (st:List yO),(c::vR as c st)[(c::vR as c st).length - 1]?=some (sh as c st)
 | c,[]=>rfl
 | c,s::r=>by
  have:=RI as (sO c (tL as s)) r;simp only[vR,sh,CP,Nat.add_sub_cancel]at this ⊢;rw[List.getElem?_cons_succ];exact this
def Tg(h:vq qs as)(hq:q < qs):as[q]?=some (as.getD q 0):=by
 have:=h.len;simp_all
@[simp] noncomputable abbrev prT (p:T×T):T:=.t [p.1,p.2]
noncomputable def tF (t:List Nat):List Ck:=t.map λ(k:Nat)=>Cp (k:Int)
theorem Om:∀ t,ue (uG t)=some (tF t)
 | []=>by simp[ue,tF]
 | k::r=>by
  have:=Om r;simp at this ⊢;rw[ue,this];simp[yQ,ADv,tF]
theorem SI:∀ t:List Nat,B0 (tF t) (tF t)=true
 | []=>by simp[tF,B0]
 | k::r=>by
  have:=SI r;simp only[tF,AY]at this ⊢;simp[B0,BF,this]
theorem Q8:∀ t:List Nat,An (tF t)=true
 | []=>by simp[tF,An]
 | k::r=>by
  have:=Q8 r;simp only[tF,AY]at this ⊢;simp[An,Bd,this]
theorem PN:∀ t,Bf (tF t)=0
 | []=>by simp[tF,Bf]
 | k::r=>by
  have:=PN r;simp[tF]at this ⊢;simp[Bf,DC,this]
end D
namespace L2
open PySem PySem.Spec PyProof.Rows
section
variable {X:Cx}{pins:List (Addr×Obj)}{s:AR}{σ:St}{H:Hp}{p:Addr}{vs:List V}
def UE(hc:X.calm=true)(I:Inv X pins σ H s)(hq:uL X.K H p vs\/vH X.K H p vs)
  (h:∀ its o St,sP vs its->Walks X.prog X.w X.A.in1 s.heap.objs.size [s.heap.objs.size,p] [s.heap.objs.size] its.length (λi v=>its[i]?=some v) St ->
   St 0 (s.heap.push o)->p < s.heap.objs.size->Q (.ref s.heap.objs.size) { s with heap:=s.heap.push o }):AQ (model X.prog X.w) X.A.in1 (GW (.ref p)) Q E s:=by
 rcases hq with hq | hq
 ·obtain⟨its,rv,pl,hz⟩:=I.list hq;have hl:=pl.isList;have hlt:p < s.heap.objs.size:=by obtain⟨_,e,_⟩:=hl;exact AM e
  refine GG hl ?_;have W:=Jz (prog:=X.prog) (w:=X.w) (A:=X.A.in1) (I.ok.hd hc) s.heap.objs.size p (Ag hlt) its.toArray;have W':=by simpa using W
  exact h its _ _ rv W' ⟨⟨_,AK _ rfl,rfl,rfl⟩,hl.push _⟩ hlt
 ·obtain⟨its,rv,hl,hz⟩:=I.tuple hq;have hlt:p < s.heap.objs.size:=by obtain⟨_,e,_⟩:=hl;exact AM e
  have hl':s.heap.IsTuple p its.toArray:=by obtain⟨o,e,c,n,d⟩:=hl;exact⟨o,e,c,n,d⟩
  refine Ci hl' ?_;have W:=Walks.tuple (prog:=X.prog) (w:=X.w) (A:=X.A.in1) (I.ok.hd hc) s.heap.objs.size p (Ag hlt) its.toArray;have W':=by simpa using W
  exact h its _ _ rv W' ⟨⟨_,AK _ rfl,rfl,rfl⟩,hl'.push _⟩ hlt
theorem QL{ns:List Int}:∀ {its},sP (ns.map V.int) its->∀ (i:Nat) v,its[i]?=some v->∃ t,v=.int (ns.getD i 0) t:=by
 induction ns with
 | nil=>intro its h;cases h;intro i v e;simp at e
 | cons n r ih =>
  intro its h;cases h with
  | cons h1 h2 =>
   intro i v e;obtain⟨t,rfl⟩:=h1;cases i with
   | zero=>simp at e;exact⟨t,e.symm⟩
   | succ i=>simpa using ih h2 i v ‹_›
def mU(hc:X.calm=true):tJ X (.builtin "sum") (λxs H Q=>∃ (p:Addr) (ns:List Int),xs=[.ref p]/\(uL X.K H p (ns.map V.int)\/vH X.K H p (ns.map V.int))/\Q (.int ns.sum) H):=by
 intro pins s σ H xs us Q I r h;obtain⟨p,ns,rfl,hq,q⟩:=h;obtain⟨u,rfl,rfl⟩:=vals1 r;refine call_sum_walkG (UE hc I hq λits o St rv W st0 hlt=>⟨_,_,_,_,_,_,λi=>ns.getD i 0,rfl,W,st0,λb hb=>?_,QL rv,λh' tk t' hk=>?_⟩)
 ·rw[BW];simp at hb;rcases hb with rfl | rfl
  ·exact CT _
  ·exact DP hlt
 ·rw[preSum_getD,BA (by rw[← rv.length];simp)];exact⟨.int ns.sum,H,I.kept (G7 hk),⟨_,rfl⟩,q⟩
def AAv:List Int->Int
 | []=>0
 | x::r=>r.foldl (λa b=>if b < a then b else a) x
theorem WC:∀ r (x:Int),(r.foldl (λa b=>if b < a then b else a) x∈x::r)/\∀ y∈x::r,r.foldl (λa b=>if b < a then b else a) x<=y
 | [],x=>by simp
 | z::r,x=>by
  obtain⟨h1,h2⟩:=WC r (if z < x then z else x);rw[Di];refine⟨?_,λy hy=>?_⟩
  ·rcases AN.mp h1 with e | e
   ·rw[e];split <;> simp
   ·simp[e]
  ·have h0:=h2 _ AH;rcases AN.mp hy with e | e
   ·lia
   ·rcases AN.mp e with e | e
    ·lia
    ·exact h2 y (AI _ e)
theorem UF(val:Nat->Int):∀ k,Je (λi j=>decide (val i < val j)) k<=k/\∀ j,j<=k->val (Je (λi j=>decide (val i < val j)) k)<=val j
 | 0=>⟨AF _,λj hj=>by rw[Nat.le_zero.mp hj];exact KY _⟩
 | k+1=>by
  obtain⟨h1,h2⟩:=UF val k;unfold Je;split
  ·rename_i h;simp at h;refine⟨AF _,λj hj=>?_⟩;by_cases e:j=k+1
   ·rw[e];exact KY _
   ·have:=h2 j ⋯;lia
  ·rename_i h;simp at h;refine⟨by lia,λj hj=>?_⟩;by_cases e:j=k+1
   ·rw[e];exact h
   ·exact h2 j ⋯
def cR{ns:List Int}{i}(h:i < ns.length):ns.getD i 0∈ns:=by simp_all
def Xq{ns:List Int}{a}(h:a∈ns):∃ i,i < ns.length/\ns.getD i 0=a:=by
 obtain⟨i,hi,e⟩:=CN h;exact⟨i,hi,by rw[Aw,AU hi,e];rfl⟩
def Yu(hc:X.calm=true):tJ X (.builtin "min") (λxs H Q=>∃ (p:Addr) (ns:List Int),xs=[.ref p]/\(uL X.K H p (ns.map V.int)\/vH X.K H p (ns.map V.int))/\0 < ns.length/\Q (.int (AAv ns)) H):=by
 intro pins s σ H xs us Q I r h;obtain⟨p,ns,rfl,hq,h0,q⟩:=h;obtain⟨u,rfl,rfl⟩:=vals1 r;refine call_min_walk (UE hc I hq λits o St rv W st0 hlt=>?_);have hl:=rv.length;rw[Af]at hl;refine⟨_,_,_,_,_,_,_,rfl,W,st0,λb hb=>?_,by lia,CmpOf.ints_lt (λi=>ns.getD i 0) (QL rv),λv h' tk hv hk=>?_⟩
 ·rw[BW];simp at hb;rcases hb with rfl | rfl
  ·exact CT _
  ·exact DP hlt
 ·obtain⟨t,rfl⟩:=QL rv _ _ hv;obtain⟨b1,b2⟩:=UF (λi=>ns.getD i 0) (its.length - 1);refine⟨.int (AAv ns),H,I.kept (G7 hk),?_,q⟩;have e:ns.getD (Je (λi j=>decide (ns.getD i 0 < ns.getD j 0)) (its.length - 1)) 0=AAv ns:=by
   cases ns with
   | nil=>simp at h0
   | cons x r =>
    obtain⟨m1,m2⟩:=WC r x;obtain⟨j,hj,ej⟩:=Xq m1;have a2:=b2 j ⋯;rw[ej]at a2;exact Int.le_antisymm a2 (m2 _ (cR ⋯))
  exact⟨t,by rw[e]⟩
end
end L2
namespace D
open PySem L2
noncomputable def zj:En->List S->Option S:=λΓ as=>match as with
 | [a]=>(vP Γ a).bind λxs=>(uH xs).map λns=>.v (.a (.int ns.sum))
 | _=>none
noncomputable def yu:En->List S->Option S:=λΓ as=>match as with
 | [a]=>(vP Γ a).bind λxs=>(uH xs).bind λns=>if 0 < ns.length then some (.v (.a (.int (AAv ns)))) else none
 | _=>none
def RJ(R:sV K C w Γ σ H)(o:tH K C w σ H x s)(e:vP Γ s=some xs)(e2:uH xs=some ns) :
  ∃ p,x=.ref p/\(uL K H p (ns.map V.int)\/vH K H p (ns.map V.int)):=by
 obtain⟨p,us,rfl,h1,i1⟩:=OL R o e;have hu:=by rw[PH e2]at i1;exact i1.of_atoms
 simp_all
def kF:vA K (λxs H Q=>∃ (p:Addr) (ns:List Int),xs=[.ref p]/\(uL K H p (ns.map V.int)\/vH K H p (ns.map V.int))/\Q (.int ns.sum) H) zj:=by
 intro C w Γ σ H vs as s Q R o e k;unfold zj at e;split at e
 ·obtain⟨xs,e1,e⟩:=sC e;obtain⟨ns,e2,rfl⟩:=Lb e;obtain⟨v,rfl,o1⟩:=tK o;obtain⟨p,rfl,h⟩:=RJ R o1 e1 e2;exact⟨p,ns,rfl,h,k _ H R .refl tH.atom trivial⟩
 ·cases e
def cL:vA K (λxs H Q=>∃ (p:Addr) (ns:List Int),xs=[.ref p]/\(uL K H p (ns.map V.int)\/vH K H p (ns.map V.int))/\0 < ns.length/\Q (.int (AAv ns)) H) yu:=by
 intro C w Γ σ H vs as s Q R o e k;unfold yu at e;split at e
 ·obtain⟨xs,e1,e⟩:=sC e;obtain⟨ns,e2,e⟩:=sC e;split at e
  ·cases e;obtain⟨v,rfl,o1⟩:=tK o;obtain⟨p,rfl,h⟩:=RJ R o1 e1 e2;exact⟨p,ns,rfl,h,by assumption,k _ H R .refl tH.atom trivial⟩
  ·cases e
 ·cases e
section
variable {ι:Type}{K:Fg}{X:ι->Cx}{mg:Str->Option AL}{k:Nat}
def Z0(M:Fm K mg k X):wK K X (.builtin "sum") zj:=⟨_,λj=>by have:=mU (M.calm j);rw[M.K j]at this;exact this,kF⟩
def Zh(M:Fm K mg k X):wK K X (.builtin "min") yu:=⟨_,λj=>by have:=Yu (M.calm j);rw[M.K j]at this;exact this,cL⟩
end
section
variable {Γ:En}
@[simp] theorem nQ:zj Γ [a]=t8 (vP Γ a) (f:=⟨λxs=>vM (uH xs) (f:=⟨λns=>.v (⇑ns.sum)⟩)⟩):=rfl
end
noncomputable def dK (t:T):DE:=λΓ=>some (.v t,Γ)
def KV (K:Fg) (mg:Str->Option AL) (x:Str) (t:T):Prop:=∃ v u,mg x=some u/\RelV v u/\∀ H,Im K H v t
section
variable {ι:Type}{K:Fg}{X:ι->Cx}{mg:Str->Option AL}{k:Nat}{pos:Pos}{x:Str}{t:T}
def iX(h:∀ H,Im K H v t):sW K (tC v) (dK t):=by
 intro C w Γ σ H s Γ' Q R e k;cases e;exact k v H R .refl (h H) trivial
def ADw t (M:Fm K mg k X) (c:KV K mg x t) (hg:∀ j,Gl (X j) x:=by intro _;rfl) (hd:(x == ("__debug__":Str))=false:=by decide):EX K X (.Name x pos) (dK t):=
 let ⟨v,u,h1,h2,h3⟩:=c
 ⟨tC v,λj=>Re (hg j) (by rw[M.mg];exact h1) h2 hd,iX h3⟩
end
def Rj(ns:List Int)(h1:mg x=some (.ref p))(h2:K.lookup p=some ⟨.type "tuple",none,.seq its.toArray n,sl⟩)(h3:sP (ns.map V.int) its)(h4:its.length<=AC):KV K mg x (.w ((ns.map V.int).map T.a)):=
 ⟨.ref p,.ref p,h1,rfl,λH=>by unfold Im;exact⟨p,ns.map V.int,rfl,⟨_,its.toArray,n,h2,rfl,rfl,rfl,by simpa using h4,by simpa using h3⟩,sf.atoms _⟩⟩
end D
namespace D
open PySem L2
open PySem.SeqAt
theorem cp:∀ {vs ds as},Kt h vs ds as->∀ (i:Nat) v,vs[i]?=some v->∃ d as',ds[i]?=some d/\Io h v d as':=by
 intro vs ds as r;induction ds generalizing vs as with
 | nil =>
  intro i v e;cases r;simp at e
 | cons d ds ih =>
  intro i v e;cases r with
  | cons r1 r2 =>
   cases i with
   | zero=>simp at e;subst e;exact⟨d,_,rfl,r1⟩
   | succ i=>simpa using ih r2 i v ‹_›
theorem Vo:∀ {ds},An ds=true->∀ (i:Nat) d,ds[i]?=some d->d.canLay0=true
 | [],_,i,d,e=>by simp at e
 | x::r,h,i,d,e=>by
  simp[An]at h;cases i with
  | zero=>simp at e;subst e;exact h.1
  | succ i=>exact Vo h.2 i d ‹_›
noncomputable def zI (h:Heap) (dx:Ck) (y:AL):Bool:=@decide (∃ d as,Io h y d as/\d.canLay0=true/\BF d dx=true) (D4 _)
theorem WR(r:Io h y d as)(c:d.canLay0=true):zI h dx y=BF d dx:=by
 cases e:BF d dx with
 | true=>exact @decide_eq_true _ (D4 _) ⟨d,as,r,c,e⟩
 | false =>
  refine @decide_eq_false _ (D4 _) ?_;rintro ⟨d',as',r',c',e'⟩;have:=Reads.unique d d' y as as' c r r';subst this;rw[e]at e';cases e'
noncomputable def xk (K:Fg) (g:List Ck->Ck->Option Int):V->List V->Hp->VK->Prop:=λx vs H Q=>∃ p us y ts t ds d j,x=.ref p/\vs=[y]/\uL K H p us/\sf K H us ts/\ue ts=some ds/\Im K H y t/\yQ t=some d/\An ds=true/\d.canLay0=true/\d.depth<=100/\g ds d=some j/\Q (.int j) H
noncomputable def xb (ds:List Ck) (d:Ck):Option Int:=some ((ds.countP λz=>BF z d:Nat):Int)
section
variable {X:Cx}{k:Nat}
def gq(hr:uJ k X.A)(I:Inv X pins σ H s)(rv:sP us its)(hi:sf X.K H us ts)(e1:ue ts=some ds)(ry:RelV y v)(hy:Im X.K H y t)(e2:yQ t=some d)(c1:An ds=true)(c2:d.canLay0=true)(dp:d.depth<=100) :
  (∀ u,u∈its.toArray->EqAt X.A.in1 s u v (zI s.heap d u))/\∀ (i:Nat) u,its[i]?=some u->∃ z,ds[i]?=some z/\zI s.heap d u=BF z d:=by
 obtain⟨as1,ra⟩:=M9 I hi rv e1;obtain⟨as2,rx⟩:=QM I hy ry e2;have each:∀ i u,its[i]?=some u->∃ z as,ds[i]?=some z/\Io s.heap u z as/\z.canLay0=true:=λi u e=>by
  obtain⟨z,as,e3,r3⟩:=cp ra i u e;exact⟨z,as,e3,r3,Vo c1 i z e3⟩
 refine⟨λu hu=>?_,λi u e=>?_⟩
 ·obtain⟨i,hi',rfl⟩:=CN (List.mem_toArray.mp hu);obtain⟨z,as,e3,r3,c3⟩:=each i its[i] ↥1;rw[WR r3 c3];exact eqAt_reads z d X.A.in1 s _ v as as2 r3 rx c3 c2 (by have:=hr.un;show X.A.units+1+min z.depth d.depth < DU;lia)
 ·obtain⟨z,as,e3,r3,c3⟩:=each i u e;exact⟨z,e3,WR r3 c3⟩
def jL(hr:uJ k X.A):MtM X "list.count" (xk X.K xb):=by
 intro pins s σ H x vs v us Q I rx rv h;obtain⟨p,ws,y,ts,t,ds,d,j,rfl,rfl,hq,hi,e1,hy,e2,c1,c2,dp,eg,q⟩:=h;cases rx;obtain⟨u,rfl,ru⟩:=rv.one;obtain⟨its,rw',⟨⟨cls,dd,data,sl⟩,n,ho,hc,hdd,hd⟩,hz⟩:=I.list hq;simp only at hc hd hdd;subst hc hd;cases eg;obtain⟨E1,E2⟩:=gq hr I rw' hi e1 ru hy e2 c1 c2 dp;obtain⟨as3,ra3⟩:=M9 I hi rw' e1;have hl3:=ReadsAll.length ds its as3 ra3;have cnt:∀ (a:List AL) (b:List Ck),a.length=b.length->(∀ (i:Nat) u,a[i]?=some u->∃ z,b[i]?=some z/\zI s.heap d u=BF z d)->a.countP (zI s.heap d)=b.countP λz=>BF z d:=by
  intro a;induction a with
  | nil=>intro b hb _;rw[DB.mp hb.symm];rfl
  | cons x r ih =>
   intro b hb hh;cases b with
   | nil=>cases hb
   | cons z b =>
    obtain⟨z',ez,e⟩:=hh 0 x rfl;cases ez;rw[Fl,Fl,e,ih b (by simpa using hb) λi u hu=>by simpa using hh (i+1) u (by simpa using hu)]
 refine C5 GO ⟨_,ho,rfl⟩ PySem.F.entry_list_count (PySem.F.args_list_count_2 _ _) (list_countAt p its.toArray n dd sl u (zI s.heap d)) ⟨ho,E1,?_⟩;rw[show its.toArray.toList=its from rfl,cnt its ds hl3 E2];exact⟨.int _,H,I.tok _,⟨_,rfl⟩,q⟩
end
noncomputable def wy (g:List Ck->Ck->Option Int) (fo:DE) (fa:DA):DE:=λΓ=>(fo Γ).bind λp=>if (s9 p.2 p.1).isSome=true then (fa p.2).bind λq=>match q.1 with
 | [.v t]=>(s9 q.2 p.1).bind λts=>(ue ts).bind λds=>(yQ t).bind λd=>if An ds=true/\d.canLay0=true/\d.depth<=100 then (g ds d).map λj=>(y6 j,q.2) else none
 | _=>none
 else none
def ZO(ho:sW K to fo)(ha:ui K ta fa):sW K (tBM K "list" (xk K g) to ta) (wy g fo fa):=by
 intro C w Γ σ H s Γ' Q R e k;obtain⟨⟨a,G1⟩,e1,e⟩:=sC e;dsimp only at e;split at e
 rotate_left
 ·cases e
 rename_i hs0;obtain⟨ts0,hs0⟩:=Bc.mp hs0;obtain⟨⟨as,G2⟩,e2,e⟩:=sC e;dsimp only at e;split at e
 rotate_left
 ·cases e
 rename_i t;obtain⟨ts,e3,e⟩:=sC e;obtain⟨ds,e4,e⟩:=sC e;obtain⟨d,e5,e⟩:=sC e;split at e
 rotate_left
 ·cases e
 rename_i hh;obtain⟨j,e6,e⟩:=Lb e;cases e;refine ho C w Γ σ H a G1 _ R e1 λv H1 R1 ev1 o1 n1=>?_
 obtain⟨p0,vs0,rfl,q0,_⟩:=MD R1 o1 hs0;refine⟨.inl ⟨rfl,vs0,q0⟩,?_⟩;refine ha C w G1 σ H1 [.v t] _ _ R1 e2 λus H2 R2 ev2 o2 n2=>?_
 obtain⟨y,rfl,oy⟩:=tK o2;obtain⟨p1,vs1,ep,q1,i1⟩:=MD R2 (o1.evo ev2 R1.lst) e3;cases ep;exact⟨p0,vs1,y,ts,t,ds,d,j,rfl,rfl,q1,i1,e4,oy,e5,hh.1,hh.2.1,hh.2.2,e6,k _ H2 R2 (ev1.trans ev2) tH.atom trivial⟩
section
variable {ι:Type}{K:Fg}{mg:Str->Option AL}{k:Nat}{X:ι->Cx}{o e:Expr}{es:List Expr}{fa:DE}{da:DA}
def fg{g:List Ck->Ck->Option Int}{name:Str}{id:String}{apos cpos:Pos}(M:Fm K mg k X)(slot:Slot "list" name id)(hty:Ga (.builtin id)=pure (.type "method_descriptor"))(hm:∀ j,MtM (X j) id (xk (X j).K g))(ho:EX K X o fa)(ha:AX K X (e::es) da)
  (hbase:∀ j,Ct o name (X j).env (eval o (X j).env)=eval o (X j).env:=by intro _;rfl)
  (hfew:∀ j,((CB cpos (AV (e::es) (X j).env)).all (λx=>!x.1) && (GC cpos (EZ [] (X j).env)).all (λx=>x.1.isSome) && decide ((e::es).length+([]:List Do).length+(if ([]:List Do).isEmpty then 0 else 1) < 30))=true:=by intro _;rfl)
  (hline:(apos.endLine == cpos.line)=true:=by rfl) (hs:∀ j,AV (e::es) (X j).env=(false,eval e (X j).env)::AV es (X j).env:=by intro _;rfl) (hplain:∀ j,(CB cpos (AV es (X j).env)).any (·.1)=false:=by intro _;rfl) :
  EX K X (.Call (.Attribute o name apos) (e::es) [] cpos) (wy g fa da):=
 let ⟨t0,q0,u0⟩:=ho;let ⟨t,q,u⟩:=ha
 ⟨tBM K "list" (xk K g) t0 t,λj=>by have:=T9 EA slot hty (hm j) (q0 j) (q j) (hbase j) (hfew j) hline (hs j) (hplain j);rw[M.K j]at this;exact this,ZO u0 u⟩
@[simp] theorem pS{g:List Ck->Ck->Option Int}{fo:DE}{fa:DA}{Γ:En}:wy g fo fa Γ=(fo Γ).bind λp=>if (s9 p.2 p.1).isSome=true then (fa p.2).bind λq=>match q.1 with
 | [.v t]=>(s9 q.2 p.1).bind λts=>(ue ts).bind λds=>(yQ t).bind λd=>if An ds=true/\d.canLay0=true/\d.depth<=100 then (g ds d).map λj=>(y6 j,q.2) else none
 | _=>none
 else none:=(rfl)
end
end D
namespace L2
open PySem PySem.Spec PyProof.Rows
section
variable {κ:Type} [DecidableEq κ]
def vf (kvs:List (κ×V)) (k:κ):Option V:=(kvs.find? λkv=>decide (kv.1=k)).map (·.2)
def uZ (kvs:List (κ×V)) (k:κ) (v:V):List (κ×V):=
 if (kvs.any λkv=>decide (kv.1=k))=true then kvs.map (λkv=>if kv.1=k then (kv.1,v) else kv) else kvs++[(k,v)]
def Ox{r}{k:κ}(e:p.1=k):vf (p::r) k=some p.2:=by simp[vf,e]
def OI{r}{k:κ}(e:¬ p.1=k):vf (p::r) k=vf r k:=by simp[vf,e]
theorem Pl(k:κ):∀ kvs,(kvs.any λkv=>decide (kv.1=k))=(vf kvs k).isSome
 | []=>rfl
 | p::r=>by
  rw[Cd];by_cases e:p.1=k
  ·simp[Ox e,decide_eq_true e]
  ·rw[OI e,decide_eq_false e];exact Pl k r
def QW kvs (k:κ) v:(uZ kvs k v).length<=kvs.length+1:=by
 unfold uZ;split
 ·rw[Af];lia
 ·simp_all
def Vh{kvs:List (κ×V)}{k:κ}(v:V)(h:vf kvs k=none):uZ kvs k v=kvs++[(k,v)]:=by
 unfold uZ;rw[Pl,h];exact if_neg ∅
theorem wX.isSome_eq(r:wX o u):o.isSome=u.isSome:=by
 cases o with
 | none=>cases u with
  | none=>rfl
  | some _=>exact r.elim
 | some _=>cases u with
  | none=>exact r.elim
  | some _=>rfl
theorem wX.getD(r:wX o u)(rd:RelV d d'):RelV (o.getD d) (u.getD d'):=by
 cases o with
 | none=>cases u with
  | none=>exact rd
  | some _=>exact (show False from r).elim
 | some _=>cases u with
  | none=>exact (show False from r).elim
  | some _=>exact r
theorem KV.val{vs}(r:KV kvs vs)(k:κ):wX (vf kvs k) (HB vs k):=by
 induction r with
 | nil=>exact CW
 | @cons p q ps qs h t ih =>
  obtain⟨h1,h2⟩:=h;by_cases e:p.1=k
  ·have e':=h1.symm.trans e;have b:HB (q::qs) k=some q.2:=by simp[HB,e']
   rw[Ox e,b];exact h2
  ·have e':¬ q.1=k:=λz=>e (h1.trans z)
   have b:HB (q::qs) k=HB qs k:=by simp[HB,e']
   rw[OI e,b];exact ih
theorem KV.any{vs}(r:KV kvs vs)(k:κ):(kvs.any λkv=>decide (kv.1=k))=vs.any λkv=>decide (kv.1=k):=by
 induction r with
 | nil=>rfl
 | cons h t ih=>rw[Cd,Cd,ih,h.1]
theorem KV.repl{kvs vs}(r:KV kvs vs)(k:κ)(ry:RelV y u) :
  KV (kvs.map λkv=>if kv.1=k then (kv.1,y) else kv) (vs.map λkv=>if kv.1=k then (kv.1,u) else kv):=by
 induction r with
 | nil=>exact .nil
 | @cons p q ps qs h t ih =>
  rw[AY,AY];refine .cons ?_ ih;obtain⟨h1,h2⟩:=h;by_cases e:p.1=k
  ·rw[if_pos e,if_pos (h1.symm.trans e)];exact⟨h1,ry⟩
  ·rw[if_neg e,if_neg (λz=>e (h1.trans z))];exact⟨h1,h2⟩
def KV.put{kvs vs}(r:KV kvs vs)(k:κ)(ry:RelV y u):KV (uZ kvs k y) (stored vs k u):=by
 unfold uZ stored;rw[r.any k];by_cases e:(vs.any λkv=>decide (kv.1=k))=true
 ·rw[if_pos e,if_pos e];exact r.repl k ry
 ·rw[if_neg e,if_neg e];exact JL r ⟨rfl,ry⟩
theorem KV.length{vs:List (κ×AL)}(r:KV kvs vs):kvs.length=vs.length:=D5 r
end
theorem M6(r:RelV (kV k) u):(si P w).is k u=true:=by
 cases k with
 | inl i=>obtain⟨t,e⟩:=r;subst e;exact el P w i t
 | inr x=>obtain⟨t,e⟩:=r;subst e;exact Zw P w x t
theorem UK:∀ {ks us},sP (ks.map kV) us->ItemsAre (si P w) ks us
 | [],_,r=>by rw[B4]at r;cases r;exact .nil
 | k::ks,_,r=>by
  cases r with
  | cons h t=>exact .cons (M6 h) (UK t)
abbrev KT (H:Hp):List (List tu×V)->List (List tu×Addr×AL)->Prop:=EG λp q=>p.1=q.1/\H q.2.1=some (.tup (p.1.map kV))/\RelV p.2 q.2.2
theorem KT.val(r:KT H kvs xs) k:wX (vf kvs k) ((Hq xs k).map (·.2)):=by
 induction r with
 | nil=>exact CW
 | @cons p q ps qs h t ih =>
  obtain⟨h1,_,h2⟩:=h;by_cases e:p.1=k
  ·have e':=h1.symm.trans e;have b:Hq (q::qs) k=some q.2:=by simp[Hq,e']
   rw[Ox e,b];exact h2
  ·have e':¬ q.1=k:=λz=>e (h1.trans z)
   have b:Hq (q::qs) k=Hq qs k:=by simp[Hq,e']
   rw[OI e,b];exact ih
theorem KT.repl(r:KT H kvs xs) k (ry:RelV y u) :
  KT H (kvs.map λkv=>if kv.1=k then (kv.1,y) else kv) (xs.map (putAt k u)):=by
 induction r with
 | nil=>exact .nil
 | @cons p q ps qs h t ih =>
  rw[AY];refine .cons ?_ ih;obtain⟨h1,h2,h3⟩:=h;unfold putAt;by_cases e:p.1=k
  ·rw[if_pos e,if_pos (h1.symm.trans e)];exact⟨h1,h2,ry⟩
  ·rw[if_neg e,if_neg (λz=>e (h1.trans z))];exact⟨h1,h2,h3⟩
def KT.put(r:KT H kvs xs) k (hb:H b=some (.tup (k.map kV))) (ry:RelV y u) :
  KT H (uZ kvs k y) (storedH xs k b u):=by
 have e:(kvs.any λkv=>decide (kv.1=k))=(Hq xs k).isSome:=by
  rw[Pl,(r.val k).isSome_eq,Hg]
 unfold uZ storedH;rw[e];by_cases q:(Hq xs k).isSome=true
 ·rw[if_pos q,if_pos q];exact r.repl k ry
 ·rw[if_neg q,if_neg q];exact JL r ⟨rfl,hb,ry⟩
def KT.keeps(r:KT H kvs xs)(ht:∀ b ys,H b=some (.tup ys)->H' b=some (.tup ys)):KT H' kvs xs:=
 Paired.mapP r λ_ _ z=>⟨z.1,ht _ _ z.2.1,z.2.2⟩
section
variable {P:Aj}{w:A5}{H:Hp}{h:Heap}{a:Addr}
def Ul(ok:vO P w H h)(e:Rd H a u):tG P w H h a u:=e.ok ok
def NY(ok:vO P w H h)(e:Rd H a (.dK kvs)):kvs.length<=AC/\(a == Bw)=false/\∃ vs,KV kvs vs/\h.DictOf (si P w) a vs:=
 show tG P w H h a (.dK kvs) from Ul ok e
def Ti(ok:vO P w H h)(e:H a=some (.dK kvs)):kvs.length<=AC/\(a == Bw)=false/\∃ vs,KV kvs vs/\h.DictOf (si P w) a vs:=NY ok (.inl e)
def NX(ok:vO P w H h)(e:H a=some (.tup (ks.map kV))):(Es (si P w)).is h ks a:=by
 obtain⟨_,its,r,o,h1,h2,⟨n,h3⟩,_⟩:=(ok a _ e)
 exact⟨o,its.toArray,n,h1,h2,h3,by simpa using UK r⟩
def Me(ok:vO P w H h)(e:Rd H a (.dT kvs)):kvs.length<=AC/\(a == Bw)=false /\
  ∃ xs,KT H kvs xs/\h.DictOfH (Es (si P w)) a xs:=by
 obtain⟨z,y,xs,r,o,es,ep,h1,h2,h3,h4,h5⟩:=(Ul ok e)
 refine⟨z,y,xs,r,o,es,ep,h1,h2,h3,h4,λx hx=>?_,h5⟩;have all:∀ {l:List (List tu×V)} {m:List (List tu×Addr×AL)},KT H l m->∀ x∈m,(Es (si P w)).is h x.1 x.2.1:=by
  intro l m q;induction q with
  | nil=>intro x hx;exact nomatch hx
  | @cons p q ps qs hq t ih =>
   intro x hx;rcases AN.mp hx with e | hx
   ·exact NX ok (by simp_all)
   ·exact ih x hx
 exact all r x hx
def SC(ok:vO P w H h)(e:H a=some (.dT kvs)):kvs.length<=AC/\(a == Bw)=false /\
  ∃ xs,KT H kvs xs/\h.DictOfH (Es (si P w)) a xs:=Me ok (.inl e)
end
def vK (H:Hp) (a:Addr) (y:V) (r:Option V):Prop:=
 (∃ kvs k,Rd H a (.dK kvs)/\y=kV k/\r=vf kvs k)\/∃ kvs k b,Rd H a (.dT kvs)/\y=.ref b/\H b=some (.tup (k.map kV))/\r=vf kvs k
def xj (H:Hp) (a:Addr) (y v:V) (H':Hp):Prop:=
 (∃ kvs k,H a=some (.dK kvs)/\y=kV k/\kvs.length < AC/\H'=upd H a (.dK (uZ kvs k v))) \/
 ∃ kvs k b,H a=some (.dT kvs)/\y=.ref b/\H b=some (.tup (k.map kV))/\kvs.length < AC/\H'=upd H a (.dT (uZ kvs k v))
theorem vK.k{a kvs k}(e:H a=some (.dK kvs)):vK H a (kV k) (vf kvs k):=.inl ⟨kvs,k,.inl e,rfl,rfl⟩
def vK.t{a b kvs k}(e:H a=some (.dT kvs))(eb:H b=some (.tup (k.map kV))):vK H a (.ref b) (vf kvs k):=.inr ⟨kvs,k,b,.inl e,rfl,eb,rfl⟩
theorem xj.k{a kvs k v}(e:H a=some (.dK kvs))(hl:kvs.length < AC):xj H a (kV k) v (upd H a (.dK (uZ kvs k v))):=.inl ⟨kvs,k,e,rfl,hl,rfl⟩
def xj.t{a b kvs k v}(e:H a=some (.dT kvs))(eb:H b=some (.tup (k.map kV)))(hl:kvs.length < AC) :
  xj H a (.ref b) v (upd H a (.dT (uZ kvs k v))):=.inr ⟨kvs,k,b,e,rfl,eb,hl,rfl⟩
section
variable {X:Cx}{pins:List (Addr×Obj)}{σ:St}{H:Hp}{s:AR}{a:Addr}{y v:V}{u r:AL}{o:Option V}{A:BG}{E:AL->AR->Prop}
def Inv.big(I:Inv X pins σ H s):Bw < s.heap.objs.size:=Jx ∅ ((I.mod.glob.keeps I.bk).lt)
def l6(hu:A.units+1 < DU)(I:Inv X pins σ H s)(g:vK H a y (some v))(ry:RelV y u)(h:∀ w' s',Inv X pins σ H s'->RelV v w'->Q w' s') :
  AQ (model X.prog X.w) A (EY (.ref a) u) Q E s:=by
 rcases g with ⟨kvs,k,e,ey,l⟩ | ⟨kvs,k,b,e,ey,eb,l⟩
 ·subst ey;obtain⟨z,hd,vs,rel,dd⟩:=NY I.hok e;obtain⟨w',hw,rw'⟩:=wX.some_of (by rw[l];exact rel.val k);exact wpAny_getItem_of (M6 ry) dd.mapOf hw (h w' _ (I.tok _) rw')
 ·subst ey;cases ry;obtain⟨z,hd,xs,rel,dd⟩:=Me I.hok e;obtain⟨w',hw,rw'⟩:=wX.some_of (by rw[l];exact rel.val k);obtain⟨p,hp,hp2⟩:=Option.map_eq_some_iff.mp hw;refine wpAny_getItem_heap (EN hu) (NX I.hok eb) dd hp ?_;rw[hp2];exact h w' _ (I.tok _) rw'
def eF(hu:A.units+1 < DU)(I:Inv X pins σ H s)(g:vK H a y o)(ry:RelV y u)(h:∀ s',Inv X pins σ H s'->Q (.bool (!o.isSome)) s') :
  AQ (model X.prog X.w) A (BO .NotIn u (.ref a)) Q E s:=by
 rcases g with ⟨kvs,k,e,ey,l⟩ | ⟨kvs,k,b,e,ey,eb,l⟩
 ·subst ey;obtain⟨z,hd,vs,rel,dd⟩:=NY I.hok e;refine wpAny_notIn_of (M6 ry) hd dd.mapOf ?_;rw[← (rel.val k).isSome_eq,← l];exact h _ (I.tok _)
 ·subst ey;cases ry;obtain⟨z,hd,xs,rel,dd⟩:=Me I.hok e;refine wpAny_notIn_heap (EN hu) (NX I.hok eb) hd dd ?_;have q:=(rel.val k).isSome_eq;rw[Hg]at q;rw[← q,← l];exact h _ (I.tok _)
def PF(I:Inv X pins σ H s)(mu:Mut (H a))(hs:Cv a s.heap h')(he:∃ q,h'.get? a=some q)(new:tG X.prog X.w (upd H a ob) h' a ob) :
  Inv X pins σ (upd H a ob) { s with heap:=h',toks:=t' }:=
 I.write mu (.inl rfl) (λb q hb z=>(hs.2 b hb).trans z) he new
def Q4(z:kvs.length<=AC)(hd:(a == Bw)=false)(rel:KV kvs vs)(dd:h'.DictOf (si P w) a vs) :
  tG P w H' h' a (.dK kvs):=⟨z,hd,vs,rel,dd⟩
def YE(hu:A.units+1 < DU)(I:Inv X pins σ H s)(g:xj H a y v H')(ry:RelV y u)(rv:RelV v r)(h:∀ s',Inv X pins σ H' s'->Q () s') :
  AQ (model X.prog X.w) A (JT (.ref a) u r) Q E s:=by
 rcases g with ⟨kvs,k,e,ey,l,eH⟩ | ⟨kvs,k,b,e,ey,eb,l,eH⟩
 ·subst ey eH;obtain⟨z,hd,vs,rel,dd⟩:=Ti I.hok e;have hz:vs.length<=AC:=by rw[← rel.length];exact z
  have hl:(uZ kvs k v).length<=AC:=by have:=QW kvs k v;lia
  refine wpAny_setItem_pairs (M6 ry) dd λh' dd' hs=>h _ ?_
  have he:∃ q,h'.get? a=some q:=let ⟨q,_,_,hq,_⟩:=dd';⟨q,hq⟩;exact PF I (by rw[e];exact CW) hs he (Q4 hl hd (rel.put k rv) dd')
 ·subst ey eH;cases ry;obtain⟨z,hd,xs,rel,dd⟩:=SC I.hok e;have hz:xs.length<=AC:=by rw[← D5 rel];exact z
  have hl:(uZ kvs k v).length<=AC:=by have:=QW kvs k v;lia
  refine wpAny_setItem_heap (hsz:=hz) (EN hu) (NX I.hok eb) dd λh' dd' hs=>h _ ?_
  obtain⟨q,es,ep,hq,h2,h3,h4,_,h5⟩:=dd';refine PF I (by rw[e];exact CW) hs ⟨q,hq⟩ ⟨hl,hd,_,(rel.put k eb rv).keeps λc ys ec=>?_,q,es,ep,hq,h2,h3,h4,h5⟩;rw[Lc (Rw ec e (λz=>nomatch z))];exact ec
end
def ABi (i:Expr):Prop:=∀ ov iv,subscripted i false ov iv=operate [ov,iv] (EY ov iv)
def eX{A E s env value slice pos T id Q}
  (hl:Fq (.type T) "__getitem__"=pure (some (.builtin id))) (hs:ABi slice)
  (h:AQ (model prog w) A (eval value env) (λo s₁=>AQ (model prog w) A (eval slice env) (λi s₂=>s₂.TypeIs o T/\AQ (model prog w) A (EY o i) Q E s₂) E s₁) E s) :
  AQ (model prog w) A (eval (.Subscript value slice pos) env) Q E s:=by
 refine JH (BH h (λo s₁ h₁=>BH h₁ (λi s₂ h₂=>?_) λ_ _ x=>x) λ_ _ x=>x);obtain⟨hT,h₂⟩:=h₂;refine AA (AA (CL hT hl ?_));have fin:AQ (model prog w) A (subscripted slice false o i) (λr s₃=>AQ (model prog w) A (letTemporaryGo value o r >>= λ_=>pure r) Q E s₃) E s₂:=by
  rw[hs o i];exact wpAny_operating (BH h₂ (λr s₃ h₃=>AA (wpAny_letTemporaryGo (AG h₃))) λ_ _ x=>x)
 first
  | exact AG (AA fin)
  | exact AA (AG (AA fin))
  | exact AA fin
def mX(I:Inv X pins σ H s)(g:vK H a y o):s.TypeIs (.ref a) "dict":=by
 rcases g with ⟨kvs,k,e,_,_⟩ | ⟨kvs,k,b,e,_,_,_⟩
 ·obtain⟨_,_,vs,_,dd⟩:=NY I.hok e;exact dd.typeIs
 ·obtain⟨_,_,xs,_,dd⟩:=Me I.hok e;exact dd.typeIs
def ACy (td ty:TE):TE:=λσ H Q=>td σ H λx H1=>ty σ H1 λy H2=>∃ a v,x=.ref a/\vK H2 a y (some v)/\Q v H2
def AAd (ty td:TE):TE:=λσ H Q=>ty σ H λy H1=>td σ H1 λx H2=>∃ a o,x=.ref a/\vK H2 a y o/\Q (.bl (!o.isSome)) H2
def ABV (td ty tv:TE):TS:=λD σ H=>tv σ H λv H1=>td σ H1 λx H2=>ty σ H2 λy H3=>∃ a H4,x=.ref a/\xj H3 a y v H4/\D.nx σ H4
section
variable {X:Cx}{o i e value:Expr}{pos pos' tpos:Pos}{td ty tv:TE}
def Rv(hu:X.A.units+1 < DU)(ho:PE X o td)(hi:PE X i ty)(hs:ABi i):PE X (.Subscript o i pos) (ACy td ty):=by
 intro pins s σ H Q I h;refine eX PySem.F.slot_dict_getitem.lookup hs (tE (ho pins s σ H _ I h) λu s1 ⟨x,H1,I1,rx,q1⟩=>tE (hi pins s1 σ H1 _ I1 q1) λiv s2 ⟨y,H2,I2,ry,a,v,ex,g,q2⟩=>?_);subst ex;obtain rfl:u=Br a:=rx;exact⟨mX I2 g,l6 hu I2 g ry λw' s3 I3 rw'=>⟨v,H2,I3,rw',q2⟩⟩
def lr(hu:X.A.units+1 < DU)(hi:PE X i ty)(ho:PE X o td):PC X .NotIn i o (AAd ty td):=by
 intro pins s σ H Q I h;refine tE (hi pins s σ H _ I h) λiv s1 ⟨y,H1,I1,ry,q1⟩=>tE (ho pins s1 σ H1 _ I1 q1) λu s2 ⟨x,H2,I2,rx,a,ov,ex,g,q2⟩=>?_
 subst ex;obtain rfl:u=Br a:=rx;exact eF hu I2 g ry λs3 I3=>⟨.bl (!ov.isSome),H2,I3,rfl,q2⟩
def ae(hu:X.A.units+1 < DU)(ho:PE X o td)(hi:PE X i ty)(hv:PE X value tv)(hs:Dj value (some (.Subscript o i pos')) pos.line X.env=pure false) :
  PS X (.Assign [.Subscript o i pos'] value pos) (ABV td ty tv):=by
 intro pins s σ H D I h;refine wpAny_Assign_Subscript (tE (hv pins s σ H _ I h) λr s1 ⟨v,H1,I1,rv,q1⟩=>tE (ho pins s1 σ H1 _ I1 q1) λu s2 ⟨x,H2,I2,rx,q2⟩=>tE (hi pins s2 σ H2 _ I2 q2) λiv s3 ⟨y,H3,I3,ry,a,H4,ex,g,q3⟩=>?_) hs;subst ex;obtain rfl:u=Br a:=rx;exact YE hu I3 g ry rv λs4 I4=>⟨σ,H4,I4,q3⟩
end
def kS(h:Heap)(hb:Bw < h.objs.size):tG P w H (h.push { cls:=.type "dict",data:=.dict #[] }) h.objs.size (.dK []):=
 ⟨As _,beq_eq_false_iff_ne.mpr (Ax (Ag hb)),[],.nil,HC h⟩
def VI(h:Heap)(hb:Bw < h.objs.size):tG P w H (h.push { cls:=.type "dict",data:=.dict #[] }) h.objs.size (.dT []):=
 ⟨As _,beq_eq_false_iff_ne.mpr (Ax (Ag hb)),[],.nil,_,#[],0,AK _ rfl,⟨rfl,rfl,rfl⟩,rfl,rfl,GN⟩
def AAH:TE:=λ_ H Q=>∀ p,H p=none->Q (.ref p) (upd H p (.dT []))
section
variable {X:Cx}{pos:Pos}
def gh:PE X (.Dict [] [] pos) AAH:=λpins s σ H Q I h =>
 wpAny_Dict_empty ⟨.ref s.heap.objs.size,_,I.laid (λ_ _ q=>AB _ q) (AF _) (VI s.heap I.big),rfl,h _ (I.hok.fresh (AF _))⟩
end
def xf:List (TE×TE)->St->Hp->(List (V×V)->Hp->Prop)->Prop
 | [],_,H,Q=>Q [] H
 | (tk,tv)::r,σ,H,Q=>tk σ H λx H1=>tv σ H1 λy H2=>xf r σ H2 λps H3=>Q ((x,y)::ps) H3
abbrev VV:List (V×V)->List (AL×AL)->Prop:=EG λp q=>RelV p.1 q.1/\RelV p.2 q.2
def PPs (X:Cx) (pos:Pos) (keys:List (Option Expr)) (values:List Expr) (trs:List (TE×TE)):Prop:=
 ∀ pins s (σ:St) H Q,Inv X pins σ H s->xf trs σ H Q ->
  AQ (model X.prog X.w) X.A (evalPairs (pairTrees keys values X.env pos)) (λvs s'=>∃ ps H',Inv X pins σ H' s'/\VV ps vs/\Q ps H') X.xe s
def Vz:PPs X pos [] [] []:=λpins s σ H Q I h=>pairTrees_nil_walk ⟨[],H,I,.nil,h⟩
def VQ(hk:PE X k tk)(hv:PE X v tv)(hr:PPs X pos ks vs trs) :
  PPs X pos (some k::ks) (v::vs) ((tk,tv)::trs):=λpins s σ H Q I h =>
 pairTrees_cons_walk (tE (hk pins s σ H _ I h) λu s1 ⟨x,H1,I1,rx,q1⟩=>tE (hv pins s1 σ H1 _ I1 q1) λw2 s2 ⟨y,H2,I2,ry,q2⟩ =>
  tE (hr pins s2 σ H2 _ I2 q2) λws s3 ⟨ps,H3,I3,rel,q3⟩=>⟨(x,y)::ps,H3,I3,.cons ⟨rx,ry⟩ rel,q3⟩)
def uV (kvs more:List (tu×V)):List (tu×V):=more.foldl (λacc kv=>uZ acc kv.1 kv.2) kvs
theorem KV.merge:∀ {more rs kvs vs},KV more rs->KV kvs vs->KV (uV kvs more) (merged vs rs):=by
 intro more rs kvs vs r;induction r generalizing kvs vs with
 | nil=>intro q;exact q
 | @cons p q ps qs h t ih =>
  intro r0;have e:KV (uZ kvs p.1 p.2) (stored vs q.1 q.2):=by
   have:=r0.put p.1 h.2;rw[← h.1];exact this
  exact ih e
theorem Pn:∀ more kvs,(uV kvs more).length<=kvs.length+more.length
 | [],kvs=>by show kvs.length<=kvs.length+0;lia
 | p::r,kvs=>by
  have h1:=Pn r (uZ kvs p.1 p.2);have h2:=QW kvs p.1 p.2;show (uV (uZ kvs p.1 p.2) r).length<=_
  grind
theorem RZ:∀ {kvs:List (tu×V)} {ws:List (AL×AL)},VV (kvs.map λkv=>(kV kv.1,kv.2)) ws->∃ rs,Carries (si P w) ws rs/\KV kvs rs
 | [],_,r=>by rw[B4]at r;cases r;exact⟨[],CW,.nil⟩
 | p::kvs,_,r=>by
  rw[AY]at r;cases r with
  | @cons a b as bs h t =>
   obtain⟨rs,c,q⟩:=RZ (P:=P) (w:=w) t;obtain⟨b1,b2⟩:=b;exact⟨(p.1,b2)::rs,⟨M6 h.1,rfl,c⟩,.cons ⟨rfl,h.2⟩ q⟩
def ABZ (trs:List (TE×TE)):TE:=λσ H Q=>∀ p,H p=none->xf trs σ (upd H p (.dK [])) λps H2=>H2 p=some (.dK [])/\∃ kvs:List (tu×V),ps=kvs.map (λkv=>(kV kv.1,kv.2))/\kvs.length<=15/\Q (.ref p) (upd H2 p (.dK (uV [] kvs)))
def Z7(h:PPs X pos keys values trs)(hall:keys.all (·.isSome)=true)(hl:keys.length=values.length)(h0:keys≠[])
  (h15:keys.length<=15):PE X (.Dict keys values pos) (ABZ trs):=by
 intro pins s σ H Q I q;have hn:=I.hok.fresh (AF s.heap.objs.size);have I1:=I.laid (a:=s.heap.objs.size) (o:=.dK []) (h':=s.heap.push { cls:=.type "dict",data:=.dict #[] }) (t':=s.toks) (λ_ _ q=>AB _ q) (AF _) (kS s.heap I.big);refine wpAny_Dict_walk (knd:=si X.prog X.w) hall hl h0 h15 (tE (h pins _ σ _ _ I1 (q _ hn)) λws s2 ⟨ps,H2,I2,rel,e,kvs,ep,lk,q2⟩=>?_);subst ep;obtain⟨rs,c,rk⟩:=RZ (P:=X.prog) (w:=X.w) rel;obtain⟨z,hd,vs0,r0,dd⟩:=Ti I2.hok e;cases r0;refine⟨rs,c,dd,λh' dd' hs=>⟨.ref s.heap.objs.size,_,?_,rfl,q2⟩⟩;have hz:(uV [] kvs).length<=AC:=by
  have h1:=Pn kvs [];rw[Ca]at h1;rw[BJ];lia
 have he:∃ q,h'.get? s.heap.objs.size=some q:=let ⟨q,_,_,hq,_⟩:=dd';⟨q,hq⟩;exact PF I2 (by rw[e];exact CW) hs he (Q4 hz hd (rk.merge .nil) dd')
structure M1(X:Cx)(o:Expr)(m:Str)(apos:Pos)(e:Expr)(cpos:Pos):Prop where
 base:Ct o m X.env (eval o X.env)=eval o X.env
 few:((CB cpos (AV [e] X.env)).all (λx=>!x.1) && (GC cpos (EZ [] X.env)).all (λx=>x.1.isSome)
  && decide (([e]:List Expr).length+([]:List Do).length+(if ([]:List Do).isEmpty then 0 else 1) < 30))=true
 line:(apos.endLine == cpos.line)=true
 trees:CB cpos (AV [e] X.env)=[(false,eval e X.env)]
def IsD (H:Hp) (a:Addr):Prop:=(∃ kvs,Rd H a (.dK kvs))\/∃ kvs,Rd H a (.dT kvs)
def mJ(I:Inv X pins σ H s)(d:IsD H a) :
  s.TypeIs (.ref a) "dict"/\(∀ b,Br a=.ref b->∃ ob,s.heap.get? b=some ob/\ob.dict=none)/\(a == Bw)=false:=by
 rcases d with ⟨kvs,e⟩ | ⟨kvs,e⟩
 ·obtain⟨_,hd,vs,_,dd⟩:=NY I.hok e;refine⟨dd.typeIs,λb q=>?_,hd⟩;cases q;obtain⟨ob,_,_,h1,h2,_⟩:=dd;exact⟨ob,h1,h2.2.1⟩
 ·obtain⟨_,hd,xs,_,dd⟩:=Me I.hok e;refine⟨dd.typeIs,λb q=>?_,hd⟩;cases q;obtain⟨ob,_,_,h1,h2,_⟩:=dd;exact⟨ob,h1,h2.2.1⟩
section
variable {X:Cx}{pins:List (Addr×Obj)}{σ:St}{H:Hp}{s:AR}{a:Addr}{y d:V}{u r:AL}{o:Option V}{A:BG}{E:AL->AR->Prop}
def eS(hu:A.units+1 < DU)(I:Inv X pins σ H s)(g:vK H a y o)(ry:RelV y u)(h:∀ w' s',Inv X pins σ H s'->RelV (o.getD .non) w'->Q w' s') :
  AQ (model X.prog X.w) A (call (.builtin "dict.get") [.ref a,u]) Q E s:=by
 rcases g with ⟨kvs,k,e,ey,l⟩ | ⟨kvs,k,b,e,ey,eb,l⟩
 ·subst ey;obtain⟨z,hd,vs,rel,dd⟩:=NY I.hok e;refine LU EV dd.typeIs Gg (GP _ _) (meets_dict_get (si X.prog X.w) a (M6 ry) hd) ⟨_,dd.mapOf,h _ _ (I.tok _) ?_⟩;rw[l];exact (rel.val k).getD rfl
 ·subst ey;cases (show u=Br b from ry);obtain⟨z,hd,xs,rel,dd⟩:=Me I.hok e;refine LU EV dd.typeIs Gg (GP _ _) (meetsH_dict_get (Es (si X.prog X.w)) a b hd) ⟨EN hu,k,xs,NX I.hok eb,dd,h _ _ (I.tok _) ?_⟩;rw[l];exact (rel.val k).getD rfl
end
def zx (td ty:TE):TE:=λσ H Q=>td σ H λx H1=>∃ a,x=.ref a/\IsD H1 a/\ty σ H1 λy H2=>∃ o,vK H2 a y o/\Q (o.getD .non) H2
section
variable {X:Cx}{o e f:Expr}{apos cpos:Pos}{td ty tx:TE}
def aI(hu:X.A.units+1 < DU)(ho:PE X o td)(he:PE X e ty)(m:M1 X o "get" apos e cpos):PE X (.Call (.Attribute o "get" apos) [e] [] cpos) (zx td ty):=by
 intro pins s σ H Q I h;refine wpAny_Call_method m.base m.few m.line PySem.F.plainAttrs_dict EV PySem.F.type_dict_get (tE (ho pins s σ H _ I h) λu s1 ⟨x,H1,I1,rx,a,ex,d,q1⟩=>?_);subst ex;obtain rfl:u=Br a:=rx;obtain⟨t1,t2,_⟩:=mJ I1 d;refine⟨t1,t2,?_⟩;rw[m.trees];refine DK rfl (Eu (Dv (tE (he pins s1 σ H1 _ I1 q1) λiv s2 ⟨y,H2,I2,ry,ov,g,q2⟩=>DJ ?_)));exact eS hu I2 g ry λw' s3 I3 rw'=>⟨_,H2,I3,rw',q2⟩
end
end L2
namespace D
open PySem L2
noncomputable def xF:T->Option tu
 | .a (.int n)=>some (.inl n)
 | .a (.str x)=>some (.inr x)
 | _=>none
noncomputable def uv:List T->Option (List tu)
 | []=>some []
 | t::r=>(xF t).bind λk=>(uv r).map λks=>k::ks
def OK(h:Im K H y t)(e:xF t=some k):y=kV k:=by
 unfold xF at e;split at e
 iterate 2
  ·cases e;exact h.inva
 ·cases e
theorem Q9:∀ {vs ts ks},sf K H vs ts->uv ts=some ks->vs=ks.map kV
 | _,[],_,h,e=>by cases e;exact h.inv0
 | _,t::r,_,h,e=>by
  obtain⟨v,vs,rfl,h1,h2⟩:=h.inv;obtain⟨k,e1,e⟩:=sC e;obtain⟨ks,e2,rfl⟩:=Lb e;rw[OK h1 e1,Q9 h2 e2];rfl
def KC (K:Fg) (cs:List (List tu)):Prop:=∀ p ks,KT K p (ks.map kV)->ks∈cs
section
variable {κ:Type} [DecidableEq κ]
noncomputable def vc (kvs:List (κ×T)) (k:κ):Option T:=(kvs.find? λkv=>decide (kv.1=k)).map (·.2)
noncomputable def wZ (kvs:List (κ×T)) (k:κ) (t:T):List (κ×T):=
 if (kvs.any λkv=>decide (kv.1=k))=true then kvs.map (λkv=>if kv.1=k then (kv.1,t) else kv) else kvs++[(k,t)]
def PR (K:Fg) (H:Hp) (l:List (κ×V)) (kvs:List (κ×T)):Prop:=EG (λa b=>a.1=b.1/\Im K H a.2 b.2) l kvs
variable {K:Fg}{H:Hp}
theorem PR.val{kvs}(h:PR K H l kvs)(k:κ):(vf l k=none/\vc kvs k=none)\/∃ v t,vf l k=some v/\vc kvs k=some t/\Im K H v t:=by
 induction h with
 | nil=>exact .inl ⟨rfl,rfl⟩
 | @cons a b l kvs hab _ ih =>
  by_cases e:a.1=k
  ·refine .inr ⟨a.2,b.2,Ox e,?_,hab.2⟩;simp[vc,← hab.1,e]
  ·rw[OI e];have:vc (b::kvs) k=vc kvs k:=by simp[vc,← hab.1,e]
   rw[this];exact ih
theorem PR.any{kvs}(h:PR K H l kvs)(k:κ):(l.any λkv=>decide (kv.1=k))=kvs.any λkv=>decide (kv.1=k):=by
 induction h with
 | nil=>rfl
 | @cons a b l kvs hab _ ih=>rw[Cd,Cd,ih,hab.1]
theorem PR.app{kvs mvs:List (κ×T)}(h:PR K H l kvs)(h':PR K H m mvs):PR K H (l++m) (kvs++mvs):=by
 induction h with
 | nil=>exact h'
 | @cons a b l kvs hab _ ih=>exact .cons hab ih
def PR.put{l kvs}(h:PR K H l kvs)(k:κ)(hv:Im K H v t):PR K H (uZ l k v) (wZ kvs k t):=by
 unfold uZ wZ;rw[h.any k];split
 ·rename_i hx;clear hx;induction h with
  | nil=>exact .nil
  | @cons a b l kvs hab _ ih =>
   rw[AY,AY];refine .cons ?_ ih;by_cases e:a.1=k
   ·rw[if_pos e,if_pos (hab.1 ▸ e)];exact⟨hab.1,hv⟩
   ·rw[if_neg e,if_neg (hab.1 ▸ e)];exact hab
 ·exact h.app (.cons ⟨rfl,hv⟩ .nil)
def PR.len{kvs:List (κ×T)}(h:PR K H l kvs):l.length=kvs.length:=D5 h
end
noncomputable def dictOf (Γ:En):S->Option Dk
 | .d d=>some d
 | .s i=>match Γ[i]? with
  | some (some (.d d))=>some d
  | some (some (.e d))=>some d
  | _=>none
 | _=>none
noncomputable def xc (cs:List (List tu)) (d:Dk) (t:T):Option (Option T):=match d,t with
 | .inl kvs,t=>(xF t).map λk=>vc kvs k
 | .inr kvs,.t ts=>(uv ts).bind λks=>if (cs.any λc=>decide (c=ks))=true then none else some (vc kvs ks)
 | _,_=>none
noncomputable def yf (cs:List (List tu)) (d:Dk) (t v:T):Option Dk:=match d,t with
 | .inl kvs,t=>(xF t).bind λk=>if kvs.length < AC then some (.inl (wZ kvs k v)) else none
 | .inr kvs,.t ts=>(uv ts).bind λks=>if (cs.any λc=>decide (c=ks))=true then none else if kvs.length < AC then some (.inr (wZ kvs ks v)) else none
 | _,_=>none
section
variable {K:Fg}{C:Fr}{w:W}{Γ:En}{σ:St}{H:Hp}{cs:List (List tu)}
theorem Mw(R:sV K C w Γ σ H)(o:tH K C w σ H x s)(e:dictOf Γ s=some d):∃ p ob,x=.ref p/\H p=some ob/\wN K H ob d:=by
 cases s with
 | v t | l _=>cases e
 | d d' =>
  cases e;obtain⟨p,ob,rfl,_,_,_,h1,h2⟩:=o;exact⟨p,ob,rfl,h1,h2⟩
 | s i =>
  unfold dictOf at e;have o':=o;dsimp only at e;split at e
  ·rename_i d' hi;cases e;obtain⟨v,e1,p,ob,rfl,_,h1,h2⟩:=R.val i _ hi;rw[o']at e1;cases e1;exact⟨p,ob,rfl,h1,h2⟩
  ·rename_i d' hi;cases e;obtain⟨v,e1,p,ob,rfl,h2,h1,_⟩:=R.val i _ hi;rw[o']at e1;cases e1;exact⟨p,ob,rfl,h1,h2⟩
  ·cases e
theorem wN.invK(h:wN K H ob (.inl kvs)):∃ l,ob=.dK l/\PR K H l kvs:=by
 cases ob with
 | dK l=>exact⟨l,rfl,h⟩
 | _=>exact h.elim
theorem wN.invT(h:wN K H ob (.inr kvs)):∃ l,ob=.dT l/\PR K H l kvs:=by
 cases ob with
 | dT l=>exact⟨l,rfl,h⟩
 | _=>exact h.elim
theorem wN.isD(h:wN K H ob d)(hp:H p=some ob):IsD H p:=by
 cases d with
 | inl kvs=>obtain⟨l,rfl,_⟩:=h.invK;exact .inl ⟨l,.inl hp⟩
 | inr kvs=>obtain⟨l,rfl,_⟩:=h.invT;exact .inr ⟨l,.inl hp⟩
def Qu(hc:KC K cs)(h:Im K H y (.t ts))(e:uv ts=some ks)(n:¬ (cs.any λc=>decide (c=ks))=true):∃ b,y=.ref b/\H b=some (.tup (ks.map kV)):=by
 obtain⟨b,vs,rfl,h1,h2⟩:=h.inv;have:=Q9 h2 e;subst this;rcases h1 with h1 | h1
 ·exact⟨b,rfl,h1⟩
 ·exact absurd (B3.mpr ⟨ks,hc b ks h1,decide_eq_true rfl⟩) n
def Pi(hc:KC K cs)(hp:H p=some ob)(hd:wN K H ob d)(hy:Im K H y t)(e:xc cs d t=some r) :
  ∃ r',vK H p y r'/\((r=none/\r'=none)\/∃ t' v',r=some t'/\r'=some v'/\Im K H v' t'):=by
 unfold xc at e;split at e
 ·obtain⟨l,rfl,h1⟩:=hd.invK;obtain⟨k,e1,rfl⟩:=Lb e;rw[OK hy e1];refine⟨_,vK.k hp,?_⟩;rcases h1.val k with ⟨a,b⟩ | ⟨v,t',a,b,c⟩
  ·exact .inl ⟨b,a⟩
  ·exact .inr ⟨t',v,b,a,c⟩
 ·obtain⟨l,rfl,h1⟩:=hd.invT;obtain⟨ks,e1,e⟩:=sC e;split at e
  ·cases e
  ·rename_i n;cases e;obtain⟨b,rfl,h2⟩:=Qu hc hy e1 n;refine⟨_,vK.t hp h2,?_⟩;rcases h1.val ks with ⟨a,b⟩ | ⟨v,t',a,b,c⟩
   ·exact .inl ⟨b,a⟩
   ·exact .inr ⟨t',v,b,a,c⟩
 ·cases e
def lh(hc:KC K cs)(hp:H p=some ob)(hd:wN K H ob d)(hy:Im K H y t)(hv:Im K H v tv)(e:yf cs d t tv=some d') :
  ∃ ob',xj H p y v (upd H p ob')/\wN K H ob' d':=by
 unfold yf at e;split at e
 ·obtain⟨l,rfl,h1⟩:=hd.invK;obtain⟨k,e1,e⟩:=sC e;split at e
  ·rename_i hl;cases e;rw[OK hy e1];exact⟨_,xj.k hp (by rw[h1.len];exact hl),h1.put k hv⟩
  ·cases e
 ·obtain⟨l,rfl,h1⟩:=hd.invT;obtain⟨ks,e1,e⟩:=sC e;split at e
  ·cases e
  ·rename_i n;split at e
   ·rename_i hl;cases e;obtain⟨b,rfl,h2⟩:=Qu hc hy e1 n;exact⟨_,xj.t hp h2 (by rw[h1.len];exact hl),h1.put ks hv⟩
   ·cases e
 ·cases e
end
noncomputable def AAh (cs:List (List tu)):En->S->S->Option S:=λΓ a b=>(dictOf Γ a).bind λd=>match b with
 | .v t=>(xc cs d t).bind λr=>r.map .v
 | _=>none
noncomputable def ABA (cs:List (List tu)) (neg:Bool):En->S->S->Option S:=λΓ a b=>(dictOf Γ b).bind λd=>match a with
 | .v t=>(xc cs d t).map λr=>.v (.a (.bl (if neg then !r.isSome else r.isSome)))
 | _=>none
noncomputable def ABY:R2:=λx y H Q=>∃ a v,x=.ref a/\vK H a y (some v)/\Q v H
noncomputable def AAY:R2:=λy x H Q=>∃ a o,x=.ref a/\vK H a y o/\Q (.bl (!o.isSome)) H
section
variable {K:Fg}{cs:List (List tu)}
def W4(hc:KC K cs):sx K ABY (AAh cs):=by
 intro C w Γ σ H x y a b s Q R ox oy e k;obtain⟨d,e1,e⟩:=sC e;split at e
 ·obtain⟨r,e2,e⟩:=sC e;obtain⟨p,ob,rfl,hp,hd⟩:=Mw R ox e1;obtain⟨r',g,z⟩:=Pi hc hp hd oy e2;rcases z with ⟨z,_⟩ | ⟨t2,v2,z1,z2,z3⟩
  ·subst z;cases e
  ·subst z1 z2;cases e;exact⟨p,v2,rfl,g,k _ H R .refl z3 trivial⟩
 ·cases e
def cg(hc:KC K cs):sx K AAY (ABA cs true):=by
 intro C w Γ σ H x y a b s Q R ox oy e k;obtain⟨d,e1,e⟩:=sC e;split at e
 ·obtain⟨r,e2,rfl⟩:=Lb e;obtain⟨p,ob,rfl,hp,hd⟩:=Mw R oy e1;obtain⟨r',g,z⟩:=Pi hc hp hd ox e2;have hr:r'.isSome=r.isSome:=by rcases z with ⟨z1,z2⟩ | ⟨t2,v2,z1,z2,_⟩ <;> rw[z1,z2] <;> rfl
  exact⟨p,r',rfl,g,by rw[hr];exact k _ H R .refl tH.atom trivial⟩
 ·cases e
noncomputable def wu (cs:List (List tu)) (fo fk:DE):DE:=λΓ=>(fo Γ).bind λp=>if (dictOf p.2 p.1).isSome=true then (fk p.2).bind λq=>(dictOf q.2 p.1).bind λd=>match q.1 with
 | .v t=>(xc cs d t).map λr=>(.v (r.getD (.a .non)),q.2)
 | _=>none
 else none
def g9(hc:KC K cs)(ho:sW K td fo)(hk:sW K ty fk):sW K (zx td ty) (wu cs fo fk):=by
 intro C w Γ σ H s Γ' Q R e k;obtain⟨⟨a,G1⟩,e1,e⟩:=sC e;dsimp only at e;split at e
 rotate_left
 ·cases e
 rename_i hs0;obtain⟨d0,hs0⟩:=Bc.mp hs0;obtain⟨⟨b,G2⟩,e2,e⟩:=sC e;obtain⟨d,e3,e⟩:=sC e;dsimp only at e;split at e
 rotate_left
 ·cases e
 rename_i t hb;obtain⟨r,e4,e⟩:=Lb e;cases e;refine ho C w Γ σ H a G1 _ R e1 λv H1 R1 ev1 o1 n1=>?_
 obtain⟨p,ob,rfl,hp,hd⟩:=Mw R1 o1 hs0;refine⟨p,rfl,hd.isD hp,?_⟩;refine hk C w G1 σ H1 _ _ _ R1 e2 λy H2 R2 ev2 o2 n2=>?_
 obtain⟨p2,ob2,ep,hp2,hd2⟩:=Mw R2 (o1.evo ev2 R1.lst) e3;cases ep;obtain⟨r',g,z⟩:=Pi hc hp2 hd2 o2 e4;refine⟨r',g,?_⟩;rcases z with ⟨z1,z2⟩ | ⟨t2,v2,z1,z2,z3⟩
 ·subst z1 z2;exact k _ H2 R2 (ev1.trans ev2) tH.atom trivial
 ·subst z1 z2;exact k _ H2 R2 (ev1.trans ev2) z3 trivial
noncomputable def xv (b:Bool):DE:=λΓ=>some (.d (if b then .inr [] else .inl []),Γ)
def Za:sW K AAH (xv true):=by
 intro C w Γ σ H s Γ' Q R e k;cases e;exact λp hp=>k _ _ (R.new hp) (tP.new hp) (R.newd hp .nil) ⟨p,rfl,hp⟩
noncomputable def AAe (Γ:En) (i:Nat):Bool:=match Γ[i]? with
 | some (some (.d _))=>true
 | _=>false
noncomputable def x9 (cs:List (List tu)) (i:Nat) (fk fv:DE):DS:=λΓ=>(fv Γ).bind λp=>match p.1 with
 | .v tv=>if AAe p.2 i=true then (fk p.2).bind λq=>match q.1,q.2[i]? with
  | .v tk,some (some (.d d))=>(yf cs d tk tv).map λd'=>.nx (q.2.set i (some (.d d')))
  | _,_=>none
  else none
 | _=>none
theorem cB(hc:KC K cs)(hk:sW K ty fk)(hv:sW K tv fv):uc K ip (ABV (vz i) ty tv) (x9 cs i fk fv):=by
 intro C w Γ σ H D o hpin R e k;obtain⟨⟨a,G1⟩,e1,e⟩:=sC e;dsimp only at e;cases a with
 | l _ | s _ | d _=>cases e
 | v t1 =>
  dsimp only at e;by_cases hl:AAe G1 i=true
  ·rw[if_pos hl]at e;obtain⟨⟨b,G2⟩,e2,e⟩:=sC e;dsimp only at e;split at e
   rotate_left
   ·cases e
   rename_i tk d hi;obtain⟨d',e3,rfl⟩:=Lb e;refine hv C w Γ σ H _ G1 _ R e1 λv H1 R1 ev1 o1 n1=>?_
   obtain⟨d0,hd0⟩:∃ d0,G1[i]?=some (some (.d d0)):=by
    unfold AAe at hl;split at hl
    ·rename_i d0 h0;exact⟨d0,h0⟩
    ·cases hl
   obtain⟨v0,s1,p,ob,rfl,m0,h0,q0⟩:=R1.val i _ hd0;refine⟨.ref p,s1,hk C w G1 σ H1 _ G2 _ R1 e2 λy H2 R2 ev2 o2 n2=>?_⟩;obtain⟨v3,s3,p3,ob3,rfl,m3,h3,q3⟩:=R2.val i _ hi;rw[s1]at s3;cases s3;obtain⟨ob',g,z⟩:=lh hc h3 q3 o2 (Im.evo ev2 R1.lst o1) e3;exact⟨p,_,rfl,g,k w σ _ (R2.putD hi s1 z).1⟩
  ·rw[if_neg hl]at e;cases e
end
section
variable {ι:Type}{K:Fg}{mg:Str->Option AL}{k:Nat}{X:ι->Cx}{cs:List (List tu)}{o i e f:Expr}{fo fk fx:DE}{pos apos cpos:Pos}{ip:Option Nat}
def NR(M:Fm K mg k X) j:(X j).A.units+1 < DU:=by have:=(M.room j).un;lia
def kr(M:Fm K mg k X)(hc:KC K cs)(ho:EX K X o fo)(hk:EX K X i fk)(hs:ABi i:=by intro _ _;rfl):EX K X (.Subscript o i pos) (sI (AAh cs) fo fk):=
 let ⟨_,p,s⟩:=ho;let ⟨_,q,u⟩:=hk;⟨_,λj=>Rv (NR M j) (p j) (q j) hs,M3 (W4 hc) s u⟩
def jx(M:Fm K mg k X)(hc:KC K cs)(hk:EX K X i fk)(ho:EX K X o fo)(hm:Bl .NotIn o=false:=by rfl):TX K X (.Compare i [.NotIn] [o] pos) (sM (sI (ABA cs true) fk fo)):=
 let ⟨_,p,s⟩:=ho;let ⟨_,q,u⟩:=hk;⟨_,λj=>m5 (lr (NR M j) (q j) (p j)) hm,Nv (M3 (cg hc) u s)⟩
def YS(M:Fm K mg k X)(hc:KC K cs)(ho:EX K X o fo)(hk:EX K X e fk)(m:∀ j,M1 (X j) o "get" apos e cpos:=by intro _;exact⟨rfl,rfl,rfl,rfl⟩):EX K X (.Call (.Attribute o "get" apos) [e] [] cpos) (wu cs fo fk):=
 let ⟨_,p,s⟩:=ho;let ⟨_,q,u⟩:=hk;⟨_,λj=>aI (NR M j) (p j) (q j) (m j),g9 hc s u⟩
def d5:EX K X (.Dict [] [] pos) (xv true):=⟨_,λ_=>gh,Za⟩
def eN n (M:Fm K mg k X) (hc:KC K cs) (ho:∀ j,PE (X j) (.Name y yp) (vz n)) (hk:EX K X i fk) (hv:EX K X e fx) (hs:∀ j,Dj e (some (.Subscript (.Name y yp) i p2)) pos.line (X j).env=pure false:=by intro _;rfl) :
  SX K X ip (.Assign [.Subscript (.Name y yp) i p2] e pos) (x9 cs n fk fx):=
 let ⟨_,q,u⟩:=hk;let ⟨_,r,v⟩:=hv;⟨_,λj=>ae (NR M j) (ho j) (q j) (r j) (hs j),cB hc u v⟩
end
section
variable {Γ:En}{cs:List (List tu)}{fo fk fx:DE}{i:Nat}
@[simp] theorem rW:dictOf Γ (.d d)=some d:=(rfl)
@[simp] theorem nP:dictOf Γ (.s i)=match Γ[i]? with
  | some (some (.d d)) | some (some (.e d))=>some d
  | _=>none:=(rfl)
@[simp] theorem rg:AAh cs Γ a (.v t)=(dictOf Γ a).bind λd=>(xc cs d t).bind λr=>r.map .v:=(rfl)
@[simp] theorem n9:ABA cs neg Γ (.v t) b=(dictOf Γ b).bind λd=>(xc cs d t).map λr=>.v (.a (.bl (if neg then !r.isSome else r.isSome))):=(rfl)
@[simp] theorem pV:xv b Γ=some (.d (if b then .inr [] else .inl []),Γ):=(rfl)
@[simp] theorem oO:AAe Γ i=match Γ[i]? with
 | some (some (.d _))=>true
 | _=>false:=(rfl)
@[simp] theorem qI:x9 cs i fk fv Γ=(fv Γ).bind λp=>match p.1 with
 | .v tv=>if AAe p.2 i=true then (fk p.2).bind λq=>match q.1,q.2[i]? with
  | .v tk,some (some (.d d))=>(yf cs d tk tv).map λd'=>.nx (q.2.set i (some (.d d')))
  | _,_=>none
  else none
 | _=>none:=(rfl)
@[simp] theorem ph:wu cs fo fk Γ=(fo Γ).bind λp=>if (dictOf p.2 p.1).isSome=true then (fk p.2).bind λq=>(dictOf q.2 p.1).bind λd=>match q.1 with
 | .v t=>(xc cs d t).map λr=>(.v (r.getD (.a .non)),q.2)
 | _=>none
 else none:=(rfl)
end
end D
namespace L2
open PySem PySem.Spec PyProof.Rows
def AAG (tk tv:TE):TE:=λσ H Q=>∀ p,H p=none->tk σ (upd H p (.dT [])) λx H1=>tv σ H1 λy H2=>H2 p=some (.dT [])/\∃ b ks,x=.ref b/\H2 b=some (.tup (ks.map kV))/\Q (.ref p) (upd H2 p (.dT [(ks,y)]))
theorem eY(hu:X.A.units+1 < DU)(hk:PE X e tk)(hv:PE X f tv):PE X (.Dict [some e] [f] pos) (AAG tk tv):=by
 intro pins s σ H Q I q;have hn:=I.hok.fresh (AF s.heap.objs.size);refine wpAny_Dict_any rfl rfl ↥1 (by show 1<=15;decide) (tE ((VQ hk hv Vz) pins _ σ _ (λps H2=>match ps with
  | [(x,y)]=>H2 s.heap.objs.size=some (.dT [])/\∃ b ks,x=.ref b/\H2 b=some (.tup (ks.map kV))/\Q (.ref s.heap.objs.size) (upd H2 s.heap.objs.size (.dT [(ks,y)]))
  | _=>False) (I.laid (λ_ _ q=>AB _ q) (AF _) (VI s.heap I.big)) (q _ hn)) λws s2 ⟨ps,H2,I2,rel,q2⟩=>?_)
 cases rel with
 | nil=>exact q2.elim
 | @cons p1 p2 _ _ hp t =>
  cases t with
  | cons _ _=>exact q2.elim
  | nil =>
   obtain⟨x,y⟩:=p1;obtain⟨w1,w2⟩:=p2;obtain⟨r1,r2⟩:=hp;obtain⟨e,b,ks,rfl,eb,q2⟩:=q2;cases r1;obtain⟨z,hd,xs,rl,dd⟩:=SC I2.hok e;have rl':=rl;cases rl;unfold storeAll;rw[Eg];refine AA (AA (wpAny_dictSet_heap (Nat.lt_of_succ_lt hu) (NX I2.hok eb) dd λh' dd' hs=>AG (AG ⟨.ref s.heap.objs.size,_,?_,rfl,q2⟩)));obtain⟨q,es,ep,hq,h2,h3,h4,_,h5⟩:=dd';refine PF I2 (by rw[e];exact CW) hs ⟨q,hq⟩ ⟨by show 1<=AC;decide,hd,_,(rl'.put ks eb r2).keeps λc ys ec=>?_,q,es,ep,hq,h2,h3,h4,h5⟩;rw[Lc (Rw ec e (λz=>nomatch z))];exact ec
end L2
namespace D
open PySem L2
section
variable {K:Fg}{C:Fr}{w:W}{Γ:En}{σ:St}{H:Hp}
def sV.tmp(r:sV K C w Γ σ H)(n1:p∉w.L)(n2:¬ w.R p)(ow:Ow C p)(hp:H p=some ob)(m:Mu ob):sV K C w Γ σ (upd H p ob'):=by
 have ev:tP (p::w.L) H (upd H p ob'):=λc o e n=>by rw[Lc (λz=>n (by rw[z];exact AH))];exact e
 have hL:LL (p::w.L) H:=λq hq=>by
  rcases AN.mp hq with z | z
  ·subst z;exact⟨ob,hp,m⟩
  ·exact r.lst q z
 have nl:∀ {q:Addr},q∈w.L->q≠p:=λhq z=>n1 (z ▸ hq)
 have nr:∀ {q:Addr},w.R q->q≠p:=λhq z=>n2 (z ▸ hq)
 refine⟨r.len,λi g h=>?_,r.apart,λq hq=>?_,r.own,λq hq=>?_,r.rl,λb o hb n=>?_,r.pin⟩
 ·obtain⟨v,e1,e2⟩:=r.val i g h;refine⟨v,e1,?_⟩;cases g with
  | v t=>exact Im.evo ev hL e2
  | l xs=>obtain⟨q,vs,rfl,hq,hv,hi⟩:=e2;exact⟨q,vs,rfl,hq,by rw[Lc (nl hq)];exact hv,hi.evo ev hL⟩
  | r xs=>obtain⟨q,vs,rfl,hi,hv,a,b⟩:=e2;exact⟨q,vs,rfl,hi.evo ev hL,by rw[Lc (nr b)];exact hv,a,b⟩
  | k xs=>obtain⟨q,vs,rfl,hi,hk⟩:=e2;exact⟨q,vs,rfl,hi.evo ev hL,hk.evo ev hL⟩
  | d xs=>obtain⟨q,o,rfl,hq,hv,hi⟩:=e2;exact⟨q,o,rfl,hq,by rw[Lc (nl hq)];exact hv,hi.evo ev hL⟩
  | e xs=>obtain⟨q,o,rfl,hi,hv,a,b⟩:=e2;exact⟨q,o,rfl,hi.evo ev hL,by rw[Lc (nr b)];exact hv,a,b⟩
 ·obtain⟨o,e,m⟩:=r.lst q hq;exact⟨o,by rw[Lc (nl hq)];exact e,m⟩
 ·obtain⟨o,e⟩:=r.ra q hq;exact⟨o,by rw[Lc (nr hq)];exact e⟩
 ·have:b≠p:=λz=>by
   subst z;rcases ow with ow | ow
   ·exact n ow
   ·rw[ow]at hb;cases hb
  rw[Lc this];exact (r.frame b o hb n)
end
noncomputable def xA (cs:List (List tu)) (fk fv:DE):DE:=λΓ=>(fk Γ).bind λp=>(fv p.2).bind λq=>match p.1,q.1 with
 | .v (.t ts),.v t=>(uv ts).bind λks=>if (cs.any λc=>decide (c=ks))=true then none else some (.d (.inr [(ks,t)]),q.2)
 | _,_=>none
def ZN(hc:KC K cs)(hk:sW K tk fk)(hv:sW K tv fv):sW K (AAG tk tv) (xA cs fk fv):=by
 intro C w Γ σ H s Γ' Q R e k;obtain⟨⟨a,G1⟩,e1,e⟩:=sC e;obtain⟨⟨b,G2⟩,e2,e⟩:=sC e;dsimp only at e;obtain⟨ts,t,rfl,rfl⟩:∃ ts t,a=.v (.t ts)/\b=.v t:=by
  split at e
  ·exact⟨_,_,rfl,rfl⟩
  ·cases e
 obtain⟨ks,e3,e⟩:=sC e;split at e
 ·cases e
 rename_i n;cases e;intro p hp;obtain⟨n1,n2,ow⟩:=R.fresh hp;refine hk C w Γ σ _ _ G1 _ (R.new hp) e1 λx H1 R1 ev1 o1 _=>hv C w G1 σ H1 _ _ _ R1 e2 λy H2 R2 ev2 o2 _=>?_
 have hp2:=ev2 p _ (ev1 p _ Ln n1) n1;obtain⟨b,rfl,hb⟩:=Qu hc (Im.evo ev2 R1.lst o1) e3 n;refine⟨hp2,b,ks,rfl,hb,k _ _ (R2.tmp n1 n2 ow hp2 trivial) (λc o hcc nn=>?_) ⟨p,_,rfl,n1,n2,ow,Ln,?_⟩ ⟨p,rfl,hp⟩⟩
 ·have ne:=Lo hcc hp;rw[Lc ne];exact (ev1.trans ev2) c o (by rw[Lc ne];exact hcc) nn
 ·have ev3:tP (p::w.L) H2 (upd H2 p (.dT [(ks,y)])):=λc o e n=>by rw[Lc (λz=>n (by rw[z];exact AH))];exact e
  have hL3:LL (p::w.L) H2:=λq hq=>by
   rcases AN.mp hq with z | z
   ·subst z;exact⟨_,hp2,trivial⟩
   ·exact R2.lst q z
  exact (.cons ⟨rfl,Im.evo ev3 hL3 o2⟩ .nil)
section
variable {ι:Type}{K:Fg}{mg:Str->Option AL}{k:Nat}{X:ι->Cx}{cs:List (List tu)}{e f:Expr}{fk fx:DE}{pos:Pos}{Γ:En}
def gX(M:Fm K mg k X)(hc:KC K cs)(hk:EX K X e fk)(hx:EX K X f fx):EX K X (.Dict [some e] [f] pos) (xA cs fk fx):=
 let ⟨_,p,s⟩:=hk;let ⟨_,q,u⟩:=hx;⟨_,λj=>eY (NR M j) (p j) (q j),ZN hc s u⟩
@[simp] theorem nG:xA cs fk fx Γ=(fk Γ).bind λp=>(fx p.2).bind λq=>match p.1,q.1 with
 | .v (.t ts),.v t=>(uv ts).bind λks=>if (cs.any λc=>decide (c=ks))=true then none else some (.d (.inr [(ks,t)]),q.2)
 | _,_=>none:=(rfl)
end
end D
namespace L2
open PySem PySem.Spec PyProof.Rows
def ik:Fq (.type "zip") "__getattr__"=pure none:=by rw[FE];kernel_rfl
def lN:Fq (.type "zip") "keys"=pure none:=by rw[FE];kernel_rfl
def iP:HL table "zip.__getattribute__"=some Builtin.«object.__getattribute__» :=
 Kw (id':="object.__getattribute__") rfl rfl ↥4 rfl
def dB(a:Addr) fs sl (u:Tok) :
  Ij (Builtin.«object.__getattribute__» ⟨[.ref a,.str "keys" u],[]⟩) (λA R s=>s.heap.get? a=some { cls:=.type "zip",dict:=none,data:=.fields fs,slots:=sl }/\raisesAttr (.ref a) "keys" A R s):=
 Meets.of_wp λprog w A R s hs=>by
  obtain⟨hp,g,d,tk,os⟩:=s;obtain⟨hx,hs⟩:=hs;have hT:(⟨hp,g,d,tk,os⟩:AR).TypeIs (.ref a) "zip":=⟨_,hx,rfl⟩
  have hmiss:=lN
  repeat (any_goals (first | assumption | wp_step))
  exact wpAny_raiseAttrError hs.1 hs.2 (attrMsg_fits ↥4 ↥4)
def getAttr?_miss_zip
  (hx:s.heap.get? a=some { cls:=.type "zip",data:=.fields fs }) (hA:A.handled=none)
  (h:∀ h' tk e,Heap.NewExcOf s.heap h' e "AttributeError"->Q none { s with heap:=h',toks:=tk }) :
  AQ (model prog w) A (getAttr? (.ref a) "keys") Q E s:=by
 obtain⟨hp,g,d,tk,os⟩:=s;have hT:∀ tk',(⟨hp,g,d,tk',os⟩:AR).TypeIs (.ref a) "zip":=λ_=>⟨_,hx,rfl⟩
 have f1:=sub_AttributeError;have f3:=Ei.lookup;have f4:=Ei.bind (.ref a);have f5:=ik
 repeat (any_goals (first | assumption | exact hT _ | ((with_reducible show AQ _ _ (call (Value.builtin "zip.__getattribute__") _ _) _ _ _);refine C5 Ei (hT _) iP (F.args_zip_getattribute_2 _ _) (dB a fs #[] _) ⟨hx,hA,λh' tk' e hx'=>?_⟩) | wp_step))
 obtain⟨t',u',he⟩:=hx'.there;unfold getattributeRaised
 repeat (any_goals (first | assumption | wp_step))
 exact h _ _ _ hx'.of
abbrev zQ (h:Heap) (z TI TO T:Addr) (f:Bool):Prop:=
 h.get? z=some { cls:=.type "zip",dict:=none,data:=.fields #[Dy T,.bool f,.bool false,.ref TI,.ref TO],slots:=#[] }
section
variable {prog:Aj}{w:A5}{A:BG}{E:AL->AR->Prop}{s:AR}
def ZD(ho:s.heap.get? a=some o)(h:Q (some o) s):AQ (model prog w) A (loadIfAlive a) Q E s:=PySem.W.kdx_alive ho h
variable {z TI TO i1 i2 l1 l2 T:Addr}{S1 S2:Nat->Heap->Prop}{xs ys:Array AL}{k:Nat}{f:Bool}{oT:Obj}
theorem Um(hz:zQ s.heap z TI TO T f)(hT:s.heap.get? T=some oT)
  (h:∀ h1,zQ h1 z TI TO T true->Cv z s.heap h1->Q false { s with heap:=h1 }):AQ (model prog w) A (BV (.ref z)) Q E s:=by
 refine AA (Ap hz rfl (x:=Dy T) rfl (AA (ZD hT (AA (Ap hz rfl (x:=.bool f) rfl ?_)))));cases f with
 | true=>exact AG (h _ hz (KZ _ _))
 | false =>
  exact AA (A4 hz ↥1 λh1 z1 b1=>AG (h h1 z1 b1))
def lD{Q:AL->AR->Prop}(D:ZAp z TI TO i1 i2 l1 l2)(D1:um prog w i1 l1 xs S1)(D2:um prog w i2 l2 ys S2)(hz:zQ s.heap z TI TO T f)(hT:s.heap.get? T=some oT)(hTI:DQ s.heap TI (.ref i1) (.ref i2))(st1:S1 k s.heap)(st2:S2 k s.heap)(hx:xs[k]?=some x)(hy:ys[k]?=some y)
  (hQ:∀ h',zQ h' z TI TO T true->S1 (k+1) h'->S2 (k+1) h'->DQ h' s.heap.objs.size x y ->
   (∀ c o,c≠z->c≠i1->c≠i2->s.heap.get? c=some o->h'.get? c=some o)->Q (.ref s.heap.objs.size) { s with heap:=h' }) :
  AQ (model prog w) A (Builtin.«zip.__next__» ⟨[.ref z],[]⟩) (λfin s'=>∃ v,fin=.done (.ret v)/\Q v s') E s:=by
 obtain⟨⟨TIz,TOz,i1z,i2z,TITO,TIi1,TIi2,TOi1,TOi2,i12,l1z,l1TO,l1i1,l1i2,l2z,l2TO,l2i1,l2i2⟩,_,_⟩:=D;show AQ _ _ (field (.ref z) 2 >>= _) _ _ _;refine AA (Ap hz rfl (x:=.bool false) rfl ?_);show AQ _ _ (field (.ref z) 3 >>= _) _ _ _;refine AA (Ap hz rfl (x:=.ref TI) rfl (AA (Bm hTI rfl ?_)));refine AA (Um hz hT λh1 z1 b1=>AA ?_);refine AA (AA (BQ ?_));show AQ _ _ (Aq (.ref i1) >>= _) _ _ _;refine AA (D1.item _ k _ x _ _ (D1.keep _ _ _ st1 (λo e=>b1.extBut _ _ i1z e) λo e=>b1.extBut _ _ l1z e) hx λh2 t1 b2=>AG ?_);refine AG (AA (AA (BQ ?_)));show AQ _ _ (Aq (.ref i2) >>= _) _ _ _;refine AA (D2.item _ k _ y _ _ (D2.keep _ _ _ st2 (λo e=>b2.extBut _ _ i12.symm (b1.extBut _ _ i2z e)) λo e=>b2.extBut _ _ l2i1 (b1.extBut _ _ l2z e)) hy λh4 t2 b4=>AG (AG (AG (AA (EK ?_ (by show 2<=AC;decide))))));have hsz:h4.objs.size=s.heap.objs.size:=by rw[b4.1,b2.1,b1.1]
 have k4:∀ c o,c≠z->c≠i1->c≠i2->s.heap.get? c=some o->h4.get? c=some o:=λc o c1 c3 c4 e=>b4.extBut _ _ c4 (b2.extBut _ _ c3 (b1.extBut _ _ c1 e))
 refine AG ⟨_,rfl,?_⟩;rw[hsz];have up:∀ c o,h4.get? c=some o->(h4.push { cls:=.type "tuple",data:=.seq #[x,y] }).get? c=some o:=λc o e=>AB _ e
 refine hQ _ (up _ _ (b4.extBut _ _ i2z.symm (b2.extBut _ _ i1z.symm z1))) (D1.keep _ _ _ (D1.keep _ _ _ t1 (λo e=>b4.extBut _ _ i12 e) λo e=>b4.extBut _ _ l1i2 e) (λo e=>up _ o e) λo e=>up _ o e) (D2.keep _ _ _ t2 (λo e=>up _ o e) λo e=>up _ o e) ?_ λc o c1 c2 c3 e=>up _ _ (k4 c o c1 c2 c3 e)
 rw[← hsz];exact AK _ rfl
def bO(hh:A.handled=none)(D:ZAp z TI TO i1 i2 l1 l2)(D1:um prog w i1 l1 xs S1)(hz:zQ s.heap z TI TO T f)(hT:s.heap.get? T=some oT)(hTI:DQ s.heap TI (.ref i1) (.ref i2))(st1:S1 k s.heap)(hx:xs[k]?=none)
  (hE:∀ h' e,(∀ c o,c≠z->c≠i1->s.heap.get? c=some o->h'.get? c=some o)->(∃ o,h'.get? e=some o/\o.cls=.type "StopIteration")->E (.ref e) { s with heap:=h' }) :
  AQ (model prog w) A (Builtin.«zip.__next__» ⟨[.ref z],[]⟩) Q E s:=by
 obtain⟨⟨TIz,TOz,i1z,i2z,TITO,TIi1,TIi2,TOi1,TOi2,i12,l1z,l1TO,l1i1,l1i2,l2z,l2TO,l2i1,l2i2⟩,_,_⟩:=D;show AQ _ _ (field (.ref z) 2 >>= _) _ _ _;refine AA (Ap hz rfl (x:=.bool false) rfl ?_);show AQ _ _ (field (.ref z) 3 >>= _) _ _ _;refine AA (Ap hz rfl (x:=.ref TI) rfl (AA (Bm hTI rfl ?_)));refine AA (Um hz hT λh1 z1 b1=>AA ?_);refine AA (AA (BQ ?_));show AQ _ _ (Aq (.ref i1) >>= _) _ _ _;exact AA (D1.fini _ k _ _ _ hh (D1.keep _ _ _ st1 (λo e=>b1.extBut _ _ i1z e) λo e=>b1.extBut _ _ l1z e) hx λh2 e b2 he=>hE h2 e (λc o c1 c2 q=>b2 _ _ c2 (b1.extBut _ _ c1 q)) he)
end
def RP:HL table "dict.update.loop"=some Builtin.«dict.update.loop»:=Gf rfl
def Tn:plainId "dict.update.loop"=true:=↥4
structure ZL(z TI TO i1 i2 a1 a2 d:Addr)(xs ys:Array AL)(k:Nat)(h:Heap):Prop where
 zz:(Hn h z TI TO .none/\∃ a b,DQ h TO a b)\/∃ T oT f,zQ h z TI TO T f/\h.get? T=some oT/\T≠z/\T≠i1/\T≠i2/\T≠d
 ti:DQ h TI (.ref i1) (.ref i2)
 s1:h.IsTupleIter i1 a1 k/\h.IsTuple a1 xs
 s2:h.IsTupleIter i2 a2 k/\h.IsTuple a2 ys
section
variable {prog:Aj}{w:A5}{A:BG}{E:AL->AR->Prop}{s:AR}{z TI TO i1 i2 a1 a2 d:Addr}{xs ys:Array AL}{k:Nat}
theorem ZL.type(st:ZL z TI TO i1 i2 a1 a2 d xs ys k h):∃ o,h.get? z=some o/\o.cls=.type "zip":=by
 rcases st.zz with ⟨q,_⟩ | ⟨T,oT,f,q,_⟩
 iterate 2
  ·exact⟨_,q,rfl⟩
def ZL.keep(st:ZL z TI TO i1 i2 a1 a2 d xs ys k h)(n1:z≠d)(n2:TI≠d)(n3:TO≠d)(n4:i1≠d)(n5:i2≠d)(n6:a1≠d)(n7:a2≠d)(kp:∀ c o,c≠d->h.get? c=some o->h'.get? c=some o):ZL z TI TO i1 i2 a1 a2 d xs ys k h' where
 zz:=by
  rcases st.zz with ⟨q,a,b,q2⟩ | ⟨T,oT,f,q,q2,q3,q4,q5,q6⟩
  ·exact .inl ⟨kp _ _ n1 q,a,b,kp _ _ n3 q2⟩
  ·exact .inr ⟨T,oT,f,kp _ _ n1 q,kp _ _ q6 q2,q3,q4,q5,q6⟩
 ti:=kp _ _ n2 st.ti
 s1:=⟨(let ⟨o,e,r⟩:=st.s1.1;⟨o,kp _ _ n4 e,r⟩),(let ⟨o,e,r⟩:=st.s1.2;⟨o,kp _ _ n6 e,r⟩)⟩
 s2:=⟨(let ⟨o,e,r⟩:=st.s2.1;⟨o,kp _ _ n5 e,r⟩),(let ⟨o,e,r⟩:=st.s2.2;⟨o,kp _ _ n7 e,r⟩)⟩
def XS(D:ZAp z TI TO i1 i2 a1 a2)(hd:d < s.heap.objs.size)(st:ZL z TI TO i1 i2 a1 a2 d xs ys k s.heap)(hx:xs[k]?=some x)(hy:ys[k]?=some y)
  (hQ:∀ h',ZL z TI TO i1 i2 a1 a2 d xs ys (k+1) h'->DQ h' s.heap.objs.size x y->(∀ c o,c≠z->c≠TO->c≠i1->c≠i2->s.heap.get? c=some o->h'.get? c=some o)->Q (some (.ref s.heap.objs.size)) { s with heap:=h' }) :
  AQ (model prog w) A (E8 (.ref z)) Q E s:=by
 have hT:=st.type;have lz:z < s.heap.objs.size:=by obtain⟨o,e,_⟩:=st.type;exact AM e
 have l1:i1 < s.heap.objs.size:=by obtain⟨o,e,_⟩:=st.s1.1;exact AM e
 have l2:i2 < s.heap.objs.size:=by obtain⟨o,e,_⟩:=st.s2.1;exact AM e
 refine AA (B7 (Az hT E4 (Ay E4 hT JM ?_ (JA _))));rcases st.zz with ⟨q,a,b,q2⟩ | ⟨T,oT,f,q,q2,q3,q4,q5,q6⟩
 ·exact Wu D (Mo i1 a1 xs D.a.l1i1) (Mo i2 a2 ys D.a.l2i2) ⟨q,st.ti,⟨a,b,q2⟩,st.s1,st.s2⟩ hx hy λh' st' hp hk=>AG (hQ h' ⟨.inr ⟨_,_,false,st'.z,hp,Bk lz,Bk l1,Bk l2,Bk hd⟩,st'.ti,st'.s1,st'.s2⟩ hp hk)
 ·exact lD D (Mo i1 a1 xs D.a.l1i1) (Mo i2 a2 ys D.a.l2i2) q q2 st.ti st.s1 st.s2 hx hy λh' z' t1 t2 hp hk=>AG (hQ h' ⟨.inr ⟨T,oT,true,z',hk _ _ q3 q4 q5 q2,q3,q4,q5,q6⟩,hk _ _ D.a.TIz D.a.TIi1 D.a.TIi2 st.ti,t1,t2⟩ hp λc o c1 _ c3 c4 e=>hk c o c1 c3 c4 e)
def Yj(hh:A.handled=none)(D:ZAp z TI TO i1 i2 a1 a2)(st:ZL z TI TO i1 i2 a1 a2 d xs ys k s.heap)(hx:xs[k]?=none)
  (hQ:∀ h',(∀ c o,c≠z->c≠TO->c≠i1->c≠i2->s.heap.get? c=some o->h'.get? c=some o)->Q none { s with heap:=h' }) :
  AQ (model prog w) A (E8 (.ref z)) Q E s:=by
 have hT:=st.type;refine AA (B7 (Az hT E4 (Ay E4 hT JM ?_ (JA _))));rcases st.zz with ⟨q,a,b,q2⟩ | ⟨T,oT,f,q,q2,q3,q4,q5,q6⟩
 ·refine ft hh D (Mo i1 a1 xs D.a.l1i1) (Mo i2 a2 ys D.a.l2i2) ⟨q,st.ti,⟨a,b,q2⟩,st.s1,st.s2⟩ (.inl hx) λh' e hk he=>?_
  obtain⟨o,ho,hcl⟩:=he;exact AA (CJ ⟨o,ho,hcl⟩ EM (AG (hQ h' hk)))
 ·refine bO hh D (Mo i1 a1 xs D.a.l1i1) q q2 st.ti st.s1 hx λh' e hk he=>?_
  obtain⟨o,ho,hcl⟩:=he;exact AA (CJ ⟨o,ho,hcl⟩ EM (AG (hQ h' λc o c1 _ c3 _ e=>hk c o c1 c3 e)))
theorem X6{knd:GT prog w tu}{R}(hh:A.handled=none)(D:ZAp z TI TO i1 i2 a1 a2)(n1:z≠d)(n2:TI≠d)(n3:TO≠d)(n4:i1≠d)(n5:i2≠d)(n6:a1≠d)(n7:a2≠d)
  rs (hx:∀ (j:Nat) p,rs[j]?=some p->∃ key,xs[j]?=some key/\knd.is p.1 key=true/\ys[j]?=some p.2) (hxe:xs[rs.length]?=none) (hsz:rs.length<=100000) {s0:AR}
  (hR:∀ h' tk,h'.DictOf knd d (merged [] rs)->(∀ c o,c≠z->c≠TO->c≠i1->c≠i2->c≠d->s0.heap.get? c=some o->h'.get? c=some o)->R (.ok (.ret .none)) { s0 with heap:=h',toks:=tk }) :
  ∀ m k h tk t,rs.length - k=m->k<=rs.length->ZL z TI TO i1 i2 a1 a2 d xs ys k h->h.DictOf knd d (merged [] (rs.take k))->(∀ c o,c≠z->c≠TO->c≠i1->c≠i2->c≠d->s0.heap.get? c=some o->h.get? c=some o) ->
   D7 (model prog w) A (.builtin "dict.update.loop" ⟨[.ref d,.ref z,.int k t,.none],[]⟩) R { s0 with heap:=h,toks:=tk }:=by
 intro m;induction m with
 | zero =>
  intro k h tk t hm hk st hD hkp;have hkn:k=rs.length:=by lia
  subst hkn;refine D3 RP ?_;refine AA (Yj hh D st hxe λh' hk'=>AA (AG (AG ?_)));rw[List.take_length]at hD;refine hR h' tk (hD.at λo e=>hk' d o n1.symm n3.symm n4.symm n5.symm e) λc o c1 c2 c3 c4 c5 e=>hk' c o c1 c2 c3 c4 (hkp c o c1 c2 c3 c4 c5 e)
 | succ m ih =>
  intro k h tk t hm hk st hD hkp;have hlt:k < rs.length:=by lia
  obtain⟨key,e1,e2,e3⟩:=hx k rs[k] ↥1;refine D3 RP ?_;have hdl:d < h.objs.size:=by obtain⟨o,_,_,e,_⟩:=hD;exact AM e
  refine AA (XS D hdl st e1 e3 λh' st' hp hk'=>AA (BQ (AA (wpAny_tryCatch ?_))));refine AA (C8 (⟨_,hp,rfl⟩) (AA (Bm hp rfl (AG ?_))));have hlm:(merged [] (rs.take k)).length<=AC:=by
   have:=merged_length_le ([]) (rs.take k);have e:(rs.take k).length<=100000:=by rw[Cw];lia
   rw[Ca]at this;exact Ah ⋯ (show 100000<=AC by decide)
  refine BQ (wpAny_dictSet_pairs e2 (hD.at λo e=>hk' d o n1.symm n3.symm n4.symm n5.symm e) λh2 hD2 hs=>?_);rw[← merged_take_succ [] rs k rs[k] ↥1]at hD2;exact AG ⟨Dq Tn _,ih (k+1) h2 (tk+1) 0 ⋯ ⋯ (st'.keep n1 n2 n3 n4 n5 n6 n7 λc o hc e=>(hs.2 c hc).trans e) hD2 λc o c1 c2 c3 c4 c5 e=>(hs.2 c c5).trans (hk' c o c1 c2 c3 c4 (hkp c o c1 c2 c3 c4 c5 e))⟩
end
section
variable {prog:Aj}{w:A5}{A:BG}{E:AL->AR->Prop}{s:AR}{z TI TO i1 i2 a1 a2:Addr}{xs ys:Array AL}
def bI{knd:GT prog w tu}{Q}(hh:A.handled=none)(D:ZAp z TI TO i1 i2 a1 a2)(hz:Hn s.heap z TI TO .none)(hTO:∃ a b,DQ s.heap TO a b)(hTI:DQ s.heap TI (.ref i1) (.ref i2))
  (h1:s.heap.IsTupleIter i1 a1 0/\s.heap.IsTuple a1 xs) (h2:s.heap.IsTupleIter i2 a2 0/\s.heap.IsTuple a2 ys)
  rs (hx:∀ (j:Nat) p,rs[j]?=some p->∃ key,xs[j]?=some key/\knd.is p.1 key=true/\ys[j]?=some p.2) (hxe:xs[rs.length]?=none) (hsz:rs.length<=100000)
  (h:∀ h' tk,h'.DictOf knd s.heap.objs.size (merged [] rs)->(∀ c o,c≠z->c≠TO->c≠i1->c≠i2->s.heap.get? c=some o->h'.get? c=some o)->Q (.ref s.heap.objs.size) { s with heap:=h',toks:=tk }) :
  AQ (model prog w) A (call (.type "dict") [.ref z]) Q E s:=by
 refine HP (Q₁:=λobj s₁=>obj=.ref s.heap.objs.size/\s₁={ s with heap:=s.heap.push { cls:=.type "dict",data:=.dict #[] } }) PySem.F.kt_called_dict (PySem.F.kt_typeCall_dict_1 _) PySem.F.entry_dict_init (kt_code_dict_new _ ⟨rfl,rfl⟩) ?_;rintro obj s₁ ⟨rfl,rfl⟩;have hnew:(s.heap.push { cls:=.type "dict",data:=.dict #[] }).DictOf knd s.heap.objs.size []:=HC s.heap;have up:∀ c o,s.heap.get? c=some o->(s.heap.push { cls:=.type "dict",data:=.dict #[] }).get? c=some o:=λc o e=>AB _ e
 have hz':=up _ _ hz;refine⟨hnew.typeIs,PySem.F.args_dict_init_2 _ _,AA (AA (Ia hnew.typeIs (AG ?_)))⟩;show AQ _ _ (Kb "dict.__init__" s.heap.objs.size (.ref z) [] .none) _ _ _;refine AA (C8 ⟨_,hz',rfl⟩ (AA (getAttr?_miss_zip hz' hh λh3 tk3 e3 x3=>?_)));refine AA (CS (AA ?_));have up3:=λc o e=>x3.1 c o (up c o e)
 refine wpAny_pyIter_zip (up3 _ _ hz) ?_;have ne:∀ {c:Addr} {o:Obj},s.heap.get? c=some o->c≠s.heap.objs.size:=λe=>Ag (AM e)
 obtain⟨pa,pb,hTO⟩:=hTO;obtain⟨⟨o1,q1,r1⟩,⟨o2,q2,r2⟩⟩:=h1;obtain⟨⟨o3,q3,r3⟩,⟨o4,q4,r4⟩⟩:=h2;exact AG ⟨Dq Tn _,X6 (A:=A.in1) (s0:={ s with heap:=h3,toks:=tk3 }) hh D (ne hz) (ne hTI) (ne hTO) (ne q1) (ne q3) (ne q2) (ne q4) rs hx hxe hsz (λh' tk hd hk=>⟨rfl,h h' tk hd λc o c1 c2 c3 c4 e=>hk c o c1 c2 c3 c4 (ne e) (up3 c o e)⟩) rs.length 0 h3 tk3 0 ⋯ (As _) ⟨.inl ⟨up3 _ _ hz,pa,pb,up3 _ _ hTO⟩,up3 _ _ hTI,⟨⟨o1,up3 _ _ q1,r1⟩,⟨o2,up3 _ _ q2,r2⟩⟩,⟨⟨o3,up3 _ _ q3,r3⟩,⟨o4,up3 _ _ q4,r4⟩⟩⟩ (hnew.at λo e=>x3.1 _ o e) λc o _ _ _ _ _ e=>e⟩
end
def AAP (K:Ae) (ta:TA):TE:=λσ H Q=>ta σ H λvs H1=>∃ (a1 a2:Addr) (ks:List tu) (us:List V),vs=[.ref a1,.ref a2]/\vH K H1 a1 (ks.map kV)/\vH K H1 a2 us/\us.length=ks.length/\ks.length<=100000/\∀ p,H1 p=none->Q (.ref p) (upd H1 p (.dK (uV [] (ks.zip us))))
def jH{e1 e2 ta p p0 pos pos0}(hr:X.A.handled=none)(hg:Gl X "zip")(hm:X.mg "zip"=none)(hg0:Gl X "dict")(hm0:X.mg "dict"=none)(ha:PA X [e1,e2] ta)(hs:AV [e1,e2] X.env=[(false,eval e1 X.env),(false,eval e2 X.env)]:=by rfl)(hs2:AV [e2] X.env=[(false,eval e2 X.env)]:=by rfl)
  (hs3:AV [.Call (.Name "zip" p) [e1,e2] [] pos] X.env=[(false,eval (.Call (.Name "zip" p) [e1,e2] [] pos) X.env)]:=by rfl) :
  PE X (.Call (.Name "dict" p0) [.Call (.Name "zip" p) [e1,e2] [] pos] [] pos0) (AAP X.K ta):=by
 intro pins s σ H Q I h;refine Hj (MK I hg0 hm0 Kc (A7 (Dv (Hj (MK I hg hm boot_zip (A7 (tE (ha pos pins s σ H _ I h) λus s1 ⟨vs,H1,I1,r1,q1⟩=>?_) (by rw[hs,hs2]) (by rw[hs2];rfl))))) hs3 rfl));obtain⟨a1,a2,ks,ws,rfl,h1,h2,hlen,hsz,q⟩:=q1;obtain⟨u1,u2,rfl,r,r'⟩:=vals2 r1;cases r;cases r';obtain⟨its1,v1,o1,z1⟩:=I1.tuple h1;obtain⟨its2,v2,o2,z2⟩:=I1.tuple h2;have lt1:a1 < s1.heap.objs.size:=by obtain⟨o,e,_⟩:=o1;exact AM e
 have lt2:a2 < s1.heap.objs.size:=by obtain⟨o,e,_⟩:=o2;exact AM e
 have D:ZAp (s1.heap.objs.size+4) (s1.heap.objs.size+2) (s1.heap.objs.size+3) s1.heap.objs.size (s1.heap.objs.size+1) a1 a2:=
  ⟨zipApart_new lt1 lt2,Ag (AW lt1 (Ba _ 2)),Ag (AW lt2 (Ba _ 2))⟩
 refine jD o1 o2 λh' st hk=>DJ ?_
 have hl1:=v1.length;have hl2:=v2.length;have lrs:(ks.zip its2).length=ks.length:=by rw[Fw];lia
 obtain⟨t1o,t1e,t1r⟩:=o1;obtain⟨t2o,t2e,t2r⟩:=o2;refine bI (knd:=si X.prog X.w) hr D st.z st.to st.ti ⟨st.s1,⟨t1o,hk _ _ t1e,t1r⟩⟩ ⟨st.s2,⟨t2o,hk _ _ t2e,t2r⟩⟩ (ks.zip its2) (λj pr hj=>?_) (by simp_all) (by rw[lrs];exact hsz) λh4 tk hd hk4=>?_
 ·obtain⟨g1,g2⟩:=Gc.mp hj;obtain⟨key,e1,r1⟩:=v1.get (i:=j) (x:=kV pr.1) (by simp_all);exact⟨key,by simpa using e1,M6 r1,by simpa using g2⟩
 ·have old:∀ c o,s1.heap.get? c=some o->h4.get? c=some o:=λc o e=>by
   have hc:=AM e;exact hk4 c o (Ag (AW hc (Ba _ 4))) (Ag (AW hc (Ba _ 3))) (Ag hc) (Ag (AW hc (Ba _ 1))) (hk c o e)
  have hb:=CY (IH (Ba _ 4) (AM st.z));have rel:=by
   have gen:∀ (ks:List tu) ws its2,sP ws its2->ws.length=ks.length->KV (ks.zip ws) (ks.zip its2):=by
    intro ks;induction ks with
    | nil=>intro ws its2 v2 hlen;simp;exact .nil
    | cons k r ih =>
     intro ws its2 v2 hlen;cases v2 with
     | nil=>cases hlen
     | cons a b=>exact .cons ⟨rfl,a⟩ (ih _ _ b (by simpa using hlen))
   exact gen ks ws its2 v2 hlen
  refine⟨.ref h'.objs.size,_,I1.laid old hb (Q4 ?_ ?_ (rel.merge .nil) hd),rfl,q _ (I1.hok.fresh hb)⟩
  ·have e1:=Pn (ks.zip ws) [];have e2:(ks.zip ws).length<=ks.length:=by rw[Fw];lia
   rw[Ca]at e1;exact Ah ⋯ (show 100000<=AC by decide)
  ·exact beq_eq_false_iff_ne.mpr (Bk (AW I1.big hb))
end L2
namespace D
open PySem L2
noncomputable def y8 (fa:DA):DE:=λΓ=>(fa Γ).bind λp=>match p.1 with
 | [.v (.t xs),.v (.t ys)]=>(uv xs).bind λks=>if ys.length=ks.length/\ks.length<=100000 then some (.d (.inl ((ks.zip ys).foldl (λacc kv=>wZ acc kv.1 kv.2) [])),p.2) else none
 | _=>none
theorem UO:∀ (ks:List tu) {us ys},sf K H us ys->PR K H (ks.zip us) (ks.zip ys)
 | [],_,_,_=>by simp;exact .nil
 | k::r,us,[],h=>by rw[h.inv0];exact .nil
 | k::r,us,y::ys,h=>by obtain⟨v,vs,rfl,h1,h2⟩:=h.inv;exact .cons ⟨rfl,h1⟩ (UO r h2)
theorem Xd{H more mt}(h:PR K H more mt):∀ {l kvs},PR K H l kvs->PR K H (uV l more) (mt.foldl (λacc kv=>wZ acc kv.1 kv.2) kvs):=by
 induction h with
 | nil=>intro l kvs q;exact q
 | @cons a b more mt hab _ ih =>
  intro l kvs q;have:=q.put a.1 hab.2;rw[hab.1]at this;show PR K H (uV (uZ l a.1 a.2) more) _;rw[hab.1];exact ih this
def je(ha:ui K ta fa):sW K (AAP K ta) (y8 fa):=by
 intro C w Γ σ H s Γ' Q R e k;obtain⟨⟨as,G1⟩,e1,e⟩:=sC e;dsimp only at e;split at e
 ·obtain⟨ks,e2,e⟩:=sC e;split at e
  ·rename_i hl;cases e;refine ha C w Γ σ H _ _ _ R e1 λvs H1 R1 ev1 o1 n1=>?_
   obtain⟨v,u,rfl,o2,o3⟩:=wL o1;obtain⟨p,vs,rfl,h1,i1⟩:=o2.invt;obtain⟨q,us,rfl,h2,i2⟩:=o3.invt;have hv:=Q9 i1 e2;subst hv;exact⟨p,q,ks,us,rfl,h1.sq,h2.sq,by rw[i2.len];exact hl.1,hl.2,λc hc=>k _ _ (R1.new hc) (ev1.trans (tP.new hc)) (R1.newd hc (Xd (UO ks i2) .nil)) ⟨c,rfl,by
    cases hz:H c with
    | none=>rfl
    | some o =>
     by_cases hL:c∈w.L
     ·exact absurd hL (R1.fresh hc).1
     ·rw[ev1 c o hz hL]at hc;cases hc⟩⟩
  ·cases e
 ·cases e
noncomputable def xU:En->S->S->Option S:=λΓ a b=>(dictOf Γ a).bind λd=>match d,b with
 | .inl kvs,.v t=>(xF t).bind λk=>(vc kvs k).map .v
 | _,_=>none
def W3:sx K ABY xU:=by
 intro C w Γ σ H x y a b s Q R ox oy e k;obtain⟨d,e1,e⟩:=sC e;split at e
 ·obtain⟨ky,e2,e⟩:=sC e;obtain⟨p,ob,rfl,hp,hd⟩:=Mw R ox e1;obtain⟨l,rfl,h1⟩:=hd.invK;rcases h1.val ky with ⟨_,q⟩ | ⟨v,t',q1,q2,q3⟩
  ·rw[q]at e;cases e
  ·rw[q2]at e;cases e;have hy:=OK oy e2;subst hy;exact⟨p,v,rfl,by rw[← q1];exact vK.k hp,k _ H R .refl q3 trivial⟩
 ·cases e
section
variable {ι:Type}{K:Fg}{mg:Str->Option AL}{k:Nat}{X:ι->Cx}{o i:Expr}{fo fk:DE}{pos:Pos}{Γ:En}
def Z2(M:Fm K mg k X)(ho:EX K X o fo)(hk:EX K X i fk)(hs:ABi i:=by intro _ _;rfl):EX K X (.Subscript o i pos) (sI xU fo fk):=
 let ⟨_,p,s⟩:=ho;let ⟨_,q,u⟩:=hk;⟨_,λj=>Rv (NR M j) (p j) (q j) hs,M3 W3 s u⟩
@[simp] theorem rF:xU Γ a b=(dictOf Γ a).bind λd=>match d,b with
 | .inl kvs,.v t=>(xF t).bind λk=>(vc kvs k).map .v
 | _,_=>none:=(rfl)
end
section
variable {ι:Type}{K:Fg}{mg:Str->Option AL}{k:Nat}{X:ι->Cx}{a b:Expr}{da:DA}{p p0 pos pos0:Pos}{Γ:En}
def jC(M:Fm K mg k X)(hm:mg "zip"=none)(hm0:mg "dict"=none)(ha:AX K X [a,b] da)(hg:∀ j,Gl (X j) "zip":=by intro _;rfl)(hg0:∀ j,Gl (X j) "dict":=by intro _;rfl)(hs:∀ j,AV [a,b] (X j).env=[(false,eval a (X j).env),(false,eval b (X j).env)]:=by intro _;rfl)
  (hs2:∀ j,AV [b] (X j).env=[(false,eval b (X j).env)]:=by intro _;rfl) (hs3:∀ j,AV [.Call (.Name "zip" p) [a,b] [] pos] (X j).env=[(false,eval (.Call (.Name "zip" p) [a,b] [] pos) (X j).env)]:=by intro _;rfl):EX K X (.Call (.Name "dict" p0) [.Call (.Name "zip" p) [a,b] [] pos] [] pos0) (y8 da):=
 let ⟨t,q,u⟩:=ha;⟨AAP K t,λj=>by have:=jH (p0:=p0) (pos0:=pos0) (M.room j).hd (hg j) (by rw[M.mg];exact hm) (hg0 j) (by rw[M.mg];exact hm0) (q j) (hs j) (hs2 j) (hs3 j);rw[M.K j]at this;exact this,je u⟩
end
end D
namespace L2
open PySem PySem.W PyProof.Rows
def tR {α:Type} (lt:Nat->Nat->Bool):KasT α->α
 | .ret a=>a
 | .ask i j k=>tR lt (k (lt i j))
def xq (P:Nat->Prop) (R:α->Prop):KasT α->Prop
 | .ret a=>R a
 | .ask i j k=>P i/\P j/\∀ b,xq P R (k b)
theorem xq.bind{P}{R:α->Prop}{R':β->Prop}{f}:∀ {t},xq P R t->(∀ a,R a->xq P R' (f a))->xq P R' (t.bind f)
 | .ret a,h,hf=>hf a h
 | .ask i j k,h,hf=>⟨h.1,h.2.1,λb=>(h.2.2 b).bind hf⟩
theorem xq.run{P R} lt:∀ {t:KasT α},xq P R t->R (tR lt t)
 | .ret a,h=>h
 | .ask i j k,h=>(h.2.2 (lt i j)).run lt
theorem xq.wp{P R cmp Q lt}{I:AR->Prop}
  (hc:∀ i j C s,P i->P j->I s->(∀ s',I s'->C (lt i j) s')->cmp i j C s):∀ {t:KasT α},xq P R t->∀ s,I s->(∀ s',I s'->Q (tR lt t) s')->t.kasWp cmp Q s
 | .ret a,_,s,hi,hq=>hq s hi
 | .ask i j k,h,s,hi,hq=>hc i j _ s h.1 h.2.1 hi λs' hi'=>(h.2.2 (lt i j)).wp hc s' hi' hq
def t7 (n:Nat) (p:Array Nat):Prop:=p.toList.Perm (AE n)
def t7.lt(h:t7 n p)(h0:0 < n) i:p.getD i 0 < n:=by
 by_cases hi:i < p.size
 ·have e:p.getD i 0=p[i]:=by simp[Hh,hi]
  rw[e];exact BN.mp (h.subset ↥1)
 ·have e:p.getD i 0=0:=by simp[Hh,hi]
  rw[e];exact h0
def t7.rev(h:t7 n p) i j:t7 n (kas_rev p i j):=((mirror_perm p i j _).toList).trans h
def t7.bub(h:t7 n p) i j:t7 n (bubble p i j):=((bubble_perm p i j).toList).trans h
section
variable {n:Nat}(h0:0 < n)
include h0
theorem Pe(h:t7 n p):∀ f m,xq (· < n) (λ_=>True) (kas_asc p f m)
 | 0,m=>trivial
 | f+1,m=>⟨h.lt h0 _,h.lt h0 _,λb=>by
   cases b with
   | true=>exact trivial
   | false=>exact Pe h f (m+1)⟩
theorem O4:∀ f {p},t7 n p->∀ m q,xq (· < n) (λr=>t7 n r.1) (kas_desc f p m q)
 | 0,p,h,m,q=>h
 | f+1,p,h,m,q=>⟨h.lt h0 _,h.lt h0 _,λb=>by
   cases b with
   | true =>
    show xq _ _ (if q > 0 then _ else _);split
    ·exact O4 f (h.rev _ _) _ _
    ·exact O4 f h _ _
   | false =>
    exact⟨h.lt h0 _,h.lt h0 _,λd=>by
     cases d with
     | true=>exact h
     | false=>exact O4 f h _ _⟩⟩
theorem Sk m r (h:t7 n p):xq (· < n) (λr=>t7 n r.2) (kas_tail3 m r p):=
 (Pe h0 (h.rev 0 m) _ _).bind λ_ _=>h.rev 0 m
theorem Sn m r (h:t7 n p):xq (· < n) (λr=>t7 n r.2) (kas_descPart m r p):=
 (O4 h0 _ h _ _).bind λa ha=>by
  split
  ·exact Sk h0 _ _ (ha.rev _ _)
  ·exact Sk h0 _ _ ha
theorem iI r (h:t7 n p):xq (· < n) (λr=>t7 n r.2) (kas_count r p):=
 (Pe h0 h _ _).bind λm _=>by
  split
  ·exact h
  ·split
   ·exact⟨h.lt h0 _,h.lt h0 _,λb=>by
     cases b with
     | true=>exact h
     | false=>exact Sn h0 _ _ (h.rev _ _)⟩
   ·exact Sn h0 _ _ h
theorem Pt(h:t7 n p) k:∀ f l r,xq (· < n) (λ_=>True) (kas_place p k f l r)
 | 0,l,r=>trivial
 | f+1,l,r=>by
  unfold kas_place;split
  ·exact trivial
  ·exact⟨h.lt h0 _,h.lt h0 _,λb=>by
    cases b with
    | true=>exact Pt h k f _ _
    | false=>exact Pt h k f _ _⟩
theorem Rm:∀ f {p},t7 n p->∀ k,xq (· < n) (t7 n) (kas_bin f p k)
 | 0,p,h,k=>h
 | f+1,p,h,k=>(Pt h0 h k _ _ _).bind λl _=>Rm f (h.bub _ _) _
theorem Mk:xq (· < n) (t7 n) (kas_sort n):=
 (iI h0 n (by show (Dt (AE n)).toList.Perm _;simp)).bind λr hr=>by
  split
  ·exact Rm h0 _ hr _
  ·exact hr
end
open PySem PySem.W PyProof.Rows PySem.Calls
def xo (lt:Nat->Nat->Bool) (vs:List AL):List AL:=(tR lt (kas_sort vs.length)).toList.map λi=>vs.getD i CV
def Cn (n:Nat) (lt:Nat->Nat->Bool):Prop:=n < 1024/\(2<=n->∀ prog w A E s κ vs,vs.length=n ->
 (∀ i j,i < n->j < n->∀ C tk,(∀ tk',C (lt i j) { s with toks:=tk' })->kas_ask prog w A κ vs i j C { s with toks:=tk }) ->
 AQ (model prog w) A ((sortRuns').run (HV κ (vs.toArray.zip vs.toArray) #[] 7 none)) (λr s'=>∃ p,p.size=n/\Gv r.2=p.map (kas_item (vs.toArray.zip vs.toArray))/\EO r.2=none/\p=tR lt (kas_sort n)/\∃ tk,s'={ s with toks:=tk }) E s)
def TH(h:n < 64):Cn n lt:=⟨by lia,λh2 prog w A E s κ vs hl hlt=>by
 subst hl;exact kat_run (Q:=λst' s'=>∃ p:Array Nat,p.size=vs.length/\Gv st'=p.map (kas_item (vs.toArray.zip vs.toArray))/\EO st'=none/\p=tR lt (kas_sort vs.length)/\∃ tk,s'={ s with toks:=tk })
  rfl h2 h (λp' st' s' a1 a2 a3 a4=>⟨p',a1,a2,a3,a4⟩) ((Mk ⋯).wp (λi j C s' hi hj hI hC=>by
   obtain⟨tk,rfl⟩:=hI;exact hlt i j hi hj C tk λtk'=>hC _ ⟨tk',rfl⟩) _ ⟨s.toks,rfl⟩ λs' hI=>⟨rfl,hI⟩)⟩
section
variable {prog:Aj}{w:A5}{A:BG}{E:AL->AR->Prop}{s:AR}{a:Addr}{vs:List AL}{κ:Cr}{lt:Nat->Nat->Bool}
def mD(ho:s.heap.get? a=some (B6 "list" vs.toArray n))(h2:2<=vs.length)(hcn:Cn vs.length lt)
  (hk:∀ h',(∀ b o,b≠a->s.heap.get? b=some o->h'.get? b=some o)->∀ C,C κ { s with heap:=h' }->AQ (model prog w) A (Ip vs.toArray) C (λ_ _=>False) { s with heap:=h' })
  (hlt:∀ h',(∀ b o,b≠a->s.heap.get? b=some o->h'.get? b=some o)->∀ i j,i < vs.length->j < vs.length->∀ C tk,(∀ tk',C (lt i j) { s with heap:=h',toks:=tk' })->kas_ask prog w A κ vs i j C { s with heap:=h',toks:=tk })
  (hP:∀ h'' tk c2,(∀ b o,b≠a->s.heap.get? b=some o->h''.get? b=some o)->h''.get? a=some (B6 "list" (xo lt vs).toArray c2)->P (.done (.ret .none)) { s with heap:=h'',toks:=tk }) :
  AQ (model prog w) A (Builtin.«list.sort» ⟨[.ref a],[]⟩) P E s:=by
 have h64:=hcn.1;obtain⟨e1,ho1⟩:∃ e1,(s.heap.update a (BM λ_=>(#[]))).get? a=some (B6 "list" #[] e1):=⟨_,FG ho λ_=>#[]⟩
 have keep:∀ b o,b≠a->s.heap.get? b=some o->(((s.heap.update a (BM λ_=>(#[]))).push (B6 "tuple" vs.toArray 0)).push (B6 "list" #[] 0)).get? b=some o:=λb o hb e =>
  AB _ (AB _ (((Bn s.heap a (BM λ_=>(#[]))).2 b hb).trans e))
 rw[Kd];refine AA (II ho rfl (AA (Fo ho rfl (AA (Gw ho1 rfl (AA (EK (AA (Fi (BQ ?_) (As _))) (by show vs.length<=_;rw[BJ];lia))))) (by rw[Ad,BJ];lia) (As _))));have hn2:¬ vs.toArray.size < 2:=by rw[Ad];lia
 rw[if_neg hn2,if_neg hn2];have ho3:=AB (o:=B6 "list" #[] 0) (AB (o:=B6 "tuple" vs.toArray 0) ho1);generalize hh3:((s.heap.update a (BM λ_=>(#[]))).push (B6 "tuple" vs.toArray 0)).push (B6 "list" #[] 0)=h3 at keep ho3 ⊢;refine AA (BH (hk h3 keep (λκ' s'=>κ'=κ/\s'={ s with heap:=h3 }) ⟨rfl,rfl⟩) (λκ' s0 hq=>?_) λ_ _ x=>x.elim);obtain⟨rfl,rfl⟩:=hq;refine AA (BH (hcn.2 h2 prog w A _ { s with heap:=h3 } κ' vs rfl λi j hi hj C tk hC=>hlt h3 keep i j hi hj C tk hC) ?_ λ_ _ e=>e);rintro ⟨⟨⟩,st'⟩ s' ⟨p,hp,har,hf,rfl,tk,rfl⟩;dsimp only;have hsz:(xo lt vs).toArray.size=vs.length:=by rw[Ad];unfold xo;rw[Af,Au,hp]
 have hout':(Gv st').map (·.2)=(xo lt vs).toArray:=(kat_snds rfl har)
 rw[hout'];obtain⟨c2,hc2⟩:∃ c2,(h3.update a (BM λ_=>(xo lt vs).toArray)).get? a=some (B6 "list" (xo lt vs).toArray c2):=⟨_,FG ho3 λ_=>(xo lt vs).toArray⟩
 refine AA (Gw ho3 rfl (AA (Fo ho3 rfl ?_ (As _) (Ah (Jw hsz) (by rw[BJ];lia)))));rw[hf];simp;exact AG (hP _ tk c2 (λb o hb e=>((Bn h3 a (BM λ_=>(xo lt vs).toArray)).2 b hb).trans (keep b o hb e)) hc2)
end
section
variable {prog:Aj}{w:A5}{A:BG}{E:AL->AR->Prop}{s:AR}
def Tu(p1:s.heap.IsTuple a xs)(p2:s.heap.IsTuple b ys)(i1:Bx xs.toList ns)(i2:Bx ys.toList ms)(hu:A.units < DU)(h:Q (HT.lexLt ns ms) s) :
  AQ (model prog w) A (oneLt' false (.ref a) (.ref b)) Q E s:=AA (HT.lt_tupInts p1 p2 i1 i2 hu (Bi h))
end
open PySem PySem.W PyProof.Rows PySem.Calls PySem.SeqAt
def ltP (a b:List Int×Int):Bool:=if a.1=b.1 then decide (a.2 < b.2) else HT.lexLt a.1 b.1
section
variable {prog:Aj}{w:A5}{A:BG}{E:AL->AR->Prop}{s:AR}
def jq(hx:s.heap.get? x=some ox)(dx:ox.data=.seq #[.ref p,.int m t] nx)(hy:s.heap.get? y=some oy)(dy:oy.data=.seq #[.ref q,.int m' t'] ny)
  (p1:s.heap.IsTuple p xs) (p2:s.heap.IsTuple q ys) (i1:Bx xs.toList ns) (i2:Bx ys.toList ms) (he:EqAt A s (.ref p) (.ref q) (decide (ns=ms))) (hu:A.units < DU) (h:Q (ltP (ns,m) (ms,m')) s) :
  AQ (model prog w) A (JN (tuples' false) (.ref x) (.ref y)) Q E s:=by
 refine kat_lt hx dx hy dy (kat_cons (he _ _ _ _ ?_));unfold ltP at h;by_cases hn:ns=ms
 ·rw[decide_eq_true hn];rw[if_pos hn]at h;refine kat_yes (kat_cons (GU ?_));by_cases hm:m=m'
  ·subst hm;have e:(m == m)=true:=by simp
   rw[e];have e2:decide (m < m)=false:=decide_eq_false ⋯;rw[e2]at h;exact h
  ·have e:(m == m')=false:=by simpa using hm
   rw[e];exact kat_one _ _ (lt_int h)
 ·rw[decide_eq_false hn];rw[if_neg hn]at h;exact kat_no (Tu p1 p2 i1 i2 hu h)
end
section
variable {prog:Aj}{w:A5}{A:BG}{E:AL->AR->Prop}{s:AR}{vs:List AL}{κ:Cr}{lt:Nat->Nat->Bool}
def bD(ho:s.heap.get? a=some (B6 "list" vs.toArray n))(h2:vs.length < 2)
  (hP:∀ h'' tk c2,(∀ b o,b≠a->s.heap.get? b=some o->h''.get? b=some o)->h''.get? a=some (B6 "list" vs.toArray c2)->P (.done (.ret .none)) { s with heap:=h'',toks:=tk }) :
  AQ (model prog w) A (Builtin.«list.sort» ⟨[.ref a],[]⟩) P E s:=by
 obtain⟨e1,ho1⟩:∃ e1,(s.heap.update a (BM λ_=>(#[]))).get? a=some (B6 "list" #[] e1):=⟨_,FG ho λ_=>#[]⟩
 have keep:∀ b o,b≠a->s.heap.get? b=some o->(((s.heap.update a (BM λ_=>(#[]))).push (B6 "tuple" vs.toArray 0)).push (B6 "list" #[] 0)).get? b=some o:=λb o hb e =>
  AB _ (AB _ (((Bn s.heap a (BM λ_=>(#[]))).2 b hb).trans e))
 rw[Kd];refine AA (II ho rfl (AA (Fo ho rfl ?_ (by rw[Ad,BJ];lia) (As _))));refine AA (Gw ho1 rfl (AA (EK (AA (Fi (BQ ?_) (As _))) (by show vs.length<=_;rw[BJ];lia))));have hn2:vs.toArray.size < 2:=by rw[Ad];lia
 rw[if_pos hn2,if_pos hn2];have ho3:=AB (o:=B6 "list" #[] 0) (AB (o:=B6 "tuple" vs.toArray 0) ho1);generalize hh3:((s.heap.update a (BM λ_=>(#[]))).push (B6 "tuple" vs.toArray 0)).push (B6 "list" #[] 0)=h3 at keep ho3 ⊢;refine AA (AG (AA (AG ?_)));dsimp only;have hout':(Gv (HV general' (vs.toArray.zip vs.toArray) #[] 7 none)).map (·.2)=vs.toArray:=by
  apply ER.mp;rw[IJ,Array.toList_zip];exact List.map_snd_zip (AF _)
 rw[hout'];obtain⟨c2,hc2⟩:∃ c2,(h3.update a (BM λ_=>vs.toArray)).get? a=some (B6 "list" vs.toArray c2):=⟨_,FG ho3 λ_=>vs.toArray⟩
 refine AA (Gw ho3 rfl (AA (Fo ho3 rfl ?_ (As _) (by rw[ BJ];lia))));simp;exact AG (hP _ _ c2 (λb o hb e=>((Bn h3 a (BM λ_=>vs.toArray)).2 b hb).trans (keep b o hb e)) hc2)
def ABB (lt:Nat->Nat->Bool) (vs:List AL):List AL:=if vs.length < 2 then vs else xo lt vs
def RS(h64:Cn vs.length lt)
  (hcol:∀ C F,(∀ h1 tk,(∀ b o,s.heap.get? b=some o->h1.get? b=some o)->C vs { s with heap:=h1,toks:=tk })->AQ (model prog w) A.in1 (collect it) C F s)
  (hk:2<=vs.length->∀ h' tk,(∀ b o,s.heap.get? b=some o->h'.get? b=some o)->∀ C,C κ { s with heap:=h',toks:=tk }->AQ (model prog w) A.in1.in1 (Ip vs.toArray) C (λ_ _=>False) { s with heap:=h',toks:=tk })
  (hlt:∀ h',(∀ b o,s.heap.get? b=some o->h'.get? b=some o)->∀ i j,i < vs.length->j < vs.length->∀ C tk,(∀ tk',C (lt i j) { s with heap:=h',toks:=tk' })->kas_ask prog w A.in1.in1 κ vs i j C { s with heap:=h',toks:=tk })
  (hQ:∀ (h1 h'':Heap) tk c2,(∀ b o,s.heap.get? b=some o->h1.get? b=some o)->(∀ b o,h1.get? b=some o->h''.get? b=some o)->h''.get? h1.objs.size=some (B6 "list" (ABB lt vs).toArray c2)->Q (.ref h1.objs.size) { s with heap:=h'',toks:=tk }) :
  AQ (model prog w) A (call (.builtin "sorted") [it]) Q E s:=by
 have h128:=h64.1;refine GL kind_sorted LO LP (LQ _) ?_;unfold Builtin.«sorted»;refine AA (AG ?_);refine AA (hcol _ _ λh1 tk k1=>AA (Fi ?_ (by rw[BJ];lia)));have hoL:(h1.push (B6 "list" vs.toArray 0)).get? h1.objs.size=some (B6 "list" vs.toArray 0):=AK _ rfl;have k2:∀ b o,h1.get? b=some o->(h1.push (B6 "list" vs.toArray 0)).get? b=some o:=λb o q=>AB _ q
 have nb:∀ b o,h1.get? b=some o->b≠h1.objs.size:=λb o q=>Ag (AM q)
 generalize hh2:h1.push (B6 "list" vs.toArray 0)=h2 at hoL k2;refine AA (BQ (Ay Kr ⟨_,hoL,rfl⟩ KR ?body (Ks _)))
 case body =>
  by_cases hn:vs.length < 2
  ·refine bD (s:={ s with heap:=h2,toks:=tk }) hoL hn λh'' tk' c2 hkp hc=>⟨_,rfl,AG ⟨_,rfl,hQ h1 h'' tk' c2 k1 (λb o q=>hkp b o (nb b o q) (k2 b o q)) ?_⟩⟩
   unfold ABB;rw[if_pos hn];exact hc
  ·refine mD (s:={ s with heap:=h2,toks:=tk }) hoL ⋯ h64 (λh' hkp=>hk ⋯ h' tk λb o q=>hkp b o (nb _ _ (k1 b o q)) (k2 _ _ (k1 b o q))) (λh' hkp=>hlt h' λb o q=>hkp b o (nb _ _ (k1 b o q)) (k2 _ _ (k1 b o q))) λh'' tk' c2 hkp hc=>⟨_,rfl,AG ⟨_,rfl,hQ h1 h'' tk' c2 k1 (λb o q=>hkp b o (nb b o q) (k2 b o q)) ?_⟩⟩
   unfold ABB;rw[if_neg hn];exact hc
end
def xr (h:Heap) (u:AL) (ns:List Int):Prop:=∃ a xs,u=.ref a/\E9 h a xs/\Bx xs.toList ns
def TuQ (h:Heap) (u:AL) (p:List Int×Int):Prop:=∃ a q t,u=.ref a/\E9 h a #[q,.int p.2 t]/\xr h q p.1
def RF(k:∀ b o,h.get? b=some o->h'.get? b=some o)(x:E9 h a xs):E9 h' a xs:=by
 obtain⟨o,e,c,d⟩:=x;exact⟨o,k _ _ e,c,d⟩
def xr.keeps(k:∀ b o,h.get? b=some o->h'.get? b=some o)(x:xr h u ns):xr h' u ns:=by
 obtain⟨a,xs,e,i,j⟩:=x;exact⟨a,xs,e,RF k i,j⟩
theorem TuQ.keeps(k:∀ b o,h.get? b=some o->h'.get? b=some o)(x:TuQ h u p):TuQ h' u p:=by
 obtain⟨a,q,t,e,i,j⟩:=x;exact⟨a,q,t,e,RF k i,j.keeps k⟩
theorem VX:∀ {vs ns},Bx vs ns->Kt h vs (ns.map Cp) []
 | _,_,.nil=>.nil
 | _,_,.cons n t r=>ID (.int n t) (VX r)
def xr.reads(x:xr h u ns):Io h u (.tuple (ns.map Cp)) []:=by
 obtain⟨a,xs,rfl,⟨o,e,c,n,d⟩,j⟩:=x;exact .tuple e c d (VX j)
theorem Oi:∀ ns:List Int,An (ns.map Cp)=true
 | []=>by simp[An]
 | n::r=>by have:=Oi r;simp[An,Bd,this]
theorem Vx:∀ ns:List Int,Bf (ns.map Cp)=0
 | []=>by simp[Bf]
 | n::r=>by have:=Vx r;simp[Bf,DC,this]
theorem UW:∀ ns ms:List Int,B0 (ns.map Cp) (ms.map Cp)=decide (ns=ms)
 | [],[] | [],_::_ | _::_,[]=>by simp[B0]
 | n::r,m::s=>by
  have:=UW r s;simp[ B0,BF,this];by_cases h:n=m
  ·subst h;simp
  ·simp[h]
def zB(ns ms:List Int):BF (.tuple (ns.map Cp)) (.tuple (ms.map Cp))=decide (ns=ms):=by
 simp[BF,UW]
def xr.eqAt(x:xr s.heap u ns)(y:xr s.heap v ms)(hu:A.units+1 < DU):EqAt A s u v (decide (ns=ms)):=by
 have:=eqAt_reads _ _ A s u v [] [] x.reads y.reads (by simp[Bd,Oi]) (by simp[Bd,Oi]) (by simp[DC,Vx];lia);rw[zB]at this;exact this
section
variable {prog:Aj}{w:A5}{A:BG}{E:AL->AR->Prop}{s:AR}
def fX(p1:E9 s.heap a xs)(p2:E9 s.heap b ys)(i1:Bx xs.toList ns)(i2:Bx ys.toList ms)(hu:A.units < DU)(h:Q (HT.lexLt ns ms) s) :
  AQ (model prog w) A (oneLt' true (.ref a) (.ref b)) Q E s:=by
 refine AA (wpAny_cRoomFor hu ?_);obtain⟨⟨cls,dd,data,sl⟩,ho,hc,n,hd⟩:=id p1;obtain⟨⟨cls2,dd2,data2,zo⟩,ho2,hc2,n2,hd2⟩:=id p2;simp only at hc hd hc2 hd2;subst hc hd hc2 hd2;refine AA (wpAny_callSpecialIfBound?_slot ⟨_,ho,rfl⟩ EU (C5 EU ⟨_,ho,rfl⟩ GY (GK _ _) (HT.tuple_lt_ints a b xs ys n n2 dd dd2 sl zo ns ms i1 i2) ⟨ho,ho2,?_⟩));exact Bi h
def jN(p1:xr s.heap x ns)(p2:xr s.heap y ms)(hu:A.units < DU)(h:Q (HT.lexLt ns ms) s):AQ (model prog w) A (JN general' x y) Q E s:=by
 obtain⟨a,xs,rfl,q1,i1⟩:=p1;obtain⟨b,ys,rfl,q2,i2⟩:=p2;exact Tu q1 q2 i1 i2 hu h
def jE(p1:xr s.heap x ns)(p2:xr s.heap y ms)(hu:A.units < DU)(h:Q (HT.lexLt ns ms) s):AQ (model prog w) A (JN oneType' x y) Q E s:=by
 obtain⟨a,xs,rfl,q1,i1⟩:=p1;obtain⟨b,ys,rfl,q2,i2⟩:=p2;exact fX q1 q2 i1 i2 hu h
theorem Vn:∀ {vs ws ns ms} i,Bx vs ns->Bx ws ms->(∀ ns' ms',(ns'=[]\/ms'=[])->ns'.length+ms.length=ms'.length+ns.length->HT.lexLt ns' ms'=fin)->Q (HT.lexLt ns ms) s->KatLex prog w A true fin Q (vs.zip ws) i s
 | _,_,[],ms,i,.nil,iw,hf,h=>by
  refine kat_nil ?_;rw[← hf [] ms (.inl rfl) ↥1];exact h
 | _,_,ns,[],i,iv,.nil,hf,h=>by
  rw[Hl];rw[← hf ns [] (.inr rfl) ↥1];exact h
 | _,_,n::ns,m::ms,i,.cons _ t iv,.cons _ t' iw,hf,h=>by
  refine kat_cons (GU ?_);rw[HT.lexLt_cons]at h;by_cases e:n=m
  ·subst e;rw[if_pos rfl]at h;rw[show (n == n)=true from by simp];exact kat_yes (Vn (i+1) iv iw (λns' ms' c l=>hf ns' ms' c ↥2) h)
  ·rw[if_neg e]at h;rw[show (n == m)=false from by simpa using e];refine kat_no ?_;by_cases hi:i=0
   ·subst hi;exact oneLt_int h
   ·rw[show (true && i == 0)=false from by simpa using hi];exact kat_one _ _ (lt_int h)
def dN(p1:xr s.heap x ns)(p2:xr s.heap y ms)(h:Q (HT.lexLt ns ms) s):AQ (model prog w) A (JN (tuples' true) x y) Q E s:=by
 obtain⟨a,xs,rfl,⟨o,e,c,n,d⟩,i1⟩:=p1;obtain⟨b,ys,rfl,⟨o2,e2,c2,n2,d2⟩,i2⟩:=p2;refine kat_lt e d e2 d2 (Vn 0 i1 i2 (λns' ms' c l=>?_) h);have z1:xs.size=ns.length:=by rw[← i1.length];simp
 have z2:ys.size=ms.length:=by rw[← i2.length];simp
 rcases c with rfl | rfl
 ·cases ms' with
  | nil=>rw[HT.lexLt_nil_nil];exact (decide_eq_false (by simp at l;lia)).symm
  | cons y r=>rw[HT.lexLt_nil_cons];exact (decide_eq_true (by simp_all)).symm
 ·cases ns' with
  | nil=>rw[HT.lexLt_nil_nil];exact (decide_eq_false (by simp at l;lia)).symm
  | cons y r=>rw[HT.lexLt_cons_nil];exact (decide_eq_false (by simp at l;lia)).symm
def cS(p1:TuQ s.heap x p)(p2:TuQ s.heap y q)(hu:A.units+1 < DU)(h:Q (ltP p q) s):AQ (model prog w) A (JN (tuples' false) x y) Q E s:=by
 obtain⟨a,u,t,rfl,⟨o,e,c,n,d⟩,i1⟩:=p1;obtain⟨b,v,t',rfl,⟨o2,e2,c2,n2,d2⟩,i2⟩:=p2;have he:=i1.eqAt i2 hu;obtain⟨a',xs,rfl,q1,j1⟩:=i1;obtain⟨b',ys,rfl,q2,j2⟩:=i2;exact jq e d e2 d2 q1 q2 j1 j2 he ⋯ h
end
inductive vh (h:Heap):List AL->List (List Int)->Prop
 | nil:vh h [] []
 | cons {v:AL} {ns:List Int} {vs:List AL} {nss:List (List Int)}:xr h v ns->vh h vs nss->vh h (v::vs) (ns::nss)
inductive wQ (h:Heap):List AL->List (List Int×Int)->Prop
 | nil:wQ h [] []
 | cons {v:AL} {p:List Int×Int} {vs:List AL} {ps:List (List Int×Int)}:TuQ h v p->wQ h vs ps->wQ h (v::vs) (p::ps)
theorem vh.keeps(k:∀ b o,h.get? b=some o->h'.get? b=some o)(r:vh h vs nss):vh h' vs nss:=by
 induction r with
 | nil=>exact .nil
 | cons a _ ih=>exact .cons (a.keeps k) ih
theorem wQ.keeps(k:∀ b o,h.get? b=some o->h'.get? b=some o)(r:wQ h vs nss):wQ h' vs nss:=by
 induction r with
 | nil=>exact .nil
 | cons a _ ih=>exact .cons (a.keeps k) ih
theorem vh.at(r:vh h vs nss):∀ i,i < vs.length->xr h (vs.getD i CV) (nss.getD i []):=by
 induction r with
 | nil=>intro i hi;cases hi
 | cons a _ ih =>
  intro i hi;cases i with
  | zero=>exact a
  | succ i=>simpa using ih i (by simp_all)
theorem wQ.at(r:wQ h vs nss):∀ i,i < vs.length->TuQ h (vs.getD i CV) (nss.getD i ([],0)):=by
 induction r with
 | nil=>intro i hi;cases hi
 | cons a _ ih =>
  intro i hi;cases i with
  | zero=>exact a
  | succ i=>simpa using ih i (by simp_all)
theorem vh.tups(r:vh h vs nss)(hn:∀ ns∈nss,ns≠[]):∃ fs,KatTups h vs fs/\fs.length=vs.length/\∀ v∈fs,∃ n t,v=CA n t:=by
 induction r with
 | nil=>exact⟨[],trivial,rfl,λ_ hv=>nomatch hv⟩
 | cons hq r ih =>
  obtain⟨a,xs,rfl,⟨o,e,c,n,d⟩,j⟩:=hq;obtain⟨fs,k,l,f⟩:=ih λx hx=>hn x (AI _ hx)
  obtain⟨xs⟩:=xs;cases j with
  | nil=>exact absurd rfl (hn [] AH)
  | cons m t j'=>exact⟨.int m t::fs,⟨⟨a,o,_,n,rfl,e,c,d,by simp_all⟩,k⟩,by simp[l],λv hv=>(AN.mp hv).elim (λz=>⟨m,t,z⟩) (f v)⟩
theorem wQ.tups(r:wQ h vs nss):∃ fs,KatTups h vs fs/\fs.length=vs.length/\∀ v∈fs,∃ a o,v=Br a/\h.get? a=some o/\o.cls=.type "tuple":=by
 induction r with
 | nil=>exact⟨[],trivial,rfl,λ_ hv=>nomatch hv⟩
 | cons hq r ih =>
  obtain⟨a,q,t,rfl,⟨o,e,c,n,d⟩,a',xs,rfl,⟨o',e',c',_⟩,_⟩:=hq;obtain⟨fs,k,l,f⟩:=ih;exact⟨.ref a'::fs,⟨⟨a,o,_,n,rfl,e,c,d,by simp⟩,k⟩,by simp[l],λv hv=>(AN.mp hv).elim (λz=>⟨a',o',z,e',c'⟩) (f v)⟩
def AAV (nss:List (List Int)):Cr:=if (nss.all λns=>!ns.isEmpty)=true then tuples' true else if (nss.headD []).isEmpty=true then oneType' else general'
section
variable {M:Model}{A:BG}{E:AL->AR->Prop}{s:AR}
def Pf(e:s.heap.get? a=some o)(c:o.cls=.type "tuple"):Looks M s.heap (Ga (.ref a)) (.type "tuple"):=by
 rw[← c];exact (Looks.ld e).andThen .now
def l7(t:wQ s.heap vs ps)(h2:2<=vs.length)(h:Q (tuples' false) s):AQ M A (Ip vs.toArray) Q E s:=by
 obtain⟨fs,k,l,f⟩:=t.tups;refine kat_kind (T:=.type "tuple") k ⋯ (λv hv=>?_) rfl h;obtain⟨a,o,rfl,e,c⟩:=f v hv;exact Pf e c
def Fst:List (Option AL)->List (List Int)->Prop
 | [],[]=>True
 | f::fs,ns::nss=>(f.isSome=!ns.isEmpty)/\Fst fs nss
 | _,_=>False
theorem WH:∀ {vs nss},vh s.heap vs nss->∃ fs,Fst fs nss/\∀ Q,Q fs s->AQ M A (vs.mapM firstOfTuple') Q E s
 | _,_,.nil=>⟨[],trivial,λQ h=>by rw[List.mapM_nil];exact AG h⟩
 | _,_,.cons hq r=>by
  obtain⟨a,xs,rfl,⟨o,e,c,n,d⟩,j⟩:=hq;obtain⟨fs,k,f⟩:=WH r;refine⟨xs[0]?::fs,⟨?_,k⟩,λQ h=>?_⟩
  ·obtain⟨xs⟩:=xs;cases j with
   | nil | cons m t j'=>simp_all
  ·rw[List.mapM_cons];exact AA (AA ((Pf e c).here (AA (II e d (AG (AA (f _ (AG h))))))))
theorem Sr:∀ {fs nss},Fst fs nss->(fs.all λx=>x.isSome)=nss.all λns=>!ns.isEmpty
 | [],[],_=>rfl
 | _::_,_::_,h=>by rw[EC,EC,h.1,Sr h.2]
 | [],_::_,h | _::_,[],h=>h.elim
def gn(t:vh s.heap vs nss)(h2:2<=vs.length)(h:Q (AAV nss) s):AQ M A (Ip vs.toArray) Q E s:=by
 unfold AAV at h;split at h
 ·rename_i hall;obtain⟨fs,k,l,f⟩:=t.tups λns hn e=>by have:=AJ.mp hall ns hn;rw[e]at this;cases this
  refine kat_kind (T:=.type "int") k ⋯ (λv hv=>?_) rfl h;obtain⟨n,t,rfl⟩:=f v hv;exact Looks.of_pure rfl
 ·rename_i hall;rw[kat_kind_eq,IK];obtain⟨fs,k,f⟩:=WH t;refine AA (AA (f _ (AG ?_)));have e1:¬ ((fs.toArray.all λx=>x.isSome)=true):=by rw[Ib,Sr k];exact hall
  rw[if_neg e1];cases t with
  | nil=>exact absurd h2 ∅
  | @cons v1 n1 vs1 nss1 t1 t2 =>
   cases fs with
   | nil=>exact k.elim
   | cons f0 fs =>
    have hf:=k.1;rw[List.headD_cons]at h;split at h
    ·rename_i he;rw[he]at hf;have e2:¬ (((f0::fs).toArray[0]?.bind id).isSome=true):=by simp;simpa using hf
     rw[if_neg e2];have each:∀ v∈v1::vs1,Looks M s.heap (Ga v) (.type "tuple"):=λv hv=>by
      obtain⟨i,hi,rfl⟩:=CN hv;obtain⟨a,xs,e,⟨o,e',c,_⟩,_⟩:=(vh.cons t1 t2).at i hi;rw[Aw,AU hi,Option.getD_some]at e;rw[e];exact Pf e' c
     rw[oneTypeOnly'_eq,IK];refine AA (AA (AA (kas_mapM _ (λv hv Q' hq=>(each v hv).here hq) (AG ?_))));simp only[AY,List.getElem?_toArray,List.getElem?_cons_zero];refine AG (AG ?_);have e3:((C6 "tuple"::B9 (λ_=>C6 "tuple") vs1).toArray.all λx=>x == C6 "tuple")=true:=by
      simp only[Ib,EC,List.all_map,Ar,AJ];exact⟨rfl,λ_ _=>rfl⟩
     rw[e3];exact h
    ·rename_i he;have e2:((f0::fs).toArray[0]?.bind id).isSome=true:=by simp;rw[hf];simpa using he
     rw[if_pos e2];exact AG h
end
end L2
namespace D
open PySem L2 PyProof.Rows
noncomputable def tI (ns:List Int):T:=.t ((ns.map V.int).map T.a)
noncomputable def tQ (p:List Int×Int):T:=.t [tI p.1,.a (.int p.2)]
noncomputable def ltI (nss:List (List Int)) (i j:Nat):Bool:=HT.lexLt (nss.getD i []) (nss.getD j [])
noncomputable def ltQ (ps:List (List Int×Int)) (i j:Nat):Bool:=ltP (ps.getD i ([],0)) (ps.getD j ([],0))
noncomputable def sr {α:Type} (lt:Nat->Nat->Bool) (d:α) (xs:List α):List α:=if xs.length < 2 then xs else (tR lt (DR xs.length)).toList.map λi=>xs.getD i d
def az lt vs:ABB lt vs=sr lt CV vs:=rfl
def fN lt (d:α) xs:(sr lt d xs).length=xs.length:=by
 unfold sr;split
 ·rfl
 ·have:=(Mk (n:=xs.length) ⋯).run lt;rw[Af,Gx this,FY]
def fV lt (d:α) xs:∃ is:List Nat,is.Perm (AE xs.length)/\sr lt d xs=is.map λi=>xs.getD i d:=by
 unfold sr;split
 ·refine⟨AE xs.length,.refl _,C0 ↥1 λi h1 h2=>?_⟩;simp[ h1]
 ·exact⟨_,(Mk ⋯).run lt,rfl⟩
def XC{α:Type}(d:α) xs:((AE xs.length).map λi=>xs.getD i d)=xs:=by
 refine C0 ↥1 λi h1 h2=>?_
 simp[ h2]
def a8 lt (d:α) xs:(sr lt d xs).Perm xs:=by
 obtain⟨is,p,e⟩:=fV lt d xs;rw[e];have:=p.map λi=>xs.getD i d
 rw[XC]at this;exact this
section
variable {X:Cx}{pins:List (Addr×Obj)}{σ:L2.St}{H:Hp}{s:AR}
def UX(I:Inv X pins σ H s)(h:Im X.K H v (tI ns))(r:RelV v u):xr s.heap u ns:=by
 obtain⟨p,vs,rfl,h1,h2⟩:=h.inv;cases r;have:=h2.of_atoms;subst this;obtain⟨its,rv,pl,_⟩:=I.tuple h1.sq;exact⟨p,its.toArray,rfl,pl,Wn rv⟩
theorem WS(I:Inv X pins σ H s):∀ {vs us} nss,sf X.K H vs (nss.map tI)->sP vs us->vh s.heap us nss
 | vs,us,[],h,r=>by have:=h.inv0;subst this;cases r;exact .nil
 | vs,us,ns::nss,h,r=>by
  obtain⟨v,r',rfl,h1,h2⟩:=h.inv;cases r with
  | cons r1 r2=>exact .cons (UX I h1 r1) (WS I nss h2 r2)
def km(I:Inv X pins σ H s)(h:Im X.K H v (tQ p))(r:RelV v u):TuQ s.heap u p:=by
 obtain⟨a,vs,rfl,h1,h2⟩:=h.inv;cases r;obtain⟨v1,r1,rfl,i1,h3⟩:=h2.inv;obtain⟨v2,r2,rfl,i2,h4⟩:=h3.inv;have:=h4.inv0;subst this;have:=i2.inva;subst this;obtain⟨its,rv,pl,_⟩:=I.tuple h1.sq;obtain⟨w1,w2,rfl,q1,q2⟩:=vals2 rv;obtain⟨t,rfl⟩:=q2;exact⟨a,w1,t,rfl,pl,UX I i1 q1⟩
theorem SR(I:Inv X pins σ H s):∀ {vs us} ps,sf X.K H vs (ps.map tQ)->sP vs us->wQ s.heap us ps
 | vs,us,[],h,r=>by have:=h.inv0;subst this;cases r;exact .nil
 | vs,us,p::ps,h,r=>by
  obtain⟨v,r',rfl,h1,h2⟩:=h.inv;cases r with
  | cons r1 r2=>exact .cons (km I h1 r1) (SR I ps h2 r2)
theorem RH(r:sP vs us):∀ (is:List Nat),(∀ i∈is,i < vs.length)->sP (is.map λi=>vs.getD i .non) (is.map λi=>us.getD i CV)
 | [],_=>.nil
 | i::is,h=>by
  have hi:=h i AH;obtain⟨u,e,q⟩:=r.get (i:=i) (x:=vs[i]) ↥1;refine .cons ?_ (RH r is λj hj=>h j (AI _ hj));simp_all
def cV(r:sP vs us) lt:sP (sr lt .non vs) (sr lt CV us):=by
 unfold sr;rw[← r.length];split
 ·exact r
 ·refine RH r _ λi hi=>?_
  have:=((Mk ⋯).run lt).subset hi;simp_all
theorem TY{K H vs ts}(r:sf K H vs ts):∀ (is:List Nat),(∀ i∈is,i < vs.length)->sf K H (is.map λi=>vs.getD i .non) (is.map λi=>ts.getD i (.a .non))
 | [],_=>.nil
 | i::is,h=>by
  have hi':i < ts.length:=by rw[← r.len];exact (h i AH)
  obtain⟨u,e,q⟩:=r.get (i:=i) (t:=ts[i]) ↥1;refine .cons ?_ (TY r is λj hj=>h j (AI _ hj));show Im K H (vs.getD i .non) (ts.getD i (.a .non));rw[Aw,e,Aw,AU hi'];exact q
def j7{K H vs ts}(r:sf K H vs ts) lt:sf K H (sr lt .non vs) (sr lt (.a .non) ts):=by
 unfold sr;rw[← r.len];split
 ·exact r
 ·refine TY r _ λi hi=>?_
  have:=((Mk ⋯).run lt).subset hi;simp_all
end
def Srt (ts:List T) (lt:Nat->Nat->Bool):Prop:=(∃ nss,ts=nss.map tI/\lt=ltI nss)\/∃ ps,ts=ps.map tQ/\lt=ltQ ps
def gu(hr:uJ k X.A)(I:Inv X pins σ H s)(rv:sP ws its)(hi:sf X.K H ws ts)(hs:Srt ts lt)(hl:Cn ts.length lt)
  (hcol:∀ C F,(∀ h1 tk,(∀ b o,s.heap.get? b=some o->h1.get? b=some o)->C its { s with heap:=h1,toks:=tk })->AQ (model X.prog X.w) X.A.in1 (collect it) C F s)
  (q:∀ l,H l=none->Q (.ref l) (upd H l (.lst (sr lt .non ws)))):AQ (model X.prog X.w) X.A (call (.builtin "sorted") [it]) (EP X pins σ Q) X.xe s:=by
 have l2:=hi.len;have un:=hr.un;have hlc:=hl.1;rw[← l2,rv.length]at hl;have fin:∀ (h1 h'':Heap) tk c2,(∀ b o,s.heap.get? b=some o->h1.get? b=some o)->(∀ b o,h1.get? b=some o->h''.get? b=some o)->h''.get? h1.objs.size=some (B6 "list" (ABB lt its).toArray c2)->EP X pins σ Q (.ref h1.objs.size) { s with heap:=h'',toks:=tk }:=λh1 h'' tk c2 k1 k2 e=>by
  have I1:=I.kept (t':=s.toks) k1;exact⟨.ref h1.objs.size,_,I1.laid k2 (AF _) (show tG X.prog X.w _ h'' _ (.lst (sr lt .non ws)) from ⟨by rw[fN,BJ];lia,sr lt CV its,c2,cV rv lt,by rw[az]at e;simpa using e⟩),rfl,q _ (I1.hok.fresh (AF _))⟩
 rcases hs with ⟨nss,rfl,rfl⟩ | ⟨ps,rfl,rfl⟩
 ·have t:=WS I nss hi rv;refine RS hl hcol (λh2 h' tk kp C hC=>gn (t.keeps kp) h2 hC) (λh' kp i j hi hj C tk hC=>?_) fin;have a:=(t.keeps kp).at i hi;have b:=(t.keeps kp).at j hj;have hu:=by show X.A.units+1+1 < DU;lia
  unfold PySem.W.kas_ask AAV;split
  ·exact dN a b (hC tk)
  ·split
   ·exact jE a b hu (hC tk)
   ·exact jN a b hu (hC tk)
 ·have t:=SR I ps hi rv;refine RS hl hcol (λh2 h' tk kp C hC=>l7 (t.keeps kp) h2 hC) (λh' kp i j hi hj C tk hC=>?_) fin;exact cS ((t.keeps kp).at i hi) ((t.keeps kp).at j hj) (by show X.A.units+1+1+1 < DU;lia) (hC tk)
noncomputable def ACd:T->Option (List Int)
 | .t xs=>uH xs
 | _=>none
noncomputable def yM:List T->Option (List (List Int))
 | []=>some []
 | t::r=>(ACd t).bind λns=>(yM r).map λnss=>ns::nss
theorem YL(h:ACd t=some ns):t=tI ns:=by
 cases t with
 | a v | l v | f v | x u v | w v=>cases h
 | t xs=>exact congrArg T.t (PH h)
theorem Rb:∀ {ts nss},yM ts=some nss->ts=nss.map tI
 | [],_,h=>by cases h;rfl
 | t::r,_,h=>by
  obtain⟨ns,e1,h⟩:=sC h;obtain⟨nss,e2,rfl⟩:=Lb h;rw[YL e1,Rb e2];rfl
end D
namespace L2
open PySem PySem.Spec PyProof.Rows
section
variable {prog:Aj}{w:A5}{A:BG}{E:AL->AR->Prop}
def my{h:Heap}{g:Array GenState}{dr:Drawn}{tk:Nat}{os:OsState}{it d:Addr}{i ep:Nat}{es:Array Ew}{od:Obj}{Q}
  (hit:h.get? it=some { cls:=.type "dict_keyiterator",data:=.fields #[.ref d,.int i 0,.int es.size 0,.int ep 0] }) (hod:h.get? d=some od) (hdd:od.data=.dict es ep) (hi:i < es.size)
  (hQ:∀ h',h'.get? it=some { cls:=.type "dict_keyiterator",data:=.fields #[.ref d,.int ((i+1:Nat):Int) 0,.int es.size 0,.int ep 0] }->Cv it h h'->Q (some es[i].key) ⟨h',g,dr,tk,os⟩) :
  AQ (model prog w) A (E8 (.ref it)) Q E ⟨h,g,dr,tk,os⟩:=by
 obtain⟨oc,odct,odat,osl⟩:=od;subst hdd;have hT:(⟨h,g,dr,tk,os⟩:AR).TypeIs (.ref it) "dict_keyiterator":=⟨_,hit,rfl⟩
 unfold E8;refine AA (B7 (Az hT Bg (Ay Bg hT E5 ?_ (Ez _))))
 repeat (any_goals (first | assumption | wp_step))
 have e0:(if (i:Int) < 0 then none else es[(i:Int).toNat]?)=some es[i]:=by rw[if_neg ⋯,Co,Al hi]
 rw[e0]
 repeat (any_goals (first | assumption | wp_step))
 refine⟨_,rfl,AG (hQ _ ((CF _ hit rfl).trans (by kernel_rfl)) (Bn ..))⟩
def XO{h:Heap}{g:Array GenState}{dr:Drawn}{tk:Nat}{os:OsState}{it d:Addr}{ep:Nat}{es:Array Ew}{od:Obj}{Q}(hh:A.handled=none)
  (hit:h.get? it=some { cls:=.type "dict_keyiterator",data:=.fields #[.ref d,.int es.size 0,.int es.size 0,.int ep 0] }) (hod:h.get? d=some od) (hdd:od.data=.dict es ep)
  (hQ:∀ h',E3 it h h'->Q none ⟨h',g,dr,tk,os⟩) :
  AQ (model prog w) A (E8 (.ref it)) Q E ⟨h,g,dr,tk,os⟩:=by
 obtain⟨oc,odct,odat,osl⟩:=od;simp only at hdd;subst hdd;have hT:(⟨h,g,dr,tk,os⟩:AR).TypeIs (.ref it) "dict_keyiterator":=⟨_,hit,rfl⟩
 unfold E8;refine AA (B7 (Az hT Bg (Ay Bg hT E5 ?_ (Ez _))))
 repeat (any_goals (first | assumption | wp_step))
 have e0:(if (es.size:Int) < 0 then none else es[(es.size:Int).toNat]?)=none:=by rw[if_neg ⋯,Co];simp
 rw[e0]
 repeat (any_goals (first | assumption | wp_step))
 unfold raiseNew;refine AA (Hc ?_);rw[show A.in1.handled=none from hh];refine AA (AG (Ik ?_));refine AA (CJ (T:="StopIteration") (b:=true) ⟨_,AK _ rfl,rfl⟩ EM (AG ?_));exact hQ _ (((Bn ..).extBut.push _).push _)
end
open PySem PySem.Spec PyProof.Rows PySem.W
def vd (h:Heap) (d:Addr) (es:Array Ew) (ep:Nat):Prop:=∃ o,h.get? d=some o/\o.ExactDict/\o.data=.dict es ep
def vd.lt(x:vd h d es ep):d < h.objs.size:=let ⟨_,e,_⟩:=x;AM e
def vd.typeIs{s:AR}{d es ep}(x:vd s.heap d es ep):s.TypeIs (.ref d) "dict":=let ⟨o,e,c,_⟩:=x;⟨o,e,c.1⟩
def vd.keep(x:vd h d es ep)(k:∀ o,h.get? d=some o->h'.get? d=some o):vd h' d es ep:=let ⟨o,e,c⟩:=x;⟨o,k o e,c⟩
abbrev ABF (d:Addr) (i n ep:Nat):Obj:={ cls:=.type "dict_keyiterator",data:=.fields #[.ref d,.int i 0,.int n 0,.int ep 0] }
section
variable {prog:Aj}{w:A5}{A:BG}{E:AL->AR->Prop}{s:AR}{d:Addr}{es:Array Ew}{ep:Nat}
def a7(hd:(d == Bw)=false)(hm:vd s.heap d es ep)(hQ:Q (.ref s.heap.objs.size) { s with heap:=s.heap.push (ABF d 0 es.size ep) }):AQ (model prog w) A (GW (.ref d)) Q E s:=by
 have hT:=hm.typeIs;have ⟨o,ho,hc,hdat⟩:=hm;refine Jd hT Gh (Ay Gh hT PySem.F.entry_dict_iter ?_ (PySem.F.args_dict_iter_1 _));unfold Builtin.«dict.__iter__»;refine AA ?_;unfold Ke;refine AA (Ia hT ?_);refine AG ?_;show AQ _ _ (Fs d >>= _) _ _ s;unfold Fs;rw[if_neg (by rw[hd];exact AZ)];refine AA (AG ?_);refine AA (wpAny_dictEntries ho hdat (AA (wpAny_dictEpoch ho hdat ?_)));refine AA (A9 (AG ⟨_,rfl,"dict_keyiterator",_,⟨_,AK _ rfl,rfl⟩,Bg.lookup,?_⟩));exact hQ
def Yl(hh:A.handled=none) it (hne:d≠it):Walks prog w A it [it,d] [it] es.size (λi v=>∃ e,es[i]?=some e/\v=e.key) (λi h=>h.get? it=some (ABF d i es.size ep)/\vd h d es ep) where
 sub:=λb hb=>AN.mpr (.inl (AD.mp hb))
 frame:=λi h h' st k=>⟨k it AH _ st.1,st.2.keep λo e=>k d (AI _ AH) o e⟩
 item:=λi s Q E hi st hQ=>by
  obtain⟨h,g,dr,tk,os⟩:=s;obtain⟨o,ho,hc,hdat⟩:=st.2;exact my st.1 ho hdat hi λh' e1 e2=>hQ _ h' tk ⟨es[i],by simp,rfl⟩ ⟨e1,⟨o,(e2.2 d hne).trans ho,hc,hdat⟩⟩ λb o' hb e=>(e2.2 b (λz=>hb (AD.mpr z))).trans e
 done:=λs Q E st hQ=>by
  obtain⟨h,g,dr,tk,os⟩:=s;obtain⟨o,ho,hc,hdat⟩:=st.2;exact XO hh st.1 ho hdat λh' e=>hQ h' tk λb o' hb e'=>e b o' (λz=>hb (AD.mpr z)) e'
 self:=λi s Q E st hQ=>wpAny_pyIter_keyiter ⟨_,st.1,rfl,rfl⟩ hQ
def QA(lo:(d == Bw)=false):KdlSrc prog w "dict" d d es.size (λi v=>∃ e,es[i]?=some e/\v=e.key) (λh=>vd h d es ep) where
 type:=λ_ hm=>hm.typeIs
 there:=λ_ hm=>⟨hm.lt,hm.lt⟩
 keep:=λ_ _ hm hk=>hm.keep λo e=>hk d (.inl rfl) o e
 notList:=by decide
 notTuple:=by decide
 hint:=λ_ _ _ _ hm hq=>kdl_hint_dict hm.typeIs hq
 iter:=λA s hh hm=>⟨_,_,(λ_ _ hq=>a7 lo hm hq),Yl hh _ (Ag hm.lt),⟨AK _ rfl,hm.keep λo e=>AB _ e⟩⟩
end
theorem Oj{R}:∀ {xs:List α} {ys:List β},EG R xs ys->xs.length=ys.length
 | _,_,.nil=>rfl
 | _,_,.cons _ t=>by simp[Oj t]
end L2
namespace D
open PySem L2
noncomputable def uz (k:List tu):T:=.t ((k.map kV).map T.a)
def Ss(h:H b=some (.tup (k.map kV))):Im K H (.ref b) (uz k):=Im.tup h (sf.atoms _)
noncomputable def vS (kvs:List (List tu×T)):List T:=kvs.map λkv=>uz kv.1
noncomputable def AAJ (K:Fg):List V->Hp->VK->Prop:=λxs H Q=>∃ p kvs lt,xs=[.ref p]/\Rd H p (.dT kvs)/\Srt (kvs.map λkv=>uz kv.1) lt/\Cn kvs.length lt/\∀ l us,H l=none->sf K H us (kvs.map λkv=>uz kv.1)->Q (.ref l) (upd H l (.lst (sr lt .non us)))
def Y3(hr:uJ k X.A):tJ X (.builtin "sorted") (AAJ X.K):=by
 intro pins s σ H xs us Q I r h;obtain⟨p,kvs,lt,rfl,hq,hs,hl,q⟩:=h;obtain⟨u,rfl,rfl⟩:=vals1 r;obtain⟨hz,hsm,xs,hk,o',es,ep,e1,e2,e3,e4,_,_⟩:=Me I.hok hq;have hm:vd s.heap p es ep:=⟨o',e1,e2,e3⟩
 have rv:∀ xs:List (List tu×Addr×AL),sP (xs.map λx=>V.ref x.2.1) (xs.map λx=>Br x.2.1):=λxs=>by
  induction xs with
  | nil=>exact .nil
  | cons a r ih=>exact .cons rfl ih
 have hi:∀ {kvs:List (List tu×V)} {xs:List (List tu×Addr×AL)},L2.KT H kvs xs->sf X.K H (xs.map λx=>V.ref x.2.1) (kvs.map λkv=>uz kv.1):=by
  intro kvs xs h;induction h with
  | nil=>exact .nil
  | @cons a b l m h t ih=>exact .cons (Ss h.2.1) ih
 have hn:es.size=xs.length:=by rw[← Au,e4,Af]
 have hx:=(Oj hk).symm;refine gu hr I (rv xs) (hi hk) hs (by simp_all) (λC F hC=>PySem.W.kdu_collect (QA hsm) (hr.hd) hm ⋯ λh' tk acc kp ha=>?_) λl hl'=>q l _ hl' (hi hk)
 have:acc.toList=xs.map λx=>Br x.2.1:=by
  refine C0 (by rw[Au,ha.1,hn,Af]) λj h1 h2=>?_
  obtain⟨e,he,hv⟩:=ha.2 j acc[j] ↥1;rw[← Ej,e4,Ak]at he;have hjx:=by simpa using h2
  rw[AU hjx]at he;cases he;simp;exact hv
 rw[this];exact hC h' tk kp
theorem VF(h:EG (λ(a:List tu×V) b=>a.1=b.1/\Im K H a.2 b.2) l kvs):(l.map λkv=>uz kv.1)=vS kvs:=by
 induction h with
 | nil=>rfl
 | @cons a b l m h t ih=>simp only[AY,vS]at ih ⊢;rw[h.1,ih]
end D
namespace L2
open PySem PySem.W PyProof.Rows
def sZ (p:Array Nat) (i:Nat):Nat:=p.getD i 0
def Lf p i:sZ p i=(p[i]?).getD 0:=by unfold sZ;rw[Fx]
theorem NM lt {f:α->KasT β}:∀ t,tR lt (t.bind f)=tR lt (f (tR lt t))
 | .ret a=>rfl
 | .ask i j k=>NM lt (k (lt i j))
structure xP(n:Nat)(lt:Nat->Nat->Bool):Prop where
 tot:∀ i j,i < n->j < n->i≠j->lt i j=false->lt j i=true
 asy:∀ i j,i < n->j < n->lt i j=true->lt j i=false
 tr:∀ i j k,i < n->j < n->k < n->lt i j=true->lt j k=true->lt i k=true
theorem t7.size(h:t7 n p):p.size=n:=by
 have:=Gx h;simpa using this
def t7.inj(h:t7 n p)(hi:i < n)(hj:j < n)(e:sZ p i=sZ p j):i=j:=by
 have hs:=h.size;rw[Lf,Lf,Al ⋯,Al ⋯]at e;have pw:=BL.mp ((LV h).mpr DZ);have hi':i < p.toList.length:=by rw[Au];lia
 have hj':j < p.toList.length:=by rw[Au];lia
 have e':=e;rcases Nat.lt_trichotomy i j with z | z | z
 ·exact absurd e' (pw i j hi' hj' z)
 ·exact z
 ·exact absurd e'.symm (pw j i hj' hi' z)
def t7.atlt(h:t7 n p)(h0:0 < n) i:sZ p i < n:=h.lt h0 i
def N1(hk:k < p.size)(hl:l<=k) i:sZ (bubble p k (k - l)) i=if i=l then sZ p k else if l < i/\i<=k then sZ p (i - 1) else sZ p i:=by
 have e:=getElem?_bubble hk (k - l) ⋯ i;rw[show k - (k - l)=l from by lia]at e;rw[Lf,e];split
 ·rw[Lf]
 ·split
  ·rw[Lf]
  ·rw[Lf]
def Vp(hm:m<=p.size) i:sZ (kas_rev p 0 m) i=if i < m then sZ p (m - 1 - i) else sZ p i:=by
 unfold kas_rev;rw[Lf,(JB hm i)];by_cases h:i < m
 ·rw[if_pos ⟨As _,h⟩,if_pos h,BU,Lf]
 ·rw[if_neg (λz=>h z.2),if_neg h,Lf]
section
variable {n:Nat}{lt:Nat->Nat->Bool}
def zU (lt:Nat->Nat->Bool) (p:Array Nat) (k:Nat):Prop:=∀ i j,i < j->j < k->lt (sZ p i) (sZ p j)=true
def Dsc (lt:Nat->Nat->Bool) (p:Array Nat) (k:Nat):Prop:=∀ i j,i < j->j < k->lt (sZ p j) (sZ p i)=true
def zU.more(T:xP n lt)(h:t7 n p)(a:zU lt p m)(hm:1<=m)(hmn:m < n)(hc:lt (sZ p (m - 1)) (sZ p m)=true):zU lt p (m+1):=λi j hij hj=>by
 by_cases e:j=m
 ·subst e;by_cases e2:i=j - 1
  ·subst e2;exact hc
  ·exact T.tr _ _ _ (h.atlt ⋯ _) (h.atlt ⋯ _) (h.atlt ⋯ _) (a i (j - 1) ⋯ ⋯) hc
 ·exact a i j hij ⋯
def Dsc.more(T:xP n lt)(h:t7 n p)(a:Dsc lt p m)(hm:1<=m)(hmn:m < n)(hc:lt (sZ p m) (sZ p (m - 1))=true):Dsc lt p (m+1):=λi j hij hj=>by
 by_cases e:j=m
 ·subst e;by_cases e2:i=j - 1
  ·subst e2;exact hc
  ·exact T.tr _ _ _ (h.atlt ⋯ _) (h.atlt ⋯ _) (h.atlt ⋯ _) hc (a i (j - 1) ⋯ ⋯)
 ·exact a i j hij ⋯
theorem RD(T:xP n lt)(h:t7 n p):∀ f m,1<=m->m+f<=n->zU lt p m->m<=tR lt (kas_asc p f m)/\tR lt (kas_asc p f m)<=m+f/\zU lt p (tR lt (kas_asc p f m))/\(tR lt (kas_asc p f m) < m+f->lt (sZ p (tR lt (kas_asc p f m))) (sZ p (tR lt (kas_asc p f m) - 1))=true)
 | 0,m,_,_,a=>⟨AF _,AF _,a,λz=>absurd z (BE _)⟩
 | f+1,m,h1,h2,a=>by
  have e:tR lt (kas_asc p (f+1) m)=tR lt (if lt (sZ p m) (sZ p (m - 1))=true then .ret m else kas_asc p f (m+1)):=rfl;rw[e];by_cases hc:lt (sZ p m) (sZ p (m - 1))=true
  ·rw[if_pos hc];exact⟨AF _,Ba _ _,a,λ_=>hc⟩
  ·rw[if_neg hc];have hne:sZ p m≠sZ p (m - 1):=λz=>by have:=h.inj ⋯ ⋯ z;lia
   have:=T.tot _ _ (h.atlt ⋯ _) (h.atlt ⋯ _) hne (by simpa using hc);obtain⟨b1,b2,b3,b4⟩:=RD T h f (m+1) ⋯ ⋯ (a.more T h h1 ⋯ this);exact⟨by lia,by lia,b3,λz=>b4 ⋯⟩
theorem TU(T:xP n lt)(h:t7 n p):∀ f m,1<=m->m+f<=n->Dsc lt p m->∃ m',m<=m'/\m'<=m+f/\Dsc lt p m'/\tR lt (kas_desc f p m 0)=(p,m',0)
 | 0,m,_,_,a=>⟨m,AF _,AF _,a,rfl⟩
 | f+1,m,h1,h2,a=>by
  have e:tR lt (kas_desc (f+1) p m 0)=tR lt (if lt (sZ p m) (sZ p (m - 1))=true then (if 0 > 0 then kas_desc f (kas_rev p (m - (0+1)) m) (m+1) 0 else kas_desc f p (m+1) 0) else .ask (sZ p (m - 1)) (sZ p m) λd=>if d=true then .ret (p,m,0) else kas_desc f p (m+1) (0+1)):=rfl;rw[e];by_cases hc:lt (sZ p m) (sZ p (m - 1))=true
  ·rw[if_pos hc,if_neg (BE _)];obtain⟨m',b1,b2,b3,b4⟩:=TU T h f (m+1) ⋯ ⋯ (a.more T h h1 ⋯ hc);exact⟨m',by lia,by lia,b3,b4⟩
  ·rw[if_neg hc];have hne:sZ p m≠sZ p (m - 1):=λz=>by have:=h.inj ⋯ ⋯ z;lia
   have:=T.tot _ _ (h.atlt ⋯ _) (h.atlt ⋯ _) hne (by simpa using hc);refine⟨m,AF _,Ba _ _,a,?_⟩;show tR lt (if lt (sZ p (m - 1)) (sZ p m)=true then _ else _)=_;rw[if_pos this];rfl
def iJ(T:xP n lt){p}(h:t7 n p){m}(h1:1<=m)(h2:m<=n)(a:Dsc lt p m):∃ m' p',tR lt (kas_tail3 m n p)=(m',p')/\1<=m'/\m'<=n/\zU lt p' m'/\t7 n p':=by
 have hs:=h.size;have ha:zU lt (kas_rev p 0 m) m:=λi j hij hj=>by
  rw[Vp ⋯,Vp ⋯,if_pos ⋯,if_pos hj];exact a _ _ ⋯ ⋯
 obtain⟨b1,b2,b3,_⟩:=RD T (h.rev 0 m) (n - m) m h1 ⋯ ha;refine⟨_,kas_rev p 0 m,?_,by lia,by lia,b3,h.rev 0 m⟩;unfold kas_tail3;rw[NM];rfl
def aT(T:xP n lt){p}(h:t7 n p)(hn:1<=n):∃ m' p',tR lt (kas_count n p)=(m',p')/\1<=m'/\m'<=n/\zU lt p' m'/\t7 n p':=by
 obtain⟨b1,b2,b3,b4⟩:=RD T h (n - 1) 1 (AF _) ⋯ (λi j hij hj=>by lia);unfold kas_count;rw[NM];generalize tR lt (kas_asc p (n - 1) 1)=m at *;by_cases e:m=n
 ·rw[if_pos (by simpa using e)];exact⟨m,p,rfl,b1,by lia,b3,h⟩
 ·rw[if_neg (by simpa using e)];by_cases e1:m > 1
  ·rw[if_pos e1];have:=b3 0 (m - 1) ⋯ ⋯;refine⟨m,p,?_,b1,by lia,b3,h⟩;show tR lt (if lt (sZ p 0) (sZ p (m - 1))=true then _ else _)=_;rw[if_pos this];rfl
  ·rw[if_neg e1];have em:m=1:=by lia
   subst em;have hc:=b4 ⋯;unfold kas_descPart;rw[NM];obtain⟨m',c1,c2,c3,c4⟩:=TU T h (n - 2) 2 ⋯ ⋯ (λi j hij hj=>by
    have:i=0/\j=1:=by lia
    rw[this.1,this.2];exact hc)
   rw[ c4];dsimp only;exact iJ T h ⋯ ⋯ c3
theorem Q2(T:xP n lt)(h:t7 n p)(hk:k < n)(a:zU lt p k):∀ f l r,r<=k->l<=r->r - l<=f->(∀ i,i < l->lt (sZ p i) (sZ p k)=true)->(∀ i,r<=i->i < k->lt (sZ p k) (sZ p i)=true) ->
  tR lt (kas_place p k f l r)<=k/\(∀ i,i < tR lt (kas_place p k f l r)->lt (sZ p i) (sZ p k)=true)/\∀ i,tR lt (kas_place p k f l r)<=i->i < k->lt (sZ p k) (sZ p i)=true
 | 0,l,r,h1,h2,h3,h4,h5=>⟨by show l<=k;lia,h4,λi hi hik=>h5 i (by have:l<=i:=hi;lia) hik⟩
 | f+1,l,r,h1,h2,h3,h4,h5=>by
  unfold kas_place;by_cases hlr:l ≥ r
  ·rw[if_pos hlr];exact⟨by show l<=k;lia,h4,λi hi hik=>h5 i (by have:l<=i:=hi;lia) hik⟩
  ·rw[if_neg hlr];have e:tR lt (.ask (p.getD k 0) (p.getD ((l+r) / 2) 0) λc=>if c=true then kas_place p k f l ((l+r) / 2) else kas_place p k f ((l+r) / 2+1) r)=tR lt (if lt (sZ p k) (sZ p ((l+r) / 2))=true then kas_place p k f l ((l+r) / 2) else kas_place p k f ((l+r) / 2+1) r):=rfl;rw[e];have lts:=λi=>h.atlt (show 0 < n by lia) i
   by_cases hc:lt (sZ p k) (sZ p ((l+r) / 2))=true
   ·rw[if_pos hc];refine Q2 T h hk a f l ((l+r) / 2) ⋯ ⋯ ⋯ h4 λi hi hik=>?_
    by_cases ei:i=(l+r) / 2
    ·subst ei;exact hc
    ·exact T.tr _ _ _ (lts _) (lts _) (lts _) hc (a _ _ ⋯ hik)
   ·rw[if_neg hc];have hne:sZ p k≠sZ p ((l+r) / 2):=λz=>by have:=h.inj hk ⋯ z;lia
    have hc':=T.tot _ _ (lts _) (lts _) hne (by simpa using hc);refine Q2 T h hk a f ((l+r) / 2+1) r h1 ⋯ ⋯ (λi hi=>?_) h5;by_cases ei:i=(l+r) / 2
    ·subst ei;exact hc'
    ·exact T.tr _ _ _ (lts _) (lts _) (lts _) (a _ _ ⋯ ⋯) hc'
theorem Vw(T:xP n lt):∀ f k {p},t7 n p->zU lt p k->k+f=n->zU lt (tR lt (kas_bin f p k)) n
 | 0,k,p,h,a,e=>by
  rw[Nat.add_zero]at e;subst e;exact a
 | f+1,k,p,h,a,e=>by
  unfold kas_bin;rw[NM];have hk:k < n:=by lia
  obtain⟨c1,c2,c3⟩:=Q2 T h hk a k 0 k (AF _) (As _) ⋯ (λi hi=>absurd hi (Nat.not_lt_zero _)) (λi hi hik=>absurd hik (H9.mpr hi));generalize tR lt (kas_place p k k 0 k)=l at *;refine Vw T f (k+1) (h.bub k (k - l)) (λi j hij hj=>?_) ⋯;have hs:=h.size;rw[N1 ⋯ c1,N1 ⋯ c1];by_cases ei:i=l
  ·grind
  ·rw[if_neg ei];by_cases ej:j=l
   ·rw[if_pos ej,if_neg ⋯];exact c2 _ ⋯
   ·rw[if_neg ej];by_cases hi2:l < i/\i<=k
    ·rw[if_pos hi2,if_pos ⋯];exact a _ _ ⋯ ⋯
    ·rw[if_neg hi2];by_cases hj2:l < j/\j<=k
     ·rw[if_pos hj2];exact a _ _ ⋯ ⋯
     ·rw[if_neg hj2];exact a _ _ hij ⋯
def Tx(T:xP n lt)(hn:1<=n):zU lt (tR lt (kas_sort n)) n:=by
 have h0:t7 n (Dt (AE n)):=by show (Dt (AE n)).toList.Perm _;simp
 obtain⟨m,p,e,h1,h2,a,h⟩:=aT T h0 hn;unfold kas_sort;rw[NM,e];dsimp only;split
 ·rw[show max m 1=m from by lia];exact Vw T _ _ h a ⋯
 ·have:m=n:=by lia
  subst this;exact a
end
end L2
namespace D
open PySem L2
def aA{lt}{d:α}{xs}(T:xP xs.length lt) R (hR:∀ i j,i < xs.length->j < xs.length->lt i j=true->R (xs.getD i d) (xs.getD j d)):(sr lt d xs).Pairwise R:=by
 unfold sr;split
 ·rename_i h
  match xs,h with
  | [],_=>exact .nil
  | [a],_=>exact G8 _ _
  | _::_::_,h=>simp at h;lia
 ·have hp:=(Mk (n:=xs.length) ⋯).run lt;have hs:=hp.size;refine IL.mpr (BL.mpr λi j hi hj hij=>?_);have hi':=by rw[Au,hs]at hi;exact hi
  have hj':=by rw[Au,hs]at hj;exact hj
  have ei:(tR lt (DR xs.length)).toList[i]=sZ (tR lt (DR xs.length)) i:=by
   rw[Lf,Al ⋯];simp
  have ej:(tR lt (DR xs.length)).toList[j]=sZ (tR lt (DR xs.length)) j:=by
   rw[Lf,Al ⋯];simp
  rw[ei,ej];exact hR _ _ (hp.atlt ⋯ _) (hp.atlt ⋯ _) ((Tx T ⋯) i j hij hj')
noncomputable def ABq:List AL->Option (List tu)
 | []=>some []
 | .int i _::r=>(ABq r).map λks=>.inl i::ks
 | _=>none
theorem VJ:∀ {ks us},sP (ks.map kV) us->∀ {js},ABq us=some js->js=ks
 | [],_,.nil,js,e=>by cases e;rfl
 | .inl m::r,_,.cons r1 r2,js,e=>by
  obtain⟨t,rfl⟩:=r1;obtain⟨js',e1,rfl⟩:=Lb e;rw[VJ r2 e1]
 | .inr x::r,_,.cons r1 r2,js,e=>by
  obtain⟨t,rfl⟩:=r1;cases e
theorem TM:∀ {us js},ABq us=some js->∀ k∈js,∃ i,k=GJ i
 | [],_,e=>by cases e;exact λk z=>nomatch z
 | .int i _::r,_,e=>by
  obtain⟨js,e1,rfl⟩:=Lb e;intro k z;rcases AN.mp z with q | q
  ·exact⟨i,q⟩
  ·exact TM e1 k q
noncomputable def kcC (cs:List (List tu)) (o:Obj):Bool:=match o.cls with
 | .type n=>if n="tuple" then (match o.data with
  | .seq its _=>match its.toList with
   | .int i t::r=>match ABq (.int i t::r) with
    | some ks=>decide (ks.length=5) || decide (ks.length=1) || cs.any λc=>decide (c=ks)
    | none=>false
   | [.str x _]=>!(decide (x="yes") || decide (x="no")) || cs.any λc=>decide (c=[.inr x])
   | _=>true
  | _=>true) else true
 | _=>true
theorem aJ(h:(K.all λq=>kcC cs q.2)=true):KC K cs:=by
 intro p ks hk;obtain⟨o,its,n,h1,h2,h3,h4,h5,h6,h7⟩:=hk;have hm:∀ {l:Fg},l.lookup p=some o->(p,o)∈l:=by
  intro l;induction l with
  | nil=>intro e;cases e
  | cons x r ih =>
   intro e;obtain⟨a,b⟩:=x;rw[Cz]at e;split at e
   ·rename_i hb;cases e;rw[eq_of_beq hb];exact AH
   ·exact AI _ (ih e)
 have hz:=AJ.mp h _ (hm h1);simp only[kcC,h2,h4,if_true]at hz;cases ks with
 | nil=>cases h7
 | cons k r =>
  cases k with
  | inr x =>
   cases r with
   | cons _ _=>cases h7
   | nil =>
    generalize its.toList=L at h6 hz;cases h6 with
    | cons r1 r2 =>
     obtain⟨t,rfl⟩:=r1;cases r2;have h8:(decide (x="yes") || decide (x="no"))=true:=h7;dsimp only at hz;rw[h8]at hz;obtain⟨c,hc,e2⟩:=B3.mp hz;rw[← of_decide_eq_true e2];exact hc
  | inl m =>
   generalize its.toList=L at h6 hz;cases h6 with
   | cons r1 r2 =>
    obtain⟨t,rfl⟩:=r1;dsimp only at hz;split at hz
    ·rename_i ks' e;have ei:=TM e;have:=VJ (ks:=.inl m::r) (.cons ⟨t,rfl⟩ r2) e;subst this;rw[Cc,Cc]at hz;rcases hz with (hz | hz) | hz
     ·have hl:=by simpa using hz
      match r,hl with
      | [k1,k2,k3,k4],_ =>
       obtain⟨i1,rfl⟩:=ei k1 ↥1;obtain⟨i2,rfl⟩:=ei k2 ↥1;obtain⟨i3,rfl⟩:=ei k3 ↥1;obtain⟨i4,rfl⟩:=ei k4 ↥1;cases h7
     ·have hl:=by simpa using hz
      subst hl;cases h7
     ·obtain⟨c,hc,e2⟩:=B3.mp hz;rw[← of_decide_eq_true e2];exact hc
    ·cases hz
end D
namespace D
open PySem L2
example (P:Aj) (w:A5):(si P w).hash (.inl 1)=1/\(si P w).hash (.inl 2)=2:=⟨by rfl,by rfl⟩
end D
namespace L2
open PySem PySem.Spec PyProof.Rows
def dF(a b x:Int):(FN a b 1 x).isSome=(decide (a<=x) && decide (x < b)):=by
 unfold FN;simp only[show ((1:Int) > 0)=True from by simp,if_true,Int.emod_one];cases h1:decide (a<=x) <;> cases h2:decide (x < b) <;> simp
open PySem PySem.Spec PyProof.Rows PySem.W
structure Kds(prog:Aj)(w:A5)(T:String)(r d:Addr)(n:Nat)(P:Nat->AL->Prop)(St:Nat->Heap->Prop):Prop where
 type:∀ s:AR,St 0 s.heap->s.TypeIs (.ref r) T
 there:∀ h:Heap,St 0 h->r < h.objs.size/\d < h.objs.size
 notList:(C6 T == C6 "list")=false
 notTuple:(C6 T == C6 "tuple")=false
 hint:∀ (A:BG) (E:AL->AR->Prop) (s:AR) (Q:Bool->AR->Prop),St 0 s.heap->(∀ b tk,Q b { s with toks:=tk })->AQ (model prog w) A (DW (.ref r)) Q E s
 iter:∀ (A:BG) (E:AL->AR->Prop) (s:AR) (Q:AL->AR->Prop),St 0 s.heap->Q (.ref r) s->AQ (model prog w) A (GW (.ref r)) Q E s
 walks:∀ (A:BG),A.handled=none->Walks prog w A r [r,d] [r] n P St
section
variable {prog:Aj}{w:A5}{A:BG}{E:AL->AR->Prop}{s:AR}{T:String}{r d:Addr}{n:Nat}{P:Nat->AL->Prop}{St:Nat->Heap->Prop}
def bN(K:Kds prog w T r d n P St)(hh:A.handled=none)(hok:St 0 s.heap) S (hSr:S≠r) (hSd:S≠d) res c₀ (hS:s.heap.get? S=some { cls:=.type "list",data:=.seq #[] c₀ })
  (hR:∀ h' tk acc' c',(∀ b o,b≠S->b≠r->s.heap.get? b=some o->h'.get? b=some o)->h'.get? S=some { cls:=.type "list",dict:=none,data:=.seq acc' c',slots:=#[] }->Dp P acc' n->R (.ok (.ret res)) { s with heap:=h',toks:=tk }) (hn:n<=AC) :
  AQ (model prog w) A.in1 (Kh (.ref S) (.ref r) res)
   (λfin s'=>match fin with | .done f=>R (.ok f) s' | .again c'=>c'.quiet=true/\D7 (model prog w) A c' R s') (λe s'=>R (.error e) s') s:=by
 have hSf:S∉[r,d]:=by simp;exact⟨hSr,hSd⟩
 have W:=K.walks A.in1 hh;have key:∀ h c₁ tk,St 0 h->(∀ b o,b≠S->b≠r->s.heap.get? b=some o->h.get? b=some o) ->
   h.get? S=some { cls:=.type "list",data:=.seq #[] c₁ }->D7 (model prog w) A (.builtin "list.extend.loop" ⟨[.ref S,.ref r,res],[]⟩) R { s with heap:=h,toks:=tk }:=by
  intro h c₁ tk hst hk hS₁;refine codeAny_extend_loopS W.toS hn S hSf res n 0 _ #[] c₁ rfl (As _) hst hS₁ (ItemsOf.nil _) λs' acc' c' hm hS' hacc=>?_
  rw[Moved.eq_with hm];refine hR s'.heap s'.toks acc' c' (λb o hb hb2 e=>hm.heap b o (λhmem=>?_) (hk b o hb hb2 e)) hS' hacc;rcases AN.mp hmem with e' | hmem
  ·exact hb e'
  ·exact hb2 (AD.mp hmem)
 refine AA (C8 (K.type s hok) ?_);have h1:FZ (.ref S) (.ref r)=false:=by simp[FZ,hSr]
 simp[h1,K.notList,K.notTuple];refine AA (K.iter _ _ _ _ hok ?_);refine AA (BQ (K.hint _ _ _ _ hok λb tk=>G9 (λ_=>AA (CS (AA ?_))) (λ_=>AG ⟨Dq Fy _,key _ c₀ _ hok (λb o _ _ e=>e) hS⟩)));refine AA (HA hS rfl ?_);have hS₂:=CF (BM (·.push CV)) hS rfl;refine HA hS₂ rfl (AG ⟨Dq Fy _,key _ _ _ ?_ (λb o hb _ e=>?_) (CF (BM (·.pop)) hS₂ rfl)⟩)
 ·refine W.frame 0 _ _ hok λb hb o e=>?_
  have hbS:b≠S:=λh=>hSf (h ▸ hb)
  exact (Bs _ _ (Ax hbS)).trans ((Bs _ _ (Ax hbS)).trans e)
 ·exact (Bs _ _ (Ax hb)).trans ((Bs _ _ (Ax hb)).trans e)
def jm(K:Kds prog w T r d n P St)(hh:A.handled=none)(hok:St 0 s.heap) S (hSr:S≠r) (hSd:S≠d) (hS:s.heap.get? S=some { cls:=.type "list",data:=.seq #[] })
  (hR:∀ h' tk acc' c',(∀ b o,b≠S->b≠r->s.heap.get? b=some o->h'.get? b=some o)->h'.get? S=some { cls:=.type "list",dict:=none,data:=.seq acc' c',slots:=#[] }->Dp P acc' n->R (.ok (.ret .none)) { s with heap:=h',toks:=tk }) (hn:n<=AC) :
  AQ (model prog w) A.in1 (Builtin.«list.__init__» ⟨[.ref S,.ref r],[]⟩)
   (λfin s'=>match fin with | .done f=>R (.ok f) s' | .again c'=>c'.quiet=true/\D7 (model prog w) A c' R s') (λe s'=>R (.error e) s') s:=by
 refine AA (AA (Bm hS rfl (AG (AA (HA hS rfl ?_)))));have oth:∀ b o,b≠S->s.heap.get? b=some o->(s.heap.update S (BM (λ_=>(#[])))).get? b=some o:=
  λb o hb e=>(Bs _ _ (Ax hb)).trans e
 refine bN K hh ((K.walks A hh).frame 0 _ _ hok λb hb o e=>oth b o (λz=>by
  subst z;simp at hb;rcases hb with q | q
  ·exact hSr q
  ·exact hSd q) e) S hSr hSd .none _ (CF (BM (λ_=>(#[]))) hS rfl) (λh' tk acc' c' hk hS' hacc=>?_) hn
 exact hR h' tk acc' c' (λb o hb hb2 e=>hk b o hb hb2 (oth b o hb e)) hS' hacc
def Va(K:Kds prog w T r d n P St)(hh:A.handled=none)(hok:St 0 s.heap)(hn:n<=AC)
  (hQ:∀ h' tk acc' c',(∀ b o,b≠r->s.heap.get? b=some o->h'.get? b=some o)->h'.get? s.heap.objs.size=some { cls:=.type "list",dict:=none,data:=.seq acc' c',slots:=#[] }->Dp P acc' n->Q (.ref s.heap.objs.size) { s with heap:=h',toks:=tk }) :
  AQ (model prog w) A (call (.type "list") [.ref r]) Q E s:=by
 refine HP (Q₁:=λobj s₁=>obj=.ref s.heap.objs.size/\s₁={ s with heap:=s.heap.push { cls:=.type "list",data:=.seq #[] } }) PySem.F.called_list (PySem.F.typeCall_list_1 _) PySem.F.entry_list_init
  (code_list_new _ ⟨rfl,rfl⟩) λobj s₁ h₁=>?_
 obtain⟨rfl,rfl⟩:=h₁;have hS:(s.heap.push { cls:=.type "list",data:=.seq #[] }).get? s.heap.objs.size=some { cls:=.type "list",data:=.seq #[] }:=AK _ rfl;have hlt:=K.there _ hok;refine⟨⟨_,hS,rfl⟩,PySem.F.args_list_init_2 _ _,jm (A:=A.in1) K hh ((K.walks A hh).frame 0 _ _ hok λb _ o e=>AB _ e) _ (Bk hlt.1) (Bk hlt.2) hS (λh' tk acc' c' hk hS' hacc=>?_) hn⟩;exact⟨rfl,hQ h' tk acc' c' (λb o hb e=>hk b o (Ag (AM e)) hb (AB _ e)) hS' hacc⟩
end
section
variable {prog:Aj}{w:A5}{A:BG}{E:AL->AR->Prop}{s:AR}
def Xa(hT:s.TypeIs (.ref r) "list_reverseiterator")(h:Q false s):AQ (model prog w) A (DW (.ref r)) Q E s:=by
 refine AA (CL (r:=none) hT (by rw[FE];kernel_rfl) ?_)
 wp_delta
 refine AA (CL (r:=some (.builtin "list_reverseiterator.__length_hint__")) hT rfl ?_);generalize hid:("list_reverseiterator.__length_hint__")=id0
 wp_delta
 rw[show splitId id0=some ("list_reverseiterator","__length_hint__") from by subst hid;decide +kernel];subst hid;refine AA (CJ (b:=true) hT rfl ?_);refine G9 (λhab=>absurd hab ∅) (λ_=>?_);exact AG h
def Si:Slot "reversed" "__length_hint__" "reversed.__length_hint__" :=
 .of (owner:="reversed") (n:="__length_hint__") rfl rfl rfl rfl
  (by first | exact .inl rfl | exact .inr rfl) rfl
def gG:HL table "reversed.__length_hint__"=some Builtin.«reversed.__length_hint__»:=Gf rfl
def mz a:IF "reversed.__length_hint__" ⟨[a],[]⟩:=by
 unfold IF;rw[Hf (n:=['_','_','t','n','i','h','_','h','t','g','n','e','l','_','_']) rfl Pd];kernel_rfl
def lO{r l:Addr}{i:Nat}{xs:Array AL}{Q}(he:zh s.heap r l ((i:Int) - 1))(hl:s.heap.IsTuple l xs)(hz:xs.size<=AC)(hi:i<=xs.size)(h:∀ b tk,Q b { s with toks:=tk }):AQ (model prog w) A (DW (.ref r)) Q E s:=by
 have hT:s.TypeIs (.ref r) "reversed":=⟨_,he,rfl⟩
 refine AA (CL (r:=none) hT rfl ?_)
 wp_delta
 refine AA (CL hT rfl ?_);generalize hid:("reversed.__length_hint__":String)=id0
 wp_delta
 subst hid;refine AA (CJ (b:=true) hT rfl ?_);refine AA (CS ?_);refine AA (B8 (Si.bind _) ?_);refine AA (B7 (Ay Si hT gG ?_ (mz _)));refine AA (B8 rfl ?_);refine AA (Ap he rfl (x:=.ref l) rfl ?_);have h62:(AC:Int) < 2 ^ 62:=by decide
 refine AA (Ju hl (by have:=hz;rw[BJ]at this;lia) ?_);refine AA (B8 rfl ?_);refine AA (Ap he rfl rfl ?_);refine G9 (λhab=>?_) (λ_=>?_)
 ·exact absurd hab ⋯
 ·refine AA (Gr ?_);refine AG ⟨_,rfl,?_⟩;refine AA (B8 rfl ?_)
  try dsimp only
  have e1:(i:Int) - 1+1=i:=by lia
  rw[e1];have e2:FO (i:Int)=true:=by
   unfold FO;rw[Ar];exact⟨decide_eq_true ⋯,decide_eq_true ⋯⟩
  have e3:Cm (i:Int).toNat=false:=by
   exact decide_eq_false (by rw[Co];lia)
  rw[if_neg (by rw[e2];decide),if_neg ⋯,if_neg (by rw[e3];decide)];exact AG (h _ _)
end
section
variable {prog:Aj}{w:A5}{r l:Addr}
def ml(hne:l≠r) items:Kds prog w "list_reverseiterator" r l items.size (λi v=>items[items.size - 1 - i]?=some v) (λi h=>i<=items.size/\h.IsRevIter r l ((items.size:Int) - 1 - i)/\h.IsList l items) where
 type:=λs st=>st.2.1.typeIs
 there:=λh st=>by
  obtain⟨_,⟨o,e,_⟩,⟨o2,e2,_⟩⟩:=st;exact⟨AM e,AM e2⟩
 notList:=by decide
 notTuple:=by decide
 hint:=λA E s Q st h=>Xa st.2.1.typeIs (h false s.toks)
 iter:=λA E s Q st h=>FU st.2.1 h
 walks:=λA hh=>Walks.listRev hh r l hne items
def bF(hne:l≠r) items (hz:items.size<=AC):Kds prog w "reversed" r l items.size (λi v=>items[items.size - 1 - i]?=some v) (λi h=>i<=items.size/\zh h r l ((items.size:Int) - 1 - i)/\h.IsTuple l items) where
 type:=λs st=>⟨_,st.2.1,rfl⟩
 there:=λh st=>by
  obtain⟨_,e,⟨o2,e2,_⟩⟩:=st;exact⟨AM e,AM e2⟩
 notList:=by decide
 notTuple:=by decide
 hint:=λA E s Q st h=>by
  have:=st.2.1;simp at this;exact lO this st.2.2 hz (AF _) h
 iter:=λA E s Q st h=>Wk st.2.1 h
 walks:=λA hh=>{
  sub:=λb hb=>by simp at hb;simp[hb]
  frame:=λi h h' x hk=>⟨x.1,hk r ↥1 _ x.2.1,by
   obtain⟨o,e,q⟩:=x.2.2;exact⟨o,hk l ↥1 _ e,q⟩⟩
  item:=λi s Q E hi x hQ=>by
   have e:(items.size) - 1 - i=((items.size - 1 - i:Nat):Int):=by lia
   have hit:=x.2.1;rw[e]at hit;have hx:items[items.size - 1 - i]?=some (items[items.size - 1 - i]'⋯):=Al ⋯;refine Xh hit x.2.2 hz hx λh' tk hit' hs'=>?_
   have e2:(items.size - 1 - i:Nat) - 1=(items.size) - 1 - ((i+1):Int):=by lia
   rw[e2]at hit';refine hQ _ h' tk hx ⟨hi,hit',?_⟩ λb o hb eo=>hs'.extBut b o (λh=>hb (by simp[h])) eo
   obtain⟨o,eo,q⟩:=x.2.2;exact⟨o,(hs'.2 l hne).trans eo,q⟩
  done:=λs Q E x hQ=>by
   have e:(items.size:Int) - 1 - (items.size)=-1:=by lia
   have hit:=x.2.1;rw[e]at hit;exact kH hh hit λh' he'=>hQ h' s.toks λb o hb eo=>he' b o (λh=>hb (by simp[h])) eo
  self:=λ_ _ _ _ x hQ=>Wk x.2.1 hQ }
end
def Vu{items:List AL}{acc}(h:Dp (λi v=>items.toArray[items.toArray.size - 1 - i]?=some v) acc items.toArray.size):acc.toList=items.reverse:=by
 have h1:=by have:=h.1;simpa using this
 refine IM λi=>?_
 rcases Bt i items.length with hi | hi
 ·have hi':i < acc.size:=by lia
  have:=h.2 i acc[i] ↥1;rw[Ep hi];simp at this;rw[this];simp
 ·simp_all
theorem sP.rev:∀ {xs us},sP xs us->sP xs.reverse us.reverse
 | _,_,.nil=>.nil
 | _,_,.cons r t=>by
  simp;exact (sP.rev t).append (.cons r .nil)
section
variable {X:Cx}
def AAN (K:Ae) (ta:TA):TE:=λσ H Q=>ta σ H λvs H1=>∃ (a:Addr) (xs:List V),vs=[.ref a]/\(uL K H1 a xs\/vH K H1 a xs)/\∀ l,H1 l=none->Q (.ref l) (upd H1 l (.lst xs.reverse))
def aY(hr:X.A.handled=none)(hg0:Gl X "list")(hm0:X.mg "list"=none)(hg1:Gl X "reversed")(hm1:X.mg "reversed"=none)(ha:PA X [e1] ta)
  (hs:AV [e1] X.env=[(false,eval e1 X.env)]:=by rfl)
  (hs3:AV [.Call (.Name "reversed" p1) [e1] [] pos1] X.env=[(false,eval (.Call (.Name "reversed" p1) [e1] [] pos1) X.env)]:=by rfl) :
  PE X (.Call (.Name "list" p0) [.Call (.Name "reversed" p1) [e1] [] pos1] [] pos0) (AAN X.K ta):=by
 intro pins s σ H Q I h;refine Hj (MK I hg0 hm0 Fk (A7 ?_ hs3 rfl));refine Dv (Hj (MK I hg1 hm1 LI (A7 (tE (ha pos1 pins s σ H _ I h) λus s1 ⟨vs,H1,I1,r1,q1⟩=>?_) (by rw[hs];rfl) (by rfl))));obtain⟨a,xs,rfl,hq,q⟩:=q1;obtain⟨u1,rfl,r⟩:=r1.one;cases r;have fin:∀ (s2:AR) its h' tk acc c,s2.heap.objs.size=s1.heap.objs.size+1->s2={ s1 with heap:=s2.heap,toks:=s2.toks }->(∀ b o,s1.heap.get? b=some o->s2.heap.get? b=some o)->sP xs its->xs.length<=AC ->
   (∀ b o,b≠s1.heap.objs.size->s2.heap.get? b=some o->h'.get? b=some o)->h'.get? s2.heap.objs.size=some { cls:=.type "list",dict:=none,data:=.seq acc c,slots:=#[] }->acc.toList=its.reverse ->
   EP X pins σ Q (.ref s2.heap.objs.size) { s2 with heap:=h',toks:=tk }:=λs2 its h' tk acc c hz he k12 rv hl kp hS ea=>by
  have kk:=λb o e=>kp b o (Ag (AM e)) (k12 b o e)
  have hf:H1 s2.heap.objs.size=none:=I1.hok.fresh ⋯;refine⟨.ref s2.heap.objs.size,upd H1 s2.heap.objs.size (.lst xs.reverse),?_,rfl,q _ hf⟩;rw[he];refine I1.laid kk (by show s1.heap.objs.size<=s2.heap.objs.size;lia) ⟨by simpa using hl,its.reverse,c,rv.rev,?_⟩;rw[← ea];exact hS
 rcases hq with h1 | h1
 ·obtain⟨its,rv,pl,z⟩:=I1.list h1;have l1:=rv.length;have hlist:=pl.isList;have lt1:a < s1.heap.objs.size:=by obtain⟨o,e,_⟩:=hlist;exact AM e
  refine JO hlist (DJ ?_);refine Va (ml (Ag lt1) its.toArray) hr ⟨As _,⟨_,AK _ rfl,rfl,by simp[revObj]⟩,hlist.at λo e=>AB _ e⟩ (by rw[Ad];lia) λh' tk acc c kp hS hacc=>?_
  exact fin { s1 with heap:=s1.heap.push (revObj a ((its.toArray.size) - 1)) } its h' tk acc c (BW _ _) rfl (λb o e=>AB _ e) rv ⋯ kp hS (Vu hacc)
 ·obtain⟨its,rv,pl,z⟩:=I1.tuple h1;have l1:=rv.length;have htup:=pl;have lt1:a < s1.heap.objs.size:=by obtain⟨o,e,_⟩:=htup;exact AM e
  refine GF g8 ∅ (F.typeCall_reversed_1 _) (F.newCall_reversed_1 _) (λobj=>FK obj _) F.entry_reversed_new (Zg a its.toArray (by rw[Ad];lia)) ⟨htup,?_⟩;have g:=AK s1.heap (o:={ cls:=.type "reversed",data:=.fields #[.ref a,Dy ((its.toArray.size) - 1)] }) rfl;refine⟨⟨_,g,rfl⟩,DJ (Va (bF (Ag lt1) its.toArray (by rw[Ad];lia)) hr ⟨As _,by simpa using g,by
   obtain⟨o,e,q⟩:=htup;exact⟨o,AB _ e,q⟩⟩ (by rw[Ad];lia) λh' tk acc c kp hS hacc=>?_)⟩
  exact fin _ its h' tk acc c (BW _ _) rfl (λb o e=>AB _ e) rv ⋯ kp hS (Vu hacc)
end
end L2
namespace D
open PySem L2
noncomputable def xZ (fa:DA):DE:=λΓ=>(fa Γ).bind λp=>match p.1 with
 | [a]=>(vP p.2 a).map λxs=>(.l xs.reverse,p.2)
 | _=>none
def Zd(ha:ui K ta fa):sW K (AAN K ta) (xZ fa):=by
 intro C w Γ σ H s Γ' Q R e k;obtain⟨⟨as,G1⟩,e1,e⟩:=sC e;dsimp only at e;split at e
 ·obtain⟨xs,e2,e⟩:=Lb e;cases e;refine ha C w Γ σ H _ _ _ R e1 λvs H1 R1 ev1 o1 n1=>?_
  obtain⟨v,rfl,o2⟩:=tK o1;obtain⟨p,us,rfl,h1,i1⟩:=OL R1 o2 e2;exact⟨p,us,rfl,h1,λl hl=>k _ _ (R1.new hl) (ev1.trans (tP.new hl)) (R1.newl hl i1.rev) ⟨l,rfl,Mr ev1 R1.lst hl⟩⟩
 ·cases e
section
variable {ι:Type}{K:Fg}{X:ι->Cx}{mg:Str->Option AL}{k:Nat}{a:Expr}{da:DA}{Γ:En}
def XW(M:Fm K mg k X)(hm0:mg "list"=none)(hm1:mg "reversed"=none)(ha:AX K X [a] da)(hg0:∀ j,Gl (X j) "list":=by intro _;rfl)(hg1:∀ j,Gl (X j) "reversed":=by intro _;rfl)
  (hs:∀ j,AV [a] (X j).env=[(false,eval a (X j).env)]:=by intro _;rfl)
  (hs3:∀ j,AV [.Call (.Name "reversed" p1) [a] [] pos1] (X j).env=[(false,eval (.Call (.Name "reversed" p1) [a] [] pos1) (X j).env)]:=by intro _;rfl) :
  EX K X (.Call (.Name "list" p0) [.Call (.Name "reversed" p1) [a] [] pos1] [] pos0) (xZ da):=
 let ⟨t,q,u⟩:=ha;⟨AAN K t,λj=>by have:=aY (p0:=p0) (pos0:=pos0) (M.room j).hd (hg0 j) (by rw[M.mg];exact hm0) (hg1 j) (by rw[M.mg];exact hm1) (q j) (hs j) (hs3 j);rw[M.K j]at this;exact this,Zd u⟩
@[simp] theorem pM:xZ da Γ=(da Γ).bind λp=>match p.1 with
 | [a]=>(vP p.2 a).map λxs=>(.l xs.reverse,p.2)
 | _=>none:=(rfl)
end
end D
namespace L2
open PySem PySem.Spec PyProof.Rows
def Itw (K:Ae) (a1:Addr) (n:Nat):It:=
 ⟨λi H=>∃ xs x,uL K H a1 xs/\xs.length=n/\i < n/\xs[n - 1 - i]?=some x,
  λi H v H'=>H'=H/\∀ xs,uL K H a1 xs->xs[n - 1 - i]?=some v,
  λi H=>i=n⟩
def mB{K tg e a1} n (hle:a1≠e) :
  zf P w K tg (Itw K a1 n) [e] e (λi h=>h.IsRevIter e a1 (n - 1 - i)) where
 mem:=by simp
 obj:=λi h st b hb=>by
  have q:=by simpa using hb
  subst q;obtain⟨o,e,c,d⟩:=st;exact⟨o,e,λv z=>by rw[d]at z;cases z⟩
 keep:=λi h h' st k=>st.at λo q=>k e ↥1 o q
 item:=by
  intro X hP hw hK hc i pins s σ H E I hf st hg;subst hP hw hK;obtain⟨xs,x,h1,hn,hi,hx⟩:=hg;obtain⟨its1,v1,o1,z1⟩:=I.list h1;obtain⟨u1,e1,r1⟩:=v1.get hx;have ei:n - 1 - i=((n - 1 - i:Nat):Int):=by lia
  have st':s.heap.IsRevIter e a1 (n - 1 - i:Nat):=by rw[← ei];exact st
  obtain⟨f0,f1,f2,f3,f4,f5⟩:=hf e ↥1;refine wpAny_pyNext_rev_item st' o1.isList (by simpa using e1) λh' he sb=>?_
  have he':h'.IsRevIter e a1 (n - 1 - (i+1:Nat)):=by
   have:n - 1 - (i+1:Nat)=((n - 1 - i:Nat):Int) - 1:=by lia
   rw[this];exact he
  obtain⟨o,q1,q2,q3⟩:=id he';exact⟨u1,rfl,O5 q1 q2 q3 ∅ ⟨x,H,(I.turned (λb o hb q=>(sb.2 b hb).trans q) f0 f1 f3 f4 f5),r1,⟨rfl,λys hy=>by rw[I.list_inj hy h1];exact hx⟩,he',λb hb=>(hf b hb).1⟩⟩
 done:=by
  intro X hP hw hK hc i pins s σ H E I hf st hg;subst hg;obtain⟨f0,f1,f2,f3,f4,f5⟩:=hf e ↥1;have st':s.heap.IsRevIter e a1 (-1):=by
   have:i - 1 - (i:Int)=-1:=by lia
   rw[← this];exact st
  exact wpAny_pyNext_rev_end (I.ok.hd hc) st' λh' eb=>⟨rfl,I.turned (eb) f0 f1 f3 f4 f5⟩
 self:=λ_ _ _ _ _ st h=>FU st h
section
variable {X:Cx}{tg:Expr}
def AAU (K:Ae) (ta:TA):TI:=λσ H R=>ta σ H λvs H1=>∃ (a1:Addr) (xs:List V),vs=[.ref a1]/\uL K H1 a1 xs/\R (Itw K a1 xs.length) H1
def jF{p pos}(hg:Gl X "reversed")(hm:X.mg "reversed"=none)(ha:PA X [e1] ta)(hs:AV [e1] X.env=[(false,eval e1 X.env)]:=by rfl) :
  PI X tg (.Call (.Name "reversed" p) [e1] [] pos) (AAU X.K ta):=by
 intro pins s σ H R I h;refine Hj (MK I hg hm LI (A7 (tE (ha pos pins s σ H _ I h) λus s1 ⟨vs,H1,I1,r1,q1⟩=>?_) ‹_› (by rfl)));obtain⟨a1,xs,rfl,h1,q⟩:=q1;obtain⟨u1,rfl,rfl⟩:=r1.one;obtain⟨its1,v1,o1,z1⟩:=I1.list h1;have l1:=v1.length;have hlist:=o1.isList;have lt1:a1 < s1.heap.objs.size:=by obtain⟨o,e,_⟩:=hlist;exact AM e
 refine JO hlist ?_;have st':(s1.heap.push (revObj a1 ((its1.toArray.size) - 1))).IsRevIter s1.heap.objs.size a1 ((xs.length) - 1 - (0:Nat)):=by
  have:((xs.length) - 1 - (0:Nat))=(its1.toArray.size:Int) - 1:=by rw[Ad];lia
  rw[this];exact⟨_,AK _ rfl,rfl,rfl⟩
 refine FU st' ⟨_,_,_,_,H1,rfl,I1.kept λb o e=>AB _ e,mB xs.length (Ag lt1),st',λc hc=>?_,q⟩;have e:=by simpa using hc
 subst e;exact I1.fpOk (AF _) (I1.hok.fresh (AF _))
end
end L2
namespace D
open PySem L2
noncomputable def x5 (fa:DA):DI:=λΓ=>(fa Γ).bind λp=>match p.1 with
 | [a]=>(s9 p.2 a).bind λxs=>gd xs.length ((xs.reverse,xJ p.2 a),p.2)
 | _=>none
section
variable {K:Fg}
def b9(ha:ui K ta fa):yJ K (AAU K ta) (x5 fa):=by
 intro C w Γ σ H its src Γ' R Rp e k;obtain⟨⟨as,G1⟩,e1,e⟩:=sC e;dsimp only at e;split at e
 ·obtain⟨xs,e2,e⟩:=sC e;obtain⟨hz,e⟩:=ML e;cases e;refine ha C w Γ σ H _ _ _ Rp e1 λvs H1 R1 ev1 o1 n1=>?_
  obtain⟨v,rfl,o2⟩:=tK o1;obtain⟨p,us,rfl,h1,i1,st⟩:=QN R1 o2 e2;refine⟨p,us,rfl,h1,k _ H1 R1 ev1 ⟨by simpa using hz,λL' hs av H2 ev=>?_⟩⟩;have hL:LL L' H1:=λq hq=>R1.lst q (hs q hq)
  have h2:=st L' hs av H2 ev;have i2:=i1.evo ev hL;have l2:=i2.len;refine⟨λi t e=>?_,by show _=_;simp[l2]⟩;have hi:=by simpa using (Ac.mp e).1
  rw[Ep hi]at e;obtain⟨v,e3,hv⟩:=i2.get e;refine⟨⟨us,v,h2,rfl,by lia,by rw[l2];exact e3⟩,λx H3 y=>?_⟩;obtain⟨rfl,k1⟩:=y;have q1:=k1 us h2;rw[l2,e3]at q1;cases q1;exact⟨λb o e=>e,hv⟩
 ·cases e
end
section
variable {ι:Type}{K:Fg}{X:ι->Cx}{mg:Str->Option AL}{k:Nat}{a:Expr}{da:DA}{p pos:Pos}{Γ:En}
def YW(M:Fm K mg k X)(hm:mg "reversed"=none)(ha:AX K X [a] da)(hg:∀ j,Gl (X j) "reversed":=by intro _;rfl)(hs:∀ j,AV [a] (X j).env=[(false,eval a (X j).env)]:=by intro _;rfl) :
  IX K X tg (.Call (.Name "reversed" p) [a] [] pos) (x5 da):=
 let ⟨t,q,u⟩:=ha;⟨AAU K t,λj=>by have:=jF (tg:=tg) (p:=p) (pos:=pos) (hg j) (by rw[M.mg];exact hm) (q j) (hs j);rw[M.K j]at this;exact this,b9 u⟩
@[simp] theorem og:x5 da Γ=(da Γ).bind λp=>match p.1 with
 | [a]=>(s9 p.2 a).bind λxs=>gd xs.length ((xs.reverse,xJ p.2 a),p.2)
 | _=>none:=(rfl)
end
@[simp high,simp ↓ high] theorem rf{α:Type}{x y:α}:ifO (some 3) 3 x y=x:=rfl
end D
namespace L2
open PySem PySem.Spec PyProof.Rows
section
variable {X:Cx}{x:Str}{p pos:Pos}{e:Expr}{es:List Expr}{t:TA}{k:Nat}
def yX (i:Nat) (C:Addr->Sp->Prop) (t:TA):TE:=λσ H Q=>∃ f sp,σ[i]?=some (some (.ref f))/\C f sp/\t σ H λvs H1=>sp (vs++[]) H1 Q E0
def fh(hC:Mod X.K X.mg X.base->∀ f sp,C f sp->∃ fd ps,uj X.prog X.w X.K X.mg X.base xh k f fd ps sp/\Bq X.K (.ref f)=true/\Binds X.K fd ps [])
  (hr:uJ k X.A) (hN:X.N[i]?=some x) (hv:Vis X.env.scope x) (ha:PA X (e::es) t) (hd:(x == ("__debug__":Str))=false:=by decide) (hcd:(x == ("__classdict__":Str))=false:=by decide)
  (he:AV (e::es) X.env=(false,eval e X.env)::AV es X.env:=by rfl) (hpl:(CB pos (AV es X.env)).any (·.1)=false:=by rfl) :
  PE X (.Call (.Name x p) (e::es) [] pos) (yX i C t):=by
 intro pins s σ H Q I h;obtain⟨f,sp,e1,c,h⟩:=h;obtain⟨fd,ps,F,hk,hb⟩:=hC I.mod f sp c;refine EI (tE (QT hN hv hd hcd pins s σ H (λv H'=>v=.ref f/\H'=H) I ⟨.ref f,e1,rfl,rfl⟩) λu s1 ⟨v,H1,I1,r1,q1⟩=>?_);obtain⟨rfl,rfl⟩:=q1;obtain rfl:u=Br f:=r1;exact HH I1.ok.mod.kin hk (tE (ha pos pins s1 σ _ _ I1 h) λus s2 ⟨vs,H2,I2,r,q⟩=>⟨I2.kIn,Wq F hr hb .nil AAW I2 r q⟩) he hpl
end
end L2
namespace D
open PySem L2
abbrev Tb:=List (Str×Nat×DF)
def ABw (P:Aj) (wd:A5) (K:Fg) (mg:Str->Option AL) (base:Heap) (k:Nat) (tb:Tb):Prop:=∀ q∈tb,FD P wd K mg base k q.1 none q.2.1 q.2.2
section
variable {P:Aj}{wd:A5}{K:Fg}{mg:Str->Option AL}{base:Heap}{k:Nat}
theorem FD.mono(D0:FD P wd K mg base k' x ip n F)(h:k'<=k):FD P wd K mg base k x ip n F:=by
 obtain⟨f,fd,ps,h1,h2⟩:=D0.ex;exact⟨⟨f,fd,ps,h1.mono h,h2⟩,D0.len⟩
def WE:ABw P wd K mg base k []:=λ_ h=>nomatch h
def OF(D0:FD P wd K mg base k' x none n F)(r:ABw P wd K mg base k tb)(h:k'<=k:=by first | exact AF _ | decide | lia):ABw P wd K mg base k ((x,n,F)::tb):=λq hq=>by
 rcases AN.mp hq with rfl | hq
 ·exact D0.mono h
 ·exact r q hq
end
noncomputable def dFn (n:Str):DE:=λΓ=>some (.v (.f n),Γ)
noncomputable def tj (i:Nat) (tb:Tb) (fa:DA):DE:=λΓ=>match Γ[i]? with
 | some (some (.v (.f n)))=>match tb.find? λq=>decide (q.1=n) with
  | some q=>sE none q.2.2 [] fa Γ
  | none=>none
 | _=>none
def NK (K:Fg) (mg:Str->Option AL) (n:Str):Prop:=∃ f,CH K A0 n=some (some (.ref f))/\mg n=some (.ref f)
def YM(h:CH K A0 n=some (some (.ref f))):sW K (tC (.ref f)) (dFn n):=by
 intro C w Γ σ H s Γ' Q R e k;cases e;exact k _ H R .refl (show Im K H _ (.f n) from Im.fn ⟨f,rfl,h⟩) trivial
def ABK (K:Fg) (tb:Tb) (f:Addr) (sp:Sp):Prop:=∃ q∈tb,CH K A0 q.1=some (some (.ref f))/\sp=xT K none q.2.1 q.2.2
def ZU(hl:∀ q∈tb,∀ gs r,q.2.2 gs=some r->gs.length=q.2.1)(ha:ui K t fa):sW K (yX i (ABK K tb) t) (tj i tb fa):=by
 intro C w Γ σ H s Γ' Q R e k;unfold tj at e;split at e
 ·rename_i n hn;split at e
  ·rename_i q hq;obtain⟨v,e1,hv⟩:=R.val i _ hn;obtain⟨f,rfl,hf⟩:=(show Im K H v (.f n) from hv).invf;have hm:=Gi hq;have hqn:=by simpa using Iq hq
   exact⟨f,xT K none q.2.1 q.2.2,e1,⟨q,hm,by rw[hqn];exact hf,rfl⟩,Qt (hl q hm) ha C w Γ σ H s Γ' Q R e k⟩
  ·cases e
 ·cases e
section
variable {ι:Type}{P:Aj}{wd:A5}{base:Heap}{K:Fg}{mg:Str->Option AL}{k k' n:Nat}{X:ι->Cx}{e:Expr}{es:List Expr}{pos p:Pos}{da:DA}{x:Str}{tb:Tb}{Γ:En}
def mf(M:Fm K mg k X)(h:NK K mg x)(hg:∀ j,Gl (X j) x:=by intro _;rfl)(hd:(x == ("__debug__":Str))=false:=by decide):EX K X (.Name x pos) (dFn x):=by
 obtain⟨f,h1,h2⟩:=h;exact⟨_,λj=>Re (v:=.ref f) (hg j) (by rw[M.mg];exact h2) rfl hd,YM h1⟩
def SJ i (M:Fm K mg k X) (B:Fb P wd base X) (T0:ABw P wd K mg base k' tb) (ha:AX K X (e::es) da) (hk:k'<=k:=by first | exact AF _ | decide | lia)
  (hN:∀ j,(X j).N[i]?=some x:=by intro _;rfl) (hv:∀ j,Vis (X j).env.scope x:=by intro _;first | exact Eo rfl | exact Dr (Eo rfl) | exact Dr (Dr rfl)) (hd:(x == ("__debug__":Str))=false:=by decide) (hcd:(x == ("__classdict__":Str))=false:=by decide)
  (he:∀ j,AV (e::es) (X j).env=(false,eval e (X j).env)::AV es (X j).env:=by intro _;rfl) (hpl:∀ j,(CB pos (AV es (X j).env)).any (·.1)=false:=by intro _;rfl) :
  EX K X (.Call (.Name x p) (e::es) [] pos) (tj i tb da):=by
 obtain⟨t,q,u⟩:=ha;refine⟨yX i (ABK K tb) t,λj=>fh (λhm f sp hc=>?_) ((M.room j).mono hk) (hN j) (hv j) (q j) hd hcd (he j) (hpl j),ZU (λq hq=>(T0 q hq).len) u⟩;obtain⟨q,hq,h1,rfl⟩:=hc;obtain⟨f',fd,ps,g1,g2,g3,g4⟩:=(T0 q hq).ex;have hm':Mod K mg base:=by rw[← M.K j,← M.mg j,← B.b j];exact hm
 have e:=Ic hm'.kin hm'.glob h1;rw[g2]at e;cases e;exact⟨fd,ps,by rw[B.P,B.w,M.K,M.mg,B.b];exact g1,by rw[M.K];exact g3,by rw[M.K];exact g4⟩
@[simp,simp ↓] theorem pB{n:Str}:dFn n Γ=some (.v (.f n),Γ):=rfl
end
noncomputable def tf:Nat:=100000
def MR:tf=100000:=rfl
inductive Rs where
 | mk (e v:T) (ks:List Rs)
noncomputable def Rs.e:Rs->T | .mk e _ _=>e
noncomputable def Rs.v:Rs->T | .mk _ v _=>v
mutual
noncomputable def Rs.pre:Rs->List Rs
 | .mk e v ks=>.mk e v ks::u9 ks
noncomputable def u9:List Rs->List Rs
 | []=>[]
 | r::rs=>r.pre++u9 rs
end
def MI:u9 []=[]:=by unfold u9;rfl
def Lv r rs:u9 (r::rs)=r.pre++u9 rs:=by rw[u9]
def L9 e v ks:(Rs.mk e v ks).pre=.mk e v ks::u9 ks:=by rw[Rs.pre]
theorem QJ:∀ a b,u9 (a++b)=u9 a++u9 b
 | [],b=>by rw[MI];rfl
 | r::a,b=>by rw[List.cons_append,Lv,Lv,QJ a b,BC]
mutual
noncomputable def Rs.In (ins:DF):Rs->Prop
 | .mk e _ ks=>(ins [.v e]=some (.v (.t (ks.map Rs.e)),[])\/ins [.v e]=some (.l (ks.map Rs.e),[]))/\ze ins ks
noncomputable def ze (ins:DF):List Rs->Prop
 | []=>True
 | r::rs=>r.In ins/\ze ins rs
end
mutual
noncomputable def Rs.Put (put:DF):Rs->Prop
 | .mk e v ks=>put [.v e,.r (ks.map Rs.v)]=some (.v v,[])/\Puts put ks
noncomputable def Puts (put:DF):List Rs->Prop
 | []=>True
 | r::rs=>r.Put put/\Puts put rs
end
def Lh:ze ins (r::rs) ↔ r.In ins/\ze ins rs:=by rw[ze]
def Lx:(Rs.mk e v ks).In ins ↔ (ins [.v e]=some (.v (.t (ks.map Rs.e)),[])\/ins [.v e]=some (.l (ks.map Rs.e),[]))/\ze ins ks:=by rw[Rs.In]
def Ls:Puts put (r::rs) ↔ r.Put put/\Puts put rs:=by rw[Puts]
def Lz:(Rs.mk e v ks).Put put ↔ put [.v e,.r (ks.map Rs.v)]=some (.v v,[])/\Puts put ks:=by rw[Rs.Put]
def L4:ze ins []:=by unfold ze;trivial
def L5:Puts put []:=by unfold Puts;trivial
theorem U6:∀ {a b},ze ins a->ze ins b->ze ins (a++b)
 | [],_,_,h=>h
 | _::_,_,h,h'=>Lh.mpr ⟨(Lh.mp h).1,U6 (Lh.mp h).2 h'⟩
def Q5(h:Γ[i]?=some (~~~(.f n)))(hf:tb.find? (λq=>decide (q.1=n))=some (n,a,F)):tj i tb fa Γ=sE none F [] fa Γ:=by
 unfold tj;rw[h];dsimp only;rw[hf]
noncomputable def awC:DT:=wB (jV 3)
noncomputable def awB (tb:Tb):DS:=sG (sQ 4 (t5 3 yb qQ)) (sG (t6 (t5 2 tS (jW (jV 4) qQ))) (t6 (t5 3 uP (jW (xZ (jW (tj 1 tb (jW (jV 4) qQ)) qQ)) qQ))))
noncomputable def awD (tb:Tb):DS:=sG (sQ 2 (tO qQ)) (sG (sQ 3 (tO (jW (jV 0) qQ))) (sG (su awC (awB tb) tf) (sS (jV 2))))
@[simp] theorem ZT(h:xs.length+ys.length<=AC):uP Γ xs [.l ys]=some (.a .non,xs++ys):=by
 unfold uP;dsimp only;simp[Xp,gd,h]
section
variable {tb:Tb}{n:Str}{ka:Nat}{ins:DF}
theorem dO(hf:tb.find? (λq=>decide (q.1=n))=some (n,ka,ins)):∀ m st acc w p4 fuel,(u9 st).length=m->m < fuel->acc.length+m<=90000->st.length<=90000->ze ins st ->
  ∃ p4',su awC (awB tb) fuel [some (.v w),some (.v (.f n)),some (.l acc),some (.l (st.reverse.map Rs.e)),p4]=some (.nx [some (.v w),some (.v (.f n)),some (.l (acc++(u9 st).map Rs.e)),some (.l []),p4']):=by
 intro m;induction m with
 | zero =>
  intro st acc w p4 fuel hm hfu hb hs hi;cases st with
  | nil =>
   obtain⟨f,rfl⟩:∃ f,fuel=f+1:=⟨fuel - 1,by lia⟩
   exact⟨p4,by rw[L6];simp[awC,MI]⟩
  | cons r rs =>
   cases r with
   | mk e v ks=>rw[Lv,L9]at hm;simp at hm
 | succ m ih =>
  intro st acc w p4 fuel hm hfu hb hs hi;obtain⟨f,rfl⟩:∃ f,fuel=f+1:=⟨fuel - 1,by lia⟩
  cases st with
  | nil=>rw[MI]at hm;cases hm
  | cons r rs =>
   cases r with
   | mk e v ks =>
    obtain⟨h1,h2⟩:=Lh.mp hi;obtain⟨h3,h4⟩:=Lx.mp h1;rw[Lv,L9]at hm;have hlen:∀ l,l.length<=(u9 l).length:=λl=>by
     induction l with
     | nil=>simp
     | cons x l ih =>
      cases x with
      | mk a b c=>rw[Lv,L9];simp;lia
    have hk:=hlen ks;have hr:=hlen rs;simp at hm;obtain⟨p4',e4⟩:=ih (ks++rs) (acc++[e]) w (some (.v e)) f (by rw[QJ,A8];lia) ⋯ ↥2 ↥2 (U6 h4 h2);refine⟨p4',?_⟩;have hl1:acc.length < AC:=AW (show acc.length < 100000 by lia) ∅;have hl2:rs.length+ks.length<=AC:=Ah (show rs.length+ks.length<=100000 by lia) ∅;have e0:(B9 Rs.e (Rs.mk e v ks::rs).reverse)=B9 Rs.e rs.reverse++[e]:=by simp[Rs.e]
    have pop:(awB tb) [some (.v w),some (.v (.f n)),some (.l acc),some (.l (B9 Rs.e rs.reverse++[e])),p4]=some (.nx [some (.v w),some (.v (.f n)),some (.l (acc++[e])),some (.l (B9 Rs.e rs.reverse++(ks.map Rs.e).reverse)),some (.v e)]):=by
     have cv:tj 1 tb (jW (jV 4) qQ) [some (.v w),some (.v (.f n)),some (.l (acc++[e])),some (.l (B9 Rs.e rs.reverse)),some (.v e)]=sE none ins [] (jW (jV 4) qQ) [some (.v w),some (.v (.f n)),some (.l (acc++[e])),some (.l (B9 Rs.e rs.reverse)),some (.v e)]:=Q5 rfl hf;have ex:∀ Γ,uP Γ (B9 Rs.e rs.reverse) [.l (ks.map Rs.e).reverse]=some (.a .non,B9 Rs.e rs.reverse++(ks.map Rs.e).reverse):=λΓ=>ZT (by simp_all)
     have hs':rs.length+1<=AC:=Ah (show rs.length+1<=100000 by simp at hs;lia) ∅;have hq:(B9 Rs.e rs.reverse).length+1<=AC:=by simpa using hs'
     have hl0:=CY hl1;generalize B9 Rs.e rs.reverse=RR at cv ex hq ⊢;have hq':RR.length<=AC:=by lia
     rcases h3 with h3 | h3
     iterate 2
      ·simp[awB,cv,h3,hl1,ex,gd,hq,hq',hl0]
    rw[L6,e0];have tr:awC [some (.v w),some (.v (.f n)),some (.l acc),some (.l (B9 Rs.e rs.reverse++[e])),p4]=some (true,[some (.v w),some (.v (.f n)),some (.l acc),some (.l (B9 Rs.e rs.reverse++[e])),p4]):=by
     simp[awC]
    rw[tr,Ai,if_pos rfl,pop,Ai];dsimp only;have e5:B9 Rs.e rs.reverse++(ks.map Rs.e).reverse=B9 Rs.e (ks++rs).reverse:=by simp
    rw[e5,e4,QJ];rw[Lv,L9];simp[Rs.e]
def eK(hf:tb.find? (λq=>decide (q.1=n))=some (n,ka,ins))(r:Rs)(h:r.In ins)(hb:r.pre.length<=80000):sX none 2 5 (awD tb) [.v r.e,.v (.f n)]=some (.l (r.pre.map Rs.e),[]):=by
 have hp:u9 [r]=r.pre:=by rw[Lv,MI,Bv]
 obtain⟨p4',e⟩:=dO hf r.pre.length [r] [] r.e none tf (by rw[hp]) (by rw[MR];lia) ↥2 ↥1 (Lh.mpr ⟨h,L4⟩);rw[hp]at e;simp at e;simp[sX,awD,e]
end
noncomputable def fwE:DE:=t5 1 yb qQ
noncomputable def fwB (tb1 tb2:Tb):DS:=sG (sQ 5 (uE (some (1,3)) [none,some 3] (tV (tj 1 tb1 (jW (jV 4) qQ))) (sJ 0) vI fwE))
 (t6 (t5 3 tS (jW (tj 2 tb2 (jW (jV 4) (jW (jV 5) qQ))) qQ)))
noncomputable def fwD (FA:DF) (tb1 tb2:Tb):DS:=sG (sQ 3 (tO qQ))
 (sG (uy none (x5 (jW (sE none FA [] (jW (jV 0) (jW (jV 1) qQ))) qQ)) (sJ 4) (fwB tb1 tb2))
 (sS (sI sY (jV 3) (dC (.int 0)))))
theorem Uh:∀ es vs t0 o,es.length=vs.length->t0.length+vs.length<=100000->∃ o',uD (sJ 0) vI fwE es [o,some (.l (t0++vs.reverse))]=some (vs,[o',some (.l t0)])
 | [],[],t0,o,_,_=>⟨o,by simp[MC]⟩
 | [],_::_,_,_,h,_ | _::_,[],_,_,h,_=>by cases h
 | e::es,v::vs,t0,o,h,hb=>by
  obtain⟨o',h2⟩:=Uh es vs t0 (some (.v e)) (by simpa using h) (by simp at hb;lia);refine⟨o',?_⟩;have e1:t0++(v::vs).reverse=(t0++vs.reverse)++[v]:=by simp
  have hq:(t0++vs.reverse).length+1<=AC:=Ah (show _<=100001 by simp at hb ⊢;lia) ∅;rw[e1,L7];generalize t0++vs.reverse=RR at h2 hq ⊢;unfold fwE at h2 ⊢;simp[gd,hq,h2]
section
variable {tb1 tb2:Tb}{n m:Str}{ka kb:Nat}{ins put:DF}
def jK(hf:tb1.find? (λq=>decide (q.1=n))=some (n,ka,ins))(hg:tb2.find? (λq=>decide (q.1=m))=some (m,kb,put)){e v}{ks:List Rs}{t0 w p5}(h1:ins [.v e]=some (.v (.t (ks.map Rs.e)),[])\/ins [.v e]=some (.l (ks.map Rs.e),[]))
  (h2:put [.v e,.r (ks.map Rs.v)]=some (.v v,[])) (hb:t0.length+ks.length<=90000) :
  fwB tb1 tb2 [some (.v w),some (.v (.f n)),some (.v (.f m)),some (.l (t0++(ks.map Rs.v).reverse)),some (.v e),p5]=some (.nx [some (.v w),some (.v (.f n)),some (.v (.f m)),some (.l (t0++[v])),some (.v e),some (.l (ks.map Rs.v))]):=by
 obtain⟨o',hc⟩:=Uh (ks.map Rs.e) (ks.map Rs.v) t0 none ↥1 ↥2;have cv:tj 1 tb1 (jW (jV 4) qQ) [some (.v w),some (.v (.f n)),some (.v (.f m)),some (.l (t0++(ks.map Rs.v).reverse)),some (.v e),p5]=sE none ins [] (jW (jV 4) qQ) [some (.v w),some (.v (.f n)),some (.v (.f m)),some (.l (t0++(ks.map Rs.v).reverse)),some (.v e),p5]:=Q5 rfl hf;have cw:tj 2 tb2 (jW (jV 4) (jW (jV 5) qQ)) [some (.v w),some (.v (.f n)),some (.v (.f m)),some (.l t0),some (.v e),some (.l (ks.map Rs.v))]=sE none put [] (jW (jV 4) (jW (jV 5) qQ)) [some (.v w),some (.v (.f n)),some (.v (.f m)),some (.l t0),some (.v e),some (.l (ks.map Rs.v))]:=Q5 rfl hg;have hz:(ks.map Rs.e).length<=AC:=Ah (show (ks.map Rs.e).length<=100000 by simp;lia) ∅;have ht:t0.length < AC:=AW (show t0.length < 100000 by lia) ∅;have ht':=CY ht;generalize ks.map Rs.e=EE at h1 hc hz ⊢;rcases h1 with h1 | h1
 iterate 2
  ·simp[fwB,cv,h1,hc,cw,h2,gd,hz,ht,ht']
mutual
theorem Vr(hf:tb1.find? (λq=>decide (q.1=n))=some (n,ka,ins))(hg:tb2.find? (λq=>decide (q.1=m))=some (m,kb,put)) w:∀ (r:Rs) t0 more p4 p5,r.In ins->r.Put put->t0.length+r.pre.length<=90000 ->
  ∃ p4' p5',tX (sJ 4) (fwB tb1 tb2) (r.pre.reverse.map Rs.e++more) [some (.v w),some (.v (.f n)),some (.v (.f m)),some (.l t0),p4,p5]=tX (sJ 4) (fwB tb1 tb2) more [some (.v w),some (.v (.f n)),some (.v (.f m)),some (.l (t0++[r.v])),p4',p5']
 | .mk e v ks,t0,more,p4,p5,hi,hp,hb=>by
  obtain⟨h1,h2⟩:=Lx.mp hi;obtain⟨h3,h4⟩:=Lz.mp hp;rw[L9]at hb ⊢;simp at hb;have hlen:∀ l,l.length<=(u9 l).length:=λl=>by
   induction l with
   | nil=>simp
   | cons x l ih =>
    cases x with
    | mk a b c=>rw[Lv,L9];simp;lia
  have hk:=hlen ks;obtain⟨q4,q5,e1⟩:=UA hf hg w ks t0 (e::more) p4 p5 h2 h4 ⋯;refine⟨some (.v e),some (.l (ks.map Rs.v)),?_⟩;rw[List.reverse_cons,Bj,BC];show tX _ _ (B9 Rs.e (u9 ks).reverse++(e::more)) _=_;rw[e1,Np];simp only[lM];rw[show (List.set [some (G.v w),some (.v (.f n)),some (.v (.f m)),some (.l (t0++(ks.map Rs.v).reverse)),q4,q5] 4 (some (.v e)))=[some (.v w),some (.v (.f n)),some (.v (.f m)),some (.l (t0++(ks.map Rs.v).reverse)),some (.v e),q5] from rfl];rw[Ai,jK hf hg h1 h3 ⋯];rfl
theorem UA(hf:tb1.find? (λq=>decide (q.1=n))=some (n,ka,ins))(hg:tb2.find? (λq=>decide (q.1=m))=some (m,kb,put)) w:∀ ks t0 more p4 p5,ze ins ks->Puts put ks->t0.length+(u9 ks).length<=90000 ->
  ∃ p4' p5',tX (sJ 4) (fwB tb1 tb2) ((u9 ks).reverse.map Rs.e++more) [some (.v w),some (.v (.f n)),some (.v (.f m)),some (.l t0),p4,p5]=tX (sJ 4) (fwB tb1 tb2) more [some (.v w),some (.v (.f n)),some (.v (.f m)),some (.l (t0++(ks.map Rs.v).reverse)),p4',p5']
 | [],t0,more,p4,p5,_,_,_=>⟨p4,p5,by simp[MI]⟩
 | r::rs,t0,more,p4,p5,hi,hp,hb=>by
  obtain⟨h1,h2⟩:=Lh.mp hi;obtain⟨h3,h4⟩:=Ls.mp hp;rw[Lv]at hb ⊢;simp at hb;have hlen:∀ l,l.length<=(u9 l).length:=λl=>by
   induction l with
   | nil=>simp
   | cons x l ih =>
    cases x with
    | mk a b c=>rw[Lv,L9];simp;lia
  have hk:=hlen rs;obtain⟨q4,q5,e1⟩:=UA hf hg w rs t0 (r.pre.reverse.map Rs.e++more) p4 p5 h2 h4 ⋯;obtain⟨q6,q7,e2⟩:=Vr hf hg w r (t0++(rs.map Rs.v).reverse) more q4 q5 h1 h3 ↥2;refine⟨q6,q7,?_⟩;rw[CO,Bj,BC,e1,e2];simp
end
def QG(hf:tb1.find? (λq=>decide (q.1=n))=some (n,ka,ins))(hg:tb2.find? (λq=>decide (q.1=m))=some (m,kb,put))(r:Rs)(h1:r.In ins)(h2:r.Put put)(hb:r.pre.length<=80000) :
  sX none 3 6 (fwD (sX none 2 5 (awD tb1)) tb1 tb2) [.v r.e,.v (.f n),.v (.f m)]=some (.v r.v,[]):=by
 have ha:=eK hf r h1 hb;obtain⟨q4,q5,e⟩:=Vr hf hg r.e r [] [] none none h1 h2 ↥2;rw[Bv,MB]at e;have hz:(r.pre.map Rs.e).length<=AC:=Ah (show (r.pre.map Rs.e).length<=100000 by simp;lia) ∅;have e2:(B9 Rs.e r.pre).reverse=B9 Rs.e r.pre.reverse:=by simp
 generalize sX none 2 5 (awD tb1)=FA at ha ⊢;generalize r.pre.map Rs.e=EE at ha hz e2;rw[← e2]at e;simp[sX,fwD,ha,gd,hz,e]
end
def AAr (K:Fg) (trs:List (TE×TE)) (ks:List tu) (fa:DA):Prop:=∀ (C:Fr) (w:W) (Γ:En) (σ:St) (H:Hp) (ss:List S) (Γ':En) (Q:List (V×V)->Hp->Prop),sV K C w Γ σ H->fa Γ=some (ss,Γ') ->
 (∀ vs H',sV K C w Γ' σ H'->tP w.L H H'->ud K C w σ H' vs ss->vs.length=ks.length->Q ((ks.map kV).zip vs) H')->xf trs σ H Q
def jy:AAr K [] [] qQ:=by
 intro C w Γ σ H ss Γ' Q R e k;cases e;exact k [] H R .refl trivial rfl
def Xi(key:tu)(hv:sW K tv fv)(hr:AAr K trs ks fa):AAr K ((tC (kV key),tv)::trs) (key::ks) (jW fv fa):=by
 intro C w Γ σ H ss Γ' Q R e k;obtain⟨p,e1,e⟩:=sC e;obtain⟨q,e2,e⟩:=sC e;cases e;show tv σ H _;refine hv C w Γ σ H p.1 p.2 _ R e1 λv1 H1 R1 ev1 o1 _=>?_
 exact hr C w p.2 σ H1 q.1 q.2 _ R1 e2 λvs H2 R2 ev2 o2 hl=>k (v1::vs) H2 R2 (ev1.trans ev2) ⟨o1.evo ev2 R1.lst,o2⟩ (by simp[hl])
noncomputable def wx (ks:List tu) (fa:DA):DE:=λΓ=>(fa Γ).bind λp=>(trees p.1).bind λts=>if ks.length<=15/\ks.Nodup then some (.d (.inl (ks.zip ts)),p.2) else none
def Vh{kvs:List (tu×V)}{k:tu}{v:V}(h:k∉kvs.map (·.1)):uZ kvs k v=kvs++[(k,v)]:=by
 unfold uZ;rw[if_neg];intro z;obtain⟨a,ha,e⟩:=B3.mp z;exact h (Ao.mpr ⟨a,ha,of_decide_eq_true e⟩)
theorem Uz:∀ (ks:List tu) {vs:List V} {ts:List T},sf K H vs ts->EG (λ(a:tu×V) (b:tu×T)=>a.1=b.1/\Im K H a.2 b.2) (ks.zip vs) (ks.zip ts)
 | [],_,_,_=>.nil
 | a::r,vs,[],h=>by rw[h.inv0];exact .nil
 | a::r,vs,t::ts,h=>by
  obtain⟨v,us,rfl,h1,h2⟩:=h.inv;exact .cons ⟨rfl,h1⟩ (Uz r h2)
theorem RN:∀ (more kvs:List (tu×V)),((kvs++more).map (·.1)).Nodup->uV kvs more=kvs++more
 | [],kvs,_=>by simp[uV]
 | p::r,kvs,h=>by
  show uV (uZ kvs p.1 p.2) r=_;have hn:p.1∉kvs.map (·.1):=λz=>by
   rw[Bj,AY]at h;exact (Fc.mp h).2.2 _ z _ AH rfl
  rw[Vh hn,RN r (kvs++[p]) (by simpa using h)];simp
def mj(h:AAr K trs ks fa):sW K (ABZ trs) (wx ks fa):=by
 intro C w Γ σ H s Γ' Q R e k;obtain⟨⟨ss,G1⟩,e1,e⟩:=sC e;obtain⟨ts,e2,e⟩:=sC e;split at e
 ·rename_i hk;cases e;intro p hp;obtain⟨n1,n2,ow⟩:=R.fresh hp;refine h C w Γ σ _ ss G1 _ (R.new hp) e1 λvs H2 R2 ev2 o2 hl=>?_
  have hp2:H2 p=some (.dK []):=ev2 p _ Ln n1;have hi:=Oz o2 e2;have hts:ts.length=ks.length:=by rw[← hi.len];exact hl
  refine⟨hp2,ks.zip vs,?_,by simp[Fw,hl];exact hk.1,?_⟩
  ·refine C0 ↥1 λi h1 h2=>?_
   simp
  have em:uV [] (ks.zip vs)=ks.zip vs:=by
   rw[RN _ _ (by
    rw[Ef,List.map_fst_zip ⋯];exact hk.2)]
   rfl
  rw[em];refine k _ _ (R2.tmp n1 n2 ow hp2 trivial) (λc o hcc nn=>?_) ⟨p,_,rfl,n1,n2,ow,Ln,?_⟩ ⟨p,rfl,hp⟩
  ·have ne:=Lo hcc hp;rw[Lc ne];exact ev2 c o (by rw[Lc ne];exact hcc) nn
  ·have ev3:tP (p::w.L) H2 (upd H2 p (.dK (ks.zip vs))):=λc o e n=>by rw[Lc (λz:c=p=>n (by rw[z];exact AH))];exact e
   have hL3:LL (p::w.L) H2:=λq hq=>by
    rcases AN.mp hq with z | z
    ·subst z;exact⟨_,hp2,trivial⟩
    ·exact R2.lst q z
   have hi3:=hi.evo ev3 hL3;exact (show wN K _ (.dK (ks.zip vs)) (.inl (ks.zip ts)) from Uz ks hi3)
 ·cases e
section
variable {ι:Type}{K:Fg}{mg:Str->Option AL}{k:Nat}{X:ι->Cx}{fa:DA}{pos:Pos}{Γ:En}
def PX (K:Fg) (X:ι->Cx) (pos:Pos) (keys:List (Option Expr)) (values:List Expr) (ks:List tu) (fa:DA):Prop:=∃ trs,(∀ j,PPs (X j) pos keys values trs)/\AAr K trs ks fa
def X5:PX K X pos [] [] [] qQ:=⟨[],λ_=>Vz,jy⟩
def aU(hv:EX K X e fv)(hr:PX K X pos keys values ks fa):PX K X pos (some (.Constant (.str x) j0 p0)::keys) (e::values) (.inr x::ks) (jW fv fa):=
 let ⟨_,p,s⟩:=hv;let ⟨_,q,u⟩:=hr;⟨_,λj=>VQ Rx (p j) (q j),Xi (.inr x) s u⟩
def cn(h:PX K X pos keys values ks fa)(hall:keys.all (·.isSome)=true:=by rfl)(hl:keys.length=values.length:=by rfl)(h0:keys≠[]:=by exact nofun)(h15:keys.length<=15:=by decide):EX K X (.Dict keys values pos) (wx ks fa):=
 let ⟨_,p,s⟩:=h;⟨_,λj=>Z7 (p j) hall hl h0 h15,mj s⟩
@[simp,simp ↓] theorem oQ:wx ks fa Γ=t8 (fa Γ) (f:=⟨λp=>t8 (trees p.1) (f:=⟨λts=>if ks.length<=15/\ks.Nodup then some (.d (.inl (ks.zip ts)),p.2) else none⟩)⟩):=rfl
end
end D
namespace L2
open PySem PySem.Spec PyProof.Rows
structure yg(K:Ae)(x qual:Str)(st:Stmt)(T f:Addr)(fd:Dc):Prop where
 ex:∃ (oc:AL) (od:Option Addr) (kV doc pm:AL) (an:Option Addr) (cdv ct:AL) (osl:Array (Option AL)),
  fd=Be x qual (tY st) (sv st) (sD st) (.ref T) kV doc pm an cdv ct/\K.lookup f=some ⟨oc,od,.func fd,osl⟩/\Cg K cdv qual=true
 kp:Bq K (.ref f)=true
section
variable {P:Aj}{w:A5}{K:Ae}{mg:Str->Option AL}{base:Heap}
def yg.ok{st T f fd N ps k sp}(F:yg K x qual st T f fd)(S:sH N ps (sD st))(len:∀ vs H Q E,sp vs H Q E->vs.length=ps.length)
  (hbody:∀ cdv A outer s H vs Q E,uJ k (A.deeper (FP qual (sD st) s.heap.objs.size f cdv))->sp vs H Q E ->
   ∃ t,yn (x4 xh P w K mg base N qual (sD st) f cdv A outer s H E).nox (sv st) t/\t { nx:=λ_ H'=>Q .non H',rt:=Q } (start N vs) H):uj P w K mg base xh (k+1) f fd ps sp:=by
 obtain⟨oc,od,kV,doc,pm,an,cdv,ct,osl,rfl,lk,hcd⟩:=F.ex;refine Vd lk hcd S len λA outer s H vs Q E hr hsp=>?_
 obtain⟨t,h,q⟩:=hbody cdv A outer s H vs Q E hr hsp;exact⟨t,h.nox,q⟩
def yg.binds{st T f fd ps ds o items n}(F:yg K x qual st T f fd)(hT:K.lookup T=some o)(hs:o.data=.seq items n)
  (h:∀ kV doc pm an cdv ct us,(us++ds).length=ps.length->∃ k,F9 (Be x qual (tY st) (sv st) (sD st) (.ref T) kV doc pm an cdv ct) ⟨us,[]⟩=Jy (.ref T) >>= k/\k (some items)=pure (ps.zip (us++ds))):Binds K fd ps ds:=by
 obtain⟨oc,od,kV,doc,pm,an,cdv,ct,osl,rfl,lk,hcd⟩:=F.ex;intro s us hK hl;obtain⟨k,h1,h2⟩:=h kV doc pm an cdv ct us hl;exact BindsTo.of_defaults rfl (hK T o hT) hs h1 h2
def bA{st T f oc od an osl kV doc pm cdv ct}(l:K.lookup f=some ⟨oc,od,.func (Be x qual (tY st) (sv st) (sD st) (.ref T) kV doc pm an cdv ct),osl⟩)
  (c:Cg K cdv qual=true) (k:Bq K (.ref f)=true):yg K x qual st T f (Be x qual (tY st) (sv st) (sD st) (.ref T) kV doc pm an cdv ct):=⟨⟨oc,od,kV,doc,pm,an,cdv,ct,osl,rfl,l,c⟩,k⟩
end
end L2
namespace D
open PySem L2
structure FDd(P:Aj)(wd:A5)(K:Fg)(mg:Str->Option AL)(base:Heap)(k:Nat)(x:Str)(ip:Option Nat)(n:Nat)(F:DF)(dvs:List V):Prop where
 ex:∃ (f:Addr) (fd:Dc) (ps:List Str) (ds:List AL),uj P wd K mg base xh k f fd ps (xT K ip n F)/\mg x=some (.ref f)/\Bq K (.ref f)=true/\Binds K fd ps ds/\sP dvs ds
 len:∀ gs r,F gs=some r->gs.length=n
section
variable {ι:Type}{P:Aj}{wd:A5}{base:Heap}{K:Fg}{mg:Str->Option AL}{k k' n:Nat}{X:ι->Cx}{ip:Option Nat}{e:Expr}{es:List Expr}{pos p:Pos}{da:DA}{F:DF}{x:Str}{dvs:List V}
def kK(M:Fm K mg k X)(B:Fb P wd base X)(D0:FDd P wd K mg base k' x ip n F dvs)(ha:AX K X (e::es) da)(hk:k'<=k:=by first | exact AF _ | decide | lia)(hg:∀ j,Gl (X j) x:=by intro _;rfl)(hdb:(x == ("__debug__":Str))=false:=by decide)
  (he:∀ j,AV (e::es) (X j).env=(false,eval e (X j).env)::AV es (X j).env:=by intro _;rfl) (hpl:∀ j,(CB pos (AV es (X j).env)).any (·.1)=false:=by intro _;rfl) :
  EX K X (.Call (.Name x p) (e::es) [] pos) (sE ip F dvs da):=by
 obtain⟨f,fd,ps,ds,h1,h2,h3,h4,h5⟩:=D0.ex;obtain⟨t,q,u⟩:=ha;refine⟨zC (xT K ip n F) dvs E0 t,λj=>?_,Qt D0.len u⟩;have hF:uj (X j).prog (X j).w (X j).K (X j).mg (X j).base xh k' f fd ps (xT K ip n F):=by rw[B.P,B.w,M.K,M.mg,B.b];exact h1
 exact V5 hF ((M.room j).mono hk) (hg j) (by rw[M.mg];exact h2) (by rw[M.K];exact h3) (by rw[M.K];exact h4) h5 AAW (q j) hdb (he j) (hpl j)
end
section
variable {P:Aj}{wd:A5}{base:Heap}{K:Fg}{mg:Str->Option AL}{k:Nat}
def cZ{st T f fd N ps ip g dvs ds}(F:yg K x x st T f fd)(S:sH N ps (sD st))(hm:mg x=some (.ref f))(hb:Binds K fd ps [])(hb2:Binds K fd ps ds)(hv:sP dvs ds)
  (body:∀ cdv A outer s H E,Fm K mg k (zk P wd K mg base N x (sD st) f cdv A outer s H E)->Fb P wd base (zk P wd K mg base N x (sD st) f cdv A outer s H E)->BX K (zk P wd K mg base N x (sD st) f cdv A outer s H E) ip (sv st) g) :
  FD P wd K mg base (k+1) x ip ps.length (sX ip ps.length N.length g)/\FDd P wd K mg base (k+1) x ip ps.length (sX ip ps.length N.length g) dvs:=by
 have ok:uj P wd K mg base xh (k+1) f fd ps (xT K ip ps.length (sX ip ps.length N.length g)):=by
  refine F.ok S (λvs H Q E h=>h.1) λcdv A outer s H vs Q E hr h=>?_
  obtain⟨t,p,u⟩:=body cdv A outer s H E ⟨λ_=>rfl,λ_=>rfl,λ_=>rfl,λ_=>hr⟩ ⟨λ_=>rfl,λ_=>rfl,λ_=>rfl⟩;exact⟨t,p (),QR u h⟩
 exact⟨⟨⟨f,fd,ps,ok,hm,F.kp,hb⟩,Qe⟩,⟨⟨f,fd,ps,ds,ok,hm,F.kp,hb2,hv⟩,Qe⟩⟩
end
end D
namespace D
open PySem L2
variable {K:Fg}
end D
namespace D
open PySem L2
open PySem.SeqAt
end D
namespace L2
open PySem PySem.Spec PyProof.Rows
structure Exc(h:Heap)(e T:Addr)(C:AL)(d:Option Addr)(f:AL):Prop where
 ex:∃ oe vs,h.get? e=some oe/\oe.cls=C/\oe.dict=d/\oe.data=.fields vs/\vs[1]?=some (.ref T)
 tr:∃ oT ts,h.get? T=some oT/\oT.data=.fields ts/\ts[3]?=some f
 ne:T≠e
def CXR (P:Aj) (w:A5):CXT:=λouter H s E e s'=>∃ (a C T:Addr) (d:Option Addr) (H':Hp),e=.ref a/\s'.os=s.os/\EW s'.gens/\Un (yY outer) [] H H' s.heap s'.heap/\vO P w H' s'.heap/\H' a=none/\H' T=none /\
 s.heap.get? a=none/\s.heap.get? T=none/\Exc s'.heap a T (.ref C) d .none/\E (.ref C) d H'
end L2
namespace D
open PySem L2
noncomputable def spR (K:Fg) (n nN:Nat) (dt:DT) (C:Addr):Sp:=λvs H _ E=>vs.length=n/\∃ (w:W) (gs:List G) (Γ':En),dt (gs.map some++Aa (nN - n) none)=some (true,Γ')/\sV K ⟨H,w.L,[]⟩ w (gs.map some) (vs.map some) H /\
 ∀ H',tP w.L H H'->E (.ref C) none H'
section
variable {K:Fg}{ip:Option Nat}
noncomputable abbrev spB (K:Fg) (n nN:Nat) (F:DF) (dt:DT) (C:Addr):Sp:=λvs H Q E=>xT K none n F vs H Q E\/spR K n nN dt C vs H Q E
end
structure FR(P:Aj)(wd:A5)(K:Fg)(mg:Str->Option AL)(base:Heap)(k:Nat)(x:Str)(n:Nat)(F:DF)(dt:DT)(nN:Nat)(c:Str):Prop where
 ex:∃ (f:Addr) (fd:Dc) (ps:List Str) (C:Addr),CH K A0 c=some (some (.ref C))/\uj P wd K mg base (CXR P wd) k f fd ps (spB K n nN F dt C)/\mg x=some (.ref f)/\Bq K (.ref f)=true/\Binds K fd ps []
 len:∀ gs r,F gs=some r->gs.length=n
end D
namespace D
open PySem L2
noncomputable def PC (X:Cx) (ops:List CmpOp) (rs:List Expr) (tc:V->TE):Prop:=
 ∀ pos pins s (σ:St) H Q x v,Inv X pins σ H s->RelV x v->tc x σ H Q->AQ (model X.prog X.w) X.A (compareChain pos v ops (evalEach rs X.env)) (EP X pins σ Q) X.xe s
end D
namespace D
open PySem L2
@[simp low] theorem q9{α:Type}{x y:α}:ifB b (x:=⟨x⟩) (y:=⟨y⟩)=if b=true then x else y:=rfl
noncomputable abbrev uQ (x:Str) (s:Stmt):Str×Stmt:=(x,s)
def WrK (K:Fg) (q:Str×Stmt):Prop:=∃ f fd,CH K A0 q.1=some (some (.ref f))/\zm K q.1 q.1 q.2 f fd
noncomputable def AllK (K:Fg):List (Str×Stmt)->Prop
 | []=>True
 | q::r=>WrK K q/\AllK K r
noncomputable def ZK (K:Fg):List Str->Prop
 | []=>True
 | x::r=>CH K A0 x=some none/\ZK K r
def Wx (K:Fg) (mg:Str->Option AL) (x:Str) (st:Stmt):Prop:=∃ f fd,CH K A0 x=some (some (.ref f))/\zm K x x st f fd/\mg x=some (.ref f)
noncomputable def WxO (K:Fg) (mg:Str->Option AL):Option (Str×Stmt)->Prop
 | some q=>Wx K mg q.1 q.2
 | none=>True
section
variable {P:Aj}{wd:A5}{base h:Heap}{K:Fg}{mg:Str->Option AL}{k:Nat}{x:Str}{st:Stmt}{ip:Option Nat}{N ps:List Str}{g:DS}
def wrK{oc od an osl kV doc pm cdv ct}(a:CH K A0 x=some (some (.ref f)))(l:K.lookup f=some ⟨oc,od,.func (Be x x (tY st) (sv st) (sD st) .none kV doc pm an cdv ct),osl⟩)
  (c:Cg K cdv x=true) (k:Bq K (.ref f)=true):WrK K (x,st):=⟨f,_,a,Yn l c k⟩
theorem AllK.at(X:K.In h)(G:h.Ns A0 mg):∀ {l} (_:AllK K l) (i:Nat),WxO K mg l[i]?
 | [],_,_=>trivial
 | _::_,⟨⟨f,fd,a,F⟩,_⟩,0=>⟨f,fd,a,F,Ic X G a⟩
 | _::_,⟨_,r⟩,i+1=>r.at X G i
theorem ZK.at(X:K.In h)(G:h.Ns A0 mg):∀ {l} (_:ZK K l) x,l.elem x=true->mg x=none
 | [],_,_,e=>nomatch e
 | y::r,⟨a,z⟩,x,e=>by
  rw[List.elem_cons]at e;split at e
  ·rename_i h;rw[eq_of_beq h];exact PySem.W.mg_none_of X G a
  ·exact z.at X G x e
def Wx.nk(w:Wx K mg x st):NK K mg x:=let ⟨f,_,a,_,m⟩:=w;⟨f,a,m⟩
def sj(w:Wx K mg x st)(S:sH N ps (sD st))
  (body:∀ cdv f A outer s H E,N.Nodup->Fm K mg k (zk P wd K mg base N x (sD st) f cdv A outer s H E)->Fb P wd base (zk P wd K mg base N x (sD st) f cdv A outer s H E)->BX K (zk P wd K mg base N x (sD st) f cdv A outer s H E) ip (sv st) g:=by walk_at "d")
  (hb:∀ kV doc pm an cdv ct us,us.length=ps.length->F9 (Be x x (tY st) (sv st) (sD st) .none kV doc pm an cdv ct) ⟨us,[]⟩=pure (ps.zip us):=by walk_at "b") :
  FD P wd K mg base (k+1) x ip ps.length (sX ip ps.length N.length g):=by
 obtain⟨f,fd,a,F,m⟩:=w;exact XY F S m (F.binds hb) λc A o s H E i j=>body c f A o s H E S.nd i j
theorem Nc{F:Nat->DF}{n}(w:Wx K mg x st)(S:sH N ps (sD st))(h0:F 0=λ_=>none)(hn:ps.length=n)(step:∀ m,FD P wd K mg base (k+m) x ip n (F m)->FD P wd K mg base (k+m+1) x ip n (F (m+1)))
  (hb:∀ kV doc pm an cdv ct us,us.length=ps.length->F9 (Be x x (tY st) (sv st) (sD st) .none kV doc pm an cdv ct) ⟨us,[]⟩=pure (ps.zip us):=by walk_at "b"):∀ m,FD P wd K mg base (k+m) x ip n (F m)
 | 0=>by
  obtain⟨f,fd,a,F,m⟩:=w;rw[h0];exact dk F m (F.binds hb) hn
 | m+1=>step m (Nc w S h0 hn step hb m)
def mV{fa}{l:ES}{v0}(w:Wx K mg x st)(hfa:mg x=some (.ref fa))(hb:∀ kV doc pm an cdv ct v,F9 (Be x x (tY st) (sv st) (sD st) .none kV doc pm an cdv ct) ⟨[v],[]⟩=pure [(v0,v)])
  (body:∀ f fd base,zm K x x st f fd->uj l.prog wd K mg base xh n f fd [v0] (xT K none 1 F)) :
  ∃ fd,(∀ s v,F8 s fd ⟨[v],[]⟩ [(v0,v)])/\∀ base,K.In base->base.Ns A0 mg->uj l.prog wd K mg base xh n fa fd [v0] (xT K none 1 F):=by
 obtain⟨f,fd,a,F0,m⟩:=w;rw[m]at hfa;cases hfa;refine⟨fd,λs v=>?_,λbase _ _=>body _ fd base F0⟩;obtain⟨oc,od,kV,doc,pm,an,cdv,ct,osl,rfl,lk,hcd⟩:=F0.ex;exact .of_eq (hb kV doc pm an cdv ct v)
end
end D
namespace L2
open PySem PySem.Spec PyProof.Rows PySem.W
section
variable {prog:Aj}{w:A5}{A:BG}{E:AL->AR->Prop}{s:AR}{d:Addr}{es:Array Ew}{ep:Nat}
def bH(hh:A.handled=none)(hsm:(d == Bw)=false)(hm:vd s.heap d es ep)(hn:es.size<=AC)
  (h:∀ (h':Heap) (tk:Nat) (acc:Array AL),(∀ b o,s.heap.get? b=some o->h'.get? b=some o)->Dp (λi v=>∃ e,es[i]?=some e/\v=e.key) acc es.size->Q₁ (.ref h'.objs.size) { s with heap:=h'.push { cls:=.type "tuple",data:=.seq acc },toks:=tk }) :
  D7 (model prog w) A (.call (.builtin "tuple.__new__") ⟨[.type "tuple",.ref d],[]⟩) (wants Q₁ E) s:=by
 refine codeAny_of_tree ?_;refine AA (B8 (PySem.F.newCall_tuple_1 _) (AG ⟨Dq GQ _,D3 PySem.F.entry_tuple_new ?_⟩));rw[El GQ _];have hsub:=Kp;have hinit:=Jb;have hmh:=Kq;have hTI:=hm.typeIs
 wp_walk using C8 hTI,kdu_collect (A:=A.in1) (QA (es:=es) (ep:=ep) hsm) (by exact hh) hm hn
 intro h' tk acc kp hacc;show AQ _ _ (Dh acc.toList.toArray >>= λv=>ret v) _ _ _;refine AA (A9 ?_ (by show acc.toList.toArray.size<=AC;simp only[HJ];rw[hacc.1];exact hn));refine AG ?_;have e:acc.toList.toArray=acc:=by simp
 rw[e];exact h h' tk acc kp hacc
def kY(hh:A.handled=none)(hsm:(d == Bw)=false)(hm:vd s.heap d es ep)(hn:es.size<=AC)
  (h:∀ (h':Heap) tk acc,(∀ b o,s.heap.get? b=some o->h'.get? b=some o)->Dp (λi v=>∃ e,es[i]?=some e/\v=e.key) acc es.size->Q (.ref h'.objs.size) { s with heap:=h'.push { cls:=.type "tuple",data:=.seq acc },toks:=tk }) :
  AQ (model prog w) A (call (.type "tuple") [.ref d]) Q E s:=by
 refine HP (Q₁:=λobj s₁=>s₁.TypeIs obj "tuple"/\Q obj s₁) Ek (PySem.F.typeCall_tuple_1 _) PySem.F.entry_object_init
  (bH (hh) hsm hm hn λh' tk acc kp hacc=>⟨⟨_,AK _ rfl,rfl⟩,h h' tk acc kp hacc⟩) λobj s₁ h₁=>?_
 exact⟨h₁.1,PySem.F.args_object_init_2 obj _,object_init_meets Ek.init.lookup Ek.made ∅ prog w A.in1 _ s₁ ⟨h₁.1,rfl,h₁.2⟩⟩
end
end L2
namespace D
open PySem L2
theorem WZ(xs:List (List tu×Addr×AL)):sP (xs.map λx=>V.ref x.2.1) (xs.map λx=>Br x.2.1):=by
 induction xs with
 | nil=>exact .nil
 | cons a r ih=>exact .cons rfl ih
theorem WM(h:L2.KT H kvs xs):sf K H (xs.map λx=>V.ref x.2.1) (kvs.map λkv=>uz kv.1):=by
 induction h with
 | nil=>exact .nil
 | @cons a b l m h t ih=>exact .cons (Ss h.2.1) ih
def R6{xs:List (List tu×Addr×AL)}{es:Array Ew}{P w acc}(e4:es.toList=xs.map (entryOfKey (Es (si P w))))(ha:Dp (λi v=>∃ e,es[i]?=some e/\v=e.key) acc es.size):acc.toList=xs.map λx=>Br x.2.1:=by
 have hn:es.size=xs.length:=by rw[← Au,e4,Af]
 refine C0 (by rw[Au,ha.1,hn,Af]) λj h1 h2=>?_
 obtain⟨e,he,hv⟩:=ha.2 j acc[j] ↥1;rw[← Ej,e4,Ak]at he;have hjx:=by simpa using h2
 rw[AU hjx]at he;cases he;simp;exact hv
noncomputable def yd (K:Fg) (mk:List V->HO):List V->Hp->VK->Prop:=λxs H Q=>∃ p kvs,xs=[.ref p]/\Rd H p (.dT kvs)/\∀ l us,H l=none->sf K H us (kvs.map λkv=>uz kv.1)->Q (.ref l) (upd H l (mk us))
def rB{k}(hr:uJ k X.A):tJ X (.type "list") (yd X.K .lst):=by
 intro pins s σ H xs us Q I r h;obtain⟨p,kvs,rfl,hq,q⟩:=h;obtain⟨u,rfl,rfl⟩:=vals1 r;obtain⟨hz,hsm,xs,hk,o',es,ep,e1,e2,e3,e4,_,_⟩:=Me I.hok hq;have hm:vd s.heap p es ep:=⟨o',e1,e2,e3⟩
 have hn:es.size=xs.length:=by rw[← Au,e4,Af]
 have hx:=(Oj hk).symm;exact PySem.W.kdl_call (QA hsm) (hr.hd) hm ⋯ λh' tk acc c kp hD ha=>⟨.ref s.heap.objs.size,_,I.laid kp (AF _) (show tG X.prog X.w _ h' _ (.lst (xs.map λx=>V.ref x.2.1)) from ⟨by rw[Af];lia,xs.map λx=>Br x.2.1,c,WZ xs,by rw[← (R6 e4 ha)];exact hD⟩),rfl,q _ _ (I.hok.fresh (AF _)) (WM hk)⟩
def iU{k}(hr:uJ k X.A):tJ X (.type "tuple") (yd X.K .tup):=by
 intro pins s σ H xs us Q I r h;obtain⟨p,kvs,rfl,hq,q⟩:=h;obtain⟨u,rfl,rfl⟩:=vals1 r;obtain⟨hz,hsm,xs,hk,o',es,ep,e1,e2,e3,e4,_,_⟩:=Me I.hok hq;have hm:vd s.heap p es ep:=⟨o',e1,e2,e3⟩
 have hn:es.size=xs.length:=by rw[← Au,e4,Af]
 have hx:=(Oj hk).symm;refine kY (hr.hd) hsm hm ⋯ λh' tk acc kp ha=>?_
 have I1:=I.kept (t':=s.toks) kp;refine⟨.ref h'.objs.size,_,I1.laid (λb o e=>AB _ e) (AF _) (show tG X.prog X.w _ _ _ (.tup (xs.map λx=>V.ref x.2.1)) from ⟨by rw[Af];lia,xs.map λx=>Br x.2.1,WZ xs,?_⟩),rfl,q _ _ (I1.hok.fresh (AF _)) (WM hk)⟩;rw[← (R6 e4 ha)];exact⟨_,AK _ rfl,rfl,⟨_,rfl⟩,rfl⟩
noncomputable def listDS:En->List S->Option S:=λΓ as=>match as with
 | [a]=>(dictOf Γ a).bind λd=>match d with
  | .inr kvs=>some (.l (vS kvs))
  | .inl _=>none
 | _=>none
noncomputable def yE:En->List S->Option S:=λΓ as=>match as with
 | [a]=>(dictOf Γ a).bind λd=>match d with
  | .inr kvs=>some (.v (.t (vS kvs)))
  | .inl _=>none
 | _=>none
def bf:vA K (yd K .tup) yE:=by
 intro C w Γ σ H vs as s Q R o e k;unfold yE at e;split at e
 ·obtain⟨d,e1,e⟩:=sC e;split at e
  ·cases e;obtain⟨v,rfl,o1⟩:=tK o;obtain⟨p,ob,rfl,hp,hd⟩:=Mw R o1 e1;obtain⟨l,rfl,h1⟩:=hd.invT;refine⟨p,l,rfl,.inl hp,λl' us hl' hu=>?_⟩;rw[VF h1]at hu;exact k _ _ (R.new hl') (tP.new hl') (R.newt hl' hu) trivial
  ·cases e
 ·cases e
section
variable {ι:Type}{K:Fg}{X:ι->Cx}{mg:Str->Option AL}{k:Nat}{Γ:En}
def ig(M:Fm K mg k X):wK K X (.type "tuple") yE:=⟨_,λj=>by have:=iU (M.room j);rw[M.K j]at this;exact this,bf⟩
@[simp] theorem qA:yE Γ [a]=(dictOf Γ a).bind λd=>match d with
  | .inr kvs=>some (.v (.t (vS kvs)))
  | .inl _=>none:=(rfl)
end
open PySem.SeqAt
end D
namespace L2
open PySem PySem.Spec PyProof.Rows PySem.W
section
variable {X:Cx}
def AAM:R2:=λx y H Q=>∃ (n lo hi:Int) (p:Addr),x=.int n/\y=.ref p/\H p=some (.rng lo hi)/\Q (.bl (decide (lo<=n) && decide (n < hi))) H
def X3:u5 X (BO .In) AAM:=by
 intro pins s σ H x y v u Q I rx ry h;obtain⟨n,lo,hi,p,rfl,rfl,hp,q⟩:=h;obtain⟨tn,rfl⟩:=rx;cases ry;obtain⟨t1,t2,t3,ho⟩:=(show tG X.prog X.w H s.heap p (.rng lo hi) from I.hok p _ hp)
 have hT:s.TypeIs (.ref p) "range":=⟨_,ho,rfl⟩
 show AQ (model X.prog X.w) X.A (do return F5 (← contains (.ref p) (.int n tn))) (EP X pins σ Q) X.xe s;refine AA (wpAny_contains_slot (T:="range") hT Hr (Ay Hr hT F.entry_range_contains ?_ (F.args_range_contains_2 _ _)));unfold Builtin.«range.__contains__»;obtain⟨hh,g,d,tk,os⟩:=s
 repeat (any_goals (first | assumption | wp_step))
 refine⟨_,rfl,?_⟩;rw[dF];refine B8 (a:=(decide (lo<=n) && decide (n < hi))) rfl ?_;exact AG ⟨.bl _,H,I,rfl,q⟩
end
end L2
namespace D
open PySem L2
noncomputable def AFl (fa:DA):DE:=λΓ=>(fa Γ).bind λp=>match p.1 with
 | [.v (.t xs)]=>some (.v (.t xs.reverse),p.2)
 | _=>none
noncomputable def xE (da:DE) (db:DA):DE:=λΓ=>(da Γ).bind λp=>(db p.2).bind λq=>match p.1,q.1 with
 | .v (.a (.int n)),[.v (.a (.int m))]=>some (.v (.a (.bl (decide (0<=n) && decide (n < m)))),q.2)
 | _,_=>none
def aO(ha:sW K ta da)(hb:ui K tb db):sW K (tOp AAM ta (tCB AAs tb)) (xE da db):=by
 intro C w Γ σ H s Γ' Q R e k;obtain⟨p,e1,e⟩:=sC e;obtain⟨q,e2,e⟩:=sC e;obtain⟨p1,p2⟩:=p;obtain⟨q1,q2⟩:=q;dsimp only at e e1 e2;split at e
 ·rename_i n m hz;cases e;refine ha C w Γ σ H _ _ _ R e1 λv1 H1 R1 ev1 o1 n1=>?_
  refine hb C w p2 σ H1 _ _ _ R1 e2 λvs H2 R2 ev2 o2 n2=>?_
  obtain⟨v2,rfl,o3⟩:=tK o2;have o1':Im K H1 v1 (.a (.int n)):=o1;have o3':Im K H2 v2 (.a (.int m)):=o3;exact .inl ⟨m,by rw[o3'.inva],λc hc=>⟨n,0,m,c,o1'.inva,rfl,Ln,k _ _ (R2.new hc) ((ev1.trans ev2).trans (tP.new hc)) tH.atom trivial⟩⟩
 ·cases e
section
variable {ι:Type}{K:Fg}{X:ι->Cx}{mg:Str->Option AL}{k:Nat}{a b:Expr}{da:DE}{db:DA}{p pos pos2:Pos}{Γ:En}
def jc(M:Fm K mg k X)(hr:mg "range"=none)(ha:EX K X a da)(hb:AX K X [b] db)(hg:∀ j,Gl (X j) "range":=by intro _;rfl)
  (he:∀ j,AV [b] (X j).env=(false,eval b (X j).env)::AV [] (X j).env:=by intro _;rfl) (hpl:∀ j,(CB pos2 (AV [] (X j).env)).any (·.1)=false:=by intro _;rfl) (hm:Bl .In (.Call (.Name "range" p) [b] [] pos2)=false:=by with_unfolding_all rfl) :
  EX K X (.Compare a [.In] [.Call (.Name "range" p) [b] [] pos2] pos) (xE da db):=
 let ⟨_,q,u⟩:=ha;let ⟨_,q2,u2⟩:=hb
 ⟨_,λj=>RY X3 (q j) (NP Pr (hg j) (by rw[M.mg];exact hr) Ds (q2 j) ∅ ∅ (he j) (hpl j)) hm,aO u u2⟩
@[simp] theorem nF:xE da db Γ=(da Γ).bind λp=>(db p.2).bind λq=>match p.1,q.1 with
 | .v (.a (.int n)),[.v (.a (.int m))]=>some (.v (.a (.bl (decide (0<=n) && decide (n < m)))),q.2)
 | _,_=>none:=(rfl)
end
end D
namespace L2
open PySem PySem.W PyProof.Rows
def wc:Bool->B5->Array B5->Nat->Nat->Nat->StateT Bh Sem (Option Nat):=sortPriv% PySem.Builtin.gallop
section
variable {prog:Aj}{w:A5}{A:BG}{E:AL->AR->Prop}{s0:AR}{κ:Cr}{it:Array B5}{lt:Nat->Nat->Bool}{α β:Type}{st:Bh}
def wq (prog:Aj) (w:A5) (A:BG) (E:AL->AR->Prop) (s0:AR) {α} (m:StateT Bh Sem α) (Q:α->Bh->Prop) (st:Bh):Prop:=
 ∀ tk,kasC (model prog w) A E m (λa st' s'=>(∃ tk',s'={ s0 with toks:=tk' })/\Q a st') st { s0 with toks:=tk }
def La{a:α}{Q}(h:Q a st):wq prog w A E s0 (pure a) Q st:=λtk=>kasC_pure ⟨⟨tk,rfl⟩,h⟩
def LZ{m:StateT Bh Sem α}{f}{Q:β->Bh->Prop}(h:wq prog w A E s0 m (λa st'=>wq prog w A E s0 (f a) Q st') st):wq prog w A E s0 (m >>= f) Q st:=λtk=>by
 refine kasC_bind (BH (h tk) (λr s' h'=>?_) λ_ _ e=>e);obtain⟨⟨tk',rfl⟩,hq⟩:=h';exact hq tk'
def Lj{Q Q':α->Bh->Prop}(h:wq prog w A E s0 m Q st)(hq:∀ a st',Q a st'->Q' a st'):wq prog w A E s0 m Q' st:=λtk=>by
 refine BH (h tk) (λr s' h'=>⟨h'.1,hq _ _ h'.2⟩) λ_ _ e=>e
def Ly(h:Q st st):wq prog w A E s0 get Q st:=λtk=>kasC_get ⟨⟨tk,rfl⟩,h⟩
def MY(h:Q ⟨⟩ (f st)):wq prog w A E s0 (modify f:StateT Bh Sem PUnit) Q st:=λtk=>kasC_modify ⟨⟨tk,rfl⟩,h⟩
def M4(h:Q () st):wq prog w A E s0 (liftM (rule x:Sem Unit):StateT Bh Sem Unit) Q st:=λtk=>kasC_lift (CS ⟨⟨tk,rfl⟩,h⟩)
theorem Wi(I:List Nat->β->Bh->Prop) Q
  (hs:∀ x rest b st,I (x::rest) b st->wq prog w A E s0 (f x b) (λr st'=>match r with | .done b'=>Q b' st' | .yield b'=>I rest b' st') st)
  (he:∀ b st,I [] b st->Q b st):∀ l b st,I l b st->wq prog w A E s0 (forIn l b f) Q st
 | [],b,st,h=>λtk=>kasC_nil ⟨⟨tk,rfl⟩,he _ _ h⟩
 | x::rest,b,st,h=>λtk=>by
  refine kasC_cons (BH (hs x rest b st h tk) (λr s' h'=>?_) λ_ _ e=>e);obtain⟨⟨tk',rfl⟩,hq⟩:=h';obtain⟨r,st'⟩:=r;cases r with
  | done b'=>exact⟨⟨tk',rfl⟩,hq⟩
  | yield b'=>exact Wi I Q hs he rest b' st' hq tk'
def Lm(I:Nat->β->Bh->Prop){Q}
  (hs:∀ i c st,a<=i->i < b->I i c st->wq prog w A E s0 (f i c) (λr st'=>match r with | .done c'=>Q c' st' | .yield c'=>I (i+1) c' st') st)
  (he:∀ c st,I (max a b) c st->Q c st) {c} (h:I a c st):wq prog w A E s0 (forIn [a:b] c f) Q st:=λtk=>by
 refine kasC_range (Wi (λl c st=>∃ i,a<=i/\i<=max a b/\l=D9 i (max a b - i) 1/\I i c st) Q ?_ ?_ _ c st ⟨a,AF _,by lia,by congr 1;lia,h⟩ tk)
 ·rintro x rest c st ⟨i,hai,hib,hl,hI⟩;have hlt:i < max a b:=by
   rcases Bt i (max a b) with h' | h'
   ·exact h'
   ·rw[show max a b - i=0 by lia]at hl;simp at hl
  obtain⟨n,hn⟩:∃ n,max a b - i=n+1:=⟨max a b - i - 1,by lia⟩
  rw[hn]at hl;obtain⟨rfl,rfl⟩:=LW hl;refine Lj (hs x c st hai ⋯ hI) λr st' h'=>?_
  cases r with
  | done c'=>exact h'
  | yield c'=>exact⟨x+1,by lia,by lia,by congr 1;lia,h'⟩
 ·rintro c st ⟨i,hai,hib,hl,hI⟩;have:max a b - i=0:=by
   grind
  have e:i=max a b:=by lia
  exact he c st (e ▸ hI)
def zw (prog:Aj) (w:A5) (A:BG) (s0:AR) (κ:Cr) (it:Array B5) (lt:Nat->Nat->Bool):Prop:=
 ∀ i j,i < it.size->j < it.size->∀ C tk,(∀ tk',C (lt i j) { s0 with toks:=tk' })->kas_cmp prog w A κ it i j C { s0 with toks:=tk }
def N4(hA:zw prog w A s0 κ it lt)(hi:i < it.size)(hj:j < it.size)(hk:Dd st=κ)(h:Q (some (lt i j)) st):wq prog w A E s0 (lt' (kas_item it i) (kas_item it j)) Q st:=λtk=>by
 refine kasC_bind (kasC_get ?_);subst hk;refine kasC_bind (kasC_lift (B7 (BH (hA i j hi hj (λc s'=>c=lt i j/\∃ tk',s'={ s0 with toks:=tk' }) tk λtk'=>⟨rfl,tk',rfl⟩) (λc s' hc=>?_) λ_ _ hF=>hF.elim)));obtain⟨rfl,tk',rfl⟩:=hc;exact kasC_pure ⟨⟨tk',rfl⟩,h⟩
def Lg{p:Array Nat}{i Q}(hi:i < p.size)(h:Q (kas_item it (p.getD i 0)) st):wq prog w A E s0 (elem' (p.map (kas_item it)) i) Q st:=by
 rw[elem'_eq];have e:p.getD i 0=p[i]:=by simp[Hh,hi]
 have e2:(p.map (kas_item it))[i]?=some (kas_item it (p.getD i 0)):=by rw[e];simp[hi]
 rw[e2];exact La h
end
section
variable {prog:Aj}{w:A5}{A:BG}{E:AL->AR->Prop}{s0:AR}{κ:Cr}{it:Array B5}{lt:Nat->Nat->Bool}{st:Bh}
def ADh (lt:Nat->Nat->Bool) (left:Bool) (key x:Nat):Bool:=if left=true then lt x key else !lt key x
theorem fL{key base i}{p:Array Nat}{Q}(hA:zw prog w A s0 κ it lt)(hk:Dd st=κ)(hkey:key < it.size)(hp:∀ i,i < p.size->p.getD i 0 < it.size)(hi:base+i < p.size)
  (h:Q (some (ADh lt left key (p.getD (base+i) 0))) st) :
  wq prog w A E s0 ((elem' (p.map (kas_item it)) (base+i)) >>= λx=>if left=true then lt' x (kas_item it key) else (lt' (kas_item it key) x) >>= λr=>pure (Jf (λb=>!b) r)) Q st:=by
 refine LZ (Lg hi ?_);cases left with
 | true =>
  exact N4 hA (hp _ hi) hkey hk h
 | false =>
  exact LZ (N4 hA hkey (hp _ hi) hk (La h))
theorem Sx{left:Bool}{key base n hint:Nat}{p:Array Nat}{Q:Option Nat->Bh->Prop}(hA:zw prog w A s0 κ it lt)(hk:Dd st=κ)(hkey:key < it.size)(hp:∀ i,i < p.size->p.getD i 0 < it.size)(hb:base+n<=p.size)(hh:hint < n)
  (t:Nat->Bool) (ht:∀ i,i < n->ADh lt left key (p.getD (base+i) 0)=t i) (mono:∀ i j,i<=j->j < n->t j=true->t i=true)
  (h:∀ k,k<=n->(∀ i,i < k->t i=true)->(∀ i,k<=i->i < n->t i=false)->Q (some k) st) :
  wq prog w A E s0 (wc left (kas_item it key) (p.map (kas_item it)) base n hint) Q st:=by
 have ask:∀ (i:Nat) (Q:Option Bool->Bh->Prop),i < n->Q (some (t i)) st->wq prog w A E s0 ((elem' (p.map (kas_item it)) (base+i)) >>= λx=>if left=true then lt' x (kas_item it key) else (lt' (kas_item it key) x) >>= λr=>pure (Jf (λb=>!b) r)) Q st:=λi Q hi hq=>fL hA hk hkey hp ⋯ (by rw[ht i hi];exact hq)
 have up:∀ m,m < n->t m=true->∀ i,i < m+1->t i=true:=λm hm h1 i hi=>mono i m ⋯ hm h1
 have dn:∀ m,t m=false->∀ i,m<=i->i < n->t i=false:=λm h1 i hi hn=>by
  cases h2:t i with
  | false=>rfl
  | true=>rw[mono m i hi hn h2]at h1;cases h1
 unfold wc;refine LZ (ask hint _ hh ?_);dsimp only;cases hr:t hint with
 | true =>
  simp only[if_true];refine LZ (Lj (Lm (I:=λx c st'=>st=st'/\∃ l o:Nat,c=(none,l,o)/\l < o/\x+1<=o/\hint+l < n/\t (hint+l)=true)
   (Q:=λc st'=>st=st'/\∃ l o:Nat,c=(none,l,o)/\l < o/\hint+l < n/\t (hint+l)=true/\(n - hint<=o\/t (hint+o)=false)) ?_ ?_ ⟨rfl,0,1,rfl,by lia,by lia,by lia,hr⟩) ?_)
  ·rintro x c st' _ hx ⟨rfl,l,o,rfl,h1,h2,h3,h4⟩;dsimp only;by_cases ho:o ≥ n - hint
   ·rw[if_pos ho];exact La ⟨rfl,l,o,rfl,h1,h3,h4,.inl ho⟩
   ·rw[if_neg ho];refine LZ (ask (hint+o) _ ⋯ ?_);dsimp only;cases h5:t (hint+o) with
    | true =>
     exact La ⟨rfl,o,2 * o+1,rfl,by lia,by lia,by lia,h5⟩
    | false =>
     exact La ⟨rfl,l,o,rfl,h1,h3,h4,.inr h5⟩
  ·rintro c st' ⟨rfl,l,o,rfl,h1,h2,h3,h4⟩;exact⟨rfl,l,o,rfl,h1,h3,h4,.inl ⋯⟩
  ·rintro c st' ⟨rfl,l,o,rfl,h1,h3,h4,h5⟩;dsimp only;refine LZ (Lj (Lm (I:=λx c st'=>st=st'/\∃ lo hi:Nat,c=(none,lo,hi)/\lo<=hi/\hi<=n/\hi - lo<=n - x/\(∀ i,i < lo->t i=true)/\(∀ i,hi<=i->i < n->t i=false))
    (Q:=λc st'=>st=st'/\∃ hi:Nat,c=(none,hi,hi)/\hi<=n/\(∀ i,i < hi->t i=true)/\(∀ i,hi<=i->i < n->t i=false)) ?_ ?_ ⟨rfl,hint+l+1,hint+min o (n - hint),rfl,by lia,by lia,by lia,up _ h3 h4,(λi hi hn=>by
    rcases h5 with h5 | h5
    ·lia
    ·exact dn _ h5 i ⋯ hn)⟩) ?_)
   ·rintro x c st' _ hx ⟨rfl,lo,hi,rfl,h1,h2,h3,h4,h5⟩;dsimp only;by_cases ho:lo ≥ hi
    ·rw[if_pos ho];obtain rfl:lo=hi:=by lia
     exact La ⟨rfl,lo,rfl,h2,h4,h5⟩
    ·rw[if_neg ho];refine LZ (ask (lo+(hi - lo) / 2) _ ⋯ ?_);dsimp only;cases hm:t (lo+(hi - lo) / 2) with
     | true =>
      simp only[if_true];exact La ⟨rfl,_,hi,rfl,by lia,h2,by lia,up _ ⋯ hm,h5⟩
     | false =>
      exact La ⟨rfl,lo,_,rfl,by lia,by lia,by lia,h4,dn _ hm⟩
   ·rintro c st' ⟨rfl,lo,hi,rfl,h1,h2,h3,h4,h5⟩;obtain rfl:lo=hi:=by lia
    exact⟨rfl,lo,rfl,h2,h4,h5⟩
   ·rintro c st' ⟨rfl,hi,rfl,h2,h4,h5⟩;exact La (h hi h2 h4 h5)
 | false =>
  refine LZ (Lj (Lm (I:=λx c st'=>st=st'/\∃ l o:Nat,c=(none,l,o)/\l < o/\x+1<=o/\l<=hint/\t (hint - l)=false)
   (Q:=λc st'=>st=st'/\∃ l o:Nat,c=(none,l,o)/\l < o/\l<=hint/\t (hint - l)=false/\(hint+1<=o\/(o<=hint/\t (hint - o)=true))) ?_ ?_ ⟨rfl,0,1,rfl,by lia,by lia,by lia,hr⟩) ?_)
  ·rintro x c st' _ hx ⟨rfl,l,o,rfl,h1,h2,h3,h4⟩;dsimp only;by_cases ho:o ≥ hint+1
   ·rw[if_pos ho];exact La ⟨rfl,l,o,rfl,h1,h3,h4,.inl ho⟩
   ·rw[if_neg ho];refine LZ (ask (hint - o) _ ⋯ ?_);dsimp only;cases h5:t (hint - o) with
    | true =>
     simp only[if_true];exact La ⟨rfl,l,o,rfl,h1,h3,h4,.inr ⟨by lia,h5⟩⟩
    | false =>
     exact La ⟨rfl,o,2 * o+1,rfl,by lia,by lia,by lia,h5⟩
  ·rintro c st' ⟨rfl,l,o,rfl,h1,h2,h3,h4⟩;exact⟨rfl,l,o,rfl,h1,h3,h4,.inl ⋯⟩
  ·rintro c st' ⟨rfl,l,o,rfl,h1,h3,h4,h5⟩;dsimp only;refine LZ (Lj (Lm (I:=λx c st'=>st=st'/\∃ lo hi:Nat,c=(none,lo,hi)/\lo<=hi/\hi<=n/\hi - lo<=n - x/\(∀ i,i < lo->t i=true)/\(∀ i,hi<=i->i < n->t i=false))
    (Q:=λc st'=>st=st'/\∃ hi:Nat,c=(none,hi,hi)/\hi<=n/\(∀ i,i < hi->t i=true)/\(∀ i,hi<=i->i < n->t i=false)) ?_ ?_ ⟨rfl,hint+1 - min o (hint+1),hint - l,rfl,by lia,by lia,by lia,(λi hi=>by
    rcases h5 with h5 | ⟨h6,h5⟩
    ·lia
    ·exact up _ ⋯ h5 i ⋯),dn _ h4⟩) ?_)
   ·rintro x c st' _ hx ⟨rfl,lo,hi,rfl,h1,h2,h3,h4,h5⟩;dsimp only;by_cases ho:lo ≥ hi
    ·rw[if_pos ho];obtain rfl:lo=hi:=by lia
     exact La ⟨rfl,lo,rfl,h2,h4,h5⟩
    ·rw[if_neg ho];refine LZ (ask (lo+(hi - lo) / 2) _ ⋯ ?_);dsimp only;cases hm:t (lo+(hi - lo) / 2) with
     | true =>
      simp only[if_true];exact La ⟨rfl,_,hi,rfl,by lia,h2,by lia,up _ ⋯ hm,h5⟩
     | false =>
      exact La ⟨rfl,lo,_,rfl,by lia,by lia,by lia,h4,dn _ hm⟩
   ·rintro c st' ⟨rfl,lo,hi,rfl,h1,h2,h3,h4,h5⟩;obtain rfl:lo=hi:=by lia
    exact⟨rfl,lo,rfl,h2,h4,h5⟩
   ·rintro c st' ⟨rfl,hi,rfl,h2,h4,h5⟩;exact La (h hi h2 h4 h5)
end
structure Mi(lt:Nat->Nat->Bool)(la lb po:List Nat)(ia ib:Nat):Prop where
 ha:ia<=la.length
 hb:ib<=lb.length
 pm:po.Perm (la.take ia++lb.take ib)
 so:po.Pairwise λx y=>lt x y=true
 ba:∀ x∈po,∀ y∈la.drop ia,lt x y=true
 bb:∀ x∈po,∀ y∈lb.drop ib,lt x y=true
section
variable {lt:Nat->Nat->Bool}{la lb po:List Nat}{ia ib:Nat}
def NU{l:List Nat}{i}(h:i < l.length):l.drop i=l.getD i 0::l.drop (i+1):=by simp_all
def Wm{l:List Nat}{i}(h:i < l.length):l.take (i+1)=l.take i++[l.getD i 0]:=by simp_all
def VP(h:po.Pairwise λx y=>lt x y=true)(hx:∀ y∈po,lt y x=true):(po++[x]).Pairwise λx y=>lt x y=true:=by
 rw[E6];exact⟨h,G8 _ _,λa ha b hb=>by rw[AD.mp hb];exact hx a ha⟩
def Mi.pushA(h:Mi lt la lb po ia ib)(sa:la.Pairwise λx y=>lt x y=true)(hi:ia < la.length)(hx:∀ y∈lb.drop ib,lt (la.getD ia 0) y=true):Mi lt la lb (po++[la.getD ia 0]) (ia+1) ib:=by
 have hd:=NU hi;have sd:(la.drop ia).Pairwise λx y=>lt x y=true:=sa.sublist (Fd _ _)
 rw[hd,Bz]at sd;refine⟨by lia,h.hb,?_,VP h.so λy hy=>h.ba y hy _ (by rw[hd];exact AH),λx hx' y hy=>?_,λx hx' y hy=>?_⟩
 ·rw[Wm hi];refine (h.pm.append_right _).trans ?_;rw[BC,BC];exact (List.perm_append_comm).append_left _
 ·rcases A6.mp hx' with z | z
  ·exact h.ba x z y (by rw[hd];exact AI _ hy)
  ·rw[AD.mp z];exact sd.1 y hy
 ·rcases A6.mp hx' with z | z
  ·exact h.bb x z y hy
  ·rw[AD.mp z];exact hx y hy
def Mi.pushB(h:Mi lt la lb po ia ib)(sb:lb.Pairwise λx y=>lt x y=true)(hi:ib < lb.length)(hx:∀ y∈la.drop ia,lt (lb.getD ib 0) y=true):Mi lt la lb (po++[lb.getD ib 0]) ia (ib+1):=by
 have hd:=NU hi;have sd:(lb.drop ib).Pairwise λx y=>lt x y=true:=sb.sublist (Fd _ _)
 rw[hd,Bz]at sd;refine⟨h.ha,by lia,?_,VP h.so λy hy=>h.bb y hy _ (by rw[hd];exact AH),λx hx' y hy=>?_,λx hx' y hy=>?_⟩
 ·rw[Wm hi,← BC];exact h.pm.append_right _
 ·rcases A6.mp hx' with z | z
  ·exact h.ba x z y hy
  ·rw[AD.mp z];exact hx y hy
 ·rcases A6.mp hx' with z | z
  ·exact h.bb x z y (by rw[hd];exact AI _ hy)
  ·rw[AD.mp z];exact sd.1 y hy
theorem Mi.moveA(sa:la.Pairwise λx y=>lt x y=true):∀ k {po ia},Mi lt la lb po ia ib->ia+k<=la.length->(∀ i,i < k->∀ y∈lb.drop ib,lt (la.getD (ia+i) 0) y=true)->Mi lt la lb (po++(la.drop ia).take k) (ia+k) ib
 | 0,po,ia,h,_,_=>by simpa using h
 | k+1,po,ia,h,hl,hx=>by
  rw[NU (show ia < la.length by lia),show ia+(k+1)=ia+1+k by lia];simpa using (Mi.moveA sa k (h.pushA sa ⋯ (hx 0 ⋯)) ⋯ λi hi y hy=>by rw[show ia+1+i=ia+(i+1) by lia];exact hx (i+1) ⋯ y hy)
theorem Mi.moveB(sb:lb.Pairwise λx y=>lt x y=true):∀ k {po ib},Mi lt la lb po ia ib->ib+k<=lb.length->(∀ i,i < k->∀ y∈la.drop ia,lt (lb.getD (ib+i) 0) y=true)->Mi lt la lb (po++(lb.drop ib).take k) ia (ib+k)
 | 0,po,ib,h,_,_=>by simpa using h
 | k+1,po,ib,h,hl,hx=>by
  rw[NU (show ib < lb.length by lia),show ib+(k+1)=ib+1+k by lia];simpa using (Mi.moveB sb k (h.pushB sb ⋯ (hx 0 ⋯)) ⋯ λi hi y hy=>by rw[show ib+1+i=ib+(i+1) by lia];exact hx (i+1) ⋯ y hy)
def xO (lt:Nat->Nat->Bool) (la lb r:List Nat):Prop:=r.Perm (la++lb)/\r.Pairwise λx y=>lt x y=true
def Mi.fin(h:Mi lt la lb po la.length lb.length):xO lt la lb po:=⟨by simpa using h.pm,h.so⟩
def Mi.finA(h:Mi lt la lb po ia ib)(sa:la.Pairwise λx y=>lt x y=true)(hb:ib=lb.length):xO lt la lb (po++la.drop ia):=by
 have h1:=Mi.moveA sa (la.length - ia) h (by have:=h.ha;lia) (by simp_all);rw[BA ↥1]at h1;have e:ia+(la.length - ia)=la.length:=by have:=h.ha;lia
 rw[e,hb]at h1;exact h1.fin
def Mi.finB(h:Mi lt la lb po ia ib)(sb:lb.Pairwise λx y=>lt x y=true)(ha:ia=la.length):xO lt la lb (po++lb.drop ib):=by
 have h1:=Mi.moveB sb (lb.length - ib) h (by have:=h.hb;lia) (by simp_all);rw[BA ↥1]at h1;have e:ib+(lb.length - ib)=lb.length:=by have:=h.hb;lia
 rw[e,ha]at h1;exact h1.fin
end
structure Apart(lt:Nat->Nat->Bool)(la lb:List Nat):Prop where
 tr:∀ {x y z},lt x y=true->lt y z=true->lt x z=true
 no:∀ {x y},lt x y=true->lt y x=false
 ab:∀ x∈la,∀ y∈lb,lt x y=false->lt y x=true
 ba:∀ x∈lb,∀ y∈la,lt x y=false->lt y x=true
 sa:la.Pairwise λx y=>lt x y=true
 sb:lb.Pairwise λx y=>lt x y=true
section
variable {lt:Nat->Nat->Bool}{la lb po l:List Nat}{ia ib:Nat}
def Nn(h:i < l.length):l.getD i 0∈l:=by simp_all
def Of(tr:∀ {x y z},lt x y=true->lt y z=true->lt x z=true)(sl:l.Pairwise λx y=>lt x y=true)(hi:i < l.length)(h:lt x (l.getD i 0)=true):∀ y∈l.drop i,lt x y=true:=λy hy=>by
 have sd:(l.drop i).Pairwise λx y=>lt x y=true:=sl.sublist (Fd _ _)
 rw[NU hi,Bz]at sd;rw[NU hi]at hy;rcases AN.mp hy with e | e
 ·rw[e];exact h
 ·exact tr h (sd.1 y e)
def ZC(sl:l.Pairwise λx y=>lt x y=true)(hij:i < j)(hj:j < l.length):lt (l.getD i 0) (l.getD j 0)=true:=by
 have:=BL.mp sl i j ⋯ hj hij;simpa [Kx,AU (show i < l.length by lia),AU hj] using this
def Mi.wonB(h:Mi lt la lb po ia ib)(A:Apart lt la lb)(ha:ia < la.length)(hb:ib < lb.length)(c:lt (lb.getD ib 0) (la.getD ia 0)=true):Mi lt la lb (po++[lb.getD ib 0]) ia (ib+1):=
 h.pushB A.sb hb (Of A.tr A.sa ha c)
def Mi.wonA(h:Mi lt la lb po ia ib)(A:Apart lt la lb)(ha:ia < la.length)(hb:ib < lb.length)(c:lt (lb.getD ib 0) (la.getD ia 0)=false):Mi lt la lb (po++[la.getD ia 0]) (ia+1) ib:=
 h.pushA A.sa ha (Of A.tr A.sb hb (A.ba _ (Nn hb) _ (Nn ha) c))
def Mi.galA(h:Mi lt la lb po ia ib)(A:Apart lt la lb)(hb:ib < lb.length)(hk:ia+k<=la.length)(c:∀ i,i < k->lt (lb.getD ib 0) (la.getD (ia+i) 0)=false):Mi lt la lb (po++(la.drop ia).take k) (ia+k) ib:=
 Mi.moveA A.sa k h hk λi hi=>Of A.tr A.sb hb (A.ba _ (Nn hb) _ (Nn ⋯) (c i hi))
def Mi.galB(h:Mi lt la lb po ia ib)(A:Apart lt la lb)(ha:ia < la.length)(hk:ib+k<=lb.length)(c:∀ i,i < k->lt (lb.getD (ib+i) 0) (la.getD ia 0)=true):Mi lt la lb (po++(lb.drop ib).take k) ia (ib+k):=
 Mi.moveB A.sb k h hk λi hi=>Of A.tr A.sa ha (c i hi)
def Mi.finL(h:Mi lt la lb po ia ib)(A:Apart lt la lb)(ha:ia+1=la.length)(hl:∀ y∈lb,lt y (la.getD ia 0)=true):xO lt la lb (po++lb.drop ib++la.drop ia):=by
 have hb:=h.hb;have h1:=Mi.galB h A ⋯ (k:=lb.length - ib) ⋯ λi hi=>hl _ (Nn ⋯)
 rw[BA ↥1]at h1;have e:ib+(lb.length - ib)=lb.length:=by lia
 rw[e]at h1;exact h1.finA A.sa rfl
end
def SA (κ:Cr) (it:Array B5) (p:Array Nat) (pd:Array (Nat×Nat×Nat)) (st:Bh):Prop:=Dd st=κ/\Gv st=p.map (kas_item it)/\EO st=none/\DX st=pd
def tZ (lt:Nat->Nat->Bool) (p:Array Nat) (a b:Nat):Prop:=∀ i j,a<=i->i < j->j < b->lt (sZ p i) (sZ p j)=true
def ABC (lt:Nat->Nat->Bool) (p:Array Nat) (a b:Nat):Prop:=∀ i j,a<=i->i < j->j < b->lt (sZ p j) (sZ p i)=true
section
variable {prog:Aj}{w:A5}{A:BG}{E:AL->AR->Prop}{s0:AR}{κ:Cr}{it:Array B5}{lt:Nat->Nat->Bool}{st:Bh}{p:Array Nat}{pd:Array (Nat×Nat×Nat)}
def NB(hA:zw prog w A s0 κ it lt)(h:SA κ it p pd st)(hp:t7 it.size p)(hi:i < it.size)(hj:j < it.size)(hq:Q (some (lt (sZ p i) (sZ p j))) st):wq prog w A E s0 (ltAt' i j) Q st:=by
 rw[ltAt'_eq];refine LZ (Ly ?_);rw[h.2.1];exact LZ (Lg (by rw[hp.size];exact hi) (LZ (Lg (by rw[hp.size];exact hj) (N4 hA (hp.lt ⋯ _) (hp.lt ⋯ _) h.1 hq))))
def Xw(h:SA κ it p pd st)(hq:∀ st',SA κ it (kas_rev p i j) pd st'->Q () st'):wq prog w A E s0 (reverseSlice' i j) Q st:=by
 rw[reverseSlice'_eq];refine MY (hq _ ⟨h.1,?_,h.2.2.1,h.2.2.2⟩);rw[h.2.1];exact kas_swaps_map (kas_item it) (λk=>i+k) (λk=>j - 1 - k) _ p
def XZ(h:SA κ it p pd st)(hq:∀ st',SA κ it (bubble p k (k - l)) pd st'->Q () st'):wq prog w A E s0 (moveDown' k l) Q st:=by
 rw[moveDown'_eq];refine MY (hq _ ⟨h.1,?_,h.2.2.1,h.2.2.2⟩);rw[h.2.1];exact kas_swaps_map (kas_item it) (λi=>k - i) (λi=>k - i - 1) _ p
def Qa(hm:m<=p.size) i:sZ (kas_rev p a m) i=if a<=i/\i < m then sZ p (a+m - 1 - i) else sZ p i:=by
 unfold kas_rev;rw[Lf,(JB hm i)];split
 ·rw[Lf]
 ·rw[Lf]
def tZ.more(T:xP it.size lt)(h:t7 it.size p)(s:tZ lt p a m)(hm:a < m)(hmn:m < it.size)(hc:lt (sZ p (m - 1)) (sZ p m)=true):tZ lt p a (m+1):=λi j hai hij hj=>by
 by_cases e:j=m
 ·subst e;by_cases e2:i=j - 1
  ·subst e2;exact hc
  ·exact T.tr _ _ _ (h.atlt ⋯ _) (h.atlt ⋯ _) (h.atlt ⋯ _) (s i (j - 1) hai ⋯ ⋯) hc
 ·exact s i j hai hij ⋯
def ABC.more(T:xP it.size lt)(h:t7 it.size p)(s:ABC lt p a m)(hm:a < m)(hmn:m < it.size)(hc:lt (sZ p m) (sZ p (m - 1))=true):ABC lt p a (m+1):=λi j hai hij hj=>by
 by_cases e:j=m
 ·subst e;by_cases e2:i=j - 1
  ·subst e2;exact hc
  ·exact T.tr _ _ _ (h.atlt ⋯ _) (h.atlt ⋯ _) (h.atlt ⋯ _) hc (s i (j - 1) hai ⋯ ⋯)
 ·exact s i j hai hij ⋯
def xP.flip(T:xP it.size lt)(h:t7 it.size p)(hi:i < it.size)(hj:j < it.size)(hij:i≠j)(hc:lt (sZ p i) (sZ p j)=false):lt (sZ p j) (sZ p i)=true:=
 T.tot _ _ (h.atlt ⋯ _) (h.atlt ⋯ _) (λz=>hij (h.inj hi hj z)) hc
def Ux{lo nrem Q}(hA:zw prog w A s0 κ it lt)(T:xP it.size lt)(h:SA κ it p pd st)(hp:t7 it.size p)(hn:lo+nrem=it.size)(h1:1<=nrem)
  (hq:∀ m p' st',SA κ it p' pd st'->t7 it.size p'->1<=m->m<=nrem->tZ lt p' lo (lo+m)->(∀ i,i < lo->sZ p' i=sZ p i)->Q (some m) st'):wq prog w A E s0 (countRun' lo nrem) Q st:=by
 refine LZ (Lj (Lm (I:=λx c st'=>st=st'/\c=(none,x)/\tZ lt p lo (lo+x)) (Q:=λc st'=>st=st'/\∃ m,c=(none,m)/\1<=m/\m<=nrem/\tZ lt p lo (lo+m)/\(m=nrem\/lt (sZ p (lo+m)) (sZ p (lo+m - 1))=true)) ?_ ?_ ⟨rfl,rfl,λi j _ _ _=>by lia⟩) ?_)
 ·rintro x c st' h1x hx ⟨rfl,rfl,ha⟩;dsimp only;refine LZ (NB hA h hp ⋯ ⋯ ?_);cases hc:lt (sZ p (lo+x)) (sZ p (lo+x - 1)) with
  | true =>
   exact La ⟨rfl,x,rfl,h1x,by lia,ha,.inr hc⟩
  | false =>
   exact La ⟨rfl,rfl,ha.more T hp ⋯ ⋯ (T.flip hp ⋯ ⋯ ⋯ hc)⟩
 ·rintro c st' ⟨rfl,rfl,ha⟩;rw[show max 1 nrem=nrem by lia]at ha ⊢;exact⟨rfl,nrem,rfl,h1,AF _,ha,.inl rfl⟩
 rintro c st' ⟨rfl,m,rfl,hm1,hm2,ha,hend⟩;dsimp only;by_cases e:m=nrem
 ·rw[if_pos (by simpa using e)];exact La (hq m p st h hp hm1 hm2 ha λ_ _=>rfl)
 rw[if_neg (by simpa using e)];have hend':=hend.resolve_left e;by_cases e1:m > 1
 ·rw[if_pos e1];refine LZ (NB hA h hp ⋯ ⋯ ?_);rw[ha lo (lo+m - 1) (AF _) ⋯ ⋯];exact La (hq m p st h hp hm1 hm2 ha λ_ _=>rfl)
 rw[if_neg e1];obtain rfl:m=1:=by lia
 refine LZ (M4 (LZ (Lj (Lm (I:=λx c st'=>st=st'/\c=(none,x,0)/\ABC lt p lo (lo+x)) (Q:=λc st'=>st=st'/\∃ m,c=(none,m,0)/\2<=m/\m<=nrem/\ABC lt p lo (lo+m)) ?_ ?_ ⟨rfl,rfl,λi j h1 h2 h3=>?_⟩) ?_)))
 ·rintro x c st' h1x hx ⟨rfl,rfl,ha⟩;dsimp only;refine LZ (NB hA h hp ⋯ ⋯ ?_);cases hc:lt (sZ p (lo+x)) (sZ p (lo+x - 1)) with
  | true =>
   exact La ⟨rfl,rfl,ha.more T hp ⋯ ⋯ hc⟩
  | false =>
   refine LZ (NB hA h hp ⋯ ⋯ ?_);rw[T.flip hp ⋯ ⋯ ⋯ hc];exact La ⟨rfl,x,rfl,by lia,by lia,ha⟩
 ·rintro c st' ⟨rfl,rfl,ha⟩;rw[show max (1+1) nrem=nrem by lia]at ha ⊢;exact⟨rfl,nrem,rfl,by lia,AF _,ha⟩
 ·obtain rfl:i=lo:=by lia
  obtain rfl:j=i+1:=by lia
  exact hend'
 rintro c st' ⟨rfl,m,rfl,hm1,hm2,hd⟩;dsimp only;refine LZ (Xw h λst2 h2=>?_);have hp2:t7 it.size (kas_rev p lo (lo+m)):=hp.rev _ _;have hsz:lo+m<=p.size:=by rw[hp.size];lia
 have hb:∀ i,i < lo->sZ (kas_rev p lo (lo+m)) i=sZ p i:=λi hi=>by rw[Qa hsz,if_neg ⋯]
 have ha2:tZ lt (kas_rev p lo (lo+m)) lo (lo+m):=λi j h1 h2 h3=>by
  rw[Qa hsz,Qa hsz,if_pos ⋯,if_pos ⋯];exact hd _ _ ⋯ ⋯ ⋯
 generalize kas_rev p lo (lo+m)=p2 at *;refine LZ (Lj (Lm (I:=λx c st'=>st2=st'/\c=(none,x)/\tZ lt p2 lo (lo+x)) (Q:=λc st'=>st2=st'/\∃ m,c=(none,m)/\1<=m/\m<=nrem/\tZ lt p2 lo (lo+m)) ?_ ?_ ⟨rfl,rfl,ha2⟩) ?_)
 ·rintro x c st' h1x hx ⟨rfl,rfl,ha⟩;dsimp only;refine LZ (NB hA h2 hp2 ⋯ ⋯ ?_);cases hc:lt (sZ p2 (lo+x)) (sZ p2 (lo+x - 1)) with
  | true =>
   exact La ⟨rfl,x,rfl,by lia,by lia,ha⟩
  | false =>
   exact La ⟨rfl,rfl,ha.more T hp2 ⋯ ⋯ (T.flip hp2 ⋯ ⋯ ⋯ hc)⟩
 ·rintro c st' ⟨rfl,rfl,ha⟩;rw[show max m nrem=nrem by lia]at ha ⊢;exact⟨rfl,nrem,rfl,h1,AF _,ha⟩
 rintro c st' ⟨rfl,m',rfl,hm1',hm2',ha⟩;exact La (hq m' p2 st2 h2 hp2 hm1' hm2' ha hb)
def Wl{lo n ok:Nat}{Q}(hA:zw prog w A s0 κ it lt)(T:xP it.size lt)(h:SA κ it p pd st)(hp:t7 it.size p)(hn:lo+n<=it.size)(h1:1<=ok)(hok:ok<=n)(ha:tZ lt p lo (lo+ok))
  (hq:∀ p' st',SA κ it p' pd st'->t7 it.size p'->tZ lt p' lo (lo+n)->(∀ i,i < lo->sZ p' i=sZ p i)->Q true st'):wq prog w A E s0 (binarySort' lo n ok) Q st:=by
 rw[binarySort'_eq];refine LZ (Lj (Lm (I:=λk c st'=>c=(none,())/\∃ p',SA κ it p' pd st'/\t7 it.size p'/\tZ lt p' lo (lo+k)/\(∀ i,i < lo->sZ p' i=sZ p i))
  (Q:=λc st'=>c=(none,())/\∃ p',SA κ it p' pd st'/\t7 it.size p'/\tZ lt p' lo (lo+n)/\(∀ i,i < lo->sZ p' i=sZ p i)) ?_ ?_ ⟨rfl,p,h,hp,by rw[show max ok 1=ok by lia];exact ha,λ_ _=>rfl⟩) ?_)
 ·rintro k c st' hak hkn ⟨rfl,p',h',hp',ha',hb'⟩;have lts:=λi=>hp'.atlt (show 0 < it.size by lia) i
  refine LZ (Lj (Lm (I:=λx c st''=>st'=st''/\∃ l r,c=(none,l,r)/\l<=r/\r<=k/\r - l<=k - x /\
    (∀ i,i < l->lt (sZ p' (lo+i)) (sZ p' (lo+k))=true)/\(∀ i,r<=i->i < k->lt (sZ p' (lo+k)) (sZ p' (lo+i))=true))
   (Q:=λc st''=>st'=st''/\∃ l r,c=(none,l,r)/\l<=k /\
    (∀ i,i < l->lt (sZ p' (lo+i)) (sZ p' (lo+k))=true)/\(∀ i,l<=i->i < k->lt (sZ p' (lo+k)) (sZ p' (lo+i))=true)) ?_ ?_ ⟨rfl,0,k,rfl,by lia,by lia,by lia,λi hi=>by lia,λi h1 h2=>by lia⟩) ?_)
  ·rintro x c st'' _ hxk ⟨rfl,l,r,rfl,hlr,hrk,hm,hlo,hhi⟩;dsimp only;by_cases hge:l ≥ r
   ·rw[if_pos hge];obtain rfl:l=r:=by lia
    exact La ⟨rfl,l,l,rfl,hrk,hlo,hhi⟩
   ·rw[if_neg hge];refine LZ (NB hA h' hp' ⋯ ⋯ ?_);dsimp only;cases hc:lt (sZ p' (lo+k)) (sZ p' (lo+(l+r) / 2)) with
    | true =>
     refine La ⟨rfl,l,(l+r) / 2,rfl,by lia,by lia,by lia,hlo,λi h1 h2=>?_⟩;by_cases ei:i=(l+r) / 2
     ·subst ei;exact hc
     ·exact T.tr _ _ _ (lts _) (lts _) (lts _) hc (ha' _ _ ⋯ ⋯ ⋯)
    | false =>
     have hc':=T.flip hp' ⋯ ⋯ ⋯ hc;refine La ⟨rfl,(l+r) / 2+1,r,rfl,by lia,by lia,by lia,λi h1=>?_,hhi⟩;by_cases ei:i=(l+r) / 2
     ·subst ei;exact hc'
     ·exact T.tr _ _ _ (lts _) (lts _) (lts _) (ha' _ _ ⋯ ⋯ ⋯) hc'
  ·rintro c st'' ⟨rfl,l,r,rfl,hlr,hrk,hm,hlo,hhi⟩;obtain rfl:l=r:=by lia
   exact⟨rfl,l,l,rfl,hrk,hlo,hhi⟩
  rintro c st'' ⟨rfl,l,r,rfl,hlk,hlo,hhi⟩;dsimp only;refine LZ (XZ h' λst2 h2=>La ⟨rfl,_,h2,hp'.bub _ _,?_,λi hi=>?_⟩)
  ·have hks:lo+k < p'.size:=by rw[hp'.size];lia
   intro i j hai hij hj;rw[N1 hks ⋯,N1 hks ⋯];have e1:∀ x,lo<=x->x < lo+l->lt (sZ p' x) (sZ p' (lo+k))=true:=λx h1 h2=>by have:=hlo (x - lo) ⋯;rwa [show lo+(x - lo)=x by lia]at this
   have e2:∀ x,lo+l<=x->x < lo+k->lt (sZ p' (lo+k)) (sZ p' x)=true:=λx h1 h2=>by have:=hhi (x - lo) ⋯ ⋯;rwa [show lo+(x - lo)=x by lia]at this
   repeat' split
   all_goals first
    | (exfalso;lia)
    | exact e1 _ ⋯ ⋯
    | exact e2 _ ⋯ ⋯
    | exact ha' _ _ ⋯ ⋯ ⋯
  ·have hks:lo+k < p'.size:=by rw[hp'.size];lia
   rw[N1 hks ⋯,if_neg ⋯,if_neg ⋯];exact hb' i hi
 ·rintro c st' ⟨hc,p',h',hp',ha',hb'⟩;rw[show max (max ok 1) n=n by lia]at ha';exact⟨hc,p',h',hp',ha',hb'⟩
 rintro c st' ⟨rfl,p',h',hp',ha',hb'⟩;exact La (hq p' st' h' hp' ha' hb')
end
def xy:Array B5->Array B5->StateT Bh Sem (Array B5):=sortPriv% PySem.Builtin.mergeLo
def AAC:Array B5->Array B5->StateT Bh Sem (Array B5):=sortPriv% PySem.Builtin.mergeHi
def Good (it:Array B5) (lt:Nat->Nat->Bool) (la lb:List Nat) (r:Array B5):Prop:=∃ q:Array Nat,r=q.map (kas_item it)/\xO lt la lb q.toList
section
variable {it:Array B5}{lt:Nat->Nat->Bool}{pa pb po:Array Nat}{ia ib:Nat}
def MT(f:Nat->B5)(p:Array Nat) i j:(p.map f).extract i j=(p.extract i j).map f:=↥1
def Mc(p:Array Nat) i j:(p.extract i j).toList=(p.toList.drop i).take (j - i):=↥1
def N3(p:Array Nat) i:(p.extract i p.size).toList=p.toList.drop i:=by
 rw[Mc,BA ↥1]
def xI (it:Array B5) (lt:Nat->Nat->Bool) (pa pb:Array Nat) (out:Array B5) (ia ib:Nat):Prop:=ia<=pa.size/\ib<=pb.size/\∃ po:Array Nat,out=po.map (kas_item it)/\Mi lt pa.toList pb.toList po.toList ia ib
variable {out:Array B5}
def Ll(p:Array Nat) i:p.getD i 0=p.toList.getD i 0:=↥1
def xI.done(h:xI it lt pa pb out ia ib)(A:Apart lt pa.toList pb.toList)(he:ib=pb.size\/ia=pa.size) :
  Good it lt pa.toList pb.toList (out++(pa.map (kas_item it)).extract ia (pa.map (kas_item it)).size++(pb.map (kas_item it)).extract ib (pb.map (kas_item it)).size):=by
 obtain⟨_,_,po,rfl,h⟩:=h;refine⟨po++pa.extract ia pa.size++pb.extract ib pb.size,?_,?_⟩
 ·rw[MT];simp
 ·rw[BD,BD,N3,N3];rcases he with rfl | rfl
  ·rw[DN (l:=pb.toList) ↥1,Bv];exact h.finA A.sa ↥1
  ·rw[DN ↥1,Bv];exact h.finB A.sb ↥1
def xI.last(h:xI it lt pa pb out ia ib)(A:Apart lt pa.toList pb.toList)(hl:∀ y∈pb.toList,lt y (pa.toList.getD (pa.size - 1) 0)=true)(he:ia+1=pa.size) :
  Good it lt pa.toList pb.toList (out++(pb.map (kas_item it)).extract ib (pb.map (kas_item it)).size++(pa.map (kas_item it)).extract ia (pa.map (kas_item it)).size):=by
 obtain⟨_,_,po,rfl,h⟩:=h;refine⟨po++pb.extract ib pb.size++pa.extract ia pa.size,?_,?_⟩
 ·rw[MT];simp
 ·rw[BD,BD,N3,N3];exact h.finL A ‹_› λy hy=>by rw[show ia=pa.size - 1 by lia];exact hl y hy
def xI.b(h:xI it lt pa pb out ia ib)(A:Apart lt pa.toList pb.toList)(h1:ia < pa.size)(h2:ib < pb.size)(hc:lt (pb.getD ib 0) (pa.getD ia 0)=true):xI it lt pa pb (out.push (kas_item it (pb.getD ib 0))) ia (ib+1):=by
 obtain⟨ea,eb,po,rfl,h⟩:=h;rw[Ll,Ll]at hc;exact⟨ea,h2,po.push (pb.getD ib 0),by simp,by rw[DM,Ll];exact h.wonB A ‹_› ‹_› hc⟩
def xI.a(h:xI it lt pa pb out ia ib)(A:Apart lt pa.toList pb.toList)(h1:ia < pa.size)(h2:ib < pb.size)(hc:lt (pb.getD ib 0) (pa.getD ia 0)=false):xI it lt pa pb (out.push (kas_item it (pa.getD ia 0))) (ia+1) ib:=by
 obtain⟨ea,eb,po,rfl,h⟩:=h;rw[Ll,Ll]at hc;exact⟨h1,eb,po.push (pa.getD ia 0),by simp,by rw[DM,Ll];exact h.wonA A ‹_› ‹_› hc⟩
def xI.ga(h:xI it lt pa pb out ia ib)(A:Apart lt pa.toList pb.toList)(h1:ia+k<=pa.size)(h2:ib < pb.size)(hc:∀ i,i < k->lt (pb.getD ib 0) (pa.getD (ia+i) 0)=false):xI it lt pa pb (out++(pa.map (kas_item it)).extract ia (ia+k)) (ia+k) ib:=by
 obtain⟨ea,eb,po,rfl,h⟩:=h;refine⟨h1,eb,po++pa.extract ia (ia+k),by rw[MT];simp,?_⟩;rw[BD,Mc,HD];exact h.galA A ‹_› ‹_› λi hi=>by rw[← Ll,← Ll];exact hc i hi
def xI.gb(h:xI it lt pa pb out ia ib)(A:Apart lt pa.toList pb.toList)(h1:ia < pa.size)(h2:ib+k<=pb.size)(hc:∀ i,i < k->lt (pb.getD (ib+i) 0) (pa.getD ia 0)=true):xI it lt pa pb (out++(pb.map (kas_item it)).extract ib (ib+k)) ia (ib+k):=by
 obtain⟨ea,eb,po,rfl,h⟩:=h;refine⟨ea,h2,po++pb.extract ib (ib+k),by rw[MT];simp,?_⟩;rw[BD,Mc,HD];exact h.galB A ‹_› ‹_› λi hi=>by rw[← Ll,← Ll];exact hc i hi
end
section
variable {prog:Aj}{w:A5}{A:BG}{E:AL->AR->Prop}{s0:AR}{κ:Cr}{it:Array B5}{lt:Nat->Nat->Bool}{st:Bh}{p:Array Nat}{pd:Array (Nat×Nat×Nat)}{pa pb:Array Nat}
def Run (it:Array B5) (lt:Nat->Nat->Bool) (pa pb:Array Nat) (m:Nat) (out:Array B5) (ia ib:Nat):Option (Array B5)->Prop
 | some r=>Good it lt pa.toList pb.toList r
 | none=>xI it lt pa pb out ia ib/\ia+1 < pa.size/\ib < pb.size/\m<=ia+ib
def Run.le(h:Run it lt pa pb n out ia ib none)(e:m<=n):Run it lt pa pb m out ia ib none:=⟨h.1,h.2.1,h.2.2.1,Ah e h.2.2.2⟩
def Lu [Decidable c] {m1 m2:StateT Bh Sem α} {Q} (h1:c->wq prog w A E s0 m1 Q st) (h2:¬ c->wq prog w A E s0 m2 Q st):wq prog w A E s0 (if c then m1 else m2) Q st:=by
 by_cases h:c
 ·rw[if_pos h];exact h1 h
 ·rw[if_neg h];exact h2 h
def Lk{x y:Nat}{m1 m2:StateT Bh Sem α}{Q}(h1:x=y->wq prog w A E s0 m1 Q st)(h2:x≠y->wq prog w A E s0 m2 Q st):wq prog w A E s0 (if (x == y)=true then m1 else m2) Q st:=
 Lu (λe=>h1 (beq_iff_eq.mp e)) λe=>h2 λz=>e (beq_iff_eq.mpr z)
def Nb{P G:Prop}(h:P->G)(k:P):G:=h k
def OO(h:SA κ it p pd st)(hq:∀ st',SA κ it p pd st'->Q ⟨⟩ st')(hf:∀ s,SA κ it p pd s->SA κ it p pd (f s)):wq prog w A E s0 (modify f:StateT Bh Sem PUnit) Q st:=MY (hq _ (hf _ h))
def PJ(sl:p.toList.Pairwise λx y=>lt x y=true){i j}(hij:i<=j)(hj:j < p.size):i=j\/lt (p.getD i 0) (p.getD j 0)=true:=by
 rcases Bt i j with z | z
 ·rw[Ll,Ll];exact .inr (ZC sl z hj)
 ·exact .inl ⋯
section
variable {key base n hint:Nat}{p':Array Nat}{Q:Option Nat->Bh->Prop}(hA:zw prog w A s0 κ it lt)(hs:SA κ it p pd st)(tr:∀ {x y z},lt x y=true->lt y z=true->lt x z=true)(hkey:key < it.size)(hp:∀ i,i < p'.size->p'.getD i 0 < it.size)(hb:base+n<=p'.size)(hh:hint < n)(so:∀ i j,base<=i->i<=j->j < base+n->i=j\/lt (p'.getD i 0) (p'.getD j 0)=true)
include hA hs tr hkey hp hb hh so
theorem P7(h:∀ k,k<=n->(∀ i,i < k->lt key (p'.getD (base+i) 0)=false)->(∀ i,k<=i->i < n->lt key (p'.getD (base+i) 0)=true)->Q (some k) st):wq prog w A E s0 (wc false (kas_item it key) (p'.map (kas_item it)) base n hint) Q st:=
 Sx hA hs.1 hkey hp hb hh (λi=>!lt key (p'.getD (base+i) 0)) (λi hi=>rfl) (λi j hij hj hc=>by
  rcases so (base+i) (base+j) ⋯ ⋯ ⋯ with e | e
  ·rw[e];exact hc
  ·cases hd:lt key (p'.getD (base+i) 0) with
   | false=>rfl
   | true=>rw[tr hd e]at hc;exact hc) λk hk h1 h2=>h k hk (λi hi=>by simpa using h1 i hi) λi hi hn=>by simpa using h2 i hi hn
theorem Pg(h:∀ k,k<=n->(∀ i,i < k->lt (p'.getD (base+i) 0) key=true)->(∀ i,k<=i->i < n->lt (p'.getD (base+i) 0) key=false)->Q (some k) st):wq prog w A E s0 (wc true (kas_item it key) (p'.map (kas_item it)) base n hint) Q st:=
 Sx hA hs.1 hkey hp hb hh (λi=>lt (p'.getD (base+i) 0) key) (λi hi=>rfl) (λi j hij hj hc=>by
  rcases so (base+i) (base+j) ⋯ ⋯ ⋯ with e | e
  ·rw[e];exact hc
  ·exact tr e hc) h
end
def kN{Q:Array B5->Bh->Prop}(hA:zw prog w A s0 κ it lt)(h:SA κ it p pd st)(ha:∀ i,i < pa.size->pa.getD i 0 < it.size)(hb:∀ i,i < pb.size->pb.getD i 0 < it.size)(AP:Apart lt pa.toList pb.toList)
  (h1:1<=pa.size) (h2:1<=pb.size) (hf:lt (pb.toList.getD 0 0) (pa.toList.getD 0 0)=true) (hl:∀ y∈pb.toList,lt y (pa.toList.getD (pa.size - 1) 0)=true)
  (hq:∀ r st',SA κ it p pd st'->Good it lt pa.toList pb.toList r->Q r st'):wq prog w A E s0 (xy (pa.map (kas_item it)) (pb.map (kas_item it))) Q st:=by
 have sza:(pa.map (kas_item it)).size=pa.size:=by simp
 have szb:(pb.map (kas_item it)).size=pb.size:=by simp
 unfold xy;refine LZ (M4 ?_)
 extract_lets -underBinder tot dn la
 have ht:tot=pa.size+pb.size:=by rw[← sza,← szb]
 clear_value tot
 refine LZ (Lg h2 ?_)
 extract_lets -underBinder out ia ib
 have hm:xI it lt pa pb out ia ib:=xI.b (out:=#[]) (ia:=0) (ib:=0) ⟨As _,As _,#[],by simp,As _,As _,by simp,.nil,(λ_ z=>nomatch z),(λ_ z=>nomatch z)⟩ AP h1 h2 (by rw[Ll,Ll];exact hf);have hia:ia=0:=rfl;have hib:ib=1:=rfl
 clear_value out ia ib
 refine Lk (λe=>La (hq _ _ h (hm.done AP (.inl (e.trans szb))))) λe=>Lk (λe=>La (hq _ _ h (hm.last AP hl (e.trans sza)))) λe2=>?_
 have hr:Run it lt pa pb (0+1) out ia ib none:=⟨hm,by lia,by lia,by lia⟩
 refine LZ (Ly ?_);refine LZ (Lj (Lm (I:=λx c st'=>SA κ it p pd st'/\Run it lt pa pb (x+1) c.2.1 c.2.2.1 c.2.2.2.1 none)
  (Q:=λc st'=>SA κ it p pd st'/\∃ r,c.1=some r/\Good it lt pa.toList pb.toList r) ?_ ?_ ⟨h,hr⟩) ?_)
 ·intro x c st1 _ hx hr
  extract_lets -underBinder _ out _ ia _ ib mg ac
  obtain⟨hs1,hr⟩:SA κ it p pd st1/\Run it lt pa pb (x+1) out ia ib none:=hr
  clear_value out ia ib mg ac
  refine LZ (Lj (Lm (I:=λy c st'=>SA κ it p pd st'/\Run it lt pa pb (x+1+y) c.2.1 c.2.2.1 c.2.2.2.1 none)
   (Q:=λc st'=>SA κ it p pd st'/\Run it lt pa pb (x+2) c.2.1 c.2.2.1 c.2.2.2.1 c.1) ?_ ?_ ⟨hs1,hr⟩) ?_)
  ·intro y c st2 _ hy hr
   extract_lets -underBinder _ out _ ia _ ib _ ac bc
   obtain⟨hs2,hm,hia,hib,hsz⟩:SA κ it p pd st2/\Run it lt pa pb (x+1+y) out ia ib none:=hr
   clear_value out ia ib ac bc
   refine LZ (Lg hib (LZ (Lg ⋯ ?_)));refine LZ (N4 hA (hb _ hib) (ha _ ⋯) hs2.1 ?_);refine Lu (λhc=>?_) (λhc=>?_)
   ·refine LZ (Lg hib ?_);have hm:=hm.b AP ⋯ hib hc;refine Lk (λe=>La ⟨hs2,hm.done AP (.inl (e.trans szb))⟩) λe=>?_
    have hr:Run it lt pa pb (x+1+y+1) _ ia (ib+1) none:=⟨hm,hia,by lia,by lia⟩
    exact Lu (λ_=>La ⟨hs2,hr.le ⋯⟩) λ_=>La ⟨hs2,hr⟩
   ·refine LZ (Lg ⋯ ?_);have hm:=hm.a AP ⋯ hib (FX.mpr hc);refine Lk (λe=>La ⟨hs2,hm.last AP hl (e.trans sza)⟩) λe=>?_
    have hr:Run it lt pa pb (x+1+y+1) _ (ia+1) ib none:=⟨hm,by lia,hib,by lia⟩
    exact Lu (λ_=>La ⟨hs2,hr.le ⋯⟩) λ_=>La ⟨hs2,hr⟩
  ·rintro c st2 ⟨hs2,hm,hia,hib,hsz⟩;lia
  ·intro c st2 hr
   extract_lets -underBinder r _ out _ ia _ ib _ ac bc
   obtain⟨hs2,hr⟩:SA κ it p pd st2/\Run it lt pa pb (x+2) out ia ib r:=hr
   clear_value r out ia ib ac bc
   cases r with
   | some r=>exact La ⟨hs2,r,rfl,hr⟩
   | none =>
    refine LZ (M4 ?_);refine LZ (Lj (Lm (I:=λy c st'=>SA κ it p pd st'/\Run it lt pa pb (x+2+y) c.2.1 c.2.2.1 c.2.2.2.1 none)
     (Q:=λc st'=>SA κ it p pd st'/\Run it lt pa pb (x+2) c.2.1 c.2.2.1 c.2.2.2.1 c.1) ?_ ?_ ⟨hs2,hr⟩) ?_)
    ·intro y c st3 _ hy hr
     extract_lets -underBinder _ out _ ia _ ib _ mg _ ac bc jp
     obtain⟨hs3,hm,hia,hib,hsz⟩:SA κ it p pd st3/\Run it lt pa pb (x+2+y) out ia ib none:=hr
     clear_value out ia ib mg ac bc
     refine Nb (P:=∀ g,wq prog w A E s0 (jp () g) _ st3) (λkey=>Lu (λ_=>key (mg - 1)) λ_=>key mg) λg=>?_
     refine LZ (OO hs3 (λst4 hs4=>?_) λs z=>⟨z.1,z.2.1,z.2.2.1,z.2.2.2⟩);refine LZ (Lg hib (LZ (P7 hA hs4 AP.tr (hb _ hib) ha ⋯ ⋯ (λi j _ hij hj=>PJ AP.sa hij ⋯) λk hk hk1 hk2=>?_)));dsimp -zeta only
     extract_lets -underBinder ac2 jp2
     have hm1:=hm.ga AP ⋯ hib hk1;refine Nb (P:=∀ ia out,xI it lt pa pb out ia ib->ia+1 < pa.size->x+2+y<=ia+ib->lt (pb.getD ib 0) (pa.getD ia 0)=true->wq prog w A E s0 (jp2 () out ia) _ st4) (λkey =>
      Lu (λ_=>Lk (λe=>La ⟨hs4,hm1.last AP hl (e.trans sza)⟩) λe=>Lk (λe=>La ⟨hs4,hm1.done AP (.inr (e.trans sza))⟩) λe2=>key _ _ hm1 ⋯ ⋯ (hk2 k (AF _) ⋯)) λhk0=>key ia out hm hia hsz (hk2 0 ⋯ ⋯)) λia out hm hia hsz hc=>?_
     refine LZ (Lg hib ?_);have hm2:=hm.b AP ⋯ hib hc;refine Lk (λe=>La ⟨hs4,hm2.done AP (.inl (e.trans szb))⟩) λe=>?_
     refine LZ (Lg ⋯ (LZ (Pg hA hs4 AP.tr (ha _ ⋯) hb ⋯ ⋯ (λi j _ hij hj=>PJ AP.sb hij ⋯) λk hk hk1 hk2=>?_)));dsimp -zeta only
     extract_lets -underBinder bc2 jp3
     have hm3:=hm2.gb AP ⋯ ⋯ hk1;refine Nb (P:=∀ ib out,xI it lt pa pb out ia ib->ib < pb.size->x+3+y<=ia+ib->lt (pb.getD ib 0) (pa.getD ia 0)=false->wq prog w A E s0 (jp3 () out ib) _ st4) (λkey =>
      Lu (λ_=>Lk (λe=>La ⟨hs4,hm3.done AP (.inl (e.trans szb))⟩) λe2=>key _ _ hm3 ⋯ ⋯ (hk2 k (AF _) ⋯)) λhk0=>key _ _ hm2 ⋯ ⋯ (hk2 0 ⋯ ⋯)) λib out hm hib hsz hc=>?_
     refine LZ (Lg ⋯ ?_);have hm4:=hm.a AP ⋯ hib hc;refine Lk (λe=>La ⟨hs4,hm4.last AP hl (e.trans sza)⟩) λe=>?_
     have hr:Run it lt pa pb (x+2+y+1) _ (ia+1) ib none:=⟨hm4,by lia,hib,by lia⟩
     exact Lu (λ_=>La ⟨hs4,hr.le ⋯⟩) λ_=>La ⟨hs4,hr⟩
    ·rintro c st3 ⟨hs3,hm,hia,hib,hsz⟩;lia
    ·intro c st3 hr
     extract_lets -underBinder r _ out _ ia _ ib _ mg
     obtain⟨hs3,hr⟩:SA κ it p pd st3/\Run it lt pa pb (x+2) out ia ib r:=hr
     clear_value r out ia ib mg
     cases r with
     | some r=>exact La ⟨hs3,r,rfl,hr⟩
     | none=>exact LZ (OO hs3 (λst4 hs4=>La ⟨hs4,hr⟩) λs z=>⟨z.1,z.2.1,z.2.2.1,z.2.2.2⟩)
 ·rintro c st1 ⟨hs1,hm,hia,hib,hsz⟩;lia
 ·rintro ⟨o,c⟩ st1 ⟨hs1,r,rfl,hr⟩;exact La (hq r st1 hs1 hr)
end
def ltR (lt:Nat->Nat->Bool) (x y:Nat):Bool:=lt y x
section
variable {it:Array B5}{lt:Nat->Nat->Bool}{pa pb po:Array Nat}{ja jb na nb:Nat}
def Apart.rev(A:Apart lt la lb):Apart (ltR lt) lb.reverse la.reverse where
 tr:=λh1 h2=>A.tr h2 h1
 no:=A.no
 ab:=λx hx y hy h=>A.ab y (Da.mp hy) x (Da.mp hx) h
 ba:=λx hx y hy h=>A.ba y (Da.mp hy) x (Da.mp hx) h
 sa:=Er.mpr A.sb
 sb:=Er.mpr A.sa
def xO.rev(h:xO (ltR lt) lb.reverse la.reverse r.reverse):xO lt la lb r:=by
 refine⟨?_,Er.mp h.2⟩;have h1:=h.1;rw[← CO]at h1;exact (IP _).symm.trans (h1.trans (IP _))
def Rn{l:List Nat}{i j}(h:i+j+1=l.length):l.reverse.getD i 0=l.getD j 0:=by
 rw[Aw,Ep (by omega)];congr 2;omega
def PU{p:Array Nat}{i j}(h:i+j=p.size):(p.extract 0 i).toList.reverse=p.toList.reverse.drop j:=by
 rw[Mc,IQ];congr 2;simp;omega
def SD{p:Array Nat}{i j k}(h:i+j=p.size)(hk:k<=i):(p.extract k i).toList.reverse=(p.toList.reverse.drop j).take (i - k):=by
 rw[Mc,IQ,List.take_reverse,show p.toList.length - j=i by simp;omega,List.drop_take,Cw,show min i p.toList.length - (i - k)=k by rw[Au];omega]
def xH (it:Array B5) (lt:Nat->Nat->Bool) (pa pb:Array Nat) (out:Array B5) (na nb:Nat):Prop:=na<=pa.size/\nb<=pb.size/\∃ po:Array Nat,out=po.map (kas_item it)/\Mi (ltR lt) pb.toList.reverse pa.toList.reverse po.toList (pb.size - nb) (pa.size - na)
variable {out:Array B5}{k:Nat}
def QS{p:Array Nat}{n i}(h:i < n)(hn:n<=p.size):p.toList.reverse.getD (p.size - n+i) 0=p.getD (n - 1 - i) 0:=by
 rw[Ll];exact Rn (by simp;omega)
def NL{p:Array Nat}{n}(h:0 < n)(hn:n<=p.size):p.toList.reverse.getD (p.size - n) 0=p.getD (n - 1) 0:=QS h hn
def xH.done(h:xH it lt pa pb out na nb)(A:Apart lt pa.toList pb.toList)(he:na=0\/nb=0) :
  Good it lt pa.toList pb.toList ((pa.map (kas_item it)).extract 0 na++(pb.map (kas_item it)).extract 0 nb++out.reverse):=by
 obtain⟨ea,eb,po,rfl,h⟩:=h;refine⟨pa.extract 0 na++pb.extract 0 nb++po.reverse,?_,xO.rev ?_⟩
 ·rw[MT];simp
 ·rw[BD,BD,CO,CO,De,HW,PU (p:=pa) (j:=pa.size - na) (by omega),PU (j:=pb.size - nb) (by omega),← BC];rcases he with rfl | rfl
  ·rw[DN (i:=pa.size - 0) ↥1];have:=h.finA A.rev.sa ↥1;simpa using this
  ·rw[DN ↥1,Bv];exact h.finB A.rev.sb ↥1
def xH.first(h:xH it lt pa pb out na nb)(A:Apart lt pa.toList pb.toList)(hf:∀ y∈pa.toList,lt (pb.toList.getD 0 0) y=true)(he:nb=1) :
  Good it lt pa.toList pb.toList ((pb.map (kas_item it)).extract 0 nb++(pa.map (kas_item it)).extract 0 na++out.reverse):=by
 obtain⟨ea,eb,po,rfl,h⟩:=h;refine⟨pb.extract 0 nb++pa.extract 0 na++po.reverse,?_,xO.rev ?_⟩
 ·rw[MT];simp
 ·rw[BD,BD,CO,CO,De,HW,PU (j:=pa.size - na) (by omega),PU (j:=pb.size - nb) (by omega),← BC];refine h.finL A.rev (by simp;omega) λy hy=>?_
  rw[Rn (j:=0) (by simp;omega)];exact hf y (Da.mp hy)
def xH.a(h:xH it lt pa pb out na nb)(A:Apart lt pa.toList pb.toList)(h1:0 < na)(h2:0 < nb)(hc:lt (pb.getD (nb - 1) 0) (pa.getD (na - 1) 0)=true):xH it lt pa pb (out.push (kas_item it (pa.getD (na - 1) 0))) (na - 1) nb:=by
 obtain⟨ea,eb,po,rfl,h⟩:=h;refine⟨by omega,eb,po.push (pa.getD (na - 1) 0),by simp,?_⟩;have ga:=NL h1 ea;have:=h.wonB A.rev (by simp;omega) (by simp;omega) (by rw[← ga,← (NL h2 eb)]at hc;exact hc);rw[DM,show pa.size - (na - 1)=pa.size - na+1 by omega,← ga];exact this
def xH.b(h:xH it lt pa pb out na nb)(A:Apart lt pa.toList pb.toList)(h1:0 < na)(h2:0 < nb)(hc:lt (pb.getD (nb - 1) 0) (pa.getD (na - 1) 0)=false):xH it lt pa pb (out.push (kas_item it (pb.getD (nb - 1) 0))) na (nb - 1):=by
 obtain⟨ea,eb,po,rfl,h⟩:=h;refine⟨ea,by omega,po.push (pb.getD (nb - 1) 0),by simp,?_⟩;have gb:=NL h2 eb;have:=h.wonA A.rev (by simp;omega) (by simp;omega) (by rw[← (NL h1 ea),← gb]at hc;exact hc);rw[DM,show pb.size - (nb - 1)=pb.size - nb+1 by omega,← gb];exact this
def xH.ga(h:xH it lt pa pb out na nb)(A:Apart lt pa.toList pb.toList)(h1:k<=na)(h2:0 < nb)(hc:∀ i,k<=i->i < na->lt (pb.getD (nb - 1) 0) (pa.getD (0+i) 0)=true):xH it lt pa pb (out++((pa.map (kas_item it)).extract k na).reverse) k nb:=by
 obtain⟨ea,eb,po,rfl,h⟩:=h;refine⟨by omega,eb,po++(pa.extract k na).reverse,by rw[MT];simp,?_⟩;have:=h.galB A.rev (by simp;omega) (k:=na - k) (by simp;omega) λi hi=>by
  rw[QS (show i < na by omega) ea,NL h2 eb];have:=hc (na - 1 - i) (by omega) (by omega);rwa [BU]at this
 rw[BD,De,SD (j:=pa.size - na) (by omega) h1,show pa.size - k=pa.size - na+(na - k) by omega];exact this
def xH.gb(h:xH it lt pa pb out na nb)(A:Apart lt pa.toList pb.toList)(h1:k<=nb)(h2:0 < na)(hc:∀ i,k<=i->i < nb->lt (pb.getD (0+i) 0) (pa.getD (na - 1) 0)=false):xH it lt pa pb (out++((pb.map (kas_item it)).extract k nb).reverse) na k:=by
 obtain⟨ea,eb,po,rfl,h⟩:=h;refine⟨ea,by omega,po++(pb.extract k nb).reverse,by rw[MT];simp,?_⟩;have:=h.galA A.rev (by simp;omega) (k:=nb - k) (by simp;omega) λi hi=>by
  rw[QS (show i < nb by omega) eb,NL h2 ea];have:=hc (nb - 1 - i) (by omega) (by omega);rwa [BU]at this
 rw[BD,De,SD (j:=pb.size - nb) (by omega) h1,show pb.size - k=pb.size - nb+(nb - k) by omega];exact this
def vU (it:Array B5) (lt:Nat->Nat->Bool) (pa pb:Array Nat) (m:Nat) (out:Array B5) (na nb:Nat):Option (Array B5)->Prop
 | some r=>Good it lt pa.toList pb.toList r
 | none=>xH it lt pa pb out na nb/\0 < na/\1 < nb/\m+na+nb<=pa.size+pb.size
def vU.le{m n}(h:vU it lt pa pb n out na nb none)(e:m<=n):vU it lt pa pb m out na nb none:=⟨h.1,h.2.1,h.2.2.1,by have:=h.2.2.2;omega⟩
end
section
variable {prog:Aj}{w:A5}{A:BG}{E:AL->AR->Prop}{s0:AR}{κ:Cr}{it:Array B5}{lt:Nat->Nat->Bool}{st:Bh}{p:Array Nat}{pd:Array (Nat×Nat×Nat)}{pa pb:Array Nat}
def jo(hA:zw prog w A s0 κ it lt)(h:SA κ it p pd st)(ha:∀ i,i < pa.size->pa.getD i 0 < it.size)(hb:∀ i,i < pb.size->pb.getD i 0 < it.size)(AP:Apart lt pa.toList pb.toList)
  (h1:1<=pa.size) (h2:1<=pb.size) (hf:∀ y∈pa.toList,lt (pb.toList.getD 0 0) y=true) (hl:lt (pb.toList.getD (pb.size - 1) 0) (pa.toList.getD (pa.size - 1) 0)=true)
  (hq:∀ r st',SA κ it p pd st'->Good it lt pa.toList pb.toList r->Q r st'):wq prog w A E s0 (AAC (pa.map (kas_item it)) (pb.map (kas_item it))) Q st:=by
 have sza:(pa.map (kas_item it)).size=pa.size:=by simp
 have szb:(pb.map (kas_item it)).size=pb.size:=by simp
 refine LZ (M4 ?_);rw[sza,szb]
 extract_lets -underBinder tot dn fb na nb
 have h0:xH it lt pa pb #[] pa.size pb.size:=⟨AF _,AF _,#[],by simp,by simp,by simp,by simp,.nil,(λ_ z=>nomatch z),(λ_ z=>nomatch z)⟩
 have hm:xH it lt pa pb (#[].push (kas_item it (pa.getD na 0))) na nb:=h0.a AP h1 h2 (by rw[Ll,Ll];exact hl);have hna:na+1=pa.size:=Nat.sub_add_cancel h1;have hnb:nb=pb.size:=rfl;have ht:tot=pa.size+pb.size:=rfl
 clear_value tot na nb
 refine LZ (Lg (by omega) ?_)
 extract_lets -underBinder out
 replace hm:xH it lt pa pb out na nb:=hm
 clear_value out
 refine Lk (λe=>La (hq _ _ h (hm.done AP (.inl e)))) λe=>Lk (λe=>La (hq _ _ h (hm.first AP hf e))) λe2=>?_
 have hr:vU it lt pa pb (0+1) out na nb none:=⟨hm,by omega,by omega,by omega⟩
 refine LZ (Ly (LZ (Lj (Lm (I:=λx c st'=>SA κ it p pd st'/\vU it lt pa pb (x+1) c.2.2.2.1 c.2.1 c.2.2.1 none)
  (Q:=λc st'=>SA κ it p pd st'/\∃ r,c.1=some r/\Good it lt pa.toList pb.toList r) ?_ ?_ ⟨h,hr⟩) ?_)))
 ·intro x c st1 _ hx hr
  extract_lets -underBinder _ na _ nb _ out mg ac
  obtain⟨hs1,hr⟩:SA κ it p pd st1/\vU it lt pa pb (x+1) out na nb none:=hr
  clear_value out na nb mg ac
  refine LZ (Lj (Lm (I:=λy c st'=>SA κ it p pd st'/\vU it lt pa pb (x+1+y) c.2.2.2.1 c.2.1 c.2.2.1 none)
   (Q:=λc st'=>SA κ it p pd st'/\vU it lt pa pb (x+2) c.2.2.2.1 c.2.1 c.2.2.1 c.1) ?_ ?_ ⟨hs1,hr⟩) ?_)
  ·intro y c st2 _ hy hr
   extract_lets -underBinder _ na _ nb _ out _ ac bc
   obtain⟨hs2,hm,hna,hnb,hsz⟩:SA κ it p pd st2/\vU it lt pa pb (x+1+y) out na nb none:=hr
   clear_value out na nb ac bc
   have ea:=hm.1;have eb:=hm.2.1;refine LZ (Lg (by omega) (LZ (Lg (by omega) ?_)));refine LZ (N4 hA (hb _ (by omega)) (ha _ (by omega)) hs2.1 (Lu (λhc=>?_) (λhc=>?_)))
   ·refine LZ (Lg (by omega) ?_);have hm:=hm.a AP hna (by omega) hc;refine Lk (λe=>La ⟨hs2,hm.done AP (.inl e)⟩) λe=>?_
    have hr:vU it lt pa pb (x+1+y+1) _ (na - 1) nb none:=⟨hm,by omega,hnb,by omega⟩
    exact Lu (λ_=>La ⟨hs2,hr.le (by omega)⟩) λ_=>La ⟨hs2,hr⟩
   ·refine LZ (Lg (by omega) ?_);have hm:=hm.b AP hna (by omega) (FX.mpr hc);refine Lk (λe=>La ⟨hs2,hm.first AP hf e⟩) λe=>?_
    have hr:vU it lt pa pb (x+1+y+1) _ na (nb - 1) none:=⟨hm,hna,by omega,by omega⟩
    exact Lu (λ_=>La ⟨hs2,hr.le (by omega)⟩) λ_=>La ⟨hs2,hr⟩
  ·rintro c st2 ⟨hs2,hm,hna,hnb,hsz⟩;omega
  ·intro c st2 hr
   extract_lets -underBinder r _ na _ nb _ out _ ac bc
   obtain⟨hs2,hr⟩:SA κ it p pd st2/\vU it lt pa pb (x+2) out na nb r:=hr
   clear_value r out na nb ac bc
   cases r with
   | some r=>exact La ⟨hs2,r,rfl,hr⟩
   | none =>
    refine LZ (M4 (LZ (Lj (Lm (I:=λy c st'=>SA κ it p pd st'/\vU it lt pa pb (x+2+y) c.2.2.2.1 c.2.1 c.2.2.1 none)
     (Q:=λc st'=>SA κ it p pd st'/\vU it lt pa pb (x+2) c.2.2.2.1 c.2.1 c.2.2.1 c.1) ?_ ?_ ⟨hs2,hr⟩) ?_)))
    ·intro y c st3 _ hy hr
     extract_lets -underBinder _ na _ nb _ out _ mg _ ac bc jp
     obtain⟨hs3,hm,hna,hnb,hsz⟩:SA κ it p pd st3/\vU it lt pa pb (x+2+y) out na nb none:=hr
     clear_value out na nb mg ac bc
     have ea:=hm.1;have eb:=hm.2.1;refine Nb (P:=∀ g,wq prog w A E s0 (jp () g) _ st3) (λkey=>Lu (λ_=>key (mg - 1)) λ_=>key mg) λg=>?_
     refine LZ (OO hs3 (λst4 hs4=>LZ (Lg (by omega) (LZ (P7 hA hs4 AP.tr (hb _ (by omega)) ha (by omega) (by omega) (λi j _ hij hj=>PJ AP.sa hij (by omega)) λk hk hk1 hk2=>?_)))) λs z=>⟨z.1,z.2.1,z.2.2.1,z.2.2.2⟩);dsimp -zeta only
     extract_lets -underBinder ka ac2 jp2
     have hm1:=hm.ga AP hk (by omega) hk2;refine Nb (P:=∀ k out,xH it lt pa pb out k nb->0 < k->k<=na->lt (pb.getD (nb - 1) 0) (pa.getD (0+(k - 1)) 0)=false->wq prog w A E s0 (jp2 () k out) _ st4) (λkey =>
      Lu (λ_=>Lk (λe=>La ⟨hs4,hm1.done AP (.inl e)⟩) λe=>key _ _ hm1 (by omega) hk (hk1 _ (by omega))) λ(hk0:¬ na - k > 0)=>key na out hm hna (AF _) (hk1 _ (by omega))) λk out hm hk0 hk hc=>?_
     rw[BU]at hc;refine LZ (Lg (by omega) ?_);have hm2:=hm.b AP hk0 (by omega) hc;refine Lk (λe=>La ⟨hs4,hm2.first AP hf e⟩) λe=>LZ (Lg (by omega) (LZ (Pg hA hs4 AP.tr (ha _ (by omega)) hb (by omega) (by omega) (λi j _ hij hj=>PJ AP.sb hij (by omega)) λn hn hn1 hn2=>?_)))
     dsimp -zeta only
     extract_lets -underBinder kb bc2 jp3
     have hm3:=hm2.gb AP hn hk0 hn2;refine Nb (P:=∀ n out,xH it lt pa pb out k n->1 < n->n < nb->lt (pb.getD (0+(n - 1)) 0) (pa.getD (k - 1) 0)=true->wq prog w A E s0 (jp3 () n out) _ st4) (λkey =>
      Lu (λ_=>Lk (λe=>La ⟨hs4,hm3.first AP hf e⟩) λe=>Lk (λe=>La ⟨hs4,hm3.done AP (.inr e)⟩) λe'=>key _ _ hm3 (by omega) (by omega) (hn1 _ (by omega))) λ(hk0:¬ nb - 1 - n > 0)=>key _ _ hm2 (by omega) (by omega) (hn1 _ (by omega))) λn out hm hn0 hn hc=>?_
     rw[BU]at hc;refine LZ (Lg (by omega) ?_);have hm4:=hm.a AP hk0 (by omega) hc;refine Lk (λe=>La ⟨hs4,hm4.done AP (.inl e)⟩) λe=>?_
     have hr:vU it lt pa pb (x+2+y+1) _ (k - 1) n none:=⟨hm4,by omega,hn0,by omega⟩
     exact Lu (λ_=>La ⟨hs4,hr.le (by omega)⟩) λ_=>La ⟨hs4,hr⟩
    ·rintro c st3 ⟨hs3,hm,hna,hnb,hsz⟩;omega
    ·intro c st3 hr
     extract_lets -underBinder r _ na _ nb _ out _ mg
     obtain⟨hs3,hr⟩:SA κ it p pd st3/\vU it lt pa pb (x+2) out na nb r:=hr
     clear_value r out na nb mg
     cases r with
     | some r=>exact La ⟨hs3,r,rfl,hr⟩
     | none=>exact LZ (OO hs3 (λst4 hs4=>La ⟨hs4,hr⟩) λs z=>⟨z.1,z.2.1,z.2.2.1,z.2.2.2⟩)
 ·rintro c st1 ⟨hs1,hm,hna,hnb,hsz⟩;omega
 ·rintro ⟨o,c⟩ st1 ⟨hs1,r,rfl,hr⟩;exact La (hq r st1 hs1 hr)
end
section
variable {α β:Type}
theorem WK f sa:∀ (xs:List β) k (arr:Array α),sa+k+xs.length<=arr.size ->
  ((xs.map f).zipIdx k).foldl (λa q=>a.setIfInBounds (sa+q.2) q.1) arr=(arr.toList.take (sa+k)++xs.map f++arr.toList.drop (sa+k+xs.length)).toArray
 | [],k,arr,h=>by
  simp
 | x::xs,k,arr,h=>by
  simp at h;rw[AY,Ff,Di,WK f sa xs (k+1) _ ↥2];apply ER.mp;simp only[Array.toList_setIfInBounds];have hl:sa+k < arr.toList.length:=by simp;lia
  rw[List.drop_set_of_lt ⋯,show sa+(k+1)=sa+k+1 by lia,JC];rw[List.take_set_of_le (AF _)];have:(arr.toList.set (sa+k) (f x))[sa+k]?=some (f x):=by rw[Am hl]
  rw[this];simp[ Nat.add_comm,Nat.add_left_comm]
end
section
variable {prog:Aj}{w:A5}{A:BG}{E:AL->AR->Prop}{s0:AR}{κ:Cr}{it:Array B5}{lt:Nat->Nat->Bool}{st:Bh}{p:Array Nat}{pd:Array (Nat×Nat×Nat)}
def fJ(h:Q ⟨⟩ st'):wq prog w A E s0 (set st':StateT Bh Sem PUnit) Q st:=MY h
def Ot(h:tZ lt p a b)(hb:b<=p.size):((p.extract a b).toList).Pairwise λx y=>lt x y=true:=by
 refine BL.mpr λi j hi hj hij=>?_
 have hs:(p.extract a b).toList.length<=b - a:=by simp;lia
 have e:∀ k,k < (p.extract a b).toList.length->(p.extract a b).toList[k]?=some (sZ p (a+k)):=λk hk=>by
  have:a+k < p.size:=by simp at hk;lia
  rw[Mc,EB ⋯,Hs,Lf,Ej,Al this];rfl
 have ei:=e i hi;have ej:=e j hj;rw[AU hi,IR]at ei;rw[AU hj,IR]at ej;rw[ei,ej];exact h _ _ ⋯ ⋯ ⋯
def MS(h:x∈(p.extract a b).toList):∃ i,a<=i/\i < b/\i < p.size/\x=sZ p i:=by
 obtain⟨k,hk,rfl⟩:=CN h;have h1:=by simpa using hk
 refine⟨a+k,by lia,by lia,by lia,?_⟩;rw[Lf];simp[Al (show a+k < p.size by lia)]
def Ms(h:a+k < b)(hb:b<=p.size):(p.extract a b).toList.getD k 0=sZ p (a+k):=by
 rw[← Ll,Lf,Fx,Array.getElem?_extract_of_lt ⋯,Al (show a+k < p.size by lia)]
def bW(h:p.toList.Pairwise λx y=>lt x y=true):tZ lt p 0 p.size:=λi j _ hij hj=>by
 have:=BL.mp h i j ↥2 ‹_› hij;rw[Lf,Lf,Al ⋯,Al hj];simpa using this
def bB(h:SA κ it p pd st')(hq:∀ st2,SA κ it p pd st2->Q ⟨⟩ st2):wq prog w A E s0 (set st':StateT Bh Sem PUnit) Q st:=fJ (hq _ h)
def Sa(h:SA κ it p' pd (f st))(hq:∀ st2,SA κ it p' pd st2->Q ⟨⟩ st2):wq prog w A E s0 (modify f:StateT Bh Sem PUnit) Q st:=MY (hq _ h)
def Yw(hA:zw prog w A s0 κ it lt)(T:xP it.size lt)(TR:∀ {x y z},lt x y=true->lt y z=true->lt x z=true)(NO:∀ {x y},lt x y=true->lt y x=false)(h:SA κ it p #[(0,n1,pw),(n1,n2,0)] st)(hp:t7 it.size p)(h1:1<=n1)(h2:1<=n2)(hn:n1+n2=it.size)(s1:tZ lt p 0 n1)(s2:tZ lt p n1 it.size)
  (hq:∀ p' st',SA κ it p' #[(0,it.size,pw)] st'->t7 it.size p'->tZ lt p' 0 it.size->Q true st'):wq prog w A E s0 (mergeAt' 0) Q st:=by
 have lts:=λi=>hp.atlt (show 0 < it.size by lia) i
 have hsz:=hp.size;have s1':∀ i j,i<=j->j < n1->i=j\/lt (sZ p i) (sZ p j)=true:=λi j h1 h2=>by
  rcases Bt i j with z | z
  ·exact .inr (s1 i j (As _) z h2)
  ·exact .inl ⋯
 have s2':∀ i j,n1<=i->i<=j->j < it.size->i=j\/lt (sZ p i) (sZ p j)=true:=λi j h0 h1 h2=>by
  rcases Bt i j with z | z
  ·exact .inr (s2 i j h0 z h2)
  ·exact .inl ⋯
 unfold mergeAt';obtain⟨k0,arr0,pd0,g0,f0⟩:=st;obtain rfl:k0=κ:=h.1;obtain rfl:arr0=p.map (kas_item it):=h.2.1;obtain rfl:f0=none:=h.2.2.1;obtain rfl:pd0=#[(0,n1,pw),(n1,n2,0)]:=h.2.2.2;refine LZ (Ly ?_);have e0:(#[(0,n1,pw),(n1,n2,0)]:Array (Nat×Nat×Nat))[0]?=some (0,n1,pw):=rfl;have e1:(#[(0,n1,pw),(n1,n2,0)]:Array (Nat×Nat×Nat))[0+1]?=some (n1,n2,0):=rfl;dsimp only;rw[e0,e1];dsimp only;refine LZ (bB (pd:=#[(0,it.size,pw)]) (p:=p) ⟨rfl,rfl,rfl,?_⟩ λst2 (hs2:SA k0 it p #[(0,it.size,pw)] st2)=>?_)
 ·rw[hn];simp[Array.setIfInBounds,Array.eraseIdxIfInBounds]
 refine LZ (Lg ⋯ ?_);refine LZ (P7 hA hs2 TR (lts n1) (λi _=>lts i) ⋯ ⋯ (λi j _ a b=>s1' i j a ⋯) λk hk hk1 hk2=>?_);dsimp only;have F1:∀ i,i < k->∀ j,n1<=j->j < it.size->lt (sZ p i) (sZ p j)=true:=λi hi j hj hj2=>by
  have:=hk1 i hi;rw[BU]at this;have c:=T.flip hp (show n1 < it.size by lia) (show i < it.size by lia) ⋯ this;rcases s2' n1 j (AF _) hj hj2 with e | e
  ·rw[← e];exact c
  ·exact TR c e
 have all:k=n1->tZ lt p 0 it.size:=λe i j h0 hij hj=>by
  by_cases hi:i < n1
  ·by_cases hj1:j < n1
   ·exact s1 i j h0 hij hj1
   ·exact F1 i ⋯ j ⋯ hj
  ·exact s2 i j ⋯ hij hj
 refine Lk (λe=>La (hq p st2 hs2 hp (all ⋯))) λe=>?_
 have hkn:k < n1:=by lia
 rw[BU,show k+(n1 - k) - 1=n1 - 1 by lia];refine LZ (Lg ⋯ ?_);refine LZ (Pg hA hs2 TR (lts (n1 - 1)) (λi _=>lts i) ⋯ ⋯ (λi j a b d=>s2' i j a b ⋯) λk2 hk' hk3 hk4=>?_);dsimp only;have cb:lt (sZ p n1) (sZ p k)=true:=by
  have:=hk2 k (AF _) hkn;rwa [BU]at this
 have F3:∀ j,k<=j->j < n1->lt (sZ p n1) (sZ p j)=true:=λj h1 h2=>by
  rcases s1' k j h1 h2 with z | z
  ·rw[← z];exact cb
  ·exact TR cb z
 refine Lk (λe=>?_) λe=>?_
 ·exfalso;have:=hk4 0 ⋯ ⋯;exact AZ (this.symm.trans (F3 (n1 - 1) ⋯ ⋯))
 have hk20:0 < k2:=by lia
 have F2:∀ i,i < n1->∀ j,n1+k2<=j->j < it.size->lt (sZ p i) (sZ p j)=true:=λi hi j hj hj2=>by
  have:=hk4 (j - n1) ⋯ ⋯;rw[show n1+(j - n1)=j by lia]at this;have c:=T.flip hp hj2 (show n1 - 1 < it.size by lia) ⋯ this;rcases s1' i (n1 - 1) ⋯ ⋯ with z | z
  ·rw[z];exact c
  ·exact TR z c
 have F4:∀ i,i < k2->lt (sZ p (n1+i)) (sZ p (n1 - 1))=true:=hk3;rw[MT,MT];have za:(p.extract k n1).size=n1 - k:=by simp;lia
 have zb:(p.extract n1 (n1+k2)).size=k2:=by simp;lia
 have AP:Apart lt (p.extract k n1).toList (p.extract n1 (n1+k2)).toList:={
  tr:=TR
  no:=NO
  ab:=λx hx y hy hc=>by
   obtain⟨i,a1,a2,a3,rfl⟩:=MS hx;obtain⟨j,b1,b2,b3,rfl⟩:=MS hy;exact T.flip hp ⋯ ⋯ ⋯ hc
  ba:=λx hx y hy hc=>by
   obtain⟨i,a1,a2,a3,rfl⟩:=MS hx;obtain⟨j,b1,b2,b3,rfl⟩:=MS hy;exact T.flip hp ⋯ ⋯ ⋯ hc
  sa:=Ot (λi j h0 hij hj=>s1 i j (As _) hij hj) ⋯
  sb:=Ot (λi j h0 hij hj=>s2 i j h0 hij ⋯) ⋯ }
 have la:∀ i,i < (p.extract k n1).size->(p.extract k n1).getD i 0 < it.size:=λi hi=>by rw[Ll,Ms ⋯ ⋯];exact lts _
 have lb:∀ i,i < (p.extract n1 (n1+k2)).size->(p.extract n1 (n1+k2)).getD i 0 < it.size:=λi hi=>by rw[Ll,Ms ⋯ ⋯];exact lts _
 have fin:∀ r,Good it lt (p.extract k n1).toList (p.extract n1 (n1+k2)).toList r->∃ p':Array Nat,t7 it.size p'/\tZ lt p' 0 it.size /\
   FM (λ(a:Array B5) (q:B5×Nat)=>a.setIfInBounds (k+q.2) q.1) (p.map (kas_item it)) r.toList.zipIdx=p'.map (kas_item it):=λr hr=>by
  obtain⟨q,rfl,hpm,hso⟩:=hr;have hql:q.toList.length=n1 - k+k2:=by rw[hpm.length_eq,A8,Au,Au,za,zb]
  have hw:p.toList=(p.extract 0 k).toList++((p.extract k n1).toList++(p.extract n1 (n1+k2)).toList)++p.toList.drop (k+q.toList.length):=by
   rw[Mc,Mc,Mc,GM,HK,hql,show n1+k2 - n1=k2 by lia,show k+(n1 - k+k2)=n1+k2 by lia];have c1:(p.toList.drop k).take (n1 - k)++(p.toList.drop n1).take k2=(p.toList.drop k).take (n1 - k+k2):=by
    rw[JP,List.drop_drop,show k+(n1 - k)=n1 by lia]
   rw[c1];have c2:p.toList.take k++(p.toList.drop k).take (n1 - k+k2)=p.toList.take (n1+k2):=by
    rw[show n1+k2=k+(n1 - k+k2) by lia];exact (JP ..).symm
   rw[c2,HN]
  refine⟨((p.extract 0 k).toList++q.toList++p.toList.drop (k+q.toList.length)).toArray,?_,?_,?_⟩
  ·show (_:List Nat).Perm _;refine HX ?_ hp;rw[FH]
   conv=>rhs;rw[hw]
   exact (hpm.append_left _).append_right _
  ·have hlen:((p.extract 0 k).toList++q.toList++p.toList.drop (k+q.toList.length)).toArray.size=it.size:=by
    simp only[Ad,A8,Fe,Au,hql]at *;rw[Array.size_extract];lia
   rw[← hlen];refine bW ?_;rw[FH,BC,E6,E6];have m1:∀ x∈(p.extract 0 k).toList,∃ i,i < k/\x=sZ p i:=λx hx=>by
    obtain⟨i,a1,a2,a3,rfl⟩:=MS hx;exact⟨i,a2,rfl⟩
   have e3:p.toList.drop (k+q.toList.length)=(p.extract (n1+k2) p.size).toList:=by rw[N3,hql,show k+(n1 - k+k2)=n1+k2 by lia]
   have m3:∀ x∈p.toList.drop (k+q.toList.length),∃ i,n1+k2<=i/\i < it.size/\x=sZ p i:=λx hx=>by
    rw[e3]at hx;obtain⟨i,a1,a2,a3,rfl⟩:=MS hx;exact⟨i,a1,by lia,rfl⟩
   have m2:∀ x∈q.toList,∃ i,k<=i/\i < n1+k2/\x=sZ p i:=λx hx=>by
    rcases A6.mp (hpm.mem_iff.mp hx) with hx | hx
    ·obtain⟨i,a1,a2,a3,rfl⟩:=MS hx;exact⟨i,a1,by lia,rfl⟩
    ·obtain⟨i,a1,a2,a3,rfl⟩:=MS hx;exact⟨i,by lia,a2,rfl⟩
   refine⟨Ot (λi j h0 hij hj=>s1 i j h0 hij ⋯) ⋯,⟨hso,?_,λx hx y hy=>?_⟩,λx hx y hy=>?_⟩
   ·rw[e3];exact Ot (λi j h0 hij hj=>s2 i j ⋯ hij ⋯) (AF _)
   ·obtain⟨i,a1,a2,rfl⟩:=m2 x hx;obtain⟨j,b1,b2,rfl⟩:=m3 y hy;by_cases hi:i < n1
    ·exact F2 i hi j b1 b2
    ·exact s2 i j ⋯ ⋯ b2
   ·obtain⟨i,a1,rfl⟩:=m1 x hx;rcases A6.mp hy with hy | hy
    ·obtain⟨j,b1,b2,rfl⟩:=m2 y hy;by_cases hj:j < n1
     ·exact s1 i j (As _) ⋯ hj
     ·exact F1 i a1 j ⋯ ⋯
    ·obtain⟨j,b1,b2,rfl⟩:=m3 y hy;exact F1 i a1 j ⋯ b2
  ·have:=WK (kas_item it) k q.toList 0 (p.map (kas_item it)) (by rw[Ir];lia);rw[IJ];rw[this];apply ER.mp;simp
 refine Lu (λ_=>?_) (λ_=>?_)
 ·refine LZ (kN hA hs2 la lb AP ⋯ ⋯ ?_ ?_ ?_)
  ·rw[Ms ⋯ ⋯,Ms ⋯ ⋯];exact cb
  ·intro y hy;obtain⟨j,b1,b2,b3,rfl⟩:=MS hy;rw[za,Ms ⋯ ⋯,show k+(n1 - k - 1)=n1 - 1 by lia];have:=F4 (j - n1) ⋯;rwa [show n1+(j - n1)=j by lia]at this
  ·intro r st3 hs3 hr;obtain⟨p',g1,g2,g3⟩:=fin r hr;refine LZ (Sa (it:=it) (κ:=k0) (p':=p') (pd:=#[(0,it.size,pw)]) ⟨hs3.1,?_,hs3.2.2.1,hs3.2.2.2⟩ λst4 hs4=>?_)
   ·rw[← g3];show FM _ (Gv st3) _=_;rw[hs3.2.1]
   ·refine LZ (Ly ?_);have e:(EO st4).isNone=true:=by rw[hs4.2.2.1];rfl
    show wq _ _ _ _ _ (pure (EO st4).isNone) _ _;rw[e];exact La (hq p' st4 hs4 g1 g2)
 ·refine LZ (jo hA hs2 la lb AP ⋯ ⋯ ?_ ?_ ?_)
  ·intro y hy;obtain⟨j,b1,b2,b3,rfl⟩:=MS hy;rw[Ms ⋯ ⋯];exact F3 j b1 b2
  ·rw[za,zb,Ms ⋯ ⋯,Ms ⋯ ⋯,show k+(n1 - k - 1)=n1 - 1 by lia];exact F4 (k2 - 1) ⋯
  ·intro r st3 hs3 hr;obtain⟨p',g1,g2,g3⟩:=fin r hr;refine LZ (Sa (it:=it) (κ:=k0) (p':=p') (pd:=#[(0,it.size,pw)]) ⟨hs3.1,?_,hs3.2.2.1,hs3.2.2.2⟩ λst4 hs4=>?_)
   ·rw[← g3];show FM _ (Gv st3) _=_;rw[hs3.2.1]
   ·refine LZ (Ly ?_);have e:(EO st4).isNone=true:=by rw[hs4.2.2.1];rfl
    show wq _ _ _ _ _ (pure (EO st4).isNone) _ _;rw[e];exact La (hq p' st4 hs4 g1 g2)
end
section
variable {prog:Aj}{w:A5}{A:BG}{E:AL->AR->Prop}{s0:AR}{κ:Cr}{it:Array B5}{lt:Nat->Nat->Bool}{st:Bh}{p:Array Nat}{pd:Array (Nat×Nat×Nat)}
def AAc(h1:64<=n)(h2:n < 128):minRun' n n 0=n / 2+n % 2:=by
 obtain⟨f,hf⟩:∃ f,n=f+1+1:=⟨n - 2,by lia⟩
 have:minRun' (f+1+1) n 0=n / 2+n % 2:=by
  rw[LX,if_neg ⋯,LX,if_pos ⋯];lia
 rwa [← hf]at this
def tZ.of_eq(h:tZ lt p a b)(e:∀ i,i < b->sZ p' i=sZ p i):tZ lt p' a b:=λi j h0 hij hj=>by rw[e i ⋯,e j hj];exact h i j h0 hij hj
def ADR (κ:Cr) (it:Array B5) (lt:Nat->Nat->Bool) (st:Bh):Prop:=∃ p',t7 it.size p'/\((SA κ it p' #[(0,it.size,0)] st/\tZ lt p' 0 it.size)\/∃ n1 n2 pw,1<=n1/\1<=n2/\n1+n2=it.size/\SA κ it p' #[(0,n1,pw),(n1,n2,0)] st/\tZ lt p' 0 n1/\tZ lt p' n1 it.size)
def IvS (κ:Cr) (it:Array B5) (lt:Nat->Nat->Bool) (mr x c:Nat) (st:Bh):Prop:=
 (x=0/\c=0/\∃ p',SA κ it p' #[] st/\t7 it.size p')\/(x=1/\∃ p',mr<=c/\c < it.size/\SA κ it p' #[(0,c,0)] st/\t7 it.size p'/\tZ lt p' 0 c)\/(1<=x/\c=it.size/\ADR κ it lt st)
def UI(a1:mr<=n)(a2:n<=it.size)(h3:SA κ it p #[] st)(a4:t7 it.size p)(a5:tZ lt p 0 n):IvS κ it lt mr (0+1) (0+n) (JQ st ((DX st).push (0,n,0))):=by
 have a3:SA κ it p #[(0,n,0)] (JQ st ((DX st).push (0,n,0))):=⟨h3.1,h3.2.1,h3.2.2.1,by show (DX st).push _=_;rw[h3.2.2.2];rfl⟩
 rw[BU n];by_cases e:n=it.size
 ·subst e;exact .inr (.inr ⟨by lia,rfl,p,a4,.inl ⟨a3,a5⟩⟩)
 ·exact .inr (.inl ⟨rfl,p,a1,by lia,a3,a4,a5⟩)
def UM{α f}{Q:α->Bh->Prop}(h3:SA κ it p #[(0,n1,0)] st)(hg:∀ s,SA κ it p #[(0,n1,0)] s->SA κ it p #[(0,n1,pw)] (g s))(h:∀ st',SA κ it p #[(0,n1,pw),(n1,m,0)] st'->wq prog w A E s0 (f ⟨⟩) Q st') :
  wq prog w A E s0 (modify g >>= λ_=>(modify λs=>JQ s ((DX s).push (n1,m,0)):StateT Bh Sem PUnit) >>= f) Q st:=by
 have h4:=hg _ h3;exact LZ (MY (LZ (MY (h _ ⟨h4.1,h4.2.1,h4.2.2.1,by show (DX (g st)).push _=_;rw[h4.2.2.2];rfl⟩))))
def dW(hA:zw prog w A s0 κ it lt)(T:xP it.size lt)(TR:∀ {x y z},lt x y=true->lt y z=true->lt x z=true)(NO:∀ {x y},lt x y=true->lt y x=false)(h:SA κ it p #[] st)(hp:t7 it.size p)(h1:64<=it.size)(h2:it.size < 128)
  (hq:∀ p' st',Gv st'=p'.map (kas_item it)->EO st'=none->t7 it.size p'->tZ lt p' 0 it.size->Q () st'):wq prog w A E s0 sortRuns' Q st:=by
 rw[sortRuns'_eq];refine LZ (Ly ?_);dsimp only;have hsz:(Gv st).size=it.size:=by rw[h.2.1,Ir,hp.size]
 rw[hsz,AAc h1 h2];generalize hmr:it.size / 2+it.size % 2=mr;refine LZ (Lj (Lm (I:=λx c st'=>c.1=none/\IvS κ it lt mr x c.2 st') (Q:=λc st'=>c.1=none/\ADR κ it lt st') ?step ?fin ⟨rfl,.inl ⟨rfl,rfl,p,h,hp⟩⟩) ?post)
 case fin =>
  rintro ⟨o,c⟩ st' ⟨ho,⟨hx,_⟩ | ⟨hx,_⟩ | ⟨_,hc,hD⟩⟩
  ·lia
  ·lia
  ·exact⟨ho,hD⟩
 case step =>
  rintro x ⟨o,c⟩ st' _ hx ⟨ho,⟨rfl,hc,p',hs,hp'⟩ | ⟨rfl,p',hn1,hn2,hs,hp',ha⟩ | ⟨hx1,hc,hD⟩⟩
  ·dsimp only at ho hc ⊢;subst ho hc;rw[if_neg ⋯];refine LZ (Ux hA T hs hp' ⋯ ⋯ ?_);intro m p2 st2 hs2 hp2 hm1' hm2' ha2 _;rw[BU]at ha2;dsimp only;by_cases hlt:m < mr
   ·rw[if_pos hlt];refine LZ (M4 ?_);rw[show min (it.size - 0) mr=mr by lia];refine LZ (Wl hA T hs2 hp2 ⋯ hm1' ⋯ (by simp_all) ?_);intro p3 st3 hs3 hp3 ha3 _;rw[BU]at ha3;refine LZ (Ly ?_);have hb:(DX st3).back?=none:=by rw[hs3.2.2.2];rfl
    rw[hb];exact LZ (MY (La ⟨rfl,UI (AF _) ⋯ hs3 hp3 ha3⟩))
   ·rw[if_neg hlt];refine LZ (Ly ?_);have hb:(DX st2).back?=none:=by rw[hs2.2.2.2];rfl
    rw[hb];exact LZ (MY (La ⟨rfl,UI ⋯ hm2' hs2 hp2 ha2⟩))
  ·dsimp only at ho hn1 hn2 hs ha ⊢;rw[if_neg ⋯];refine LZ (Ux hA T hs hp' ⋯ ⋯ ?_);intro m p2 st2 hs2 hp2 hm1' hm2' ha2 hb2;dsimp only;have ha1:=ha.of_eq hb2;by_cases hlt:m < mr
   ·rw[if_pos hlt];refine LZ (M4 ?_);rw[show min (it.size - c) mr=it.size - c by lia];refine LZ (Wl hA T hs2 hp2 ⋯ hm1' ⋯ ha2 ?_);intro p3 st3 hs3 hp3 ha3 hb3;have ha4:=ha1.of_eq hb3;rw[show c+(it.size - c)=it.size by lia]at ha3;refine LZ (Ly ?_);have hb:(DX st3).back?=some (0,c,0):=by rw[hs3.2.2.2];rfl
    rw[hb];dsimp only;generalize power' it.size (2 * 0+c) _ it.size=pw;refine LZ (Lj (Lm (I:=λx e st''=>e=(none,())/\st3=st'') ?_ (λ_ _ z=>z) ⟨rfl,rfl⟩) ?_)
    ·rintro x e st'' _ _ ⟨rfl,rfl⟩;refine LZ (Ly ?_);rw[hs3.2.2.2];exact La ⟨rfl,rfl⟩
    rintro e st'' ⟨rfl,rfl⟩;refine UM hs3 (λs z=>⟨z.1,z.2.1,z.2.2.1,?_⟩) λst4 hs4=>La ⟨rfl,.inr (.inr ⟨by lia,by dsimp only;lia,p3,hp3,.inr ⟨c,it.size - c,pw,by lia,by lia,by lia,hs4,ha4,ha3⟩⟩)⟩
    rw[z.2.2.2];rfl
   ·rw[if_neg hlt];have hm:m=it.size - c:=by lia
    subst hm;rw[show c+(it.size - c)=it.size by lia]at ha2;refine LZ (Ly ?_);have hb:(DX st2).back?=some (0,c,0):=by rw[hs2.2.2.2];rfl
    rw[hb];dsimp only;generalize power' it.size (2 * 0+c) _ it.size=pw;refine LZ (Lj (Lm (I:=λx e st''=>e=(none,())/\st2=st'') ?_ (λ_ _ z=>z) ⟨rfl,rfl⟩) ?_)
    ·rintro x e st'' _ _ ⟨rfl,rfl⟩;refine LZ (Ly ?_);rw[hs2.2.2.2];exact La ⟨rfl,rfl⟩
    rintro e st'' ⟨rfl,rfl⟩;refine UM hs2 (λs z=>⟨z.1,z.2.1,z.2.2.1,?_⟩) λst4 hs4=>La ⟨rfl,.inr (.inr ⟨by lia,by dsimp only;lia,p2,hp2,.inr ⟨c,it.size - c,pw,by lia,by lia,by lia,hs4,ha1,ha2⟩⟩)⟩
    rw[z.2.2.2];rfl
  ·dsimp only at ho hc ⊢;subst ho hc;rw[if_pos (AF _)];exact La ⟨rfl,hD⟩
 case post =>
  rintro ⟨o,c⟩ st' ⟨ho,p',hp',hD⟩;subst ho;refine LZ (Lj (Lm (I:=λx c st''=>c=(none,())/\((x=0/\∃ p',t7 it.size p'/\∃ n1 n2 pw,1<=n1/\1<=n2/\n1+n2=it.size/\SA κ it p' #[(0,n1,pw),(n1,n2,0)] st''/\tZ lt p' 0 n1/\tZ lt p' n1 it.size)\/∃ p' pw,t7 it.size p'/\SA κ it p' #[(0,it.size,pw)] st''/\tZ lt p' 0 it.size))
   (Q:=λc st''=>c=(none,())/\∃ p' pw,t7 it.size p'/\SA κ it p' #[(0,it.size,pw)] st''/\tZ lt p' 0 it.size) ?_ ?_ ⟨rfl,?_⟩) ?_)
  ·rintro x c st'' _ hx ⟨rfl,⟨rfl,p2,hp2,n1,n2,pw,a1,a2,a3,hs,b1,b2⟩ | ⟨p2,pw,hp2,hs,ha⟩⟩
   ·refine LZ (Ly ?_);rw[hs.2.2.2];exact LZ (Yw hA T TR NO hs hp2 a1 a2 a3 b1 b2 (λp3 st3 hs3 hp3 ha3=>La ⟨rfl,.inr ⟨p3,pw,hp3,hs3,ha3⟩⟩))
   ·refine LZ (Ly ?_);rw[hs.2.2.2];exact La ⟨rfl,p2,pw,hp2,hs,ha⟩
  ·rintro c st'' ⟨rfl,⟨hx,_⟩ | hD⟩
   ·lia
   ·exact⟨rfl,hD⟩
  ·rcases hD with ⟨hs,ha⟩ | hD
   ·exact .inr ⟨p',0,hp',hs,ha⟩
   ·exact .inl ⟨rfl,p',hp',hD⟩
  ·rintro c st'' ⟨rfl,p2,pw,hp2,hs,ha⟩;exact La (hq p2 _ hs.2.1 hs.2.2.1 hp2 ha)
end
def dG(T:xP n lt)(hp:t7 n p)(hq:t7 n q)(ap:tZ lt p 0 n)(aq:zU lt q n):p=q:=by
 apply ER.mp;have lq:=hq.size;have pp:p.toList.Pairwise λx y=>lt x y=true:=by
  refine BL.mpr λi j hi hj hij=>?_
  have:=ap i j (As _) hij (by simpa [hp.size] using hj);rw[Lf,Lf,Al ‹_›,Al ‹_›]at this;simpa using this
 have pq:q.toList.Pairwise λx y=>lt x y=true:=by
  refine BL.mpr λi j hi hj hij=>?_
  have:=aq i j hij (by simp_all);rw[Lf,Lf,Al ‹_›,Al ‹_›]at this;simpa using this
 refine Ft (λa b ha hb h1 h2=>?_) pp pq (HX hp (LY hq));have la:=BN.mp (hp.subset ha);have lb:=BN.mp (hq.subset hb);rw[T.asy a b la lb h1]at h2;cases h2
def Y4(h1:64<=n)(h2:n < 128)(T:xP n lt)(TR:∀ {x y z},lt x y=true->lt y z=true->lt x z=true)(NO:∀ {x y},lt x y=true->lt y x=false):Cn n lt:=⟨by lia,λ_ prog w A E s κ vs hl hlt=>by
 have hz:(vs.toArray.zip vs.toArray).size=n:=by simp[hl]
 have hA:zw prog w A s κ (vs.toArray.zip vs.toArray) lt:=λi j hi hj C tk hC=>by
  have:=hlt i j ⋯ ⋯ C tk hC;rwa [kat_ask_eq rfl]at this
 have h0:t7 n (Dt (AE n)):=by show (Dt (AE n)).toList.Perm _;simp
 have hst:SA κ (vs.toArray.zip vs.toArray) (Dt (AE n)) #[] (HV κ (vs.toArray.zip vs.toArray) #[] 7 none):=⟨rfl,by
  rw[← hz];exact (kas_range _).symm,rfl,rfl⟩
 rw[← hz]at h0 T h1 h2;have run:=dW (E:=E) (Q:=λ_ st'=>∃ p,p.size=n/\Gv st'=p.map (kas_item (vs.toArray.zip vs.toArray))/\EO st'=none/\p=tR lt (kas_sort n)) hA T TR NO (by rw[hz];exact hst) h0 h1 h2 (λp' st' e1 e2 hp ha=>by
  refine⟨p',by rw[hp.size,hz],e1,e2,?_⟩;rw[← hz];exact dG T hp ((Mk ⋯).run lt) ha (Tx T ⋯)) s.toks
 refine BH run (λr s' h=>?_) λ_ _ e=>e
 obtain⟨⟨tk,rfl⟩,p,a1,a2,a3,a4⟩:=h;exact⟨p,a1,a2,a3,a4,tk,rfl⟩⟩
end L2
namespace D
open PySem L2 PyProof.Rows
theorem Nr:∀ l,HT.lexLt l l=false
 | []=>HT.lexLt_nil_nil
 | x::l=>by rw[HT.lexLt_cons,if_pos rfl];exact Nr l
theorem Nz:∀ {a b c},HT.lexLt a b=true->HT.lexLt b c=true->HT.lexLt a c=true
 | [],[],_,h,_=>by rw[HT.lexLt_nil_nil]at h;cases h
 | [],_::_,[],_,h=>by rw[HT.lexLt_cons_nil]at h;cases h
 | [],_::_,_::_,_,_=>HT.lexLt_nil_cons ..
 | _::_,[],_,h,_ | _::_,_::_,[],_,h=>by rw[HT.lexLt_cons_nil]at h;cases h
 | x::a,y::b,z::c,h1,h2=>by
  rw[HT.lexLt_cons]at h1 h2 ⊢;split at h1
  ·rename_i e;subst e;split at h2
   ·rename_i e;subst e;rw[if_pos rfl];exact Nz h1 h2
   ·rename_i e;rw[if_neg e];exact h2
  ·rename_i e1;split at h2
   ·rename_i e;subst e;rw[if_neg e1];exact h1
   ·lia
theorem Sm(h:HT.lexLt a b=true):HT.lexLt b a=false:=by
 cases e:HT.lexLt b a with
 | false=>rfl
 | true=>have:=Nz h e;rw[Nr]at this;cases this
theorem RX:∀ {a b},a≠b->HT.lexLt a b=false->HT.lexLt b a=true
 | [],[],h,_=>absurd rfl h
 | [],_::_,_,h=>by rw[HT.lexLt_nil_cons]at h;cases h
 | _::_,[],_,_=>HT.lexLt_nil_cons ..
 | x::a,y::b,h,h1=>by
  rw[HT.lexLt_cons]at h1 ⊢;split at h1
  ·rename_i e;subst e;rw[if_pos rfl];exact RX (λz=>h (by rw[z])) h1
  ·rename_i e;rw[if_neg (λz=>e z.symm)];lia
def Tc(h:nss.Nodup):xP nss.length (ltI nss) where
 tot:=λi j hi hj hij e=>by
  refine RX (λz=>?_) e;simp[ AU hi,AU hj]at z;have pw:=BL.mp h;rcases IS hij with q | q
  ·exact pw i j hi hj q z
  ·exact pw j i hj hi q z.symm
 asy:=λi j _ _ e=>Sm e
 tr:=λi j k _ _ _ e1 e2=>Nz e1 e2
noncomputable def yP (ts:List T):Option (List T):=match yM ts with
 | some nss=>if nss.length < 64\/(nss.length < 128/\nss.Nodup) then some (sr (ltI nss) (.a .non) ts) else none
 | none=>none
def lZ(h:yP ts=some ys):∃ lt,Srt ts lt/\Cn ts.length lt/\ys=sr lt (.a .non) ts:=by
 unfold yP at h;split at h
 ·rename_i nss e;split at h
  ·rename_i hl;cases h;have:=Rb e;refine⟨_,.inl ⟨nss,this,rfl⟩,?_,rfl⟩;rw[this,Af];rcases hl with hl | ⟨hl,hn⟩
   ·exact TH hl
   ·by_cases hf:nss.length < 64
    ·exact TH hf
    ·exact Y4 ⋯ hl (Tc hn) Nz Sm
  ·cases h
 ·cases h
noncomputable def AEj:En->List S->Option S:=λΓ as=>match as with
 | [a]=>(s9 Γ a).bind λts=>(yP ts).map .l
 | _=>none
noncomputable def wg:En->List S->Option S:=λΓ as=>match as with
 | [a]=>(dictOf Γ a).bind λd=>match d with
  | .inr kvs=>(yP (vS kvs)).map .l
  | .inl _=>none
 | _=>none
def aK{K}:vA K (AAJ K) wg:=by
 intro C w Γ σ H vs as s Q R o e k;unfold wg at e;split at e
 ·obtain⟨d,e1,e⟩:=sC e;split at e
  ·obtain⟨ys,e2,rfl⟩:=Lb e;obtain⟨v,rfl,o1⟩:=tK o;obtain⟨p,ob,rfl,hp,hd⟩:=Mw R o1 e1;obtain⟨l,rfl,h1⟩:=hd.invT;obtain⟨lt,hs,hl,rfl⟩:=lZ e2;have hkk:=VF h1;refine⟨p,l,lt,rfl,.inl hp,by rw[hkk];exact hs,?_,λl' us hl' hu=>?_⟩
   ·have:=congrArg HS hkk;rw[Af]at this;rw[this];exact hl
   ·rw[hkk]at hu;exact k _ _ (R.new hl') (tP.new hl') (R.newl hl' (j7 hu lt)) ⟨l',rfl,hl'⟩
  ·cases e
 ·cases e
section
variable {ι:Type}{K:Fg}{X:ι->Cx}{mg:Str->Option AL}{k:Nat}{Γ:En}
def Ww(M:Fm K mg k X):wK K X (.builtin "sorted") wg:=⟨_,λj=>by have:=Y3 (M.room j);rw[M.K j]at this;exact this,aK⟩
@[simp] theorem nj:wg Γ [a]=(dictOf Γ a).bind λd=>match d with
  | .inr kvs=>(yP (vS kvs)).map .l
  | .inl _=>none:=(rfl)
end
end D
namespace Lw
open PySem.W (mg_of mg_none_of nsIn fnOf)
open PyProof.Rows (boot_all boot_isinstance boot_max boot_min boot_sorted boot_sum boot_tuple)
open PySem L2 D
local macro_rules | `(%[$x|0]) => `(jW $x qQ) | `(%[$x,$xs,*|0]) => `(jW $x %[$xs,*|0])
local macro_rules | `(↑$n:num) => `(dC (.int $n))
def uN (i:Nat):Stmt:=PySem.Challenge.pw_fivecups_k65_whole_words_of_made_dances.main.body.getD i (.Pass ⟨0,0,0,0⟩)
section
variable {P:Aj}{wd:A5}{K:Ae}{mg:Str->Option AL}{base:Heap}
noncomputable def Nm:T:=.w (([1,3,0,4,2]:List Int).map V.int |>.map T.a)
noncomputable def Nh:T:=.w (([1,2,3,4,0]:List Int).map V.int |>.map T.a)
abbrev Qg:Nat:=12
abbrev My:Nat:=12
abbrev Q7:Nat:=20
abbrev Ol:Nat:=12
abbrev P4:Nat:=12
local macro_rules | `(tactic| walk_at "s") => `(tactic| exact ⟨rfl,rfl,rfl,by decide +kernel,rfl,by decide +kernel,by decide +kernel⟩)
abbrev ADb:Stmt:=uN 55
def AFK:sH ["_law_script","_law_k","_law_cell","_law_seed"] ["_law_script","_law_k"] (sD ADb):=↥6
noncomputable def d_5:DS:=sG (sQ 2 (sI tN (sI uf ↑7919 (jV 1)) ↑11))
 (sG (uI (sM (sI zR (jV 1) (uC uM %[jV 0|0]))) (sQ 2 (sI sY (jV 0) (jV 1))) (uI (sM (sI yS (uC uM %[jV 0|0]) ↑0)) (sQ 2 (sI tN (jV 2) (sI uf (sI v7 (sI sY (jV 0) (sI v7 (jV 1) (uC uM %[jV 0|0]))) ↑2147483629) ↑69623))) sU))
 (sG (sQ 3 (sI tN (sI v7 (sI tN (sI uf (sI v7 (jV 2) ↑2147483629) ↑48271) (sI uf ↑40692 (jV 1))) ↑2147483629) ↑1))
 (sS (tO %[sI sY (tO %[↑0,jV 2|0]) (uC xw %[sI geS (jV 2) (sI ABh ↑10 ↑18)|0]),jV 3|0]))))
noncomputable def F_5:DF:=sX none 2 4 d_5
abbrev ADU:Stmt:=uN 56
def AFc:sH ["_law_box_here","_law_wide","_law_digit","_law_one"] ["_law_box_here","_law_wide"] (sD ADU):=↥6
noncomputable def d_6:DS:=sG (uI (sM (sI yS (sI sY (jV 0) ↑0) ↑0)) (sG (sQ 2 (sI v7 (sI sY (jV 0) ↑0) (jV 1)))
 (sG (wA 0 (sI vv (sI sY (jV 0) ↑0) (jV 1)) ↑0)
 (sS (jV 2)))) sU)
 (sG (sQ 3 (sI v7 (sI uf (sI sY (jV 0) ↑1) ↑69623) ↑2147483647))
 (sG (wA 0 (sI tN (sI v7 (sI tN (sI uf (jV 3) ↑48271) ↑30103) ↑2147483629) ↑1) ↑1)
 (sS (sI v7 (sI vv (sI tN (sI uf (jV 3) ↑2147483647) (sI sY (jV 0) ↑1)) ↑8191) (jV 1)))))
noncomputable def vw:DF:=sX (some 0) 2 4 d_6
noncomputable def OZ:DT:=sM (sI yS (uC uM %[jV 2|0]) ↑0)
noncomputable def Qb:DS:=sQ 3 (sI tN (jV 3) (sg %[(t5 2 w9 %[(sE (some 0) vw [] %[jV 0,uC uM %[jV 2|0]|0])|0])|0]))
abbrev AEN:Stmt:=uN 57
def AEx:sH ["_law_box_here","_law_cups","_law_left","_law_found"] ["_law_box_here","_law_cups"] (sD AEN):=↥6
noncomputable def d_7:DS:=sG (sQ 2 (uk %[jV 1|0]))
 (sG (sQ 3 (sg qQ))
 (sG (su (OZ) (Qb) tf)
 (sS (jV 3))))
noncomputable def F_7:DF:=sX (some 0) 2 4 d_7
noncomputable def OP:DE:=sI sY (jV 1) (jV 0)
abbrev AEQ:Stmt:=uN 59
def AFH:sH ["_law_one","_law_other"] ["_law_one","_law_other"] (sD AEQ):=↥6
noncomputable def d_8:DS:=sS (uC tT %[uE none [none,some 1] (tV (jV 0)) (sJ 0) vI (OP)|0])
noncomputable def F_8:DF:=sX none 2 2 d_8
noncomputable def Oh:DE:=wJ (jV 1) %[jV 0|0]
abbrev ADP:Stmt:=uN 60
def AFB:sH ["_law_turning_here"] ["_law_turning_here"] (sD ADP):=↥6
noncomputable def d_9:DS:=sS (uC tT %[uE none [none,some 0] (vD %[uC uM %[jV 0|0]|0]) (sJ 0) vI (Oh)|0])
noncomputable def F_9:DF:=sX none 1 1 d_9
abbrev V2:Stmt:=uN 61
def l0:sH ["_law_turning_here","_law_by"] ["_law_turning_here","_law_by"] (sD V2):=↥6
noncomputable def ADC:DS:=sS (sE none F_8 [] %[(sE none F_8 [] %[sE none F_9 [] %[jV 1|0],jV 0|0]),jV 1|0])
noncomputable def zy:DF:=sX none 2 2 ADC
noncomputable def Nl:DS:=sQ 2 (sE none F_8 [] %[jV 2,sg %[↑1,↑2,↑3,↑4,↑0|0]|0])
abbrev Ta:Stmt:=uN 69
def d9:sH ["_law_box_here","_law_by","_law_ring_here","_law_turn","_law_three","_law_some"] ["_law_box_here"] (sD Ta):=↥6
noncomputable def ADx:DS:=sG (sQ 1 (sE (some 0) F_7 [] %[jV 0,↑5|0]))
 (sG (sQ 2 (sg %[↑1,↑2,↑3,↑4,↑0|0]))
 (sG (uy (some 0) (vD %[sE (some 0) vw [] %[jV 0,↑4|0]|0]) (sJ 3) (Nl))
 (sG (sQ 4 (sI sY (tO %[sg %[↑1,↑2,↑0,↑3,↑4|0],sg %[↑2,↑0,↑1,↑3,↑4|0]|0]) (sE (some 0) vw [] %[jV 0,↑2|0])))
 (sG (sQ 5 (tO %[sE none zy [] %[jV 2,jV 1|0],sE none zy [] %[jV 4,jV 1|0]|0]))
 (sG (uI (sM (sI uw (sE (some 0) vw [] %[jV 0,↑2|0]) ↑0)) (sQ 5 (tO %[sI sY (jV 5) ↑1,sI sY (jV 5) ↑0|0])) sU)
 (sG (uI (sM (sI uw (sE (some 0) vw [] %[jV 0,↑3|0]) ↑0)) (t6 (t5 5 tS %[sE (some 0) F_7 [] %[jV 0,↑5|0]|0])) sU)
 (sS (uC tT %[jV 5|0]))))))))
noncomputable def ABu:DF:=sX (some 0) 1 6 ADx
abbrev ADY:Stmt:=uN 62
def ADq:sH ["_law_box_here","_law_questions","_law_room","_law_down","_law_form","_law_first","_law_one","_law_second","_law_other","_law_head"] ["_law_box_here","_law_questions","_law_room","_law_down"] (sD ADY):=↥6
noncomputable def d_1 (rec:DF):DS:=sG (sQ 4 (sE (some 0) vw [] %[jV 0,↑10|0]))
 (sG (uI (z9 (sM (sI zR (jV 2) ↑2)) (z9 (sM (sI zR (jV 3) ↑2)) (sM (sI uw (jV 4) ↑0)))) (sS (sI sY (tO %[(sg %[dC (.str "ask"),sE (some 0) vw [] %[jV 0,jV 1|0]|0]),sg %[dC (.str "yes")|0],sg %[dC (.str "no")|0]|0]) (uC w6 %[↑0,sI uK (sE (some 0) vw [] %[jV 0,↑8|0]) ↑5|0]))) sU)
 (sG (uI (z9 (sM (sI zR (jV 4) ↑3)) (sM (sI zR (jV 2) ↑3))) (sS (sg %[dC (.str "not"),sE (some 0) rec [] %[jV 0,jV 1,sI uK (jV 2) ↑1,sI uK (jV 3) ↑1|0]|0])) sU)
 (sG (sQ 5 (sI tN ↑1 (sE (some 0) vw [] %[jV 0,sI uK (jV 2) ↑2|0])))
 (sG (sQ 6 (sE (some 0) rec [] %[jV 0,jV 1,jV 5,sI uK (jV 3) ↑1|0]))
 (sG (uI (xi (sM (sI uw (jV 4) ↑9)) (xi (sM (sI yS (jV 2) ↑3)) (sM (sI zR (jV 5) (sI uK (jV 2) ↑2))))) (sG (sQ 7 (sI tN ↑1 (sE (some 0) vw [] %[jV 0,sI uK (sI uK (jV 2) ↑2) (jV 5)|0])))
 (sG (sQ 8 (sE (some 0) rec [] %[jV 0,jV 1,jV 7,sI uK (jV 3) ↑1|0]))
 (sS (sg %[dC (.str "most"),jV 6,jV 8,sE (some 0) rec [] %[jV 0,jV 1,sI uK (sI uK (sI uK (jV 2) ↑1) (jV 5)) (jV 7),sI uK (jV 3) ↑1|0]|0])))) sU)
 (sG (sQ 9 (sI sY (tO %[dC (.str "and"),dC (.str "or"),dC (.str "either")|0]) (sI v7 (jV 4) ↑3)))
 (sS (sg %[jV 9,jV 6,sE (some 0) rec [] %[jV 0,jV 1,sI uK (sI uK (jV 2) ↑1) (jV 5),sI uK (jV 3) ↑1|0]|0]))))))))
noncomputable def F_1:Nat->DF
 | 0=>λ_=>none
 | n+1=>sX (some 0) 4 10 (d_1 (F_1 n))
abbrev ADD:Stmt:=uN 65
def AEi:sH ["_law_box_here","_law_questions","_law_most","_law_down","_law_form","_law_head","_law_room","_law_last","_law_third","_law_first","_law_one"] ["_law_box_here","_law_questions","_law_most","_law_down"] (sD ADD):=↥6
noncomputable def d_3 (rec:DF):DS:=sG (sQ 4 (sE (some 0) vw [] %[jV 0,↑8|0]))
 (sG (uI (z9 (sM (sI zR (jV 2) ↑4)) (z9 (sM (sI zR (jV 3) ↑2)) (sM (sI uw (jV 4) ↑0)))) (sS (sE (some 0) (F_1 My) [] %[jV 0,jV 1,↑1,↑1|0])) sU)
 (sG (uI (sM (sI uw (jV 4) ↑1)) (sS (sg %[dC (.str "not"),sE (some 0) rec [] %[jV 0,jV 1,jV 2,sI uK (jV 3) ↑1|0]|0])) sU)
 (sG (zG 5 6 7 %[sI sY (tO %[dC (.str "and"),dC (.str "or")|0]) (sI v7 (jV 4) ↑2),sI vv (jV 2) ↑2,sg qQ|0])
 (sG (uI (xi (sM (sI uw (jV 4) ↑4)) (sM (sI yS (jV 2) ↑15))) (yy 5 6 %[dC (.str "either"),sI vv (jV 2) ↑8|0]) sU)
 (sG (uI (xi (sM (sI zR (jV 4) ↑4)) (sM (sI yS (jV 2) ↑27))) (sG (sQ 8 (sI tN ↑1 (sE (some 0) vw [] %[jV 0,sI vv (sI uK (jV 2) ↑24) ↑4|0])))
 (sG (yy 5 6 %[dC (.str "most"),sI vv (sI uK (jV 2) (sI uf ↑4 (jV 8))) ↑12|0])
 (sQ 7 (sg %[sE (some 0) rec [] %[jV 0,jV 1,jV 8,sI uK (jV 3) ↑1|0]|0])))) sU)
 (sG (sQ 9 (sI tN ↑1 (sE (some 0) vw [] %[jV 0,sI uK (jV 6) ↑1|0])))
 (sG (sQ 10 (sE (some 0) rec [] %[jV 0,jV 1,jV 9,sI uK (jV 3) ↑1|0]))
 (sS (sI tN (sg %[jV 5,jV 10,sE (some 0) rec [] %[jV 0,jV 1,sI uK (jV 6) (jV 9),sI uK (jV 3) ↑1|0]|0]) (jV 7))))))))))
noncomputable def F_3:Nat->DF
 | 0=>λ_=>none
 | n+1=>sX (some 0) 4 11 (d_3 (F_3 n))
noncomputable def OQ (rec:DF):DE:=sE none rec [] %[jV 0|0]
noncomputable def Qm (rec:DF):DT:=wB (uC xx %[jV 0,dC (.ty "tuple")|0])
abbrev AEG:Stmt:=uN 63
def ACX:sH ["_law_saying_here","_law_some"] ["_law_saying_here"] (sD AEG):=↥6
noncomputable def d_4 (rec:DF):DS:=sG (sQ 1 (uE none [none] (tV (dSl (jV 0) (vo ↑1) uY)) (sJ 0) ((Qm rec)) ((OQ rec))))
 (sG (uI (sM (sI (inS false) (sI sY (jV 0) ↑0) (sg %[dC (.str "yes"),dC (.str "no"),dC (.str "ask")|0]))) (sS ↑1) sU)
 (sG (uI (sM (sI uw (sI sY (jV 0) ↑0) (dC (.str "not")))) (sS (sI sY (jV 1) ↑0)) sU)
 (sG (uI (sM (sI uw (sI sY (jV 0) ↑0) (dC (.str "most")))) (sS (sI tN (sI uf ↑12 (sI tN (sI sY (jV 1) ↑0) (sI sY (jV 1) ↑1))) (sI uf ↑4 (sI sY (jV 1) ↑2)))) sU)
 (sS (sI uf (sI tN (sI sY (jV 1) ↑0) (sI sY (jV 1) ↑1)) (sI sY (tO %[↑2,↑8|0]) (uC xw %[sI uw (sI sY (jV 0) ↑0) (dC (.str "either"))|0])))))))
noncomputable def F_4:Nat->DF
 | 0=>λ_=>none
 | n+1=>sX none 1 2 (d_4 (F_4 n))
noncomputable def O0 (rec:DF):DE:=sE none rec [] %[jV 0|0]
noncomputable def Qq (rec:DF):DT:=wB (uC xx %[jV 0,dC (.ty "tuple")|0])
abbrev ADZ:Stmt:=uN 64
def AEA:sH ["_law_saying_here"] ["_law_saying_here"] (sD ADZ):=↥6
noncomputable def d_0 (rec:DF):DS:=sS (sI tN ↑1 (uC zj %[uE none [none] (tV (dSl (jV 0) (vo ↑1) uY)) (sJ 0) ((Qq rec)) ((O0 rec))|0]))
noncomputable def F_0:Nat->DF
 | 0=>λ_=>none
 | n+1=>sX none 1 1 (d_0 (F_0 n))
noncomputable def Nd:DT:=z9 (sM (sI yS (sE none (F_4 P4) [] %[jV 4|0]) (jV 3))) (sM (sI yS (sE none (F_0 Qg) [] %[jV 4|0]) (jV 2)))
noncomputable def PK:DS:=sQ 4 (sI sY (jV 4) (sI tN ↑1 (sE (some 0) vw [] %[jV 0,sI uK (uC uM %[jV 4|0]) ↑1|0])))
abbrev V3:Stmt:=uN 66
def bM:sH ["_law_box_here","_law_questions","_law_room","_law_most","_law_found"] ["_law_box_here","_law_questions","_law_room","_law_most"] (sD V3):=↥6
noncomputable def ACp:DS:=sG (sQ 4 (sE (some 0) (F_1 My) [] %[jV 0,jV 1,jV 2,↑5|0]))
 (sG (uI (sM (sI uw (sE (some 0) vw [] %[jV 0,↑2|0]) ↑0)) (sQ 4 (sE (some 0) (F_3 Ol) [] %[jV 0,jV 1,jV 3,↑5|0])) sU)
 (sG (su (Nd) (PK) tf)
 (sS (jV 4))))
noncomputable def AAw:DF:=sX (some 0) 4 5 ACp
noncomputable def P8:DS:=wA 4 (sI sY (jV 3) (sI v7 (sI tN (jV 5) ↑1) (jV 1))) (jV 6)
noncomputable def Nu:DT:=sM (sI yS (uC uM %[jV 2|0]) ↑0)
noncomputable def Pb:DS:=t6 (t5 3 tS %[(t5 2 w9 %[(sE (some 0) vw [] %[jV 0,uC uM %[jV 2|0]|0])|0])|0])
abbrev Vb:Stmt:=uN 58
def l5:sH ["_law_box_here","_law_cups","_law_left","_law_row","_law_found","_law_k","_law_place"] ["_law_box_here","_law_cups"] (sD Vb):=↥6
noncomputable def ADN:DS:=sG (sQ 2 (uk %[↑1,jV 1|0]))
 (sG (sQ 3 (tO %[↑0|0]))
 (sG (su (Nu) (Pb) tf)
 (sG (sQ 4 (sI uf (tO %[↑0|0]) (jV 1)))
 (sG (uy (some 0) (wj %[jV 3|0]) (vj 2 (uF (sJ 5) (uF (sJ 6) wO))) (P8))
 (sS (uC tT %[jV 4|0]))))))
noncomputable def ABy:DF:=sX (some 0) 2 7 ADN
noncomputable def OT:DS:=t6 (t5 3 uP %[(tO %[sI tN (jV 4) (sg %[↑0|0]),sI tN (jV 4) (sg %[↑1|0])|0])|0])
noncomputable def Ni:DS:=sG (sQ 3 (tO qQ))
 (sG (uy none (tV (jV 1)) (sJ 4) (OT))
 (dMv 1 3))
abbrev Ug:Stmt:=uN 68
def mP:sH ["_law_questions","_law_found","_law_k","_law_longer","_law_answers"] ["_law_questions"] (sD Ug):=↥6
noncomputable def ADm:DS:=sG (sQ 1 (tO %[sg qQ|0]))
 (sG (uy none (vD %[jV 0|0]) (sJ 2) (Ni))
 (sS (jV 1)))
noncomputable def ABv:DF:=sX none 1 5 ADm
abbrev Tq:Stmt:=uN 6
def gv:sH ["cups","thing"] ["cups","thing"] (sD Tq):=↥6
noncomputable def ADX:DS:=sS (sI uw (uC sortedS %[jV 1|0]) (uk %[jV 0|0]))
noncomputable def zM:DF:=sX none 2 2 ADX
noncomputable def cO:DT:=sM (sI neS (sI sY (jV 0) (sI sY (jV 2) (zt wR ↑1))) (jV 1))
noncomputable def f7:DS:=t6 (t5 2 tS %[sI sY (jV 0) (sI sY (jV 2) (zt wR ↑1))|0])
abbrev U8:Stmt:=uN 27
def XI:sH ["turning","place","row"] ["turning","place"] (sD U8):=↥6
noncomputable def AEp:DS:=sG (sQ 2 (tO %[jV 1|0]))
 (sG (su (cO) (f7) tf)
 (sS (uC tT %[jV 2|0])))
noncomputable def AEU:DF:=sX none 2 3 AEp
noncomputable def VB:DE:=jV 0
noncomputable def ko:DT:=xi (sM (sI yS (uC uM %[jV 0|0]) ↑1)) (sM (sI uw (sI sY (jV 0) ↑0) (uC yu %[jV 0|0])))
noncomputable def Wb:DE:=sE none AEU [] %[jV 1,jV 0|0]
abbrev Ri:Stmt:=uN 28
def SN:sH ["turning","rows"] ["turning"] (sD Ri):=↥6
noncomputable def AFL:DS:=sG (sQ 1 (uE none [none,some 0] (vD %[uC uM %[jV 0|0]|0]) (sJ 0) vI (Wb)))
 (sS (uE none [none] (tV (jV 1)) (sJ 0) (ko) (VB)))
noncomputable def ACR:DF:=sX none 1 2 AFL
noncomputable def WN:DE:=uC uM %[jV 0|0]
abbrev S5:Stmt:=uN 29
def XQ:sH ["turning"] ["turning"] (sD S5):=↥6
noncomputable def AFd:DS:=sS (sI uw (uE none [none] (tV (sE none ACR [] %[jV 0|0])) (sJ 0) vI (WN)) (tO %[uC uM %[jV 0|0]|0]))
noncomputable def ADt:DF:=sX none 1 1 AFd
abbrev UL:Stmt:=uN 47
def gL:sH ["thing"] ["thing"] (sD UL):=↥6
noncomputable def AFE:DS:=sS (yr (sE none zM [] %[↑5,jV 0|0]) (sE none ADt [] %[jV 0|0]))
noncomputable def ACD:DF:=sX none 1 1 AFE
abbrev T3:Stmt:=uN 35
def Xn:sH ["saying"] ["saying"] (sD T3):=↥6
noncomputable def AEL:DS:=sS (zX (sM (sI uw (sI sY (jV 0) ↑0) (dC (.str "ask")))) (sg qQ) (dSl (jV 0) (vo ↑1) uY))
noncomputable def yD:DF:=sX none 1 1 AEL
noncomputable def Vq:DE:=sI xU (jV 1) (jV 0)
abbrev VM:Stmt:=uN 30
def i8:sH ["one","other","led"] ["one","other"] (sD VM):=↥6
noncomputable def AEz:DS:=sG (sQ 2 (y8 %[sI sY (sE none ACR [] %[jV 0|0]) ↑0,sI sY (sE none ACR [] %[jV 1|0]) ↑0|0]))
 (sS (uC tT %[uE none [none,some 2] (vD %[uC uM %[jV 0|0]|0]) (sJ 0) vI (Vq)|0]))
noncomputable def ADy:DF:=sX none 2 3 AEz
noncomputable def Oc:DE:=sI sY (jV 1) (jV 0)
abbrev SG:Stmt:=uN 2
def kz:sH ["one","other"] ["one","other"] (sD SG):=↥6
noncomputable def ADu:DS:=sS (uC tT %[uE none [none,some 1] (tV (jV 0)) (sJ 0) vI (Oc)|0])
noncomputable def wU:DF:=sX none 2 2 ADu
noncomputable def O7:DE:=wJ (jV 1) %[jV 0|0]
abbrev Uo:Stmt:=uN 3
def Zo:sH ["turning"] ["turning"] (sD Uo):=↥6
noncomputable def AEV:DS:=sS (uC tT %[uE none [none,some 0] (vD %[uC uM %[jV 0|0]|0]) (sJ 0) vI (O7)|0])
noncomputable def xp:DF:=sX none 1 1 AEV
abbrev R8:Stmt:=uN 5
def bp:sH ["a","b"] ["a","b"] (sD R8):=↥6
noncomputable def AEf:DS:=sS (sE none wU [] %[sE none wU [] %[jV 0,jV 1|0],(sE none wU [] %[sE none xp [] %[jV 0|0],sE none xp [] %[jV 1|0]|0])|0])
noncomputable def AAg:DF:=sX none 2 2 AEf
abbrev WG:Stmt:=uN 4
def ZJ:sH ["turning","by"] ["turning","by"] (sD WG):=↥6
noncomputable def AFG:DS:=sS (sE none wU [] %[(sE none wU [] %[sE none xp [] %[jV 1|0],jV 0|0]),jV 1|0])
noncomputable def ACo:DF:=sX none 2 2 AFG
abbrev Uc:Stmt:=uN 46
def ck:sH ["ring","by"] ["ring"] (sD Uc):=↥6
noncomputable def AEo:DS:=sG (sQ 1 (sE none ADy [] %[sE none AAg [] %[dK Nh,dK Nm|0],jV 0|0]))
 (sS (sg %[sE none ACo [] %[dK Nh,jV 1|0],sE none ACo [] %[dK Nm,jV 1|0]|0]))
noncomputable def AAt:DF:=sX none 1 2 AEo
abbrev Ue:Stmt:=uN 49
def lW:sH ["piece","saying","ring","pair","there"] ["piece"] (sD Ue):=↥6
noncomputable def ACj:DS:=sG (sQ 1 (sI sY (jV 0) ↑0))
 (sG (sQ 2 (sI sY (jV 0) ↑1))
 (sG (uI (sM (sI uw (sI sY (jV 1) ↑0) (dC (.str "not")))) (sS (tO %[(sg %[sI sY (jV 1) ↑1,sE none xp [] %[jV 2|0]|0])|0])) sU)
 (sG (uI (sM (sI uw (sI sY (jV 1) ↑0) (dC (.str "and")))) (sG (sQ 3 (sE none AAt [] %[jV 2|0]))
 (sG (sQ 4 (tO %[sg %[sI sY (jV 1) ↑1,sI sY (jV 3) ↑0|0],sg %[sI sY (jV 1) ↑2,sI sY (jV 3) ↑1|0]|0]))
 (sS (sI tN (jV 4) (tO %[(sg %[sI sY (jV 1) ↑1,sE none xp [] %[sI sY (jV 3) ↑0|0]|0]),(sg %[sI sY (jV 1) ↑2,sE none xp [] %[sI sY (jV 3) ↑1|0]|0])|0]))))) sU)
 (sS (tO qQ)))))
noncomputable def wz:DF:=sX none 1 5 ACj
noncomputable def Yr:DT:=wB (jV 3)
noncomputable def bE:DS:=sG (sQ 4 (t5 3 yb qQ))
 (sG (t6 (t5 2 tS %[jV 4|0]))
 (t6 (t5 3 uP %[xZ %[tj 1 [("inner",1,yD),("pieces_in",1,wz)] %[jV 4|0]|0]|0])))
abbrev RK:Stmt:=uN 32
def dH:sH ["whole","inside_of","found","rest","part"] ["whole","inside_of"] (sD RK):=↥6
noncomputable def AFX:DS:=sG (sQ 2 (tO qQ))
 (sG (sQ 3 (tO %[jV 0|0]))
 (sG (su (Yr) (bE) tf)
 (sS (jV 2))))
noncomputable def ADE:DF:=sX none 2 5 AFX
abbrev U0:Stmt:=uN 37
def kA:sH ["part","inside","word"] ["part","inside"] (sD U0):=↥6
noncomputable def AFi:DS:=sG (sQ 2 (sI sY (jV 0) ↑0))
 (sG (uI (sM (sI uw (jV 2) (dC (.str "not")))) (sS (sI sY (jV 1) ↑0)) sU)
 (sG (uI (sM (sI (inS false) (jV 2) (sg %[dC (.str "and"),dC (.str "or")|0]))) (sS (sI uf ↑2 (sI tN (sI sY (jV 1) ↑0) (sI sY (jV 1) ↑1)))) sU)
 (sG (uI (sM (sI uw (jV 2) (dC (.str "either")))) (sS (sI uf ↑8 (sI tN (sI sY (jV 1) ↑0) (sI sY (jV 1) ↑1)))) sU)
 (sG (uI (sM (sI uw (jV 2) (dC (.str "most")))) (sS (sI tN (sI uf ↑12 (sI tN (sI sY (jV 1) ↑0) (sI sY (jV 1) ↑1))) (sI uf ↑4 (sI sY (jV 1) ↑2)))) sU)
 (sS ↑1)))))
noncomputable def AAj:DF:=sX none 2 3 AFi
abbrev SH:Stmt:=uN 40
def bw:sH ["s","t"] ["s","t"] (sD SH):=↥6
noncomputable def AFj:DS:=sS (sg %[dC (.str "not"),(sg %[dC (.str "and"),sg %[dC (.str "not"),jV 0|0],sg %[dC (.str "not"),jV 1|0]|0])|0])
noncomputable def zN:DF:=sX none 2 2 AFj
abbrev U5:Stmt:=uN 41
def lx:sH ["part","inside","word","s","t"] ["part","inside"] (sD U5):=↥6
noncomputable def AEC:DS:=sG (sQ 2 (sI sY (jV 0) ↑0))
 (sG (uI (sM (sI (inS false) (jV 2) (sg %[dC (.str "yes"),dC (.str "no"),dC (.str "ask")|0]))) (sS (jV 0)) sU)
 (sG (uI (sM (sI uw (jV 2) (dC (.str "or")))) (sS (sE none zN [] %[sI sY (jV 1) ↑0,sI sY (jV 1) ↑1|0])) sU)
 (sG (uI (sM (sI uw (jV 2) (dC (.str "either")))) (sG (sQ 3 (sI sY (jV 1) ↑0))
 (sG (sQ 4 (sI sY (jV 1) ↑1))
 (sS (sE none zN [] %[(sg %[dC (.str "and"),jV 3,sg %[dC (.str "not"),jV 4|0]|0]),(sg %[dC (.str "and"),sg %[dC (.str "not"),jV 3|0],jV 4|0])|0])))) sU)
 (sG (uI (sM (sI uw (jV 2) (dC (.str "most")))) (sG (sQ 3 (sI sY (jV 1) ↑0))
 (sG (sQ 4 (sI sY (jV 1) ↑1))
 (sS (sE none zN [] %[sg %[dC (.str "and"),jV 3,jV 4|0],(sg %[dC (.str "and"),sI sY (jV 1) ↑2,sE none zN [] %[jV 3,jV 4|0]|0])|0])))) sU)
 (sS (uC tT %[sI tN (tO %[jV 2|0]) (jV 1)|0]))))))
noncomputable def zZ:DF:=sX none 2 5 AEC
abbrev VW:Stmt:=uN 51
def fP:sH ["steps","turning","last"] ["steps","turning"] (sD VW):=↥6
noncomputable def ADa:DS:=sG (sQ 2 (sI sY (jV 0) (zt wR ↑1)))
 (sS (sI tN (dSl (jV 0) uY (vo (zt wR ↑1))) (sg %[(sg %[sI sY (jV 2) ↑0,sE none wU [] %[sI sY (jV 2) ↑1,jV 1|0],sE none wU [] %[sI sY (jV 2) ↑2,jV 1|0]|0])|0])))
noncomputable def ACM:DF:=sX none 2 3 ADa
abbrev VR:Stmt:=uN 1
def gj:sH ["cups"] ["cups"] (sD VR):=↥6
noncomputable def ADB:DS:=sS (vg %[jV 0|0])
noncomputable def xK:DF:=sX none 1 1 ADB
abbrev VL:Stmt:=uN 50
def Zr:sH ["saying","ring","turning"] ["saying","ring"] (sD VL):=↥6
noncomputable def AFS:DS:=sG (uI (sM (sI uw (sI sY (jV 0) ↑0) (dC (.str "ask")))) (sS (sg %[sI sY (jV 0) ↑1,jV 1,sE none xK [] %[↑5|0]|0])) sU)
 (sG (sQ 2 (zX (sM (sI uw (sI sY (jV 0) ↑0) (dC (.str "yes")))) (jV 1) (sE none xK [] %[↑5|0])))
 (sS (sg %[↑0,jV 2,jV 2|0])))
noncomputable def ACn:DF:=sX none 2 3 AFS
abbrev Sw:Stmt:=uN 52
def aW:sH ["piece","inside","word"] ["piece","inside"] (sD Sw):=↥6
noncomputable def ACi:DS:=sG (sQ 2 (sI sY (sI sY (jV 0) ↑0) ↑0))
 (sG (uI (sM (sI uw (jV 2) (dC (.str "not")))) (sS (sE none ACM [] %[sI sY (jV 1) ↑0,sI sY (jV 0) ↑1|0])) sU)
 (sG (uI (sM (sI uw (jV 2) (dC (.str "and")))) (sS (sI tN (sI tN (sI tN (sI sY (jV 1) ↑0) (sI sY (jV 1) ↑1)) (sI sY (jV 1) ↑2)) (sI sY (jV 1) ↑3))) sU)
 (sS (sg %[sE none ACn [] %[sI sY (jV 0) ↑0,sI sY (jV 0) ↑1|0]|0]))))
noncomputable def xN:DF:=sX none 2 3 ACi
noncomputable def VZ:DE:=t5 1 yb qQ
noncomputable def cD:DS:=sG (sQ 5 (uE (some (1,3)) [none,some 3] (tV (tj 1 [("inner",1,yD),("pieces_in",1,wz)] %[jV 4|0])) (sJ 0) vI (VZ)))
 (t6 (t5 3 tS %[tj 2 [("weight_of",2,AAj),("spelled_of",2,zZ),("steps_of",2,xN)] %[jV 4,jV 5|0]|0]))
abbrev VY:Stmt:=uN 33
def TJ:sH ["whole","inside_of","put","told","part","inside"] ["whole","inside_of","put"] (sD VY):=↥6
noncomputable def AFW:DS:=sG (sQ 3 (tO qQ))
 (sG (uy none (x5 %[sE none ADE [] %[jV 0,jV 1|0]|0]) (sJ 4) (cD))
 (sS (sI sY (jV 3) ↑0)))
noncomputable def ACE:DF:=sX none 3 6 AFW
abbrev Wg:Stmt:=uN 36
def jM:sH ["saying","put"] ["saying","put"] (sD Wg):=↥6
noncomputable def ACf:DS:=sS (sE none ACE [] %[jV 0,dFn "inner",jV 1|0])
noncomputable def AAf:DF:=sX none 2 2 ACf
abbrev U4:Stmt:=uN 38
def nA:sH ["saying"] ["saying"] (sD U4):=↥6
noncomputable def AES:DS:=sS (sE none AAf [] %[jV 0,dFn "weight_of"|0])
noncomputable def ACA:DF:=sX none 1 1 AES
abbrev Sd:Stmt:=uN 48
def lU:sH ["saying","ring","most"] ["saying","ring","most"] (sD Sd):=↥6
noncomputable def AEP:DS:=sG (uI (w8 (wB (sE none ACD [] %[jV 1|0]))) (ux) sU)
 (uI (sM (sI yS (sE none ACA [] %[jV 0|0]) (jV 2))) (ux) sU)
noncomputable def ABk:DF:=sX none 3 3 AEP
abbrev Su:Stmt:=uN 42
def Xb:sH ["saying"] ["saying"] (sD Su):=↥6
noncomputable def ADk:DS:=sS (sE none AAf [] %[jV 0,dFn "spelled_of"|0])
noncomputable def ABr:DF:=sX none 1 1 ADk
abbrev NT:Stmt:=uN 53
def WL:sH ["saying","questions","ring","most"] ["saying","questions","ring","most"] (sD NT):=↥6
noncomputable def AEY:DS:=sG (t6 (sE none ABk [] %[jV 0,jV 2,jV 3|0]))
 (sS (sg %[↑5,jV 1,(sE none ACE [] %[(sg %[sE none ABr [] %[jV 0|0],jV 2|0]),dFn "pieces_in",dFn "steps_of"|0])|0]))
noncomputable def AAi:DF:=sX none 4 4 AEY
noncomputable def NA:DS:=sG (sQ 8 (sE none wU [] %[jV 5,jV 7|0]))
 (uI (sM (sI (ABA [] true) (jV 8) (jV 2))) (sG (x9 [] 2 (jV 8) (sI tN (sI (AAh []) (jV 2) (jV 5)) (sg %[jV 6|0])))
 (t6 (t5 4 tS %[jV 8|0]))) sU)
noncomputable def PY:DS:=uy none (wj %[jV 1|0]) (vj 2 (uF (sJ 6) (uF (sJ 7) wO))) (NA)
noncomputable def N8:DT:=wB (jV 3)
noncomputable def PV:DS:=sG (sQ 4 (tO qQ))
 (sG (uy none (tV (jV 3)) (sJ 5) (PY))
 (dMv 3 4))
abbrev U1:Stmt:=uN 8
def Yi:sH ["cups","some","told","rest","further","turning","number","one","new"] ["cups","some"] (sD U1):=↥6
noncomputable def AET:DS:=sG (sQ 2 (xA [] (sE none xK [] %[jV 0|0]) (sg qQ)))
 (sG (sQ 3 (tO %[sE none xK [] %[jV 0|0]|0]))
 (sG (su (N8) (PV) tf)
 (sS (jV 2))))
noncomputable def zJ:DF:=sX none 2 9 AET
abbrev SO:Stmt:=uN 10
def aH:sH ["cups","some","turning"] ["cups","some","turning"] (sD SO):=↥6
noncomputable def ADM:DS:=sS (wu [] (sE none zJ [] %[jV 0,jV 1|0]) (jV 2))
noncomputable def AAo:DF:=sX none 3 3 ADM
noncomputable def Os:DS:=sQ 2 (sE none F_8 [] %[jV 2,sI sY (jV 0) (jV 3)|0])
abbrev Wh:Stmt:=uN 70
def aF:sH ["_law_some","_law_row","_law_found","_law_k"] ["_law_some","_law_row"] (sD Wh):=↥6
noncomputable def ADo:DS:=sG (sQ 2 (sg %[↑0,↑1,↑2,↑3,↑4|0]))
 (sG (uy none (tV (jV 1)) (sJ 3) (Os))
 (sS (jV 2)))
noncomputable def AAp:DF:=sX none 2 4 ADo
noncomputable def Nt:DS:=sG (sQ 10 (sg %[↑0,↑1,↑2,↑3,↑4|0]))
 (sG (uI (sM (sI zR (jV 8) (uC uM %[jV 6|0]))) (sQ 10 (sI sY (jV 0) (sI sY (jV 6) (jV 8)))) sU)
 (t6 (t5 9 tS %[jV 10|0])))
noncomputable def O3:DS:=sG (sQ 9 (tO qQ))
 (sG (uy none (tV (jV 5)) (sJ 6) (Nt))
 (t6 (t5 7 tS %[sg %[jV 2,sI sY (jV 9) ↑0,sI sY (jV 9) ↑1|0]|0])))
noncomputable def O2:DE:=xE (jV 0) %[uC uM %[jV 1|0]|0]
noncomputable def Pa:DS:=uI (z9 (w8 (wB (uC xx %[jV 6,dC (.ty "tuple")|0]))) (w8 (wB (uC zP %[uE none [none,some 0] (tV (jV 6)) (sJ 0) vI (O2)|0])))) (sS (dC .non)) sU
abbrev WV:Stmt:=uN 71
def kB:sH ["_law_some","_law_step","_law_q","_law_yes","_law_no","_law_rows","_law_row","_law_found","_law_k","_law_sides","_law_turning_here"] ["_law_some","_law_step"] (sD WV):=↥6
noncomputable def ADi:DS:=sG (ACG (vj 3 (uF (sJ 2) (uF (sJ 3) (uF (sJ 4) wO)))) (jV 1))
 (sG (sQ 5 (tO %[sE none AAo [] %[↑5,jV 0,jV 3|0],sE none AAo [] %[↑5,jV 0,jV 4|0]|0]))
 (sG (uy none (tV (jV 5)) (sJ 6) (Pa))
 (sG (uI (z9 (sM (sI neS (sE none AAp [] %[jV 0,sI sY (jV 5) ↑0|0]) (jV 3))) (sM (sI neS (sE none AAp [] %[jV 0,sI sY (jV 5) ↑1|0]) (jV 4)))) (sS (dC .non)) sU)
 (sG (sQ 7 (tO qQ))
 (sG (uy none (vD %[(uC w6 %[uC uM %[sI sY (jV 5) ↑0|0],uC uM %[sI sY (jV 5) ↑1|0]|0])|0]) (sJ 8) (O3))
 (sS (jV 7)))))))
noncomputable def ACQ:DF:=sX none 2 11 ADi
abbrev V6:Stmt:=uN 20
def cy:sH ["dance","at","cups","step"] ["dance","at"] (sD V6):=↥6
noncomputable def ADQ:DS:=sG (sQ 2 (sI sY (jV 0) ↑0))
 (sG (sQ 3 (sI sY (sI sY (jV 0) ↑2) (jV 1)))
 (sG (uI (w8 (sM (wI leS zR ↑0 (sI sY (jV 3) ↑0) (sI sY (jV 0) ↑1)))) (ux) sU)
 (sG (uI (w8 (wB (sE none zM [] %[jV 2,sI sY (jV 3) ↑1|0]))) (ux) sU)
 (uI (w8 (wB (sE none zM [] %[jV 2,sI sY (jV 3) ↑2|0]))) (ux) sU))))
noncomputable def ABo:DF:=sX none 2 4 ADQ
noncomputable def Oe:DS:=t6 (sE none ABo [] %[jV 0,jV 1|0])
abbrev TB:Stmt:=uN 21
def mq:sH ["dance","at"] ["dance"] (sD TB):=↥6
noncomputable def ADI:DS:=sG (uI (w8 (sM (wI leS leS ↑3 (sI sY (jV 0) ↑0) ↑5))) (ux) sU)
 (sG (uI (w8 (sM (wI leS leS ↑1 (sI sY (jV 0) ↑1) ↑10))) (ux) sU)
 (sG (uy none (vD %[uC uM %[sI sY (jV 0) ↑2|0]|0]) (sJ 1) (Oe))
 (sS (dC (.bl true)))))
noncomputable def ABj:DF:=sX none 1 2 ADI
abbrev U2:Stmt:=uN 23
def ZX:sH ["step","answers"] ["step","answers"] (sD U2):=↥6
noncomputable def ACl:DS:=sS (zX (sM (sI uw (sI sY (jV 1) (sI sY (jV 0) ↑0)) ↑1)) (sI sY (jV 0) ↑1) (sI sY (jV 0) ↑2))
noncomputable def AAk:DF:=sX none 2 2 ACl
noncomputable def Oy:DS:=sG (sQ 3 (sE none wU [] %[jV 3,sE none AAk [] %[jV 4,jV 1|0]|0]))
 (t6 (t5 2 tS %[jV 3|0]))
abbrev VD:Stmt:=uN 24
def Y7:sH ["dance","answers","told","turning","step"] ["dance","answers"] (sD VD):=↥6
noncomputable def ADc:DS:=sG (sQ 2 (tO qQ))
 (sG (sQ 3 (sE none xK [] %[sI sY (jV 0) ↑0|0]))
 (sG (uy none (tV (sI sY (jV 0) ↑2)) (sJ 4) (Oy))
 (sS (jV 2))))
noncomputable def ACJ:DF:=sX none 2 5 ADc
abbrev Tf:Stmt:=uN 25
def mY:sH ["dance","answers"] ["dance","answers"] (sD Tf):=↥6
noncomputable def ADF:DS:=sS (sI sY (sI tN (tO %[sE none xK [] %[sI sY (jV 0) ↑0|0]|0]) (sE none ACJ [] %[jV 0,jV 1|0])) (zt wR ↑1))
noncomputable def ABm:DF:=sX none 2 2 ADF
abbrev Ur:Stmt:=uN 9
def eI:sH ["cups","some"] ["cups","some"] (sD Ur):=↥6
noncomputable def ADz:DS:=sS (uC tT %[uC wg %[sE none zJ [] %[jV 0,jV 1|0]|0]|0])
noncomputable def AAm:DF:=sX none 2 2 ADz
noncomputable def Oa:DS:=x9 [] 2 (sE none AAg [] %[jV 3,jV 4|0]) (dC (.bl true))
noncomputable def Ov:DS:=uy none (tV (jV 1)) (sJ 4) (Oa)
abbrev Tr:Stmt:=uN 12
def bj:sH ["cups","turnings","found","a","b"] ["cups","turnings"] (sD Tr):=↥6
noncomputable def ACz:DS:=sG (sQ 2 (xv true))
 (sG (uy none (tV (jV 1)) (sJ 3) (Ov))
 (sS (sE none AAm [] %[jV 0,uC yE %[jV 2|0]|0])))
noncomputable def ABs:DF:=sX none 2 5 ACz
noncomputable def Nq:DT:=sM (sI yS (uC uM %[sI sY (jV 2) (zt wR ↑1)|0]) ↑1)
noncomputable def NH:DS:=sG (sQ 3 (sE none ABs [] %[jV 0,sI sY (jV 2) (zt wR ↑1)|0]))
 (sG (uI (sM (sI uw (jV 3) (sI sY (jV 2) (zt wR ↑1)))) (sS (sg %[dC (.str "lasting"),uC tT %[jV 2|0]|0])) sU)
 (t6 (t5 2 tS %[jV 3|0])))
abbrev T5:Stmt:=uN 13
def Yk:sH ["cups","some","groups","left"] ["cups","some"] (sD T5):=↥6
noncomputable def ACe:DS:=sG (sQ 2 (tO %[sE none AAm [] %[jV 0,jV 1|0]|0]))
 (sG (su (Nq) (NH) tf)
 (sS (sg %[dC (.str "down"),uC tT %[jV 2|0]|0])))
noncomputable def AAl:DF:=sX none 2 4 ACe
noncomputable def OS (rec:DF):DE:=sE none rec [] %[jV 0,jV 1|0]
abbrev AER:Stmt:=uN 67
def ACW:sH ["_law_saying_here","_law_answers","_law_head","_law_some","_law_many"] ["_law_saying_here","_law_answers"] (sD AER):=↥6
noncomputable def d_2 (rec:DF):DS:=sG (sQ 2 (sI sY (jV 0) ↑0))
 (sG (uI (sM (sI uw (jV 2) (dC (.str "ask")))) (sS (sI uw (sI sY (jV 1) (sI sY (jV 0) ↑1)) ↑1)) sU)
 (sG (sQ 3 (uE none [none,some 1] (tV (dSl (jV 0) (vo ↑1) uY)) (sJ 0) vI ((OS rec))))
 (sG (uI (sM (sI uw (jV 2) (dC (.str "not")))) (sS (yL (sI sY (jV 3) ↑0))) sU)
 (sG (sQ 4 (wy xb (jV 3) %[dC (.bl true)|0]))
 (sS (sI xU (wx [.inr "yes",.inr "no",.inr "and",.inr "or",.inr "either",.inr "most"] %[dC (.bl true),dC (.bl false),sI uw (jV 4) ↑2,sI yS (jV 4) ↑0,sI uw (jV 4) ↑1,sI yS (jV 4) ↑1|0]) (jV 2)))))))
noncomputable def F_2:Nat->DF
 | 0=>λ_=>none
 | n+1=>sX none 2 5 (d_2 (F_2 n))
noncomputable def Ny:DS:=uI (sM (sI neS (sE none ABm [] %[jV 9,jV 10|0]) (sI sY (tO %[sg %[↑0,↑1,↑2,↑3,↑4|0],jV 5|0]) (uC xw %[sE none (F_2 Q7) [] %[jV 4,jV 10|0]|0])))) (sS (dC (.bl false))) sU
noncomputable def O1:DS:=sG (sQ 8 (sE none ACQ [] %[jV 2,jV 7|0]))
 (sG (uI (sM (sI (vi false) (jV 8) (dC .non))) (sS (dC (.bl false))) sU)
 (t6 (t5 6 uP %[jV 8|0])))
abbrev Ph:Stmt:=uN 72
def SZ:sH ["_law_script","_law_box_here","_law_some","_law_questions","_law_saying_here","_law_ring_here","_law_steps_here","_law_step","_law_fresh","_law_dance","_law_answers"] ["_law_script"] (sD Ph):=↥6
noncomputable def WJ:DS:=sG (sQ 1 (sE none F_5 [] %[jV 0,↑0|0]))
 (sG (sQ 2 (sE (some 0) ABu [] %[jV 1|0]))
 (sG (uI (xi (sM (sI uw (sE (some 0) vw [] %[jV 1,↑4|0]) ↑0)) (sM (sI neS (sI sY (sE none AAl [] %[↑5,dSl (jV 2) uY (vo ↑2)|0]) ↑0) (dC (.str "lasting"))))) (sS (dC (.bl false))) sU)
 (sG (sQ 1 (sE none F_5 [] %[jV 0,↑1|0]))
 (sG (sQ 3 (sI tN ↑1 (sE (some 0) vw [] %[jV 1,↑4|0])))
 (sG (sQ 4 (sE (some 0) AAw [] %[jV 1,jV 3,↑16,↑12|0]))
 (sG (sQ 5 (sE (some 0) ABy [] %[jV 1,↑5|0]))
 (sG (sQ 6 (tO qQ))
 (sG (uy none (tV (sI sY (sE none AAi [.int 128] %[jV 4,jV 3,jV 5|0]) ↑2)) (sJ 7) (O1))
 (sG (sQ 9 (sg %[↑5,jV 3,uC tT %[jV 6|0]|0]))
 (sG (uI (sM (sI (AAx true) (sE none ABj [] %[jV 9|0]) (dC (.bl true)))) (sS (dC (.bl false))) sU)
 (sG (uy none (tV (sE none ABv [] %[jV 3|0])) (sJ 10) (Ny))
 (sS (dC (.bl true))))))))))))))
noncomputable def Mv:DF:=sX none 1 11 WJ
noncomputable abbrev ACC:Tb:=[("inner",1,yD),("pieces_in",1,wz)]
noncomputable abbrev ACI:Tb:=[("weight_of",2,AAj),("spelled_of",2,zZ),("steps_of",2,xN)]
end
def Mq a b w (h0:0 < w) (h1:w < 1073741824):∃ r a' b',0<=r/\r < w/\vw [.l [iT a,iT b],.v (iT w)]=some (.v (iT r),[iT a',iT b']):=by
 have h2:wo a w:=⟨h0,h1⟩
 by_cases h:0 < a
 ·refine⟨a % w,a / w,b,GH _ ⋯,FV _ h0,?_⟩;simp[vw,sX,d_6,h,h0,h2,xt]
 ·refine⟨(b * 69623 % 2147483647 * 2147483647+((b * 69623 % 2147483647 * 48271+30103) % 2147483629+1)) / 8191 % w,a,(b * 69623 % 2147483647 * 48271+30103) % 2147483629+1,GH _ ⋯,FV _ h0,?_⟩;simp[vw,sX,d_6,h,h0,xt,ua,wo]
def MN a b w (h0:0 < w) (h1:w<=1000000000):∃ (r:Nat) (a' b':Int),r < w/\vw [.l [iT a,iT b],.v (iT w)]=some (.v (iT r),[iT a',iT b']):=by
 obtain⟨r,a',b',r0,r1,e⟩:=Mq a b w ⋯ ⋯;obtain⟨n,rfl⟩:∃ n:Nat,r=n:=⟨r.toNat,by lia⟩
 exact⟨n,a',b',by lia,e⟩
def V1 ns k (hk:0<=k) (hk1:k < 1000):∃ a b,F_5 [.k (u6 ns),.v (iT k)]=some (.l [iT a,iT b],[]):=by
 have hl:(u6 ns).length=ns.length:=by simp[u6]
 have fin:∀ c,∃ a,vB [T.a (V.int 0),T.a (V.int c)] (if 1000000000000000000<=c then 1 else 0)=some (iT a):=λc=>by
  split
  ·exact⟨c,rfl⟩
  ·exact⟨0,rfl⟩
 have c1:ua 7919 k:=.inl ⟨by decide,by decide⟩;have c2:ua 40692 k:=.inl ⟨by decide,by decide⟩;have c3:∀ m,ua m 69623:=λm=>.inr ⟨by decide,by decide⟩
 have c4:∀ m,ua m 48271:=λm=>.inr ⟨by decide,by decide⟩
 have c5:zK 10 18:=⟨by decide,by decide,by decide⟩
 by_cases h1:k < ns.length
 ·obtain⟨z,hz⟩:=Ry ns hk h1;obtain⟨a,ha⟩:=fin z;refine⟨a,(z % 2147483629 * 48271+40692 * k) % 2147483629+1,?_⟩;simp[F_5,sX,d_5,hl,h1,c1,c2,c4,c5,hz,ha]
 ·by_cases h2:0 < ns.length
  ·obtain⟨z,hz⟩:=Ry ns (i:=k % ns.length) (GH _ ⋯) (FV _ ⋯);obtain⟨a,ha⟩:=fin (7919 * k+11+z % 2147483629 * 69623);refine⟨a,((7919 * k+11+z % 2147483629 * 69623) % 2147483629 * 48271+40692 * k) % 2147483629+1,?_⟩;simp[F_5,sX,d_5,hl,h1,h2,c1,c2,c3,c4,c5,hz,ha]
  ·obtain⟨a,ha⟩:=fin (7919 * k+11);simp[F_5,sX,d_5,hl,h1,h2,c1,c2,c4,c5,ha]
theorem fU:∀ m ls fs a b n fuel,ls.length=m->m < fuel->ls.length+fs.length<=5->∃ fs' a' b',fs'.Perm (fs++ls) /\
  su OZ Qb fuel [~~~[iT a,iT b],~~~(iT n),some (.l (uG ls)),~~~(sF fs)]=↥([~~~[iT a',iT b'],~~~(iT n),~~~[],~~~(sF fs')]):=by
 intro m;induction m with
 | zero =>
  intro ls fs a b n fuel hl hf h5;obtain rfl:ls=[]:=DB.mp hl;obtain⟨f,rfl⟩:∃ f,fuel=f+1:=⟨fuel - 1,by lia⟩
  exact⟨fs,a,b,by simp,by rw[L6];simp[OZ]⟩
 | succ m ih =>
  intro ls fs a b n fuel hl hf h5;obtain⟨f,rfl⟩:∃ f,fuel=f+1:=⟨fuel - 1,by lia⟩
  obtain⟨r,a',b',hr,e⟩:=MN a b ls.length ⋯ ⋯;obtain⟨z,hz⟩:∃ z,ls[r]?=some z:=⟨ls[r],by simp⟩
  obtain⟨fs',a2,b2,hp,e2⟩:=ih (ls.eraseIdx r) (fs++[z]) a' b' n f (by rw[Cu hr];lia) ⋯ (by rw[Cu hr];simp;lia);refine⟨fs',a2,b2,hp.trans (Vg hz),?_⟩;rw[← e2,L6];have hb:inR 9223372036854775807 r=true:=NI ⋯;have g1:ls.length<=AC:=Ld ⋯;have g2:fs.length+1<=AC:=Ld ⋯;have g3:1<=AC:=by decide
  simp[OZ,Qb,e,hb,V9 hr,hz,gd,g1,g2,g3,show 0 < ls.length by lia,UR]
def Rq a b n (hn:n<=5):∃ t a' b',IsT n t/\F_7 [.l [iT a,iT b],.v (iT n)]=some (.v (sF t),[iT a',iT b']):=by
 obtain⟨t,a',b',hp,e⟩:=fU n (AE n) [] a b n tf ↥1 (by rw[MR];lia) (by simp_all);refine⟨t,a',b',Pk ‹_›,?_⟩;simp at e;simp[F_7,sX,d_7,Mg n ⋯,NQ,e]
def Yg n t (h:IsT n t) (hn:n<=5):F_9 [.v (sF t)]=some (.v (sF (sR t)),[]):=by
 obtain⟨o',e⟩:=N9 (λ(i:Nat)=>iT i) (λi=>iT (t.idxOf i)) (de:=Oh) (R:=[~~~(sF t)]) (AE n) (λi hi=>by
  simp[Oh,P6 t,UY t,(Uq (h.mem (show i < n by simpa using hi))),tM]) none
 simp[F_9,sX,d_9,h.len,Mg n ⋯,(NQ n),e,sR]
def PD n a b (ha:IsT n a) (hb:IsT n b) (hn:n<=5):F_8 [.v (sF a),.v (sF b)]=some (.v (sF (sO a b)),[]):=by
 have hl:=ha.len;obtain⟨o',e⟩:=N9 (λ(k:Nat)=>iT k) (λk=>iT (b.getD k 0)) (de:=OP) (R:=[~~~(sF b)]) a (λk hk=>by
  obtain⟨m,hm,_⟩:=hb.get (ha.lt k hk);have:=NW hm;simp[OP,this,hm]) none
 have g:a.length<=AC:=Ld ⋯;simp[F_8,sX,d_8,gd,g,e,sO]
def Mz n a b (ha:IsT n a) (hb:IsT n b) (hn:n<=5):wU [.v (sF a),.v (sF b)]=some (.v (sF (sO a b)),[]):=by
 have hl:=ha.len;obtain⟨o',e⟩:=N9 (λ(k:Nat)=>iT k) (λk=>iT (b.getD k 0)) (de:=Oc) (R:=[~~~(sF b)]) a (λk hk=>by
  obtain⟨m,hm,_⟩:=hb.get (ha.lt k hk);have:=NW hm;simp[Oc,this,hm]) none
 have g:a.length<=AC:=Ld ⋯;simp[wU,sX,ADu,gd,g,e,sO]
def OW(n:Nat)(hn:n<=5):xK [.v (iT n)]=some (.v (sF (AE n)),[]):=by
 simp[xK,sX,ADB,Mg n ⋯,NQ]
def Lr(h1:tg Γ t=some Γ1)(h2:b Γ1=some (.nx Γ2)):tX tg b (t::r) Γ=tX tg b r Γ2:=by
 rw[Np,h1,Ai,h2,Ai]
def d6(h1:tg Γ t=some Γ1)(h2:de Γ1=some (.v t',Γ2))(h3:uD tg vI de r Γ2=some (ts,Γ3)):uD tg vI de (t::r) Γ=some (t'::ts,Γ3):=by
 rw[L7,h1,Ai,aa,Ai,h2,Ai,h3];rfl
noncomputable def zc (n:Nat):Nat->List (List Nat)
 | 0=>[[]]
 | m+1=>(zc n m).flatMap λr=>(AE n).map λk=>k::r
theorem RC:∀ {t},(∀ k∈t,k < n)->t∈zc n t.length
 | [],_=>AD.mpr rfl
 | k::r,h=>Ie.mpr ⟨r,RC λx hx=>h x (AI _ hx),Ao.mpr ⟨k,BN.mpr (h k AH),rfl⟩⟩
noncomputable def ndB:List Nat->Bool
 | []=>true
 | k::r=>!(r.contains k) && ndB r
theorem T7:∀ {t},t.Nodup->ndB t=true
 | [],_=>rfl
 | k::r,h=>by
  have h':=BI.mp h;simp[ndB,h'.1,T7 h'.2]
noncomputable def uW (n:Nat):List (List Nat):=(zc n n).filter ndB
def MH(h:IsT n t):t∈uW n:=by
 refine Bu.mpr ⟨?_,T7 h.nd⟩;have:=RC h.lt;rw[h.len]at this;exact this
noncomputable def ACY:Option (G×List T)->Bool
 | some (.v (.a v),[])=>decide (v=.bl true)
 | _=>false
def mK{x}(h:ACY x=true):x=some (.v (.a (.bl true)),[]):=by
 unfold ACY at h;split at h <;> simp_all
noncomputable def uS (t:List Nat):List tu:=t.map λ(k:Nat)=>(.inl (k:Int):tu)
theorem Q0(h:uS a=uS b):a=b:=by
 induction a generalizing b with
 | nil=>cases b with
  | nil=>rfl
  | cons _ _=>simp[uS]at h
 | cons x r ih=>cases b with
  | nil=>simp[uS]at h
  | cons y s =>
   simp[uS]at h;obtain⟨h1,h2⟩:=h;rw[show x=y by lia,ih h2]
theorem ND:∀ t,uv (uG t)=some (uS t)
 | []=>rfl
 | x::r=>by
  have:=ND r;simp[uv,xF,this,uS]
abbrev Wd:=List (List Nat×List Nat)
noncomputable def tq (D:Wd):List (List tu×T):=D.map λp=>(uS p.1,sF p.2)
noncomputable def lk (D:Wd) (t:List Nat):Option (List Nat):=(D.find? λp=>decide (p.1=t)).map (·.2)
theorem bq D t:vc (tq D) (uS t)=(lk D t).map sF:=by
 induction D with
 | nil=>rfl
 | cons p r ih =>
  unfold vc lk tq at *;rw[AY,Fz,Fz];by_cases h:p.1=t
  ·simp[h]
  ·have h':¬ uS p.1=uS t:=λe=>h (Q0 e)
   simp only[h,h',decide_false];exact ih
theorem jG D t:((tq D).any λkv=>decide (kv.1=uS t))=(lk D t).isSome:=by
 induction D with
 | nil=>rfl
 | cons p r ih =>
  unfold lk tq at *;rw[AY,Cd,ih];by_cases h:p.1=t
  ·simp[h]
  ·have h':¬ uS p.1=uS t:=λe=>h (Q0 e)
   simp[h,h']
def mS(h:lk D t=none):wZ (tq D) (uS t) (sF w)=tq (D++[(t,w)]):=by
 unfold wZ;rw[jG,h];simp[tq]
theorem Vl(nd:(D.map (·.1)).Nodup)(h:(t,w)∈D):lk D t=some w:=by
 induction D with
 | nil=>cases h
 | cons p r ih =>
  rw[AY,BI]at nd;unfold lk at *;rw[Fz];rcases AN.mp h with e | e
  ·subst e;simp
  ·have:¬ p.1=t:=λz=>nd.1 (z ▸ Ao.mpr ⟨(t,w),e,rfl⟩)
   simp only[this,decide_false];exact ih nd.2 e
def YU(h:lk D t=none):t∉D.map (·.1):=λhm=>by
 obtain⟨p,hp,e⟩:=Ao.mp hm;have:=List.find?_eq_none.mp (Option.map_eq_none_iff.mp h) p hp;simp[e]at this
def X9(h:lk D t=some w):(t,w)∈D:=by
 obtain⟨p,e,rfl⟩:=Lb h;have h2:=Iq e;simp at h2;subst h2;exact (Gi e)
noncomputable def sN (n:Nat) (ts:List (List Nat)) (w:List Nat):List Nat:=w.foldl (λt k=>sO t (ts.getD k [])) (AE n)
def OJ n ts w k:sN n ts (w++[k])=sO (sN n ts w) (ts.getD k []):=by simp[sN]
structure zr(n:Nat)(ts:List (List Nat))(D:Wd):Prop where
 nd:(D.map (·.1)).Nodup
 wk:∀ p∈D,sN n ts p.2=p.1
 tr:∀ p∈D,IsT n p.1
 ln:∀ p∈D,p.2.length<=D.length
 lt:∀ p∈D,∀ k∈p.2,k < ts.length
def zr.more(h:zr n ts D)(ht:∀ t∈ts,IsT n t)(hk:k < ts.length)(hw:(sN n ts w,w)∈D)(hn:lk D (sN n ts (w++[k]))=none):zr n ts (D++[(sN n ts (w++[k]),w++[k])]):=by
 have hT:IsT n (sN n ts (w++[k])):=by
  rw[OJ];refine Li (h.tr _ hw) (ht _ ?_);simp_all
 refine⟨?_,λp hp=>?_,λp hp=>?_,λp hp=>?_,λp hp=>?_⟩
 ·rw[Bj,Fc];refine⟨h.nd,by simp,λa ha b hb=>?_⟩;have:=by simpa using hb
  subst this;exact λe=>YU hn (e ▸ ha)
 all_goals rcases A6.mp hp with z | z
 ·exact h.wk p z
 ·have:=AD.mp z;subst this;rfl
 ·exact h.tr p z
 ·have:=AD.mp z;subst this;exact hT
 ·have:=h.ln p z;simp;lia
 ·have:=AD.mp z;subst this;have:=h.ln _ hw;simp at this ⊢;lia
 ·exact h.lt p z
 ·have:=AD.mp z;subst this;intro j hj;rcases A6.mp hj with y | y
  ·exact h.lt _ hw j y
  ·have:=AD.mp y;lia
noncomputable def wD (n:Nat) (ts:List (List Nat)) (w:List Nat):List Nat->Wd×List (List Nat)->Wd×List (List Nat)
 | [],s=>s
 | k::r,s=>if (lk s.1 (sN n ts (w++[k]))).isSome=true then wD n ts w r s else wD n ts w r (s.1++[(sN n ts (w++[k]),w++[k])],s.2++[w++[k]])
structure zd(n:Nat)(ts:List (List Nat))(s:Wd×List (List Nat)):Prop where
 d:zr n ts s.1
 l:∀ w∈s.2,(sN n ts w,w)∈s.1
theorem PM(ht:∀ t∈ts,IsT n t) w:∀ ks s,(∀ k∈ks,k < ts.length)->zd n ts s->(sN n ts w,w)∈s.1->zd n ts (wD n ts w ks s)/\∃ D' L',(wD n ts w ks s).1=s.1++D'/\(wD n ts w ks s).2=s.2++L'/\L'.length=D'.length
 | [],s,_,h,_=>⟨h,[],[],by simp[wD],by simp[wD],rfl⟩
 | k::r,s,hk,h,hw=>by
  unfold wD;split
  ·exact PM ht w r s (λj hj=>hk j (AI _ hj)) h hw
  ·rename_i hn;obtain⟨a,D',L',b,c,d⟩:=PM ht w r (s.1++[(sN n ts (w++[k]),w++[k])],s.2++[w++[k]]) (λj hj=>hk j (AI _ hj)) ⟨h.d.more ht (hk k AH) hw (by simpa using hn),λu hu=>by
    rcases A6.mp hu with z | z
    ·exact BB _ (h.l u z)
    ·have:=AD.mp z;subst this;exact Ab _ AH⟩ (BB _ hw)
   exact⟨a,(sN n ts (w++[k]),w++[k])::D',(w++[k])::L',by simp[b],by simp[c],by simp[d]⟩
noncomputable def uR (n:Nat) (ts:List (List Nat)):List (List Nat)->Wd×List (List Nat)->Wd×List (List Nat)
 | [],s=>s
 | w::r,s=>uR n ts r (wD n ts w (AE ts.length) s)
theorem Q1(ht:∀ t∈ts,IsT n t):∀ ly s,zd n ts s->(∀ w∈ly,(sN n ts w,w)∈s.1)->zd n ts (uR n ts ly s)/\∃ D' L',(uR n ts ly s).1=s.1++D'/\(uR n ts ly s).2=s.2++L'/\L'.length=D'.length
 | [],s,h,_=>⟨h,[],[],by simp[uR],by simp[uR],rfl⟩
 | w::r,s,h,hl=>by
  unfold uR;obtain⟨a,D1,L1,b1,c1,d1⟩:=PM ht w (AE ts.length) s (λk hk=>BN.mp hk) h (hl w AH);obtain⟨a2,D2,L2,b2,c2,d2⟩:=Q1 ht r _ a λu hu=>by rw[b1];exact BB _ (hl u (AI _ hu))
  exact⟨a2,D1++D2,L1++L2,by rw[b2,b1,BC],by rw[c2,c1,BC],by simp[d1,d2]⟩
noncomputable def vn (n:Nat) (ts:List (List Nat)):Nat->Wd->List (List Nat)->Wd
 | 0,D,_=>D
 | f+1,D,ly=>if ly=[] then D else vn n ts f (uR n ts ly (D,[])).1 (uR n ts ly (D,[])).2
theorem M7:∀ (ys xs:List (List Nat)),ys.Nodup->(∀ y∈ys,y∈xs)->ys.length<=xs.length
 | [],_,_,_=>As _
 | y::r,xs,nd,h=>by
  have nd':=BI.mp nd;have hy:=h y AH;have:=M7 r (xs.erase y) nd'.2 λz hz=>(HY (λe=>nd'.1 (by simp_all))).mpr (h z (AI _ hz))
  rw[Gu hy]at this;have:=List.length_pos_of_mem hy;simp;lia
theorem Uu n:∀ m,(zc n m).length=n ^ m
 | 0=>rfl
 | m+1=>by
  have:∀ L:List (List Nat),(L.flatMap λr=>(AE n).map λk=>k::r).length=L.length * n:=by
   intro L;induction L with
   | nil=>simp
   | cons a r ih=>rw[IT,A8,ih];simp[Nat.add_mul];lia
  rw[zc,this,Uu n m,Nat.pow_succ]
def zr.few(h:zr n ts D)(hn:n<=5):D.length<=3125:=by
 have:=M7 (D.map (·.1)) (zc n n) h.nd λy hy=>by
  obtain⟨p,hp,rfl⟩:=Ao.mp hy;have hT:=h.tr p hp;have:=RC hT.lt;rw[hT.len]at this;exact this
 rw[Af,Uu]at this;have h5:n ^ n<=3125:=by
  rcases (show n=0\/n=1\/n=2\/n=3\/n=4\/n=5 by lia) with h | h | h | h | h | h <;> subst h <;> decide
 lia
def Qj D t:xc [] (.inr (tq D)) (sF t)=some ((lk D t).map sF):=by
 show (uv (uG t)).bind _=_;rw[ND,← bq];rfl
def gO(h:lk D t=none)(hl:D.length < AC):yf [] (.inr (tq D)) (sF t) (sF w)=some (.inr (tq (D++[(t,w)]))):=by
 show (uv (uG t)).bind _=_;rw[ND,← mS h];have:(tq D).length < AC:=by simpa [tq] using hl
 simp[this]
theorem AEs n (hn:n<=5) ts (ht:∀ t∈ts,IsT n t) w c tsv rest:∀ ks s o6 o7 o8,(∀ k∈ks,k < ts.length)->zd n ts s->(sN n ts w,w)∈s.1->s.2.length<=s.1.length->∃ o6' o7' o8',
  tX (vj 2 (uF (sJ 6) (uF (sJ 7) wO))) NA (ks.map λ(k:Nat)=>.t [iT k,sF (ts.getD k [])]) [c,tsv,some (.d (.inr (tq s.1))),rest,some (.l (s.2.map λu=>sF (sN n ts u))),~~~(sF (sN n ts w)),o6,o7,o8] =
   some (.nx [c,tsv,some (.d (.inr (tq (wD n ts w ks s).1))),rest,some (.l ((wD n ts w ks s).2.map λu=>sF (sN n ts u))),~~~(sF (sN n ts w)),o6',o7',o8']):=by
 intro ks;induction ks with
 | nil=>intro s o6 o7 o8 _ _ _ _;exact⟨o6,o7,o8,by rw[B4];rfl⟩
 | cons k r ih =>
  intro s o6 o7 o8 hk h hw hl;have hk0:=hk k AH;have hkr:=λj hj=>hk j (AI _ hj)
  have hT:IsT n (ts.getD k []):=ht _ (by simp_all);have e1:=Mz n (sN n ts w) (ts.getD k []) (h.d.tr _ hw) hT hn;rw[← OJ]at e1;have gx1:=Qj s.1 (sN n ts (w++[k]));have hfew:=h.d.few hn;by_cases hs:(lk s.1 (sN n ts (w++[k]))).isSome=true
  ·obtain⟨p6,p7,p8,e3⟩:=ih s (~~~(iT k)) (~~~(sF (ts.getD k []))) (~~~(sF (sN n ts (w++[k])))) hkr h hw hl;have ei:wD n ts w (k::r) s=wD n ts w r s:=by rw[wD,if_pos hs]
   rw[ei];refine⟨p6,p7,p8,?_⟩;obtain⟨u,hu⟩:=Bc.mp hs;rw[hu]at gx1;have turn:NA [c,tsv,some (.d (.inr (tq s.1))),rest,some (.l (s.2.map λu=>sF (sN n ts u))),~~~(sF (sN n ts w)),~~~(iT k),~~~(sF (ts.getD k [])),o8] =
     some (.nx [c,tsv,some (.d (.inr (tq s.1))),rest,some (.l (s.2.map λu=>sF (sN n ts u))),~~~(sF (sN n ts w)),~~~(iT k),~~~(sF (ts.getD k [])),~~~(sF (sN n ts (w++[k])))]):=by
    generalize sF (ts.getD k [])=TV at *;simp[NA,e1,gx1]
   rw[AY,Lr ↥1 turn];exact e3
  ·have hn':=by simpa using hs
   rw[hn']at gx1;have gx2:=Qj s.1 (sN n ts w);rw[Vl h.d.nd hw]at gx2;have px:=gO (w:=w++[k]) hn' (Mm (show s.1.length<=100000 by lia));obtain⟨p6,p7,p8,e3⟩:=ih (s.1++[(sN n ts (w++[k]),w++[k])],s.2++[w++[k]]) (~~~(iT k)) (~~~(sF (ts.getD k []))) (~~~(sF (sN n ts (w++[k])))) hkr ⟨h.d.more ht hk0 hw hn',λu hu=>by
    rcases A6.mp hu with z | z
    ·exact BB _ (h.l u z)
    ·have:=AD.mp z;subst this;exact Ab _ AH⟩ (BB _ hw) ↥2
   have ei:wD n ts w (k::r) s=wD n ts w r (s.1++[(sN n ts (w++[k]),w++[k])],s.2++[w++[k]]):=by rw[wD,if_neg hs]
   rw[ei];refine⟨p6,p7,p8,?_⟩;have hwl:=h.d.ln _ hw;have g1:1<=AC:=by decide
   have g2:w.length+1<=AC:=Ld (by simp at hwl;lia);have g3:s.2.length < AC:=Mm ⋯;have g4:s.2.length<=AC:=Ld ⋯;have turn:NA [c,tsv,some (.d (.inr (tq s.1))),rest,some (.l (s.2.map λu=>sF (sN n ts u))),~~~(sF (sN n ts w)),~~~(iT k),~~~(sF (ts.getD k [])),o8] =
     some (.nx [c,tsv,some (.d (.inr (tq (s.1++[(sN n ts (w++[k]),w++[k])])))),rest,some (.l ((s.2++[w++[k]]).map λu=>sF (sN n ts u))),~~~(sF (sN n ts w)),~~~(iT k),~~~(sF (ts.getD k [])),~~~(sF (sN n ts (w++[k])))]):=by
    have tw:sF (w++[k])=.t (uG w++[iT k]):=by simp
    rw[tw]at px;generalize sF (ts.getD k [])=TV at *;simp[NA,e1,gx1,gx2,px,gd,g1,g2,g3,g4]
   rw[AY,Lr ↥1 turn];exact e3
@[simp] theorem oE:dMv i j Γ=(jV j Γ).bind λp=>(zV i p.1 p.2).map .nx:=(rfl)
def eU(ts:List (List Nat)):vE (ts.map sF)=(AE ts.length).map λk=>.t [iT k,sF (ts.getD k [])]:=by
 unfold vE;apply C0
 ·simp
 ·intro i h1 h2;simp at h1;simp[Kx,h1]
theorem ay n (hn:n<=5) ts (hm:ts.length<=10000) (ht:∀ t∈ts,IsT n t) c rest:∀ ly s o5 o6 o7 o8,zd n ts s->(∀ w∈ly,(sN n ts w,w)∈s.1)->s.2.length<=s.1.length->∃ o5' o6' o7' o8',
  tX (sJ 5) PY (ly.map λw=>sF (sN n ts w)) [c,~~~(.t (ts.map sF)),some (.d (.inr (tq s.1))),rest,some (.l (s.2.map λu=>sF (sN n ts u))),o5,o6,o7,o8] =
   some (.nx [c,~~~(.t (ts.map sF)),some (.d (.inr (tq (uR n ts ly s).1))),rest,some (.l ((uR n ts ly s).2.map λu=>sF (sN n ts u))),o5',o6',o7',o8']):=by
 intro ly;induction ly with
 | nil=>intro s o5 o6 o7 o8 _ _ _;exact⟨o5,o6,o7,o8,by rw[B4];rfl⟩
 | cons w r ih =>
  intro s o5 o6 o7 o8 h hl hlen;have hw:=hl w AH;obtain⟨a,D1,L1,b1,c1,d1⟩:=PM ht w (AE ts.length) s (λk hk=>BN.mp hk) h hw;obtain⟨p6,p7,p8,e1⟩:=AEs n hn ts ht w c (~~~(.t (ts.map sF))) rest (AE ts.length) s o6 o7 o8 (λk hk=>BN.mp hk) h hw hlen;obtain⟨q5,q6,q7,q8,e2⟩:=ih (wD n ts w (AE ts.length) s) (~~~(sF (sN n ts w))) p6 p7 p8 a (λu hu=>by rw[b1];exact BB _ (hl u (AI _ hu))) (by rw[b1,c1,A8,A8];lia);refine⟨q5,q6,q7,q8,?_⟩;rw[← eU]at e1;have g:ts.length<=AC:=Ld ⋯;have turn:PY [c,~~~(.t (ts.map sF)),some (.d (.inr (tq s.1))),rest,some (.l (s.2.map λu=>sF (sN n ts u))),~~~(sF (sN n ts w)),o6,o7,o8] =
    some (.nx [c,~~~(.t (ts.map sF)),some (.d (.inr (tq (wD n ts w (AE ts.length) s).1))),rest,some (.l ((wD n ts w (AE ts.length) s).2.map λu=>sF (sN n ts u))),~~~(sF (sN n ts w)),p6,p7,p8]):=by
   simp[PY,wj,gd,g,e1]
  rw[AY,Lr ↥1 turn];exact e2
theorem eO n (hn:n<=5) ts (hm:ts.length<=10000) (ht:∀ t∈ts,IsT n t) c:∀ f D ly o4 o5 o6 o7 o8,zr n ts D->(∀ w∈ly,(sN n ts w,w)∈D)->ly.length<=D.length->(ly≠[]->3126 < D.length+f)->0 < f->∃ o4' o5' o6' o7' o8',
  su N8 PV f [c,~~~(.t (ts.map sF)),some (.d (.inr (tq D))),some (.l (ly.map λu=>sF (sN n ts u))),o4,o5,o6,o7,o8] =
   some (.nx [c,~~~(.t (ts.map sF)),some (.d (.inr (tq (vn n ts f D ly)))),~~~[],o4',o5',o6',o7',o8'])/\zr n ts (vn n ts f D ly):=by
 intro f;induction f with
 | zero=>intro D ly o4 o5 o6 o7 o8 _ _ _ _ h0;lia
 | succ f ih =>
  intro D ly o4 o5 o6 o7 o8 hD hl hlen hf _;rw[L6];by_cases hly:ly=[]
  ·subst hly;exact⟨o4,o5,o6,o7,o8,by simp[N8,vn],by simpa [vn] using hD⟩
  ·obtain⟨a,D1,L1,b1,c1,d1⟩:=Q1 ht ly (D,[]) ⟨hD,λw hw=>nomatch hw⟩ hl;obtain⟨p5,p6,p7,p8,e1⟩:=ay n hn ts hm ht c (some (.r (ly.map λu=>sF (sN n ts u)))) ly (D,[]) o5 o6 o7 o8 ⟨hD,λw hw=>nomatch hw⟩ hl (As _);have hfew:=hD.few hn;have hL:(uR n ts ly (D,[])).2.length=L1.length:=by rw[c1];simp
   have hDl:(uR n ts ly (D,[])).1.length=D.length+L1.length:=by rw[b1,A8,d1]
   obtain⟨q4,q5,q6,q7,q8,e2,hfin⟩:=ih (uR n ts ly (D,[])).1 (uR n ts ly (D,[])).2 none p5 p6 p7 p8 a.d a.l (by simp_all) (λhne=>by
    have:0 < L1.length:=by rw[← hL];exact C4.mpr hne
    rw[hDl];lia) ⋯
   have er:vn n ts (f+1) D ly=vn n ts f (uR n ts ly (D,[])).1 (uR n ts ly (D,[])).2:=by rw[vn,if_neg hly]
   rw[er];refine⟨q4,q5,q6,q7,q8,?_,hfin⟩;have g:ly.length<=AC:=Ld ⋯;have cnd:N8 [c,~~~(.t (ts.map sF)),some (.d (.inr (tq D))),some (.l (ly.map λu=>sF (sN n ts u))),o4,o5,o6,o7,o8]=some (true,[c,~~~(.t (ts.map sF)),some (.d (.inr (tq D))),some (.l (ly.map λu=>sF (sN n ts u))),o4,o5,o6,o7,o8]):=by
    have:(ly.map λu=>sF (sN n ts u)).isEmpty=false:=by simpa using hly
    simp[N8,this]
   have body:PV [c,~~~(.t (ts.map sF)),some (.d (.inr (tq D))),some (.l (ly.map λu=>sF (sN n ts u))),o4,o5,o6,o7,o8]=↥([c,~~~(.t (ts.map sF)),some (.d (.inr (tq (uR n ts ly (D,[])).1))),some (.l ((uR n ts ly (D,[])).2.map λu=>sF (sN n ts u))),none,p5,p6,p7,p8]):=by
    simp at e1;simp[PV,gd,g,x6,e1,zV]
   rw[cnd];simp;rw[body];exact e2
noncomputable def yI (n:Nat) (ts:List (List Nat)):Wd:=vn n ts tf [(AE n,[])] [[]]
def Sz n ts:zr n ts [(AE n,[])]:=by
 refine⟨by simp,λp hp=>?_,λp hp=>?_,λp hp=>?_,λp hp=>?_⟩ <;> (have:=AD.mp hp;subst this)
 ·rfl
 ·exact Lq n
 ·exact As _
 ·simp_all
def Vt n (hn:n<=5) ts (hm:ts.length<=10000) (ht:∀ t∈ts,IsT n t):zJ [.v (iT n),.v (.t (ts.map sF))]=some (.d (.inr (tq (yI n ts))),[])/\zr n ts (yI n ts):=by
 obtain⟨q4,q5,q6,q7,q8,e,h⟩:=eO n hn ts hm ht (~~~(iT n)) tf [(AE n,[])] [[]] none none none none none (Sz n ts) (λw hw=>by have:=AD.mp hw;subst this;exact AH) (AF _) (λ_=>by rw[MR];simp) (by rw[MR];decide);refine⟨?_,h⟩;have e1:=OW n hn;have w0:sN n ts []=AE n:=rfl;have d0:tq [(AE n,[])]=[(uS (AE n),.t [])]:=rfl;rw[d0]at e;simp[ w0]at e;show zJ _=some (.d (.inr (tq (vn n ts tf [(AE n,[])] [[]]))),[]);simp[zJ,sX,AET,e1,(ND (AE n)),e]
inductive vX (n:Nat) (ts:List (List Nat)):List Nat->Prop
 | still:vX n ts (AE n)
 | more {x t:List Nat}:vX n ts x->t∈ts->vX n ts (sO x t)
theorem vX.isT(ht:∀ t∈ts,IsT n t)(h:vX n ts x):IsT n x:=by
 induction h with
 | still=>exact Lq n
 | more _ hm ih=>exact Li ih (ht _ hm)
structure Whl(n:Nat)(ts:List (List Nat))(X:List (List Nat)):Prop where
 nd:X.Nodup
 mem:∀ x,x∈X ↔ vX n ts x
def Whl.of(nd:X.Nodup)(sub:∀ x∈X,vX n ts x)(st:AE n∈X)(cl:∀ x∈X,∀ t∈ts,sO x t∈X):Whl n ts X:=
 ⟨nd,λx=>⟨sub x,λh=>by
  induction h with
  | still=>exact st
  | more _ hm ih=>exact cl _ ih _ hm⟩⟩
def mT(hn:n<=5):(uW n).length<=120:=by
 rcases (show n=0\/n=1\/n=2\/n=3\/n=4\/n=5 by lia) with h | h | h | h | h | h <;> subst h <;> decide +kernel
def Ng(hn:n<=5){X:List (List Nat)}(nd:X.Nodup)(h:∀ x∈X,IsT n x):X.length<=120:=
 Ah (M7 X (uW n) nd λy hy=>MH (h y hy)) (mT hn)
def vx (a b:List Nat):Prop:=HT.lexLt (a.map λ(k:Nat)=>k) (b.map λ(k:Nat)=>k)=true
theorem T6{a b:List Nat}(h:(a.map λ(k:Nat)=>(k:Int))=b.map λ(k:Nat)=>(k:Int)):a=b:=by
 induction a generalizing b with
 | nil=>cases b with
  | nil=>rfl
  | cons _ _=>cases h
 | cons x r ih=>cases b with
  | nil=>cases h
  | cons y s =>
   simp at h;rw[show x=y by lia,ih h.2]
def Zl{Z Y:List (List Nat)}(sz:Z.Pairwise vx)(sy:Y.Pairwise vx)(h:∀ x,x∈Z ↔ x∈Y):Z=Y:=by
 have irr:∀ x,¬ vx x x:=λx e=>by unfold vx at e;rw[Nr]at e;cases e
 have nz:∀ {W:List (List Nat)},W.Pairwise vx->W.Nodup:=λs=>s.imp λ{a b} hab (e:a=b)=>irr a (by rw[← e]at hab;exact hab)
 refine Ft (λa b _ _ h1 h2=>?_) sz sy ((GR (nz sz) (nz sy)).mpr h);exact absurd (Nz h1 h2) (irr a)
structure yT(n:Nat)(ts:List (List Nat))(Z:List (List Nat)):Prop where
 so:Z.Pairwise vx
 mem:∀ x,x∈Z ↔ vX n ts x
def yT.nd(h:yT n ts Z):Z.Nodup:=h.so.imp λ{a b} hab e=>by
 subst e;unfold vx at hab;rw[Nr]at hab;cases hab
def yT.len(h:yT n ts Z)(hn:n<=5)(ht:∀ t∈ts,IsT n t):Z.length<=120:=Ng hn h.nd λx hx=>((h.mem x).mp hx).isT ht
theorem QY:∀ t,uH (uG t)=some (t.map λ(k:Nat)=>(k:Int))
 | []=>rfl
 | k::r=>by
  have:=QY r;simp[uH,this]
def Z3 t:ACd (sF t)=some (t.map λ(k:Nat)=>(k:Int)):=QY t
theorem RL:∀ X:List (List Nat),yM (X.map sF)=some (X.map λt=>t.map λ(k:Nat)=>(k:Int))
 | []=>rfl
 | t::r=>by
  rw[AY,yM,Z3 t,RL r];rfl
def eQ(nd:X.Nodup)(hl:X.length < 128):∃ Z:List (List Nat),Z.Perm X/\Z.Pairwise vx/\yP (X.map sF)=some (Z.map sF):=by
 have nd':=D.nodup_map_on (λx _ y _ e=>T6 e) nd;have T0:=Tc nd';have e:yP (X.map sF)=some (sr (ltI (X.map λt=>t.map λ(k:Nat)=>k)) (.a .non) (X.map sF)):=by
  unfold yP;rw[RL];dsimp only;rw[if_pos (.inr ⟨by simpa using hl,nd'⟩)]
 generalize hlt:ltI (X.map λt=>t.map λ(k:Nat)=>k)=lt at *;rw[Af]at T0;have em:sr lt (.a .non) (X.map sF)=(sr lt [] X).map sF:=by
  unfold sr;rw[Af];split
  ·rfl
  ·rw[Ec];refine Dl λi hi=>?_
   have:=BN.mp (((Mk ⋯).run lt).subset hi);simp[ AU this]
 refine⟨sr lt [] X,a8 lt [] X,aA T0 vx (λi j hi hj hij=>?_),by rw[e,em]⟩;rw[← hlt]at hij;unfold ltI at hij;unfold vx;simpa [ AU hi,AU hj] using hij
theorem QF w:∀ ks s,(∀ k∈ks,sN n ts (w++[k])∈(wD n ts w ks s).1.map (·.1))/\(∀ p∈s.1,p∈(wD n ts w ks s).1)/\(∀ p∈(wD n ts w ks s).1,p∈s.1\/p.2∈(wD n ts w ks s).2)/\(∀ u∈s.2,u∈(wD n ts w ks s).2)
 | [],s=>⟨(λk hk=>nomatch hk),(λp hp=>hp),(λp hp=>.inl hp),λu hu=>hu⟩
 | k::r,s=>by
  unfold wD;split
  ·rename_i hs;obtain⟨a,b,c,d⟩:=QF w r s;refine⟨λj hj=>?_,b,c,d⟩;rcases AN.mp hj with e | e
   ·subst e;obtain⟨u,hu⟩:=Bc.mp hs;exact Ao.mpr ⟨_,b _ (X9 hu),rfl⟩
   ·exact a j e
  ·obtain⟨a,b,c,d⟩:=QF w r (s.1++[(sN n ts (w++[k]),w++[k])],s.2++[w++[k]]);refine⟨λj hj=>?_,λp hp=>b p (BB _ hp),λp hp=>?_,λu hu=>d u (BB _ hu)⟩
   ·rcases AN.mp hj with e | e
    ·subst e;exact Ao.mpr ⟨_,b _ (Ab _ AH),rfl⟩
    ·exact a j e
   ·rcases c p hp with z | z
    ·rcases A6.mp z with y | y
     ·exact .inl y
     ·have:=AD.mp y;subst this;exact .inr (d _ (Ab _ AH))
    ·exact .inr z
theorem S8:∀ ly s,(∀ w∈ly,∀ k,k < ts.length->sN n ts (w++[k])∈(uR n ts ly s).1.map (·.1))/\(∀ p∈s.1,p∈(uR n ts ly s).1)/\(∀ p∈(uR n ts ly s).1,p∈s.1\/p.2∈(uR n ts ly s).2)/\(∀ u∈s.2,u∈(uR n ts ly s).2)
 | [],s=>⟨(λk hk=>nomatch hk),(λp hp=>hp),(λp hp=>.inl hp),λu hu=>hu⟩
 | w::r,s=>by
  obtain⟨a,b,c,d⟩:=QF w (AE ts.length) s;obtain⟨a',b',c',d'⟩:=S8 r (wD n ts w (AE ts.length) s);refine⟨λu hu k hk=>?_,λp hp=>b' p (b p hp),λp hp=>?_,λu hu=>d' u (d u hu)⟩
  ·rcases AN.mp hu with e | e
   ·subst e;obtain⟨p,hp,e⟩:=Ao.mp (a k (BN.mpr hk));exact Ao.mpr ⟨p,b' p hp,e⟩
   ·exact a' u e k hk
  ·rcases c' p hp with z | z
   ·exact (c p z).imp id λy=>d' _ y
   ·exact .inr z
theorem XT(hn:n<=5)(ht:∀ t∈ts,IsT n t):∀ f D ly,zr n ts D->(∀ w∈ly,(sN n ts w,w)∈D)->(ly≠[]->3126 < D.length+f)->(∀ p∈D,p.2∈ly\/∀ k,k < ts.length->sN n ts (p.2++[k])∈D.map (·.1)) ->
  (∀ p∈D,p∈vn n ts f D ly)/\∀ p∈vn n ts f D ly,∀ k,k < ts.length->sN n ts (p.2++[k])∈(vn n ts f D ly).map (·.1):=by
 intro f;induction f with
 | zero =>
  intro D ly hD hl hf hc;have hfew:=hD.few hn;have:ly=[]:=by
   cases ly with
   | nil=>rfl
   | cons a r=>have:=hf ↥1;lia
  subst this;exact⟨(λp hp=>hp),λp hp k hk=>(hc p hp).elim (λz=>nomatch z) λz=>z k hk⟩
 | succ f ih =>
  intro D ly hD hl hf hc;by_cases hly:ly=[]
  ·subst hly;exact⟨(λp hp=>hp),λp hp k hk=>(hc p hp).elim (λz=>nomatch z) λz=>z k hk⟩
  ·rw[vn,if_neg hly];obtain⟨a,b,c,d⟩:=S8 ly (D,[]);obtain⟨a1,D1,L1,b1,c1,d1⟩:=Q1 ht ly (D,[]) ⟨hD,λw hw=>nomatch hw⟩ hl;simp only at b1 c1;obtain⟨r1,r2⟩:=ih (uR n ts ly (D,[])).1 (uR n ts ly (D,[])).2 a1.d a1.l (λhne=>by
    have:0 < L1.length:=by
     rw[c1]at hne;exact C4.mpr hne
    rw[b1,A8];lia) (λp hp=>by
    rcases c p hp with z | z
    ·right;intro k hk;rcases hc p z with y | y
     ·exact a p.2 y k hk
     ·obtain⟨q,hq,e⟩:=Ao.mp (y k hk);exact Ao.mpr ⟨q,b q hq,e⟩
    ·exact .inl z)
   exact⟨λp hp=>r1 p (b p hp),r2⟩
theorem UN:∀ (w x:List Nat),(∀ k∈w,k < ts.length)->vX n ts x->vX n ts (w.foldl (λt k=>sO t (ts.getD k [])) x)
 | [],_,_,h=>h
 | k::w,x,hk,h=>UN w _ (λj hj=>hk j (AI _ hj)) (.more h (by
  have hk0:=hk k AH;rw[Aw,AU hk0];exact ET hk0))
def U3 w (h:∀ k∈w,k < ts.length):vX n ts (sN n ts w):=UN w _ h .still
def S9(hn:n<=5)(ht:∀ t∈ts,IsT n t)(hW:zr n ts (yI n ts)):Whl n ts ((yI n ts).map (·.1)):=by
 obtain⟨r1,r2⟩:=XT hn ht tf [(AE n,[])] [[]] (Sz n ts) (λw hw=>by have:=AD.mp hw;subst this;exact AH) (λ_=>by rw[MR];simp) (λp hp=>by have:=AD.mp hp;subst this;exact .inl AH);refine .of hW.nd (λx hx=>?_) (Ao.mpr ⟨_,r1 _ AH,rfl⟩) λx hx t hm=>?_
 ·obtain⟨p,hp,rfl⟩:=Ao.mp hx;rw[← hW.wk p hp];exact U3 _ (hW.lt p hp)
 ·obtain⟨p,hp,rfl⟩:=Ao.mp hx;obtain⟨k,hk,rfl⟩:=CN hm;have:=r2 p hp k hk;rw[OJ,hW.wk p hp]at this;rw[Aw,AU hk]at this;exact this
def Xz D:vS (tq D)=(D.map (·.1)).map sF:=by
 simp only[vS,tq,Ec];refine Dl λp _=>?_
 simp[uz,uS,kV,IU]
def OU n (hn:n<=5) ts (hm:ts.length<=10000) (ht:∀ t∈ts,IsT n t):∃ Z,yT n ts Z/\AAm [.v (iT n),.v (.t (ts.map sF))]=some (.v (.t (Z.map sF)),[]):=by
 obtain⟨e,hW⟩:=Vt n hn ts hm ht;have hw:=S9 hn ht hW;have hl:=Ng hn hw.nd λx hx=>((hw.mem x).mp hx).isT ht
 obtain⟨Z,hp,so,es⟩:=eQ hw.nd ⋯;refine⟨Z,⟨so,λx=>hp.mem_iff.trans (hw.mem x)⟩,?_⟩;rw[← Xz]at es;simp[AAm,sX,ADz,e,es]
def NF{α:Type}{a b:List α}(hl:a.length=b.length)(h:∀ i,i < a.length->a[i]?=b[i]?):a=b:=by
 apply IM;intro i;by_cases hi:i < a.length
 ·exact h i hi
 ·grind
def MM a b:(sO a b).length=a.length:=by simp[sO]
def N7(ha:IsT n a)(hb:IsT n b)(hc:IsT n c):sO (sO a b) c=sO a (sO b c):=by
 refine NF (by simp[MM]) λi hi=>?_
 obtain⟨k,e1,k1⟩:=ha.get (by rw[MM,MM,ha.len]at hi;exact hi);obtain⟨m,e2,m1⟩:=hb.get k1;obtain⟨z,e3,z1⟩:=hc.get m1;rw[Ml (Ml e1 e2) e3,Ml e1 (Ml e2 e3)]
def O8(h:i < n):(AE n)[i]?=some i:=by simp[h]
def Mx(ha:IsT n a):sO a (AE n)=a:=by
 refine NF (by simp[MM]) λi hi=>?_
 obtain⟨k,e1,k1⟩:=ha.get (by rw[MM,ha.len]at hi;exact hi);rw[Ml e1 (O8 k1),e1]
def Mf(ha:IsT n a):sO (AE n) a=a:=by
 refine NF (by simp[MM,ha.len]) λi hi=>?_
 have hi':=by rw[MM,FY]at hi;exact hi
 obtain⟨k,e1,k1⟩:=ha.get hi';rw[Ml (O8 hi') e1,e1]
def Pj(ha:IsT n a):sO a (sR a)=AE n:=by
 refine NF (by simp[MM,ha.len]) λi hi=>?_
 have hi':=by rw[MM,ha.len]at hi;exact hi
 obtain⟨k,e1,k1⟩:=ha.get hi';rw[Ml e1 (PZ (by rw[ha.len];exact k1)),OD ha e1,O8 hi']
def mC(ha:IsT n a)(hi:i < n):a[a.idxOf i]?=some i:=by
 rw[AU (CK.mpr (ha.mem hi))];simp
def Sf(ha:IsT n a):sO (sR a) a=AE n:=by
 refine NF (by simp[MM,sR,ha.len]) λi hi=>?_
 have hi':=by rw[MM,(Lp ha).len]at hi;exact hi
 rw[Ml (PZ (by rw[ha.len];exact hi')) (mC ha hi'),O8 hi']
def dg(ha:IsT n a):sR (sR a)=a:=by
 have hb:=Lp ha;refine NF (by rw[(Lp hb).len,ha.len]) λi hi=>?_
 have hi':=by rw[(Lp hb).len]at hi;exact hi
 obtain⟨k,e1,k1⟩:=ha.get hi';rw[PZ (by rw[hb.len];exact hi'),e1];have:(sR a)[k]?=some i:=by rw[PZ (by rw[ha.len];exact k1),OD ha e1]
 rw[OD hb this]
noncomputable def Pm (n:Nat):Type:={ t:List Nat // IsT n t }
section
variable {n:Nat}
noncomputable def Pm.m (a b:Pm n):Pm n:=⟨sO a.1 b.1,Li a.2 b.2⟩
noncomputable def Pm.i (a:Pm n):Pm n:=⟨sR a.1,Lp a.2⟩
noncomputable def Pm.e:Pm n:=⟨AE n,Lq n⟩
def Pm.as(a b c:Pm n):(a.m b).m c=a.m (b.m c):=CQ (N7 a.2 b.2 c.2)
def Pm.me(a:Pm n):a.m Pm.e=a:=CQ (Mx a.2)
def Pm.em(a:Pm n):Pm.e.m a=a:=CQ (Mf a.2)
def Pm.mi(a:Pm n):a.m a.i=Pm.e:=CQ (Pj a.2)
def Pm.im(a:Pm n):a.i.m a=Pm.e:=CQ (Sf a.2)
def Pm.ii(a:Pm n):a.i.i=a:=CQ (dg a.2)
def Pm.mim(a b:Pm n):a.m (a.i.m b)=b:=by rw[← Pm.as,Pm.mi,Pm.em]
def Pm.imm(a b:Pm n):a.i.m (a.m b)=b:=by rw[← Pm.as,Pm.im,Pm.em]
def Pm.im2(a b:Pm n):(a.m b).i=b.i.m a.i:=by
 have h:(a.m b).m (b.i.m a.i)=Pm.e:=by rw[Pm.as,Pm.mim,Pm.mi]
 calc (a.m b).i=(a.m b).i.m ((a.m b).m (b.i.m a.i)):=by rw[h,Pm.me]
  _=b.i.m a.i:=Pm.imm _ _
def Pm.ie:(Pm.e:Pm n).i=Pm.e:=by rw[← Pm.em Pm.e.i,Pm.mi]
noncomputable def Pm.tb (a b:Pm n):Pm n:=(a.m b).m (a.i.m b.i)
noncomputable def Pm.ab (a s:Pm n):Pm n:=(s.i.m a).m s
def Pm.tb_l(a b c:Pm n):(a.m b).tb c=((b.tb c).ab a.i).m (a.tb c):=by
 simp[Pm.tb,Pm.ab,Pm.im2,Pm.ii,Pm.as,Pm.imm]
def Pm.tb_r(a b c:Pm n):a.tb (b.m c)=(a.tb b).m ((a.tb c).ab b.i):=by
 simp[Pm.tb,Pm.ab,Pm.im2,Pm.ii,Pm.as,Pm.imm]
def Pm.tb_e(a:Pm n):Pm.e.tb a=Pm.e:=by simp[Pm.tb,Pm.em,Pm.ie,Pm.mi]
def Pm.e_tb(a:Pm n):a.tb Pm.e=Pm.e:=by simp[Pm.tb,Pm.me,Pm.ie,Pm.mi]
def Pm.ab_m(a b s:Pm n):(a.m b).ab s=(a.ab s).m (b.ab s):=by
 simp[Pm.ab,Pm.as,Pm.mim]
def Pm.ab_ab(a s t:Pm n):a.ab (s.m t)=(a.ab s).ab t:=by simp[Pm.ab,Pm.im2,Pm.as]
def Pm.ab_e(a:Pm n):a.ab Pm.e=a:=by simp[Pm.ab,Pm.ie,Pm.em,Pm.me]
def Pm.e_ab(s:Pm n):Pm.e.ab s=Pm.e:=by simp[Pm.ab,Pm.me,Pm.im]
inductive Gen (S:Pm n->Prop):Pm n->Prop
 | e:Gen S Pm.e
 | more {x t:Pm n}:Gen S x->S t->Gen S (x.m t)
theorem Gen.mul{S}{x y:Pm n}(hx:Gen S x)(hy:Gen S y):Gen S (x.m y):=by
 induction hy with
 | e=>rw[Pm.me];exact hx
 | more _ ht ih=>rw[← Pm.as];exact ih.more ht
noncomputable def Pm.pow (a:Pm n):Nat->Pm n
 | 0=>Pm.e
 | k+1=>(a.pow k).m a
theorem Gen.pow{S}{x:Pm n}(hx:Gen S x):∀ k,Gen S (x.pow k)
 | 0=>.e
 | k+1=>(hx.pow k).mul hx
noncomputable def ACh (n:Nat) (t:List Nat):Nat->List Nat
 | 0=>AE n
 | k+1=>sO (ACh n t k) t
theorem V0(a:Pm n):∀ k,(a.pow k).1=ACh n a.1 k
 | 0=>rfl
 | k+1=>by show sO (a.pow k).1 a.1=_;rw[V0 a k];rfl
def Z4(hn:n<=5):((uW n).all λt=>decide (ACh n t 59=sR t))=true:=by
 rcases (show n=0\/n=1\/n=2\/n=3\/n=4\/n=5 by lia) with h | h | h | h | h | h <;> subst h <;> decide +kernel
def Gen.inv(hn:n<=5){S}{x:Pm n}(hx:Gen S x):Gen S x.i:=by
 have e:x.i=x.pow 59:=CQ (by rw[V0];exact (of_decide_eq_true (AJ.mp (Z4 hn) x.1 (MH x.2))).symm);rw[e];exact hx.pow 59
theorem Xu(hn:n<=5){S F}(hab:∀ f,F f->∀ s,S s->Gen F (f.ab s))(htb:∀ s t,S s->S t->Gen F (s.tb t)){a b:Pm n}(ha:Gen S a)(hb:Gen S b):Gen F (a.tb b):=by
 have c1:∀ s,S s->∀ {h},Gen F h->Gen F (h.ab s):=λs hs h hh=>by
  induction hh with
  | e=>rw[Pm.e_ab];exact .e
  | more _ ht ih=>rw[Pm.ab_m];exact ih.mul (hab _ ht s hs)
 have c2:∀ {g},Gen S g->∀ {h},Gen F h->Gen F (h.ab g):=λ{g} hg=>by
  induction hg with
  | e=>intro h hh;rw[Pm.ab_e];exact hh
  | more _ ht ih=>intro h hh;rw[Pm.ab_ab];exact c1 _ ht (ih hh)
 have c3:∀ t,S t->∀ {a},Gen S a->Gen F (a.tb t):=λt ht a ha=>by
  induction ha with
  | e=>rw[Pm.tb_e];exact .e
  | more hx hs ih=>rw[Pm.tb_l];exact (c2 (hx.inv hn) (htb _ _ hs ht)).mul ih
 induction hb with
 | e=>rw[Pm.e_tb];exact .e
 | more hy hs ih=>rw[Pm.tb_r];exact ih.mul (c2 (hy.inv hn) (c3 _ hs ha))
def Ma(ht:∀ t∈ts,IsT n t) x:vX n ts x.1 ↔ Gen (λt:Pm n=>t.1∈ts) x:=by
 constructor
 ·intro h;have:∀ {y:List Nat},vX n ts y->∀ hy,Gen (λt=>t.1∈ts) ⟨y,hy⟩:=λ{y} h=>by
   induction h with
   | still=>intro _;exact .e
   | more hx hm ih=>intro _;exact (ih (hx.isT ht)).more (t:=⟨_,ht _ hm⟩) hm
  exact this h x.2
 ·intro h;induction h with
  | e=>exact .still
  | more _ hm ih=>exact ih.more hm
end
noncomputable def v8 (a b:List Nat):List Nat:=sO (sO a b) (sO (sR a) (sR b))
noncomputable def yN (a s:List Nat):List Nat:=sO (sO (sR s) a) s
def M5(ha:IsT n a)(hb:IsT n b):IsT n (v8 a b):=Li (Li ha hb) (Li (Lp ha) (Lp hb))
def OE(ha:IsT n a)(hs:IsT n s):IsT n (yN a s):=Li (Li (Lp hs) ha) hs
theorem vX.mul(ht:∀ t∈ts,IsT n t)(hx:vX n ts x)(hy:vX n ts y):vX n ts (sO x y):=by
 induction hy with
 | still=>rw[Mx (hx.isT ht)];exact hx
 | more hy' hm ih=>rw[← N7 (hx.isT ht) (hy'.isT ht) (ht _ hm)];exact ih.more hm
theorem vX.sub(hu:∀ t∈us,IsT n t)(h:∀ t∈ts,vX n us t)(hx:vX n ts x):vX n us x:=by
 induction hx with
 | still=>exact .still
 | more _ hm ih=>exact ih.mul hu (h _ hm)
def vX.one(ht:∀ t∈ts,IsT n t)(h:t∈ts):vX n ts t:=by
 have:=(vX.still (n:=n)).more h;rwa [Mf (ht t h)]at this
noncomputable def uO (X:List (List Nat)):List (List tu×T):=X.map λt=>(uS t,.a (.bl true))
def lJ(h:t∉X)(hl:X.length < AC):yf [] (.inr (uO X)) (sF t) (.a (.bl true))=some (.inr (uO (X++[t]))):=by
 show (uv (uG t)).bind _=_;rw[ND];have:(uO X).length < AC:=by simpa [uO] using hl
 have e:wZ (uO X) (uS t) (.a (.bl true))=uO (X++[t]):=by
  unfold wZ;have:((uO X).any λkv=>decide (kv.1=uS t))=false:=by
   rw[List.any_eq_false];intro kv hkv;obtain⟨u,hu,rfl⟩:=Ao.mp hkv;simp;exact λe=>h (Q0 e ▸ hu)
  rw[this];simp[uO]
 rw[← e];simp[this]
def gV X:vS (uO X)=X.map sF:=by
 simp only[vS,uO,Ec];refine Dl λp _=>?_
 simp[uz,uS,kV,IU]
def Nj n t (h:IsT n t) (hn:n<=5):xp [.v (sF t)]=some (.v (sF (sR t)),[]):=by
 obtain⟨o',e⟩:=N9 (λ(i:Nat)=>iT i) (λi=>iT (t.idxOf i)) (de:=O7) (R:=[~~~(sF t)]) (AE n) (λi hi=>by
  simp[O7,P6 t,UY t,(Uq (h.mem (show i < n by simpa using hi))),tM]) none
 simp[xp,sX,AEV,h.len,Mg n ⋯,(NQ n),e,sR]
noncomputable def wW (X:List (List Nat)) (t:List Nat):List (List Nat):=if t∈X then X else X++[t]
def T8:x∈wW X t ↔ x∈X\/x=t:=by
 unfold wW;split
 ·simp_all
 ·simp
def Tw(h:X.Nodup):(wW X t).Nodup:=by
 unfold wW;split
 ·exact h
 ·rename_i hm;rw[Fc];exact⟨h,by simp,λx hx y hy e=>hm (by rw[AD.mp hy]at e;exact e ▸ hx)⟩
def ao(hl:X.length < AC):yf [] (.inr (uO X)) (sF t) (.a (.bl true))=some (.inr (uO (wW X t))):=by
 unfold wW;split
 ·rename_i h;show (uv (uG t)).bind _=_;rw[ND];have l:(uO X).length < AC:=by simpa [uO] using hl
  have e:wZ (uO X) (uS t) (.a (.bl true))=uO X:=by
   unfold wZ;have:((uO X).any λkv=>decide (kv.1=uS t))=true:=B3.mpr ⟨(uS t,.a (.bl true)),Ao.mpr ⟨t,h,rfl⟩,by simp⟩;rw[if_pos this];have:∀ kv∈uO X,(if kv.1=uS t then (kv.1,(.a (.bl true))) else kv)=id kv:=λkv hkv=>by
    obtain⟨u,hu,rfl⟩:=Ao.mp hkv;split <;> rfl
   rw[Dl this,List.map_id]
  simp[e,l]
 ·rename_i h;exact lJ h hl
def ah n (hn:n<=5) a b (ha:IsT n a) (hb:IsT n b):AAg [.v (sF a),.v (sF b)]=some (.v (sF (v8 a b)),[]):=by
 have e2:=Nj n a ha hn;have e3:=Nj n b hb hn;have e5:=Mz n _ _ (Li ha hb) (Li (Lp ha) (Lp hb)) hn;unfold v8;simp[AAg,sX,AEf,(Mz n a b ha hb hn),e2,e3,(Mz n _ _ (Lp ha) (Lp hb) hn),e5]
theorem Xm n (hn:n<=5) a (ha:IsT n a) c zv:∀ (us X:List (List Nat)) o4,(∀ u∈us,IsT n u)->X.Nodup->(∀ x∈X,IsT n x)->∃ o4',
  tX (sJ 4) Oa (us.map sF) [c,zv,some (.d (.inr (uO X))),~~~(sF a),o4]=↥([c,zv,some (.d (.inr (uO (us.foldl (λX b=>wW X (v8 a b)) X)))),~~~(sF a),o4']):=by
 intro us;induction us with
 | nil=>intro X o4 _ _ _;exact⟨o4,by rw[B4];rfl⟩
 | cons b r ih =>
  intro X o4 hu nd hX;have hb:=hu b AH;have e1:=ah n hn a b ha hb;have hl:=Ng hn nd hX;obtain⟨p4,e2⟩:=ih (wW X (v8 a b)) (~~~(sF b)) (λu h=>hu u (AI _ h)) (Tw nd) (λx hx=>(T8.mp hx).elim (hX x) λe=>e ▸ M5 ha hb);refine⟨p4,?_⟩;have turn:Oa [c,zv,some (.d (.inr (uO X))),~~~(sF a),~~~(sF b)]=↥([c,zv,some (.d (.inr (uO (wW X (v8 a b))))),~~~(sF a),~~~(sF b)]):=by
   generalize sF a=R1 at *;generalize sF b=R2 at *;simp[Oa,e1,(ao (X:=X) (Mm ⋯))]
  rw[AY,Lr ↥1 turn];exact e2
theorem UQ a:∀ (us X:List (List Nat)) x,x∈us.foldl (λX b=>wW X (v8 a b)) X ↔ x∈X\/∃ b∈us,x=v8 a b
 | [],X,x=>by simp
 | b::r,X,x=>by
  rw[Di,UQ a r,T8];simp[ or_assoc]
theorem SF a:∀ (us X:List (List Nat)),X.Nodup->(us.foldl (λX b=>wW X (v8 a b)) X).Nodup
 | [],X,h=>h
 | b::r,X,h=>SF a r _ (Tw h)
theorem bo n (hn:n<=5) (Z:List (List Nat)) (hz:∀ u∈Z,IsT n u) (hl:Z.length<=120) c:∀ (us X:List (List Nat)) o3 o4,(∀ u∈us,IsT n u)->X.Nodup->(∀ x∈X,IsT n x)->∃ Y o3' o4',Y.Nodup/\(∀ x,x∈Y ↔ x∈X\/∃ a∈us,∃ b∈Z,x=v8 a b) /\
  tX (sJ 3) Ov (us.map sF) [c,~~~(.t (Z.map sF)),some (.d (.inr (uO X))),o3,o4]=↥([c,~~~(.t (Z.map sF)),some (.d (.inr (uO Y))),o3',o4']):=by
 intro us;induction us with
 | nil=>intro X o3 o4 _ nd _;exact⟨X,o3,o4,nd,by simp,by rw[B4,MB]⟩
 | cons a r ih =>
  intro X o3 o4 hu nd hX;have ha:=hu a AH;obtain⟨p4,e1⟩:=Xm n hn a ha c (~~~(.t (Z.map sF))) Z X o4 hz nd hX;have nd1:=SF a Z X nd;have m1:=UQ a Z X;generalize Z.foldl (λX b=>wW X (v8 a b)) X=X1 at *;obtain⟨Y,q3,q4,ndY,hY,e2⟩:=ih X1 (~~~(sF a)) p4 (λu h=>hu u (AI _ h)) nd1 (λx hx=>((m1 x).mp hx).elim (hX x) λ⟨b,hb,e⟩=>e ▸ M5 ha (hz b hb));refine⟨Y,q3,q4,ndY,λx=>?_,?_⟩
  ·rw[hY,m1];simp[ or_assoc]
  ·have g:Z.length<=AC:=Ld ⋯;have turn:Ov [c,~~~(.t (Z.map sF)),some (.d (.inr (uO X))),~~~(sF a),o4]=↥([c,~~~(.t (Z.map sF)),some (.d (.inr (uO X1))),~~~(sF a),p4]):=by
    simp[Ov,gd,g,e1]
   rw[AY,Lr ↥1 turn];exact e2
def Z8 n (hn:n<=5) (Z:List (List Nat)) (hz:∀ u∈Z,IsT n u) (hl:Z.length<=120):∃ W Y,(∀ x,x∈W ↔ ∃ a∈Z,∃ b∈Z,x=v8 a b)/\yT n W Y/\ABs [.v (iT n),.v (.t (Z.map sF))]=some (.v (.t (Y.map sF)),[]):=by
 obtain⟨W,o3,o4,nd,hW,e1⟩:=bo n hn Z hz hl (~~~(iT n)) Z [] none none hz .nil (λx hx=>nomatch hx);have hWT:∀ w∈W,IsT n w:=λw hw=>by
  rcases (hW w).mp hw with h | ⟨a,ha,b,hb,rfl⟩
  ·cases h
  ·exact M5 (hz a ha) (hz b hb)
 obtain⟨Y,hY,e2⟩:=OU n hn W (by have:=Ng hn nd hWT;lia) hWT;refine⟨W,Y,λx=>by simpa using hW x,hY,?_⟩;have g:Z.length<=AC:=Ld ⋯;have d0:uO []=[]:=rfl;rw[d0]at e1;simp[ABs,sX,ACz,gd,g,e1,(gV W),e2]
noncomputable def wM (y j:Nat):Nat:=y / 8 ^ j % 8
noncomputable def vL (x y:Nat):Nat:=wM y (wM x 0)+8 * wM y (wM x 1)+64 * wM y (wM x 2)+512 * wM y (wM x 3)+4096 * wM y (wM x 4)
noncomputable def ABx (x:Nat):Nat:=8 ^ wM x 1+2 * 8 ^ wM x 2+3 * 8 ^ wM x 3+4 * 8 ^ wM x 4
noncomputable def xG (x y:Nat):Nat:=vL (vL x y) (vL (ABx x) (ABx y))
noncomputable def tD:List Nat->Nat
 | [a,b,c,d,e]=>a+8 * b+64 * c+512 * d+4096 * e
 | _=>0
noncomputable def hC (x:Nat):Nat:=x % 151
noncomputable def AAu (x:Nat):List Nat->List Nat×Nat->List Nat×Nat
 | [],s=>s
 | g::gs,s=>AAu x gs (if s.2.testBit (hC (vL x g)) then s else (vL x g::s.1,s.2 ||| 1 <<< hC (vL x g)))
noncomputable def ACb (gs:List Nat):Nat->List Nat×Nat->Nat
 | 0,s=>s.2
 | f+1,s=>match s.1 with
  | []=>s.2
  | x::r=>ACb gs f (AAu x gs (r,s.2))
noncomputable def yk (gs:List Nat):Nat:=ACb gs 61 ([18056],1 <<< hC 18056)
noncomputable def ug:List Nat:=[18056,10440,13576,14416,17104,5904,17496,6296,8984,9824,12960,5344,14465,17601,9985,17937,2257,12561,10265,16537,1305,13345,1697,8417,17986,6338,13058,14346,16586,1802,16922,2138,4378,5666,12386,738,10307,17027,5379,17419,2187,8459,6163,16467,787,8739,1123,4259,13380,5764,8900,9740,12428,1228,12820,1620,4308,5148,8284,668]
noncomputable def yo:List Nat:=[10440,14416,17104,5904,6296,8984,5344,14465,17601,9985,17937,2257,12561,10265,16537,1305,13345,1697,8417,14346,16586,1802,16922,5666,2187,8459,16467,4259,1228,1620,668]
noncomputable def MA:Nat:=1982271597707175918497259903353675922372478746
noncomputable def zS:List (Nat×List Nat):=[(176989366135318092298836660778220619072000,[10440,14416]),(174225901091516471637251841152793560219648,[10440,14465]),(2961987862863309010044451795838781629661194,[10440,14346]),(1993841993832118675449624559605645314,[14416,14465]),(356811923176489970459820188013581068826312712,[14416,17601]),(178407322717712669040884465917645782825567232,[14416,9985]),(1298074369388017734082701301907712,[14416,2187]),(2893106271200931406358775571593583265024,[17104,17601]),(2722260233441877083937261410885324242944,[17104,1228]),(2787593815728400155206133827323031471161856,[5904,9985]),(154742504910672536509907720,[5904,8459]),(43906102800744763929740081298721996800,[6296,14465]),(42535336430091862204083153672423343106,[6296,14346]),(87113620352072852522699750267293786964224,[8984,14465]),(21778072781014469761272952212434534285314,[8984,17601]),(41538375023361136325683119452061704,[8984,9985]),(2787593149816328047547824937086524745319424,[8984,1802]),(5575198263982850675328026625366730735617048,[5344,14465]),(193428131714801489044045824,[5344,17601]),(1438403509823095932750971923654936685399507202,[5344,9985]),(170141183460624578700102258717794238464,[5344,16586])]
noncomputable def inM (c m:Nat):Bool:=c &&& m == m
noncomputable def pwC (r:Nat):List Nat:=[r,vL r r,vL (vL r r) r,vL (vL (vL r r) r) r]
def blk{α:Type}(l:List α) b m (hb:0 < b) (hl:l.length<=b * m) {x} (hx:x∈l):∃ i,i < m/\x∈(l.drop (b * i)).take b:=by
 obtain⟨k,hk,rfl⟩:=CN hx;have h1:k / b < m:=Nat.div_lt_of_lt_mul ⋯;have h2:k % b < b:=Ky _ hb;have h3:b * (k / b)+k % b=k:=Nat.div_add_mod _ _;refine⟨k / b,h1,List.mem_iff_getElem?.mpr ⟨k % b,?_⟩⟩;rw[EB h2,Hs,h3,AU hk]
def Pw{α:Type}{l:List α}{P} b m (hb:0 < b) (hl:l.length<=b * m) (h:∀ i,i < m->((l.drop (b * i)).take b).all P=true):l.all P=true:=AJ.mpr λx hx=>by
 obtain⟨i,hi,hm⟩:=blk l b m hb hl hx;exact AJ.mp (h i hi) x hm
noncomputable def AEK:List Nat:=(uW 5).map tD
noncomputable abbrev p2 (x:Nat):Bool:=AEK.all λy=>ug.contains (xG x y)
noncomputable abbrev p5 (r:Nat):Bool:=yo.all λs=>decide (s<=r) || xG r s == 18056 || inM (yk [r,s]) MA || zS.any λp=>inM (yk [r,s]) p.1
noncomputable abbrev p6 (p:Nat×List Nat):Bool:=yo.all λr=>p.1.testBit (hC r) || inM (yk (r::p.2)) MA
def kC2:AEK.all p2=true:=Pw 8 15 ∅ ↥4 λi hi=>by
 iterate 15
  rcases i with _ | i
  ·decide +kernel
 lia
def kC5:yo.all p5=true:=Pw 4 8 ∅ ↥4 λi hi=>by
 iterate 8
  rcases i with _ | i
  ·decide +kernel
 lia
def kC6:zS.all p6=true:=Pw 1 21 ∅ ↥4 λi hi=>by
 iterate 21
  rcases i with _ | i
  ·decide +kernel
 lia
def kC1:(ug.all λa=>ug.all λb=>hC a != hC b || a == b)=true:=↥4
def kC3:(ug.all λa=>a == 18056 || yo.any λr=>(pwC a).contains r && (pwC r).contains a)=true:=↥4
def kC4:(yo.all λr=>yo.all λs=>xG r s != 18056 || (pwC r).all λa=>(pwC s).all λb=>xG a b == 18056)=true:=↥4
def kC7:(zS.all λp=>(p.2.all λg=>ug.contains g && p.1.testBit (hC g)) && p.1.testBit (hC 18056) && yo.all λr=>!p.1.testBit (hC r) || (pwC r).all λa=>p.1.testBit (hC a))=true:=↥4
def kC9:(zS.all λp=>((ug.filter λa=>p.1.testBit (hC a)).flatMap λa=>(ug.filter λa=>p.1.testBit (hC a)).map (xG a)).eraseDups.all λx=>((ug.filter λa=>p.1.testBit (hC a)).flatMap λa=>(ug.filter λa=>p.1.testBit (hC a)).map (xG a)).eraseDups.all λy=>xG x y == 18056)=true:=↥4
def AEa:(inM (yk [xG 10440 14416,xG 10440 16922]) MA && ug.contains 10440 && ug.contains 14416 && ug.contains 16922 && ug.all λa=>MA.testBit (hC a))=true:=rfl
def AEt:((uW 5).all λt=>tD (sR t) == ABx (tD t))=true:=↥4
def AEv:(yo.all λr=>yo.all λs=>(xG r s == 18056) == (xG s r == 18056) && (r != s || xG r s == 18056))=true:=↥4
theorem ABt(h:IsT 5 t):∃ a b c d e,t=[a,b,c,d,e]/\a < 5/\b < 5/\c < 5/\d < 5/\e < 5:=by
 match t,h.len,h.lt with
 | [a,b,c,d,e],_,l=>exact⟨a,b,c,d,e,rfl,l a ↥1,l b ↥1,l c ↥1,l d ↥1,l e ↥1⟩
def dg8{a:Nat}(h:a < 5) n:(a+8 * n) % 8=a/\(a+8 * n) / 8=n:=by lia
def xQ{a:Nat}(h:a < 5) n j:wM (a+8 * n) (j+1)=wM n j:=by
 unfold wM;rw[Nat.pow_succ',← Nat.div_div_eq_div_mul,(dg8 h n).2]
def ABD{a:Nat}(h:a < 5) n:wM (a+8 * n) 0=a:=by
 unfold wM;rw[Nat.pow_zero,Nat.div_one,(dg8 h n).1]
def MG(h:IsT 5 t)(hj:j < 5):wM (tD t) j=t.getD j 0:=by
 obtain⟨a,b,c,d,e,rfl,h0,h1,h2,h3,h4⟩:=ABt h;rw[show tD [a,b,c,d,e]=a+8 * (b+8 * (c+8 * (d+8 * (e+8 * 0)))) by simp only[tD];lia];rcases j with _ | _ | _ | _ | _ | j
 ·exact ABD h0 _
 ·rw[xQ h0];exact ABD h1 _
 ·rw[xQ h0,xQ h1];exact ABD h2 _
 ·rw[xQ h0,xQ h1,xQ h2];exact ABD h3 _
 ·rw[xQ h0,xQ h1,xQ h2,xQ h3];exact ABD h4 _
 ·lia
def N5(ha:IsT 5 a)(hb:IsT 5 b):tD (sO a b)=vL (tD a) (tD b):=by
 have e0:=MG ha (show 0 < 5 by decide);have e1:=MG ha (show 1 < 5 by decide);unfold vL;rw[e0,e1,(MG ha (show 2 < 5 by decide)),(MG ha (show 3 < 5 by decide)),(MG ha (show 4 < 5 by decide))];obtain⟨p,q,r,s,t,rfl,h0,h1,h2,h3,h4⟩:=ABt ha;show tD [b.getD p 0,b.getD q 0,b.getD r 0,b.getD s 0,b.getD t 0]=wM (tD b) p+8 * wM (tD b) q+64 * wM (tD b) r+512 * wM (tD b) s+4096 * wM (tD b) t;rw[MG hb h0,MG hb h1,MG hb h2,MG hb h3,MG hb h4];rfl
def QU(ha:IsT 5 a)(hb:IsT 5 b)(h:tD a=tD b):a=b:=by
 have e:=λj hj=>(MG ha (j:=j) hj).symm.trans ((congrArg (wM · j) h).trans (MG hb hj))
 obtain⟨p,q,r,s,t,rfl,_⟩:=ABt ha;obtain⟨p',q',r',s',t',rfl,_⟩:=ABt hb;rw[show p=p' from e 0 ∅,show q=q' from e 1 ∅,show r=r' from e 2 ∅,show s=s' from e 3 ∅,show t=t' from e 4 ∅]
def SK(ha:IsT 5 a):tD (sR a)=ABx (tD a):=beq_iff_eq.mp (AJ.mp AEt a (MH ha))
def N6(ha:IsT 5 a)(hb:IsT 5 b):tD (v8 a b)=xG (tD a) (tD b):=by
 unfold v8 xG;rw[N5 (Li ha hb) (Li (Lp ha) (Lp hb)),N5 ha hb,N5 (Lp ha) (Lp hb),SK ha,SK hb]
def OV:tD (AE 5)=18056:=rfl
def Us(ha:IsT 5 a)(hb:IsT 5 b)(h:xG (tD a) (tD b)=18056):v8 a b=AE 5:=QU (M5 ha hb) (Lq 5) (by rw[N6 ha hb,h,OV])
structure H5(Z:List (List Nat)):Prop where
 tr:∀ z∈Z,IsT 5 z
 ev:∀ z∈Z,tD z∈ug
 st:AE 5∈Z
 mul:∀ a∈Z,∀ b∈Z,sO a b∈Z
def PC (Z:List (List Nat)) (y:Nat):Prop:=∃ t∈Z,tD t=y
def VU(hc:inM c m=true)(hi:m.testBit i=true):c.testBit i=true:=by
 have:=congrArg (λx=>Nat.testBit x i) (beq_iff_eq.mp hc);simp[ hi]at this;exact this
def kR(hm:m∈ug):MA.testBit (hC m)=true:=by
 have:=AEa;simp only[Ar]at this;exact AJ.mp this.2 m hm
section
variable {Z:List (List Nat)}(h:H5 Z)
include h
theorem PC.mul(hx:PC Z x)(hy:PC Z y):PC Z (vL x y):=by
 obtain⟨a,ha,rfl⟩:=hx;obtain⟨b,hb,rfl⟩:=hy;exact⟨_,h.mul a ha b hb,N5 (h.tr a ha) (h.tr b hb)⟩
theorem PC.pw(hr:PC Z r):∀ a∈pwC r,PC Z a:=by
 have h2:=PC.mul h hr hr;have h3:=PC.mul h h2 hr;intro a ha;simp[pwC,or_false]at ha;rcases ha with rfl | rfl | rfl | rfl
 ·exact hr
 ·exact h2
 ·exact h3
 ·exact (PC.mul h h3 hr)
theorem PC.inA(hy:PC Z y):y∈ug:=by obtain⟨a,ha,rfl⟩:=hy;exact h.ev a ha
theorem RG(hx:PC Z x):∀ gs s,(∀ g∈gs,PC Z g)->((∀ y∈s.1,PC Z y)/\∀ i,s.2.testBit i=true->∃ y,PC Z y/\hC y=i)->((∀ y∈(AAu x gs s).1,PC Z y)/\∀ i,(AAu x gs s).2.testBit i=true->∃ y,PC Z y/\hC y=i)
 | [],s,_,hs=>hs
 | g::gs,s,hg,hs=>by
  have hp:=PC.mul h hx (hg g AH);unfold AAu;refine RG hx gs _ (λz hz=>hg z (AI _ hz)) ?_;split
  ·exact hs
  ·refine⟨λy hy=>?_,λi hi=>?_⟩
   ·rcases AN.mp hy with e | e
    ·rw[e];exact hp
    ·exact hs.1 y e
   ·rw[Nat.testBit_or,Cc,Ig,Ht]at hi;rcases hi with z | z
    ·exact hs.2 i z
    ·exact⟨_,hp,of_decide_eq_true z⟩
theorem RT gs (hg:∀ g∈gs,PC Z g):∀ f s,((∀ y∈s.1,PC Z y)/\∀ i,s.2.testBit i=true->∃ y,PC Z y/\hC y=i)->∀ i,(ACb gs f s).testBit i=true->∃ y,PC Z y/\hC y=i
 | 0,s,hs | f+1,([],m),hs=>hs.2
 | f+1,(x::r,m),hs=>RT gs hg f _ (RG h (hs.1 x AH) gs (r,m) hg ⟨λy hy=>hs.1 y (AI _ hy),hs.2⟩)
theorem Rh(hg:∀ g∈gs,PC Z g)(hm:m∈ug)(hb:(yk gs).testBit (hC m)=true):PC Z m:=by
 have he:PC Z 18056:=⟨_,h.st,OV⟩
 obtain⟨y,hy,e⟩:=RT h gs hg 61 ([18056],1 <<< hC 18056) ⟨λy hy=>AD.mp hy ▸ he,λi hi=>by rw[Ig,Ht]at hi;exact⟨_,he,of_decide_eq_true hi⟩⟩ _ hb;have:=AJ.mp (AJ.mp kC1 y (PC.inA h hy)) m hm;simp at this;rcases this with z | z
 ·exact absurd e z
 ·exact z ▸ hy
theorem OM(hg:∀ g∈gs,PC Z g)(hf:inM (yk gs) MA=true):∀ m∈ug,PC Z m:=λm hm=>Rh h hg hm (VU hf (kR hm))
theorem Qc(ha:a∈Z):a=AE 5\/∃ r∈yo,PC Z r/\tD a∈pwC r:=by
 have:=AJ.mp kC3 _ (h.ev a ha);rw[Cc,beq_iff_eq,B3]at this;rcases this with z | ⟨r,hr,z⟩
 ·exact .inl (QU (h.tr a ha) (Lq 5) (z.trans OV.symm))
 ·simp at z;exact .inr ⟨r,hr,PC.pw h ⟨a,ha,rfl⟩ r z.1,z.2⟩
theorem Te(hr:r∈yo)(hs:s∈yo)(pr:PC Z r)(ps:PC Z s)(hlt:r < s)(hn:xG r s≠18056):(∀ m∈ug,PC Z m)\/∃ p∈zS,∀ m∈ug,p.1.testBit (hC m)=true->PC Z m:=by
 have k5:=AJ.mp (AJ.mp kC5 r hr) s hs;simp only[Cc,decide_eq_true_eq,beq_iff_eq,B3]at k5;have hg:∀ g∈[r,s],PC Z g:=λg hg=>by
  rcases AN.mp hg with z | z
  ·rw[z];exact pr
  ·rw[AD.mp z];exact ps
 rcases k5 with ((z | z) | z) | ⟨p,hp,z⟩
 ·lia
 ·exact absurd z hn
 ·exact .inl (OM h hg z)
 ·exact .inr ⟨p,hp,λm hm hb=>Rh h hg hm (VU z hb)⟩
theorem kC:(∀ a∈Z,∀ b∈Z,v8 a b=AE 5)\/(∀ m∈ug,PC Z m)\/∀ a∈Z,∀ b∈Z,∀ c∈Z,∀ d∈Z,v8 (v8 a b) (v8 c d)=AE 5:=by
 by_cases hc:∃ r∈yo,∃ s∈yo,PC Z r/\PC Z s/\xG r s≠18056
 ·obtain⟨r,hr,s,hs,pr,ps,hn⟩:=hc;have k12:=AJ.mp (AJ.mp AEv r hr) s hs;rw[Ar,beq_iff_eq,Cc,bne_iff_ne,beq_iff_eq]at k12;have hn':xG s r≠18056:=λz=>hn (by
   have:=k12.1;rw[beq_iff_eq.mpr z]at this;exact beq_iff_eq.mp this)
  have:(∀ m∈ug,PC Z m)\/∃ p∈zS,∀ m∈ug,p.1.testBit (hC m)=true->PC Z m:=by
   rcases IS (k12.2.resolve_right hn) with z | z
   ·exact Te h hr hs pr ps z hn
   ·exact Te h hs hr ps pr z hn'
  rcases this with z | ⟨p,hp,hM⟩
  ·exact .inr (.inl z)
  ·have k7:=AJ.mp kC7 p hp;rw[Ar,Ar]at k7;obtain⟨⟨k7g,k7e⟩,k7r⟩:=k7;by_cases hz:∃ q∈yo,PC Z q/\¬ p.1.testBit (hC q)=true
   ·obtain⟨q,hq,pq,hb⟩:=hz;have k6:=AJ.mp (AJ.mp kC6 p hp) q hq;rw[Cc]at k6;refine .inr (.inl (OM h (λg hg=>?_) (k6.resolve_left hb)));rcases AN.mp hg with e | e
    ·rw[e];exact pq
    ·have:=AJ.mp k7g g e;rw[Ar,DY]at this;exact hM g this.1 this.2
   ·have inm:∀ z∈Z,tD z∈ug.filter λa=>p.1.testBit (hC a):=λz hzm=>by
     refine Bu.mpr ⟨h.ev z hzm,?_⟩;rcases Qc h hzm with e | ⟨q,hq,pq,hm⟩
     ·rw[e];exact k7e
     ·have hb:=Dm λw=>hz ⟨q,hq,pq,w⟩
      have:=AJ.mp k7r q hq;rw[hb]at this;exact AJ.mp this _ hm
    refine .inr (.inr λa ha b hb c hc d hd=>?_);have mem:∀ x∈Z,∀ y∈Z,xG (tD x) (tD y)∈((ug.filter λa=>p.1.testBit (hC a)).flatMap λa=>(ug.filter λa=>p.1.testBit (hC a)).map (xG a)).eraseDups:=λx hx y hy =>
     List.mem_eraseDups.mpr (Ie.mpr ⟨_,inm x hx,Ao.mpr ⟨_,inm y hy,rfl⟩⟩)
    have:=beq_iff_eq.mp (AJ.mp (AJ.mp (AJ.mp kC9 p hp) _ (mem a ha b hb)) _ (mem c hc d hd));refine Us (M5 (h.tr a ha) (h.tr b hb)) (M5 (h.tr c hc) (h.tr d hd)) ?_;rw[N6 (h.tr a ha) (h.tr b hb),N6 (h.tr c hc) (h.tr d hd)];exact this
 ·refine .inl λa ha b hb=>?_
  have ta:=h.tr a ha;have tb:=h.tr b hb;rcases Qc h ha with e | ⟨r,hr,pr,hm⟩
  ·subst e;exact congrArg Dx (Pm.tb_e ⟨b,tb⟩)
  ·rcases Qc h hb with e | ⟨s,hs,ps,hm'⟩
   ·subst e;exact congrArg Dx (Pm.e_tb ⟨a,ta⟩)
   ·have k4:=AJ.mp (AJ.mp kC4 r hr) s hs;rw[(Dm λw=>hc ⟨r,hr,s,hs,pr,ps,w⟩)]at k4;have k4':((pwC r).all λa=>(pwC s).all λb=>xG a b == 18056)=true:=by simpa using k4
    exact Us ta tb (beq_iff_eq.mp (AJ.mp (AJ.mp k4' _ hm) _ hm'))
end
theorem Yo(h:Gen (λ_=>False) x):x=Pm.e:=by
 cases h with
 | e=>rfl
 | more _ hf=>exact hf.elim
def yR (Z Y:List (List Nat)):Prop:=∃ W,(∀ x,x∈W ↔ ∃ a∈Z,∃ b∈Z,x=v8 a b)/\yT 5 W Y
def vT (Z:List (List Nat)):Prop:=∀ m∈ug,PC Z m
def Og{Z W:List (List Nat)}(h1:∀ z∈Z,IsT 5 z)(hW:∀ x,x∈W ↔ ∃ a∈Z,∃ b∈Z,x=v8 a b):∀ w∈W,IsT 5 w/\tD w∈ug:=λw hw=>by
 obtain⟨a,ha,b,hb,rfl⟩:=(hW w).mp hw;refine⟨M5 (h1 a ha) (h1 b hb),?_⟩;rw[N6 (h1 a ha) (h1 b hb)];exact DY.mp (AJ.mp (AJ.mp kC2 _ (Ao.mpr ⟨a,MH (h1 a ha),rfl⟩)) _ (Ao.mpr ⟨b,MH (h1 b hb),rfl⟩))
def AFM:(ug.all λx=>ug.all λy=>ug.contains (vL x y))=true:=↥4
def dM(hx:x∈ug)(hy:y∈ug):vL x y∈ug:=DY.mp (AJ.mp (AJ.mp AFM _ hx) _ hy)
def Qf{W Z}(hW:∀ w∈W,IsT 5 w/\tD w∈ug)(g:yT 5 W Z):H5 Z where
 tr:=λz hz=>((g.mem z).mp hz).isT λw hw=>(hW w hw).1
 ev:=λz hz=>by
  induction ((g.mem z).mp hz) with
  | still=>rw[OV];decide +kernel
  | more hx hm ih =>
   rw[N5 (hx.isT λw hw=>(hW w hw).1) (hW _ hm).1];exact dM (ih ((g.mem _).mpr hx)) (hW _ hm).2
 st:=(g.mem _).mpr .still
 mul:=λa ha b hb=>(g.mem _).mpr (((g.mem a).mp ha).mul (λw hw=>(hW w hw).1) ((g.mem b).mp hb))
def yR.h5(h:∀ z∈Z,IsT 5 z)(d:yR Z Y):H5 Y:=let ⟨_,hW,g⟩:=d;Qf (Og h hW) g
def yR.full(h:∀ z∈Z,IsT 5 z)(f:vT Z)(d:yR Z Y):vT Y:=by
 have H2:=d.h5 h;obtain⟨W,hW,g⟩:=d;have k10:=AEa;simp at k10;obtain⟨⟨⟨⟨ka,kb⟩,kc⟩,kd⟩,_⟩:=k10;have pt:∀ x y,x∈ug->y∈ug->PC Y (xG x y):=λx y hx hy=>by
  obtain⟨a,ha,rfl⟩:=f x hx;obtain⟨b,hb,rfl⟩:=f y hy;exact⟨v8 a b,(g.mem _).mpr (vX.one (λw hw=>(Og h hW w hw).1) ((hW _).mpr ⟨a,ha,b,hb,rfl⟩)),N6 (h a ha) (h b hb)⟩
 exact OM H2 (λg hg=>by
  rcases AN.mp hg with z | z
  ·rw[z];exact pt _ _ kb kc
  ·rw[AD.mp z];exact pt _ _ kb kd) ka
def PC.mem(h:∀ z∈Z,IsT 5 z)(ht:IsT 5 t)(p:PC Z (tD t)):t∈Z:=by
 obtain⟨a,ha,e⟩:=p;rw[← QU (h a ha) ht e];exact ha
def yR.fix(sz:Z.Pairwise vx)(H:H5 Z)(f:vT Z)(d:yR Z Y):Y=Z:=by
 have H2:=d.h5 H.tr;have f2:=d.full H.tr f;obtain⟨W,hW,g⟩:=d;exact Zl g.so sz λx=>⟨λhx=>PC.mem H.tr (H2.tr x hx) (f _ (H2.ev x hx)),λhx=>PC.mem H2.tr (H.tr x hx) (f2 _ (H.ev x hx))⟩
def ACP(H:H5 Z)(nf:¬ vT Z)(d:yR Z Y)(e:yR Y X):X.length<=1:=by
 have hc:∀ a∈Z,∀ b∈Z,∀ c∈Z,∀ d∈Z,v8 (v8 a b) (v8 c d)=AE 5:=by
  rcases kC H with c | c | c
  ·exact λa ha b hb c' hc' d hd=>by rw[c a ha b hb,c c' hc' d hd];exact congrArg Dx (Pm.tb_e (Pm.e:Pm 5))
  ·exact absurd c nf
  ·exact c
 obtain⟨W1,hW1,g2⟩:=d;obtain⟨W2,hW2,g3⟩:=e;have w1t:=λw hw=>(Og H.tr hW1 w hw).1
 have w2:∀ w∈W2,w=AE 5:=λw hw=>by
  obtain⟨p,hp,q,hq,rfl⟩:=(hW2 w).mp hw;have rp:=(g2.mem p).mp hp;have rq:=(g2.mem q).mp hq;have:=Xu (AF 5) (F:=λ_=>False) (λ_ z=>z.elim) (λs t hs ht=>by
   obtain⟨a,ha,b,hb,ea⟩:=(hW1 s.1).mp hs;obtain⟨c,hcm,d,hd,eb⟩:=(hW1 t.1).mp ht;have e:s.tb t=Pm.e:=CQ (by show v8 s.1 t.1=AE 5;rw[ea,eb];exact hc a ha b hb c hcm d hd);rw[e];exact .e) ((Ma w1t ⟨p,rp.isT w1t⟩).mp rp) ((Ma w1t ⟨q,rq.isT w1t⟩).mp rq)
  exact congrArg Dx (Yo this)
 have z3:∀ x∈X,x=AE 5:=λx hx=>by
  have:=(g3.mem x).mp hx;induction this with
  | still=>rfl
  | more hx' hm ih=>rw[ih ((g3.mem _).mpr hx'),w2 _ hm];exact Mf (Lq 5)
 have:=M7 X [AE 5] g3.nd λx hx=>AD.mpr (z3 x hx)
 simpa using this
noncomputable def Sl:Nat->List (List Nat)->Prop
 | 0,Z=>Z.length<=1
 | k+1,Z=>Z.length<=1\/∀ Y,yR Z Y->¬ Y=Z/\Sl k Y
def zo(H:H5 Z)(nf:¬ vT Z)(hs:∀ Y,yR Z Y->∀ y∈Y,y∈Z):Sl 2 Z:=by
 by_cases h1:Z.length<=1
 ·exact .inl h1
 refine .inr λY d=>⟨λe=>h1 ?_,?_⟩
 ·rw[e]at d;exact ACP H nf d d
 ·by_cases h2:Y.length<=1
  ·exact .inl h2
  ·exact .inr λX e=>⟨λz=>h2 (by have:=ACP H nf d e;rw[z]at this;exact this),ACP H nf d e⟩
theorem Wp:∀ t,An (tF t)=true
 | []=>by kernel_rfl
 | k::r=>by have:=Wp r;simp[tF]at this ⊢;simp[An,Bd,this]
theorem Pz:∀ Z:List (List Nat),An (Z.map λt=>.tuple (tF t))=true
 | []=>by kernel_rfl
 | t::r=>by have:=Pz r;simp[An,Bd,Wp t,this]
def eR a b:BF (.tuple (tF a)) (.tuple (tF b))=decide (a=b):=by
 have h:∀ t,tF t=(t.map λ(k:Nat)=>(k:Int)).map Cp:=λt=>by simp[tF]
 rw[h,h,L2.zB];by_cases e:a=b
 ·subst e;simp
 ·rw[decide_eq_false e,decide_eq_false λz=>e (T6 z)]
theorem P1:∀ Z:List (List Nat),ue (Z.map sF)=some (Z.map λt=>.tuple (tF t))
 | []=>rfl
 | t::r=>by
  have e:yQ (sF t)=some (.tuple (tF t)):=by
   simp[yQ,(Om t)]
  rw[AY,ue,e,P1 r];rfl
def cG f Γ (h1:ue xs=some ds) (h2:ue ys=some es) (c1:An ds=true) (c2:An es=true) (dp:Bf ds < 100):wH f Γ (.v (.t xs)) (.v (.t ys))= ~~~(.a (.bl (f (.tuple ds) (.tuple es)))):=by
 have e1:wY Γ (.v (.t xs))=some (.tuple ds):=by simp[wY,yQ,h1]
 have e2:wY Γ (.v (.t ys))=some (.tuple es):=by simp[wY,yQ,h2]
 unfold wH;rw[e1,e2,Ai,Ai,if_pos ⟨by simp[Bd];exact c1,by simp[Bd];exact c2,Ah (Nat.min_le_left _ _) ‹_›⟩];rfl
def Z9 Γ (h1:ue xs=some ds) (h2:ue ys=some es) (c1:An ds=true) (c2:An es=true) (dp:Bf ds < 100):uw Γ (.v (.t xs)) (.v (.t ys))= ~~~(.a (.bl (B0 ds es))):=by
 show (none.or (wH BF Γ (.v (.t xs)) (.v (.t ys))))=_;rw[ cG _ _ h1 h2 c1 c2 dp]
 kernel_rfl
theorem SE:∀ Z Y:List (List Nat),B0 (Z.map λt=>.tuple (tF t)) (Y.map λt=>.tuple (tF t))=decide (Z=Y)
 | [],[] | [],_::_ | _::_,[]=>by kernel_rfl
 | a::Z,b::Y=>by
  rw[AY,AY,B0,SE Z Y,eR];simp_all
theorem Vc:∀ Z:List (List Nat),Bf (Z.map λt=>.tuple (tF t))<=1
 | []=>by simp[Bf]
 | t::r=>by
  have:=Vc r;rw[AY,Bf,DC,PN];lia
def Yy Γ (Z Y:List (List Nat)):uw Γ (.v (.t (Z.map sF))) (.v (.t (Y.map sF)))= ~~~(.a (.bl (decide (Z=Y)))):=by
 rw[Z9 Γ (P1 Z) (P1 Y) (Pz Z) (Pz Y) (by have:=Vc Z;lia),SE]
noncomputable def Pm.of {n:Nat} (t:List Nat) (h:IsT n t):Pm n:=⟨t,h⟩
structure Cj(s:List Nat)(Z V:List (List Nat)):Prop where
 so:V.Pairwise vx
 mem:∀ x,x∈V ↔ ∃ z∈Z,x=yN z s
def Rl{S}(s:Pm n) x:Gen (λt=>∃ u,S u/\t=u.ab s) x ↔ ∃ z,Gen S z/\x=z.ab s:=by
 constructor
 ·intro h;induction h with
  | e=>exact⟨Pm.e,.e,by rw[Pm.e_ab]⟩
  | more _ ht ih =>
   obtain⟨z,hz,rfl⟩:=ih;obtain⟨u,hu,rfl⟩:=ht;exact⟨z.m u,hz.more hu,(Pm.ab_m _ _ _).symm⟩
 ·rintro ⟨z,hz,rfl⟩;induction hz with
  | e=>rw[Pm.e_ab];exact .e
  | more _ ht ih=>rw[Pm.ab_m];exact ih.more ⟨_,ht,rfl⟩
def cP{ts}(ht:∀ t∈ts,IsT n t){us s}(hs:IsT n s)(hu:∀ x,x∈us ↔ ∃ t∈ts,x=yN t s) x:vX n us x ↔ ∃ z,vX n ts z/\x=yN z s:=by
 have hut:∀ u∈us,IsT n u:=λu h=>by obtain⟨t,h',rfl⟩:=(hu u).mp h;exact OE (ht t h') hs
 have e:(λt=>t.1∈us)=λt=>∃ u:Pm n,u.1∈ts/\t=u.ab (Pm.of s hs):=funext λt=>propext (by
  rw[hu];constructor
  ·rintro ⟨u,h,e⟩;exact⟨⟨u,ht u h⟩,h,CQ e⟩
  ·rintro ⟨u,h,e⟩;exact⟨u.1,h,by rw[e];rfl⟩)
 constructor
 ·intro h;have h1:=(Ma hut ⟨x,h.isT hut⟩).mp h;rw[e]at h1;obtain⟨z,hz,e'⟩:=(Rl _ _).mp h1;exact⟨z.1,(Ma ht z).mpr hz,congrArg Dx e'⟩
 ·rintro ⟨z,hz,rfl⟩;have h1:=(Rl (Pm.of s hs) ((Pm.of z (hz.isT ht)).ab (Pm.of s hs))).mpr ⟨Pm.of z (hz.isT ht),(Ma ht ⟨z,_⟩).mp hz,rfl⟩;rw[← e]at h1;exact (Ma hut _).mpr h1
def yT.cj(ht:∀ t∈ts,IsT n t)(hs:IsT n s)(hu:∀ x,x∈us ↔ ∃ t∈ts,x=yN t s)(hZ:yT n ts Z)(hY:yT n us Y):Cj s Z Y:=
 ⟨hY.so,λx=>by rw[hY.mem,cP ht hs hu];exact⟨λ⟨z,h,e⟩=>⟨z,(hZ.mem z).mpr h,e⟩,λ⟨z,h,e⟩=>⟨z,(hZ.mem z).mp h,e⟩⟩⟩
def Pm.ab_inj{a b s:Pm n}(h:a.ab s=b.ab s):a=b:=by
 have e:∀ x:Pm n,(x.ab s).ab s.i=x:=λx=>by rw[← Pm.ab_ab,Pm.mi,Pm.ab_e]
 rw[← e a,h,e b]
def W0(ha:IsT n a)(hb:IsT n b)(hs:IsT n s)(h:yN a s=yN b s):a=b:=congrArg Dx (Pm.ab_inj (a:=Pm.of a ha) (b:=Pm.of b hb) (s:=Pm.of s hs) (CQ h))
def Cj.len{s Z V}(hz:∀ z∈Z,IsT n z)(hs:IsT n s)(hn:Z.Nodup)(h:Cj s Z V):V.length=Z.length:=by
 have nv:V.Nodup:=h.so.imp λ{a b} hab e=>by subst e;unfold vx at hab;rw[Nr]at hab;cases hab
 rw[((GR nv (D.nodup_map_on (λx hx y hy e=>W0 (hz x hx) (hz y hy) hs e) hn)).mpr λx=>by rw[h.mem,Ao];exact⟨λ⟨z,a,b⟩=>⟨z,a,b.symm⟩,λ⟨z,a,b⟩=>⟨z,a,b.symm⟩⟩).length_eq,Af]
noncomputable def gT (Z:List (List Nat)):T:=.t (Z.map sF)
noncomputable def chT (wd:Str) (gs:List (List (List Nat))):T:=.t [.a (.str wd),.t (gs.map gT)]
def xV (n:Nat) (Z:List (List Nat)):Prop:=∃ ts,(∀ t∈ts,IsT n t)/\yT n ts Z
def xV.tr(h:xV n Z):∀ z∈Z,IsT n z:=λz hz=>by obtain⟨ts,ht,g⟩:=h;exact ((g.mem z).mp hz).isT ht
theorem xV.len(h:xV n Z)(hn:n<=5):Z.length<=120:=by obtain⟨ts,ht,g⟩:=h;exact g.len hn ht
theorem xV.so(h:xV n Z):Z.Pairwise vx:=by obtain⟨ts,ht,g⟩:=h;exact g.so
def xV.tb(hn:n<=5)(h:xV n Z)(ha:a∈Z)(hb:b∈Z):v8 a b∈Z:=by
 obtain⟨ts,ht,g⟩:=h;have h1:=(Ma ht ⟨a,((g.mem a).mp ha).isT ht⟩).mp ((g.mem a).mp ha);have h2:=(Ma ht ⟨b,((g.mem b).mp hb).isT ht⟩).mp ((g.mem b).mp hb);exact (g.mem _).mpr ((Ma ht _).mpr ((h1.mul h2).mul ((h1.inv hn).mul (h2.inv hn))))
noncomputable def zu (n:Nat) (o1 o3:Option G) (gs:List (List (List Nat))):En:=[~~~(iT (n:Int)),o1,some (.l (gs.map gT)),o3]
def O9 n o1 o3 gs Z:Nq (zu n o1 o3 (gs++[Z]))=some (decide (1 < Z.length),zu n o1 o3 (gs++[Z])):=by
 have at1:vB ((gs++[Z]).map gT) (-1)=some (gT Z):=by rw[Bj];exact UV _ _
 have e:decide (1 < Z.length)=decide (1 < (Z.length:Int)):=by
  by_cases h:1 < Z.length
  ·rw[decide_eq_true h,decide_eq_true ⋯]
  ·rw[decide_eq_false h,decide_eq_false ⋯]
 rw[e];unfold zu;generalize (gs++[Z]).map gT=GV at *;unfold gT at at1;simp[Nq,at1]
def P9 n (hn:n<=5) o1 o3 gs Z (hz:∀ z∈Z,IsT n z) (hl:Z.length<=120) (hg:gs.length<=1000):∃ W Y,(∀ x,x∈W ↔ ∃ a∈Z,∃ b∈Z,x=v8 a b)/\yT n W Y /\
  NH (zu n o1 o3 (gs++[Z]))=some (if Y=Z then .rt (.v (chT "lasting" (gs++[Z]))) (zu n o1 (~~~(gT Y)) (gs++[Z])) else .nx (zu n o1 (~~~(gT Y)) (gs++[Z]++[Y]))):=by
 obtain⟨W,Y,hW,hY,e1⟩:=Z8 n hn Z hz hl;refine⟨W,Y,hW,hY,?_⟩;have at1:vB ((gs++[Z]).map gT) (-1)=some (gT Z):=by rw[Bj];exact UV _ _
 have eq:=λΓ=>Yy Γ Y Z
 have lg:((gs++[Z]).map gT).length=gs.length+1:=by simp
 have g1:gs.length+1<=AC:=Ld ⋯;have g2:gs.length+1 < AC:=Mm ⋯;have ap:(gs++[Z]++[Y]).map gT=(gs++[Z]).map gT++[gT Y]:=by simp
 unfold zu chT;rw[ap];generalize (gs++[Z]).map gT=GV at *;unfold gT at *;generalize Y.map sF=YV at *;by_cases h:Y=Z
 ·rw[if_pos h];simp[ h]at *;simp[NH,at1,e1,eq]
 ·simp[ h]at *;simp[NH,at1,e1,eq,gd,lg,g1,g2]
theorem xV.sub(h:xV 5 Z)(d:yR Z Y):∀ y∈Y,y∈Z:=λy hy=>by
 obtain⟨W,hW,g⟩:=d;obtain⟨ts,ht,g0⟩:=id h;refine (g0.mem y).mpr (((g.mem y).mp hy).sub ht λw hw=>?_);obtain⟨a,ha,b,hb,rfl⟩:=(hW w).mp hw;exact (g0.mem _).mp (h.tb (AF 5) ha hb)
def xV.der(h:xV 5 Z)(d:yR Z Y):xV 5 Y:=let ⟨W,hW,g⟩:=d;⟨W,λw hw=>(Og h.tr hW w hw).1,g⟩
def sl3(h:xV 5 Z)(nf:¬ vT Z):Sl 3 Z:=by
 have up:∀ {Y},yR Z Y->H5 Y/\¬ vT Y:=λd=>⟨d.h5 h.tr,λf=>nf λm hm=>by
  obtain⟨t,ht,e⟩:=f m hm;exact⟨t,h.sub d t ht,e⟩⟩
 by_cases h1:Z.length<=1
 ·exact .inl h1
 refine .inr λY d=>⟨λe=>h1 ?_,zo (up d).1 (up d).2 λX x=>(h.der d).sub x⟩
 rw[e]at d;exact ACP (up d).1 (up d).2 d d
theorem Wo(f:vT Z):1 < Z.length:=by
 obtain⟨a,ha,e1⟩:=f 18056 ↥4;obtain⟨b,hb,e2⟩:=f 10440 ↥4
 match Z,ha,hb with
 | [],ha,_=>cases ha
 | [z],ha,hb=>rw[AD.mp ha]at e1;rw[AD.mp hb,e1]at e2;cases e2
 | _::_::_,_,_=>simp
theorem lB o1:∀ k gs Z o3 f,Sl k Z->xV 5 Z->k < f->gs.length+k<=900 ->
  ∃ more o3',more.length<=k/\(∀ g∈more,xV 5 g)/\su Nq NH f (zu 5 o1 o3 (gs++[Z]))=some (.nx (zu 5 o1 o3' (gs++[Z]++more))):=by
 intro k;induction k with
 | zero =>
  intro gs Z o3 f h hz hf hg;obtain⟨f,rfl⟩:∃ g,f=g+1:=⟨f - 1,by lia⟩
  have h1:=H9.mpr h;refine⟨[],o3,AF _,(λ_ z=>nomatch z),?_⟩;rw[L6,O9,decide_eq_false h1];simp
 | succ k ih =>
  intro gs Z o3 f h hz hf hg;obtain⟨f,rfl⟩:∃ g,f=g+1:=⟨f - 1,by lia⟩
  rw[L6,O9];by_cases h1:1 < Z.length
  ·obtain⟨W,Y,hW,hY,b⟩:=P9 5 (AF 5) o1 o3 gs Z hz.tr (hz.len (AF 5)) ⋯;have d:yR Z Y:=⟨W,hW,hY⟩
   obtain⟨ne,s⟩:=(Or.resolve_left h ⋯) Y d;rw[if_neg ne]at b;simp only[h1,decide_true,Ai,if_true];rw[b];simp only[Ai];obtain⟨more,o3',m1,m2,m3⟩:=ih (gs++[Z]) Y (~~~(gT Y)) f s (hz.der d) ⋯ ↥2;refine⟨Y::more,o3',by simp;lia,λg hg=>?_,?_⟩
   ·rcases AN.mp hg with e | e
    ·rw[e];exact hz.der d
    ·exact m2 g e
   ·rw[List.append_cons (gs++[Z]) Y more];exact m3
  ·simp only[h1,decide_false,Ai,Bool.false_eq_true,if_false];exact⟨[],o3,As _,(λ_ z=>nomatch z),by rw[Bv]⟩
def lL o1 Z o3 f (hz:xV 5 Z) (hf:vT Z) (h2:2 < f) :
  ∃ more q,more.length<=1/\(∀ g∈more,xV 5 g)/\(∃ L,(Z::more).getLast?=some L/\H5 L/\vT L)/\su Nq NH f (zu 5 o1 o3 [Z])=some (.rt (.v (chT "lasting" (Z::more))) q):=by
 obtain⟨f,rfl⟩:∃ g,f=g+2:=⟨f - 2,by lia⟩
 have c1:=O9 5 o1 o3 [] Z;rw[decide_eq_true (Wo hf)]at c1;obtain⟨W,Y,hW,hY,b⟩:=P9 5 (AF 5) o1 o3 [] Z hz.tr (hz.len (AF 5)) ∅;have d:yR Z Y:=⟨W,hW,hY⟩
 have hY5:=d.h5 hz.tr;have fY:=d.full hz.tr hf;rw[Ef]at b c1;rw[L6,c1];simp only[Ai,if_true];rw[b];by_cases e:Y=Z
 ·rw[if_pos e];exact⟨[],_,by decide,(λ_ z=>nomatch z),⟨Z,rfl,e ▸ hY5,hf⟩,rfl⟩
 ·rw[if_neg e];simp only[Ai];have c2:=O9 5 o1 (~~~(gT Y)) [Z] Y;rw[decide_eq_true (Wo fY)]at c2;obtain⟨W2,Y2,hW2,hY2,b2⟩:=P9 5 (AF 5) o1 (~~~(gT Y)) [Z] Y hY5.tr ((hz.der d).len (AF 5)) ↥1;rw[if_pos (yR.fix (hz.der d).so hY5 fY ⟨W2,hW2,hY2⟩)]at b2;rw[L6,c2];simp only[Ai];rw[b2];exact⟨[Y],_,by simp,λg hg=>by rw[AD.mp hg];exact hz.der d,⟨Y,rfl,hY5,fY⟩,rfl⟩
def i6 ts (hm:ts.length<=10000) (ht:∀ t∈ts,IsT 5 t):∃ (Z:List (List Nat)) (more:List (List (List Nat))) (wd:Str),yT 5 ts Z/\more.length<=3/\(∀ g∈more,xV 5 g) /\
  ((wd="lasting"/\vT Z/\∃ L,(Z::more).getLast?=some L/\H5 L/\vT L)\/(wd="down"/\¬ vT Z))/\AAl [.v (iT ((5:Nat):Int)),.v (.t (ts.map sF))]=some (.v (chT wd (Z::more)),[]):=by
 obtain⟨Z,hZ,e2⟩:=OU 5 (AF 5) ts ⋯ ht;have gz:xV 5 Z:=⟨ts,ht,hZ⟩
 have z1:[Z].map gT=[.t (Z.map sF)]:=rfl;by_cases hf:vT Z
 ·obtain⟨more,q,m1,m2,m3,w1⟩:=lL (~~~(.t (ts.map sF))) Z none tf gz hf (by rw[MR];lia);refine⟨Z,more,"lasting",hZ,by lia,m2,.inl ⟨rfl,hf,m3⟩,?_⟩;unfold zu at w1;rw[z1]at w1;simp at *;simp[AAl,sX,ACe,e2,w1]
 ·obtain⟨more,q,m1,m2,w1⟩:=lB (~~~(.t (ts.map sF))) 3 [] Z none tf (sl3 gz hf) gz (by rw[MR];lia) ∅;refine⟨Z,more,"down",hZ,m1,m2,.inr ⟨rfl,hf⟩,?_⟩;have cc:[]++[Z]++more=Z::more:=rfl;rw[cc]at w1;unfold zu at w1;unfold chT;rw[Ef,z1]at w1;generalize (Z::more).map gT=QV at *;simp at *;simp[AAl,sX,ACe,e2,w1]
@[simp] theorem nC(a b:String):(J1 a=J1 b)=(a=b):=by
 refine propext ⟨λh=>?_,λh=>by rw[h]⟩;rw[HQ,HQ]at h;have h2:=congrArg (λs=>s.cps.toList) h;simp only[FH]at h2;refine String.toList_inj.mp (List.map_inj_right (λx y e=>?_) |>.mp h2);exact Char.ext (UInt32.toNat_inj.mp e)
inductive Sy where
 | yes | no | ask (q:Nat) | nt (a:Sy) | an (a b:Sy) | or (a b:Sy) | ei (a b:Sy) | mo (a b c:Sy)
noncomputable abbrev sT (x:Str):T:=.a (.str x)
noncomputable def Sy.t:Sy->T
 | .yes=>.t [sT "yes"]
 | .no=>.t [sT "no"]
 | .ask q=>.t [sT "ask",iT q]
 | .nt a=>.t [sT "not",a.t]
 | .an a b=>.t [sT "and",a.t,b.t]
 | .or a b=>.t [sT "or",a.t,b.t]
 | .ei a b=>.t [sT "either",a.t,b.t]
 | .mo a b c=>.t [sT "most",a.t,b.t,c.t]
noncomputable def Sy.kids:Sy->List Sy
 | .yes=>[]
 | .no=>[]
 | .ask _=>[]
 | .nt a=>[a]
 | .an a b=>[a,b]
 | .or a b=>[a,b]
 | .ei a b=>[a,b]
 | .mo a b c=>[a,b,c]
noncomputable def Sy.parts:Sy->Nat
 | .yes=>1
 | .no=>1
 | .ask _=>1
 | .nt a=>1+a.parts
 | .an a b=>1+a.parts+b.parts
 | .or a b=>1+a.parts+b.parts
 | .ei a b=>1+a.parts+b.parts
 | .mo a b c=>1+a.parts+b.parts+c.parts
noncomputable def Sy.down:Sy->Nat
 | .yes=>1
 | .no=>1
 | .ask _=>1
 | .nt a=>1+a.down
 | .an a b=>1+max a.down b.down
 | .or a b=>1+max a.down b.down
 | .ei a b=>1+max a.down b.down
 | .mo a b c=>1+max a.down (max b.down c.down)
noncomputable def Sy.wt:Sy->Nat
 | .yes=>1
 | .no=>1
 | .ask _=>1
 | .nt a=>a.wt
 | .an a b=>2 * (a.wt+b.wt)
 | .or a b=>2 * (a.wt+b.wt)
 | .ei a b=>8 * (a.wt+b.wt)
 | .mo a b c=>12 * (a.wt+b.wt)+4 * c.wt
noncomputable def Sy.qs (q:Nat):Sy->Prop
 | .yes=>True
 | .no=>True
 | .ask k=>k < q
 | .nt a=>a.qs q
 | .an a b=>a.qs q/\b.qs q
 | .or a b=>a.qs q/\b.qs q
 | .ei a b=>a.qs q/\b.qs q
 | .mo a b c=>a.qs q/\b.qs q/\c.qs q
theorem Sy.parts_pos:∀ s:Sy,1<=s.parts
 | .yes | .no | .ask _=>AF _
 | .nt a=>by simp only[Sy.parts];lia
 | .an a b | .or a b | .ei a b | .mo a b c=>by simp[Sy.parts];lia
theorem Sy.down_pos:∀ s:Sy,1<=s.down
 | .yes | .no | .ask _=>AF _
 | .nt a | .an a b | .or a b | .ei a b | .mo a b c=>by simp only[Sy.down];lia
noncomputable def Sy.rs (f:Sy->T):Sy->Rs
 | .yes=>.mk (Sy.t .yes) (f .yes) []
 | .no=>.mk (Sy.t .no) (f .no) []
 | .ask q=>.mk (Sy.t (.ask q)) (f (.ask q)) []
 | .nt a=>.mk (Sy.t (.nt a)) (f (.nt a)) [a.rs f]
 | .an a b=>.mk (Sy.t (.an a b)) (f (.an a b)) [a.rs f,b.rs f]
 | .or a b=>.mk (Sy.t (.or a b)) (f (.or a b)) [a.rs f,b.rs f]
 | .ei a b=>.mk (Sy.t (.ei a b)) (f (.ei a b)) [a.rs f,b.rs f]
 | .mo a b c=>.mk (Sy.t (.mo a b c)) (f (.mo a b c)) [a.rs f,b.rs f,c.rs f]
def Sy.rs_e f (s:Sy):(s.rs f).e=s.t:=by cases s <;> rfl
def Sy.rs_v f (s:Sy):(s.rs f).v=f s:=by cases s <;> rfl
theorem Sy.rs_pre f:∀ s:Sy,(s.rs f).pre.length=s.parts
 | .yes | .no | .ask _=>by kernel_rfl
 | .nt a=>by simp[Sy.rs,L9,MI,Lv,Sy.parts,a.rs_pre f];lia
 | .an a b | .or a b | .ei a b=>by simp[Sy.rs,L9,MI,Lv,Sy.parts,a.rs_pre f,b.rs_pre f];lia
 | .mo a b c=>by simp[Sy.rs,L9,MI,Lv,Sy.parts,a.rs_pre f,b.rs_pre f,c.rs_pre f];lia
def wa x r:vy (x::r) (some 1) none=r:=X4 (x::r) 1
def Mt(s:Sy):yD [.v s.t]=some (.v (.t (s.kids.map Sy.t)),[]):=by
 cases s <;> simp[yD,sX,AEL,Sy.t,Sy.kids,wa]
theorem Sy.rs_in f:∀ s:Sy,(s.rs f).In yD
 | .yes=>Lx.mpr ⟨.inl (Mt .yes),L4⟩
 | .no=>Lx.mpr ⟨.inl (Mt .no),L4⟩
 | .ask q=>Lx.mpr ⟨.inl (Mt (.ask q)),L4⟩
 | .nt a=>Lx.mpr ⟨.inl (by simpa [Sy.kids,Sy.rs_e] using Mt (.nt a)),Lh.mpr ⟨a.rs_in f,L4⟩⟩
 | .an a b=>Lx.mpr ⟨.inl (by simpa [Sy.kids,Sy.rs_e] using Mt (.an a b)),Lh.mpr ⟨a.rs_in f,Lh.mpr ⟨b.rs_in f,L4⟩⟩⟩
 | .or a b=>Lx.mpr ⟨.inl (by simpa [Sy.kids,Sy.rs_e] using Mt (.or a b)),Lh.mpr ⟨a.rs_in f,Lh.mpr ⟨b.rs_in f,L4⟩⟩⟩
 | .ei a b=>Lx.mpr ⟨.inl (by simpa [Sy.kids,Sy.rs_e] using Mt (.ei a b)),Lh.mpr ⟨a.rs_in f,Lh.mpr ⟨b.rs_in f,L4⟩⟩⟩
 | .mo a b c=>Lx.mpr ⟨.inl (by simpa [Sy.kids,Sy.rs_e] using Mt (.mo a b c)),Lh.mpr ⟨a.rs_in f,Lh.mpr ⟨b.rs_in f,Lh.mpr ⟨c.rs_in f,L4⟩⟩⟩⟩
theorem Sy.rs_put f (h:∀ s,put [.v s.t,.r (s.kids.map f)]=some (.v (f s),[])):∀ s:Sy,(s.rs f).Put put
 | .yes=>Lz.mpr ⟨h .yes,L5⟩
 | .no=>Lz.mpr ⟨h .no,L5⟩
 | .ask q=>Lz.mpr ⟨h (.ask q),L5⟩
 | .nt a=>Lz.mpr ⟨by simpa [Sy.kids,Sy.rs_v] using h (.nt a),Ls.mpr ⟨a.rs_put f h,L5⟩⟩
 | .an a b=>Lz.mpr ⟨by simpa [Sy.kids,Sy.rs_v] using h (.an a b),Ls.mpr ⟨a.rs_put f h,Ls.mpr ⟨b.rs_put f h,L5⟩⟩⟩
 | .or a b=>Lz.mpr ⟨by simpa [Sy.kids,Sy.rs_v] using h (.or a b),Ls.mpr ⟨a.rs_put f h,Ls.mpr ⟨b.rs_put f h,L5⟩⟩⟩
 | .ei a b=>Lz.mpr ⟨by simpa [Sy.kids,Sy.rs_v] using h (.ei a b),Ls.mpr ⟨a.rs_put f h,Ls.mpr ⟨b.rs_put f h,L5⟩⟩⟩
 | .mo a b c=>Lz.mpr ⟨by simpa [Sy.kids,Sy.rs_v] using h (.mo a b c),Ls.mpr ⟨a.rs_put f h,Ls.mpr ⟨b.rs_put f h,Ls.mpr ⟨c.rs_put f h,L5⟩⟩⟩⟩
noncomputable def orS (s t:Sy):Sy:=.nt (.an (.nt s) (.nt t))
noncomputable def Sy.spell:Sy->Sy
 | .yes=>.yes
 | .no=>.no
 | .ask q=>.ask q
 | .nt a=>.nt a.spell
 | .an a b=>.an a.spell b.spell
 | .or a b=>orS a.spell b.spell
 | .ei a b=>orS (.an a.spell (.nt b.spell)) (.an (.nt a.spell) b.spell)
 | .mo a b c=>orS (.an a.spell b.spell) (.an c.spell (orS a.spell b.spell))
def bJ x y:zN [.v x,.v y]=some (.v (.t [sT "not",.t [sT "and",.t [sT "not",x],.t [sT "not",y]]]),[]):=rfl
def mw(s:Sy):zZ [.v s.t,.r (s.kids.map λk=>k.spell.t)]=some (.v s.spell.t,[]):=by
 have g1:1<=AC:=by decide
 cases s <;> simp[zZ,sX,AEC,Sy.t,Sy.kids,Sy.spell,orS,bJ,inS,tU,tM,inV,xM]
def Qv:ACE=sX none 3 6 (fwD (sX none 2 5 (awD ACC)) ACC ACI):=rfl
def WB:ACC.find? (λq=>decide (q.1=("inner":Str)))=some (("inner":Str),1,yD):=by rfl
def md:ACI.find? (λq=>decide (q.1=("spelled_of":Str)))=some (("spelled_of":Str),2,zZ):=by rfl
def W8(s:Sy)(h:s.parts<=80000):ABr [.v s.t]=some (.v s.spell.t,[]):=by
 have:=QG WB md (s.rs λk=>k.spell.t) (s.rs_in _) (s.rs_put _ mw) (by rw[Sy.rs_pre];exact h);rw[← Qv,Sy.rs_e,Sy.rs_v]at this;simp[ABr,sX,ADk,AAf,ACf,this]
def QZ{f g:DS}{Γ Γ':En}{r:Option O}(h:f Γ=some (.nx Γ'))(k:g Γ'=r):sG f g Γ=r:=by rw[P3,h];exact k
def gM{f g:DS}{Γ Γ':En}{s:S}(h:f Γ=some (.rt s Γ')):sG f g Γ=some (.rt s Γ'):=by rw[P3,h];rfl
def AEm{ta:DT}{f g:DS}{Γ Γ':En}{r:Option O}(h:ta Γ=some (true,Γ'))(k:f Γ'=r):uI ta f g Γ=r:=by rw[QK,h];exact k
def ADe{ta:DT}{f g:DS}{Γ Γ':En}{r:Option O}(h:ta Γ=some (false,Γ'))(k:g Γ'=r):uI ta f g Γ=r:=by rw[QK,h];exact k
def YD{np nN:Nat}{g:DS}{gs:List G}{s:S}{xs:List T}{rest:En}{r:G}(hl:gs.length=np)(h:g (gs.map some++Aa (nN - np) none)=some (.rt s (some (.l xs)::rest)))(hr:zL (some 0) (some (.l xs)::rest) s=some r):sX (some 0) np nN g gs=some (r,xs):=by
 unfold sX;rw[if_pos hl,h,Ai];dsimp only;rw[hr];rfl
def ve (P:Sy->Prop) (o:Option O):Prop:=∃ (s:Sy) (a b:Int) (r:En),P s/\o=some (.rt (.v s.t) (some (.l [iT a,iT b])::r))
def MO{P f g Γ Γ'}(h:f Γ=some (.nx Γ'))(k:ve P (g Γ')):ve P (sG f g Γ):=by rw[P3,h];exact k
def N2{P f g Γ}(k:ve P (f Γ)):ve P (sG f g Γ):=let ⟨s,a,b,r,p,e⟩:=k;⟨s,a,b,r,p,gM e⟩
def AAn{P t f g Γ}(h:t Γ=some (true,Γ))(k:ve P (f Γ)):ve P (uI t f g Γ):=by rw[QK,h];exact k
def AAy{P t f g Γ}(h:t Γ=some (false,Γ))(k:ve P (f Γ)):ve P (sG (uI t g sU) f Γ):=MO (ADe h rfl) k
def Rt{P np nN g}{gs:List G}(h:ve P (g (gs.map some++Aa (nN - np) none)))(hl:gs.length=np:=by rfl):∃ (s:Sy) (a b:Int),P s/\sX (some 0) np nN g gs=some (.v s.t,[iT a,iT b]):=let ⟨s,a,b,_,p,e⟩:=h;⟨s,a,b,p,YD hl e rfl⟩
def AEZ{n:Nat}{m r d f:Int}(hd:d<=(n+1:Nat))(c:¬ (r < m\/d < 2\/f=0)):1<=n/\d - 1<=n/\¬ r < m/\¬ d < 2/\¬ f=0:=by lia
def AEB{x:Nat}{d:Int}(h:x<=max 1 (d - 1))(c:¬ d < 2):((1+x:Nat):Int)<=max 1 d:=by lia
def zH{x y:Nat}{d:Int}(h:x<=max 1 (d - 1))(h':y<=max 1 (d - 1))(c:¬ d < 2):((1+max x y:Nat):Int)<=max 1 d:=by lia
def AFA{r f:Int}(h:r<=1000)(c:¬ (f < 3\/r < 3)):¬ f < 3/\¬ r < 3/\0 < r - 2/\r - 2 < 1073741824:=by lia
def AEk{r k:Int}(h:r<=1000)(h0:0<=k)(h1:k < r - 2):1<=1+k/\1+k<=1000/\1<=r - 1 - (1+k)/\r - 1 - (1+k)<=1000:=by lia
def AFF{r x k:Int}(h:r<=1000)(hx:1<=x)(h0:0<=k)(h1:k < r - 2 - x):1<=1+k/\1+k<=1000/\1<=r - 1 - x - (1+k)/\r - 1 - x - (1+k)<=1000:=by lia
theorem UZ(q:Nat)(hq0:0 < q)(hq:q<=100):∀ (n:Nat) (a b room down:Int),1<=n->down<=n->1<=room->room<=1000->∃ (s:Sy) (a' b':Int),((s.down:Int)<=max 1 down/\(s.parts:Int)<=room/\s.qs q) /\
  F_1 n [.l [iT a,iT b],.v (iT (q:Int)),.v (iT room),.v (iT down)]=some (.v s.t,[iT a',iT b']):=by
 intro n;induction n with
 | zero=>intro _ _ _ _ h;cases h
 | succ n ih =>
  intro a b room down _ hd hr hr2;obtain⟨f,a1,b1,f0,f1,e1⟩:=Mq a b 10 ∅ ∅;refine Rt ?_;unfold d_1;refine MO (by simp[e1];rfl) ?_;by_cases c:room < 2\/down < 2\/f=0
  ·obtain⟨k,a2,b2,hk,e2⟩:=MN a1 b1 q hq0 ⋯;obtain⟨g,a3,b3,g0,g1,e3⟩:=Mq a2 b2 8 ∅ ∅;refine N2 (AAn ↥2 ?_);obtain⟨s,i,mx,es,d1,p1,qs⟩:∃ (s:Sy) (i:Nat),(if (5:Int) < g then g - 5 else 0)=i/\[Sy.t (.ask k),Sy.t .yes,Sy.t .no][i]?=some s.t/\s.down=1/\s.parts=1/\s.qs q:=by
    by_cases h:5 < g
    ·rw[if_pos h];by_cases h6:g=6
     ·exact⟨.yes,1,by rw[h6];rfl,rfl,rfl,rfl,trivial⟩
     ·exact⟨.no,2,by lia,rfl,rfl,rfl,trivial⟩
    ·exact⟨.ask k,0,if_neg h,rfl,rfl,rfl,hk⟩
   simp only[Sy.t,iT]at es;exact⟨s,a3,b3,_,⟨by rw[d1];exact JD ..,by rw[p1];exact hr,qs⟩,by simp[e2,e3,mx,ME,es];rfl⟩
  ·obtain⟨n1,d1,l1,l2,l3⟩:=AEZ hd c;refine AAy (by simp[l1,l2,l3]) ?_;by_cases t:f < 3\/room < 3
   ·obtain⟨s,a2,b2,⟨h1,h2,h3⟩,e2⟩:=ih a1 b1 (room - 1) (down - 1) n1 d1 ⋯ ⋯;exact N2 (AAn ↥2 ⟨.nt s,a2,b2,_,⟨AEB h1 l2,by simp only[Sy.parts];lia,h3⟩,by simp[e2,Sy.t];rfl⟩)
   ·obtain⟨t1,t2,t3,t4⟩:=AFA hr2 t;obtain⟨k,a2,b2,k0,k1,e2⟩:=Mq a1 b1 (room - 2) t3 t4;obtain⟨r1,r2,r3,r4⟩:=AEk hr2 k0 k1;obtain⟨s1,a3,b3,⟨h1,h2,h3⟩,e3⟩:=ih a2 b2 (1+k) (down - 1) n1 d1 r1 r2;refine AAy (by simp[t1,t2]) (MO (by simp[e2];rfl) (MO (by simp[e3];rfl) ?_));clear e1 e2 e3;generalize 1+k=x at *;by_cases m:f=9/\3 < room/\x < room - 2
    ·obtain⟨q1,q2,q3⟩:=m;obtain⟨k',a4,b4,k0',k1',e4⟩:=Mq a3 b3 (room - 2 - x) (Int.sub_pos_of_lt q3) ⋯;obtain⟨u1,u2,u3,u4⟩:=AFF hr2 r1 k0' k1';obtain⟨s2,a5,b5,⟨v1,v2,v3⟩,e5⟩:=ih a4 b4 (1+k') (down - 1) n1 d1 u1 u2;obtain⟨s3,a6,b6,⟨w1,w2,w3⟩,e6⟩:=ih a5 b5 (room - 1 - x - (1+k')) (down - 1) n1 d1 u3 u4;exact N2 (AAn (by simp[q1,q2,q3]) (MO (by simp[e4];rfl) (MO (by simp[e5];rfl) ⟨.mo s1 s2 s3,a6,b6,_,⟨zH h1 ⋯ l2,by simp only[Sy.parts];lia,h3,v3,w3⟩,by simp[e6,Sy.t];rfl⟩)))
    ·obtain⟨s2,a4,b4,⟨v1,v2,v3⟩,e4⟩:=ih a3 b3 (room - 1 - x) (down - 1) n1 d1 r3 r4;refine AAy ↥2 ?_;obtain⟨s,w,i,ei,es,et,ed,ep,eq⟩:∃ (s:Sy) (w:Str) (i:Nat),f % 3=i/\[sT "and",sT "or",sT "either"][i]?=some (sT w)/\s.t=.t [sT w,s1.t,s2.t]/\s.down=1+max s1.down s2.down/\s.parts=1+s1.parts+s2.parts/\s.qs q=(s1.qs q/\s2.qs q):=by
      rcases (by lia:f % 3=0\/f % 3=1\/f % 3=2) with h | h | h
      ·exact⟨.an s1 s2,_,0,h,rfl,rfl,rfl,rfl,rfl⟩
      ·exact⟨.or s1 s2,_,1,h,rfl,rfl,rfl,rfl,rfl⟩
      ·exact⟨.ei s1 s2,_,2,h,rfl,rfl,rfl,rfl,rfl⟩
     simp only[sT]at es et;exact MO (by simp[ei,ME,es];rfl) ⟨s,a4,b4,_,⟨by rw[ed];exact zH h1 v1 l2,by rw[ep];lia,eq ▸ ⟨h3,v3⟩⟩,by simp[e4,et];rfl⟩
def nB(q:Nat)(hq0:0 < q)(hq:q<=100)(n:Nat)(a b:Int)(room down:Nat)(h1:1<=n)(h2:down<=n)(h3:1<=room)(h4:room<=1000):∃ (s:Sy) (a' b':Int),s.down<=max 1 down/\s.parts<=room/\s.qs q /\
  F_1 n [.l [iT a,iT b],.v (iT (q:Int)),.v (iT (room:Int)),.v (iT (down:Int))]=some (.v s.t,[iT a',iT b']):=by
 obtain⟨s,a',b',⟨u1,u2,u3⟩,e⟩:=UZ q hq0 hq n a b room down h1 ⋯ ⋯ ⋯;exact⟨s,a',b',by lia,by lia,u3,e⟩
def AFh(rec:DF)(s:Sy):Qm rec [~~~s.t]=some (true,[~~~s.t]):=by
 cases s <;> kernel_rfl
def AFC(rec:DF)(i:Int):Qm rec [~~~(iT i)]=some (false,[~~~(iT i)]):=by kernel_rfl
def AFk rec (s:Sy) (m:Nat) (h:rec [.v s.t]=some (.v (iT m),[])):OQ rec [~~~s.t]=some (.v (iT m),[~~~s.t]):=by
 simp[OQ,h]
theorem m8:∀ (n:Nat) (s:Sy),s.down<=n->F_4 n [.v s.t]=some (.v (iT (s.wt:Int)),[]):=by
 intro n;induction n with
 | zero=>intro s h;have:=s.down_pos;lia
 | succ n ih =>
  intro s h;have g1:=sL 1;have g2:=sL 2;have g3:=sL 3;have c12:∀ x:Int,ua 12 x:=λx=>.inl ⟨by decide,by decide⟩
  have c4:∀ x:Int,ua 4 x:=λx=>.inl ⟨by decide,by decide⟩
  have c2:∀ x:Int,ua x 2:=λx=>.inr ⟨by decide,by decide⟩
  have c8:∀ x:Int,ua x 8:=λx=>.inr ⟨by decide,by decide⟩
  have ea:=λk hk=>AFk _ k _ (ih k hk)
  have qi:=λi:Int=>AFC (F_4 n) i
  have qk:=AFh (F_4 n);simp only[iT]at qi;cases s with
  | yes | no=>kernel_rfl
  | ask q=>kernel_rfl
  | nt a =>
   have h1:=ea a (by simp only[Sy.down]at h;lia);simp[F_4,sX,d_4,Sy.t,Sy.wt,wa,L7,MC,gd,g1,g2,g3,inS,tU,tM,inV,xM,qk,h1]
  | an a b | or a b =>
   have h1:=ea a (by simp only[Sy.down]at h;lia);have h2:=ea b (by simp only[Sy.down]at h;lia);simp[F_4,sX,d_4,Sy.t,Sy.wt,wa,L7,MC,gd,g1,g2,g3,inS,tU,tM,inV,xM,qk,h1,h2,c2];lia
  | ei a b =>
   have h1:=ea a (by simp only[Sy.down]at h;lia);have h2:=ea b (by simp only[Sy.down]at h;lia);simp[F_4,sX,d_4,Sy.t,Sy.wt,wa,L7,MC,gd,g1,g2,g3,inS,tU,tM,inV,xM,qk,h1,h2,c8];lia
  | mo a b c =>
   have h1:=ea a (by simp only[Sy.down]at h;lia);have h2:=ea b (by simp only[Sy.down]at h;lia);have h3:=ea c (by simp only[Sy.down]at h;lia);simp[F_4,sX,d_4,Sy.t,Sy.wt,wa,L7,MC,gd,g1,g2,g3,inS,tU,tM,inV,xM,qk,h1,h2,h3,c12,c4]
def AEn(rec:DF)(s:Sy):Qq rec [~~~s.t]=some (true,[~~~s.t]):=by
 cases s <;> kernel_rfl
def AEq(rec:DF)(i:Int):Qq rec [~~~(iT i)]=some (false,[~~~(iT i)]):=by kernel_rfl
def AEr rec (s:Sy) (m:Nat) (h:rec [.v s.t]=some (.v (iT m),[])):O0 rec [~~~s.t]=some (.v (iT m),[~~~s.t]):=by
 simp[O0,h]
theorem eh:∀ n (s:Sy),s.down<=n->F_0 n [.v s.t]=some (.v (iT (s.parts:Int)),[]):=by
 intro n;induction n with
 | zero=>intro s h;have:=s.down_pos;lia
 | succ n ih =>
  intro s h;have g1:1<=AC:=by decide
  have g2:2<=AC:=by decide
  have g3:3<=AC:=by decide
  have ea:=λk hk=>AEr _ k _ (ih k hk)
  have qi:=λi=>AEq (F_0 n) i
  have qk:=AEn (F_0 n);cases s with
  | yes | no=>kernel_rfl
  | ask q=>kernel_rfl
  | nt a =>
   have h1:=ea a (by simp[Sy.down]at h;lia);simp[F_0,sX,d_0,Sy.t,Sy.parts,wa,L7,MC,gd,g1,uH,qk,h1]
  | an a b | or a b | ei a b =>
   have h1:=ea a (by simp[Sy.down]at h;lia);have h2:=ea b (by simp[Sy.down]at h;lia);simp[F_0,sX,d_0,Sy.t,Sy.parts,wa,L7,MC,gd,g1,g2,uH,qk,h1,h2];lia
  | mo a b c =>
   have h2:=ea b (by simp only[Sy.down]at h;lia);have h3:=ea c (by simp only[Sy.down]at h;lia);simp[F_0,sX,d_0,Sy.t,Sy.parts,wa,L7,MC,gd,g1,g2,g3,zj,uH,qk,(ea a (by simp only[Sy.down]at h;lia)),h2,h3];lia
def AFJ{P:Sy->Prop}{Q:Int->Int->T->Int->List T->Option G->En->Prop}{A B C:DS}{Γ:En}(h:∃ a b w y s o Γ3,Q a b w y s o Γ3/\sG A B Γ=some (.nx Γ3))(k:∀ {a b w y s o Γ3},Q a b w y s o Γ3->ve P (C Γ3)):ve P (sG A (sG B C) Γ):=by
 obtain⟨_,_,_,_,_,_,Γ3,q,e⟩:=h;have k:=k q;have e':sG A (sG B C) Γ=C Γ3:=by
  simp only[sG]at e ⊢;cases h1:A Γ with
  | none=>rw[h1]at e;cases e
  | some o1 =>
   rw[h1]at e;cases o1 with
   | nx Γ1=>simp only[Ai]at e ⊢;rw[e];rfl
   | rt _ _ | bk _ | ct _=>cases e
 rw[e'];exact k
def ACH{t:DT}{f:DS}{Γ:En}(h:t Γ=some (false,Γ)):uI t f sU Γ=some (.nx Γ):=ADe h rfl
def ADn{t:DT}{f g:DS}{Γ Γ':En}(h:t Γ=some (true,Γ))(k:f Γ=some (.nx Γ')):uI t f g Γ=some (.nx Γ'):=AEm h k
def AFR{m:Int}(h:¬ m < 4)(h2:m<=1000):2<=m / 2/\m / 2<=1000/\(15 < m->2<=m / 8/\m / 8<=1000)/\(27 < m->0 < (m - 24) / 4/\(m - 24) / 4 < 1073741824):=by lia
def AFg{m k:Int}(h2:m<=1000)(h:0<=k)(h1:k < (m - 24) / 4):1<=1+k/\1+k<=1000/\2<=(m - 4 * (1+k)) / 12/\(m - 4 * (1+k)) / 12<=1000:=by lia
def AFI{y k:Int}(h2:y<=1000)(h:0<=k)(h1:k < y - 1):1<=1+k/\1+k<=1000/\1<=y - (1+k)/\y - (1+k)<=1000:=by lia
theorem X2(q:Nat)(hq0:0 < q)(hq:q<=100):∀ (n:Nat) (a b most down:Int),1<=n->down<=n->1<=most->most<=1000->∃ (s:Sy) (a' b':Int),((s.down:Int)<=max 1 down/\s.qs q) /\
  F_3 n [.l [iT a,iT b],.v (iT (q:Int)),.v (iT most),.v (iT down)]=some (.v s.t,[iT a',iT b']):=by
 intro n;induction n with
 | zero=>intro _ _ _ _ h;cases h
 | succ n ih =>
  intro a b most down _ hd hm hm2;obtain⟨f,a1,b1,f0,f1,e1⟩:=Mq a b 8 ∅ ∅;refine Rt ?_;unfold d_3;refine MO (by simp[e1];rfl) ?_;by_cases c:most < 4\/down < 2\/f=0
  ·obtain⟨s,a2,b2,⟨h1,_,h3⟩,e2⟩:=UZ q hq0 hq My a1 b1 1 1 ∅ ∅ ∅ ∅;exact N2 (AAn ↥2 ⟨s,a2,b2,_,⟨Int.le_trans h1 (JD ..),h3⟩,by simp[e2];rfl⟩)
  ·obtain⟨n1,d1,l1,l2,l3⟩:=AEZ hd c;refine AAy (by simp[l1,l2,l3]) ?_;by_cases o:f=1
   ·obtain⟨s,a2,b2,⟨h1,h2⟩,e2⟩:=ih a1 b1 most (down - 1) n1 d1 hm hm2;exact N2 (AAn (by simp[o]) ⟨.nt s,a2,b2,_,⟨AEB h1 l2,h2⟩,by simp[e2,Sy.t];rfl⟩)
   ·obtain⟨y1,y2,y3,y4⟩:=AFR l1 hm2;have d2:wo most 2:=⟨by decide,by decide⟩
    have d8:wo most 8:=⟨by decide,by decide⟩
    have d4:wo (most - 24) 4:=⟨by decide,by decide⟩
    have d12:∀ z:Int,wo z 12:=λz=>⟨by decide,by decide⟩
    have cm:∀ z:Int,ua 4 z:=λz=>.inl ⟨by decide,by decide⟩
    obtain⟨w0,i,ei,ew,hw⟩:∃ (w:Str) (i:Nat),f % 2=i/\[sT "and",sT "or"][i]?=some (sT w)/\∀ s1 s2:Sy,s1.down<=max 1 (down - 1)->s2.down<=max 1 (down - 1)->s1.qs q->s2.qs q->∃ s:Sy,s.t=.t [sT w,s1.t,s2.t]/\s.down<=max 1 down/\s.qs q:=by
     rcases (by lia:f % 2=0\/f % 2=1) with h | h
     ·exact⟨_,0,h,rfl,λs1 s2 u v x z=>⟨.an s1 s2,rfl,zH u v l2,x,z⟩⟩
     ·exact⟨_,1,h,rfl,λs1 s2 u v x z=>⟨.or s1 s2,rfl,zH u v l2,x,z⟩⟩
    simp only[sT]at ew;refine AAy (by simp[o]) (MO (by simp[ei,ME,ew,d2];rfl) (AFJ (Q:=λA B w y ks o8 Γ=>Γ=([~~~[iT A,iT B],~~~(iT (q:Int)),~~~(iT most),~~~(iT down),~~~(iT f),~~~w,~~~(iT y),~~~(.t ks),o8,none,none]:En)/\2<=y/\y<=1000/\ks.length<=1/\∀ s1 s2:Sy,s1.down<=max 1 (down - 1)->s2.down<=max 1 (down - 1)->s1.qs q->s2.qs q->∃ s:Sy,s.t=T.t (w::s1.t::s2.t::ks)/\s.down<=max 1 down/\s.qs q) ?_ ?_))
    ·by_cases m:f < 4/\27 < most
     ·obtain⟨m1,m2⟩:=m;obtain⟨k,a2,b2,k0,k1,e2⟩:=Mq a1 b1 ((most - 24) / 4) (y4 m2).1 (y4 m2).2;obtain⟨u1,u2,u3,u4⟩:=AFg hm2 k0 k1;obtain⟨s0,a3,b3,⟨v1,v2⟩,e3⟩:=ih a2 b2 (1+k) (down - 1) n1 d1 u1 u2;exact⟨a3,b3,sT "most",_,[s0.t],_,_,⟨rfl,u3,u4,AF _,λs1 s2 u v x z=>⟨.mo s1 s2 s0,rfl,zH u ⋯ l2,x,z,v2⟩⟩,QZ (ACH ↥2) (ADn (by simp[m1,m2]) (by simp[e2,d4,d12,cm,e3,gd];rfl))⟩
     ·by_cases p:f=4/\15 < most
      ·exact⟨a1,b1,sT "either",_,[],_,_,⟨rfl,(y3 p.2).1,(y3 p.2).2,by decide,λs1 s2 u v x z=>⟨.ei s1 s2,rfl,zH u v l2,x,z⟩⟩,QZ (ADn (by simp[p.2];exact p.1) (by simp[d8];rfl)) (ACH ↥2)⟩
      ·exact⟨a1,b1,_,_,[],_,_,⟨rfl,y1,y2,by decide,hw⟩,QZ (ACH ↥2) (ACH ↥2)⟩
    ·rintro A B w y ks o8 _ ⟨rfl,h2,hy,hk,hs⟩;obtain⟨k,a2,b2,k0,k1,e2⟩:=Mq A B (y - 1) ⋯ ⋯;obtain⟨u1,u2,u3,u4⟩:=AFI hy k0 k1;obtain⟨s1,a3,b3,⟨v1,v2⟩,e3⟩:=ih a2 b2 (1+k) (down - 1) n1 d1 u1 u2;obtain⟨s2,a4,b4,⟨w1,w2⟩,e4⟩:=ih a3 b3 (y - (1+k)) (down - 1) n1 d1 u3 u4;obtain⟨s,et,g1,g2⟩:=hs s1 s2 v1 w1 v2 w2;have g3:3<=AC:=by decide
     have gk:3+ks.length<=AC:=Ld ⋯;exact MO (by simp[e2];rfl) (MO (by simp[e3];rfl) ⟨s,a4,b4,_,⟨g1,g2⟩,by simp[e4,et,gd,g3,gk];rfl⟩)
def gH(q:Nat)(hq0:0 < q)(hq:q<=100)(n:Nat)(a b:Int)(most down:Nat)(h1:1<=n)(h2:down<=n)(h3:1<=most)(h4:most<=1000):∃ (s:Sy) (a' b':Int),s.down<=max 1 down/\s.qs q /\
  F_3 n [.l [iT a,iT b],.v (iT (q:Int)),.v (iT (most:Int)),.v (iT (down:Int))]=some (.v s.t,[iT a',iT b']):=by
 obtain⟨s,a',b',⟨u1,u2⟩,e⟩:=X2 q hq0 hq n a b most down h1 ⋯ ⋯ ⋯;exact⟨s,a',b',by lia,u2,e⟩
theorem Sy.head(s:Sy)(h:s.kids≠[]):∃ w,s.t=.t (sT w::s.kids.map Sy.t):=by
 cases s with
 | yes | no | ask q=>exact absurd rfl h
 | nt a | an a b | or a b | ei a b | mo a b c=>exact⟨_,rfl⟩
theorem Sy.leaf(s:Sy)(h:s.kids=[]):s.wt=1/\s.parts=1:=by
 cases s with
 | yes | no | ask q=>exact⟨rfl,rfl⟩
 | nt a | an a b | or a b | ei a b | mo a b c=>cases h
theorem Sy.kid{s k:Sy}(h:k∈s.kids):k.down < s.down/\(s.qs q->k.qs q):=by
 cases s with
 | yes | no | ask q=>cases h
 | nt a =>
  simp only[Sy.kids,AN,Fp,or_false]at h;subst h;exact⟨by simp only[Sy.down];lia,λz=>z⟩
 | an a b | or a b | ei a b =>
  simp only[Sy.kids,AN,Fp,or_false]at h;rcases h with rfl | rfl
  ·exact⟨by simp[Sy.down];omega,λz=>z.1⟩
  ·exact⟨by simp[Sy.down];omega,λz=>z.2⟩
 | mo a b c =>
  simp only[Sy.kids,AN,Fp,or_false]at h;rcases h with rfl | rfl | rfl
  ·exact⟨by simp[Sy.down];lia,λz=>z.1⟩
  ·exact⟨by simp[Sy.down];lia,λz=>z.2.1⟩
  ·exact⟨by simp[Sy.down];lia,λz=>z.2.2⟩
def Sy.kids3(s:Sy):s.kids.length<=3:=by cases s <;> simp[Sy.kids]
theorem WY q room most (h1:1<=room) (h2:1<=most):∀ m (s:Sy) a b fuel,s.down<=m->s.down<=12->m < fuel->s.qs q->∃ (s':Sy) (a' b':Int),s'.down<=s.down/\s'.qs q/\s'.wt<=most/\s'.parts<=room /\
  su Nd PK fuel [~~~[iT a,iT b],~~~(iT q),~~~(iT room),~~~(iT most),~~~s.t]=↥([~~~[iT a',iT b'],~~~(iT q),~~~(iT room),~~~(iT most),~~~s'.t]):=by
 intro m;induction m with
 | zero=>intro s a b fuel h;have:=s.down_pos;lia
 | succ m ih =>
  intro s a b fuel hd h12 hf hq;obtain⟨f,rfl⟩:∃ f,fuel=f+1:=⟨fuel - 1,by omega⟩
  have ew:=m8 P4 s h12;have ep:=eh Qg s h12;by_cases c:s.wt > most\/s.parts > room
  ·have hk:s.kids≠[]:=λz=>by have:=s.leaf z;omega
   obtain⟨w,et⟩:=s.head hk;obtain⟨j,a1,b1,hj,e1⟩:=MN a b s.kids.length (C4.mpr hk) (by have:=s.kids3;lia);obtain⟨k,ek⟩:∃ k,s.kids[j]?=some k:=⟨s.kids[j],by simp⟩
   obtain⟨kd,kq⟩:=Sy.kid (Df ek);obtain⟨s',a',b',u1,u2,u3,u4,e2⟩:=ih k a1 b1 f ⋯ ⋯ ⋯ (kq hq);refine⟨s',a',b',by omega,u2,u3,u4,?_⟩;rw[← e2,L6];have test:Nd [~~~[iT a,iT b],~~~(iT q),~~~(iT room),~~~(iT most),~~~s.t]=some (true,[~~~[iT a,iT b],~~~(iT q),~~~(iT room),~~~(iT most),~~~s.t]):=by
    by_cases c1:s.wt > most
    ·have:=by omega
     simp[Nd,ew,this]
    ·have:room < (s.parts):=by lia
     simp[Nd,ew,ep,(by omega)]
   have body:PK [~~~[iT a,iT b],~~~(iT q),~~~(iT room),~~~(iT most),~~~s.t]=↥([~~~[iT a1,iT b1],~~~(iT q),~~~(iT room),~~~(iT most),~~~k.t]):=by
    have ei:vB (sT w::s.kids.map Sy.t) (1+j)=some k.t:=by
     rw[show 1+j=((j+1:Nat):Int) by lia,ME];simp[ek]
    rw[et];simp[PK,e1,ei]
   rw[test,Ai,if_pos rfl,body,Ai]
  ·have c1:¬ most < (s.wt):=by lia
   have c2:¬ room < (s.parts):=by omega
   refine⟨s,a,b,AF _,hq,by lia,by omega,?_⟩;rw[L6];simp[Nd,ew,ep,c1,c2]
def f6 q room most (hq0:0 < q) (hq:q<=100) (h1:1<=room) (h1':room<=1000) (h2:1<=most) (h2':most<=1000) a b:∃ (s:Sy) (a' b':Int),s.down<=6/\s.qs q/\s.wt<=most/\s.parts<=room /\
  AAw [.l [iT a,iT b],.v (iT q),.v (iT room),.v (iT most)]=some (.v s.t,[iT a',iT b']):=by
 obtain⟨s,a1,b1,u1,u2,u3,e1⟩:=nB q hq0 hq My a b room 5 ∅ ∅ h1 h1';obtain⟨c,a2,b2,hc,e2⟩:=MN a1 b1 2 ∅ ∅;have e1':F_1 My [.l [⇑a,⇑b],.v (⇑q),.v (⇑room),.v (⇑5)]=some (.v s.t,[⇑a1,⇑b1]):=e1;have e2':vw [.l [⇑a1,⇑b1],.v (⇑2)]=some (.v (⇑c),[⇑a2,⇑b2]):=e2;by_cases c0:c=0
 ·obtain⟨s2,a3,b3,v1,v2,e3⟩:=gH q hq0 hq Ol a2 b2 most 5 ∅ ∅ h2 h2';have e3':F_3 Ol [.l [⇑a2,⇑b2],.v (⇑q),.v (⇑most),.v (⇑5)]=some (.v s2.t,[⇑a3,⇑b3]):=e3;obtain⟨s',a',b',w1,w2,w3,w4,e4⟩:=WY q room most h1 h2 12 s2 a3 b3 tf (by omega) (by omega) (by rw[MR];lia) v2;refine⟨s',a',b',by lia,w2,w3,w4,?_⟩;simp[AAw,sX,ACp,e1',e2',c0,e3',e4]
 ·obtain⟨s',a',b',w1,w2,w3,w4,e4⟩:=WY q room most h1 h2 12 s a2 b2 tf (by omega) (by omega) (by rw[MR];lia) u3;refine⟨s',a',b',by lia,w2,w3,w4,?_⟩;simp[AAw,sX,ACp,e1',e2',c0,e4]
def we{x K n:Nat}(h:x<=K+n):1+x<=K+(n+1):=by lia
def sdq{x y k:Nat}(h:x<=k)(h':y<=k):max x y<=k:=Nat.max_le.mpr ⟨h,h'⟩
def zA{x K:Nat}(h:x<=K) n:x<=K+n:=Ah h (Ba _ _)
def sdz{x M n:Nat}(h:x<=7 * M+n)(hn:n<=7:=by decide):x<=7 * (1+M):=by lia
def sda{x A:Nat}(h:x<=7 * A) B:x<=7 * max A B:=Ah h (Du 7 (GI A B))
def sdb{x B:Nat}(h:x<=7 * B) A:x<=7 * max A B:=Ah h (Du 7 (Fu A B))
theorem MJ:∀ s:Sy,s.spell.down<=7 * s.down
 | .yes | .no | .ask _=>by simp[Sy.spell,Sy.down]
 | .nt a=>sdz (we (zA (MJ a) 0))
 | .an a b=>sdz (we (sdq (zA (sda (MJ a) _) 0) (zA (sdb (MJ b) _) 0)))
 | .or a b=>sdz (we (we (sdq (we (zA (sda (MJ a) _) 0)) (we (zA (sdb (MJ b) _) 0)))))
 | .ei a b =>
  have x:=sda (MJ a) b.down;have y:=sdb (MJ b) a.down
  sdz (we (we (sdq (we (we (sdq (zA x 1) (we (zA y 0))))) (we (we (sdq (we (zA x 0)) (zA y 1)))))))
 | .mo a b c =>
  have x:=sda (MJ a) (max b.down c.down);have y:=sdb (sda (MJ b) c.down) a.down;have z:=sdb (sdb (MJ c) b.down) a.down
  sdz (we (we (sdq (we (we (sdq (zA x 3) (zA y 3)))) (we (we (sdq (zA z 3) (we (we (sdq (we (zA x 0)) (we (zA y 0)))))))))))
noncomputable def zD (row:List Nat) (m:Nat):List (Nat×Nat)->List Nat->List Nat
 | [],f=>f
 | (p,k)::r,f=>zD row m r (f.set p (row.getD ((k+1) % m) 0))
noncomputable def tm (n:Nat) (row:List Nat):List Nat:=zD row n row.zipIdx (Aa n 0)
noncomputable def ACN (n:Nat) (t:List Nat):Bool:=t.length == n && (t.all λk=>decide (k < n)) && ndB t
theorem Vj:∀ {t},ndB t=true->t.Nodup
 | [],_=>GN
 | k::r,h=>by
  simp only[ndB,Ar,Bool.not_eq_true']at h;refine BI.mpr ⟨λhm=>?_,Vj h.2⟩
  grind
def VO(h:ACN n t=true):IsT n t:=by
 simp[ACN]at h;exact⟨h.1.1,h.1.2,Vj h.2⟩
def lX:([3,4,5].all λn=>(uW n).all λrow=>ACN n (tm n row) || row.getD 0 0 != 0)=true:=↥4
def lV t:vE (uG t)=(t.zipIdx 0).map λq=>.t [iT (q.2:Int),iT (q.1:Int)]:=by
 unfold vE;simp[List.zipIdx_map,HR]
theorem kU:∀ m ls fs a b n o4 o5 o6 fuel,ls.length=m->m < fuel->ls.length+fs.length<=5->∃ fs' a' b',(fs'.Perm (fs++ls)/\(fs≠[]->fs'.getD 0 0=fs.getD 0 0)) /\
  su Nu Pb fuel [~~~[iT a,iT b],~~~(iT n),some (.l (uG ls)),some (.l (uG fs)),o4,o5,o6]=↥([~~~[iT a',iT b'],~~~(iT n),~~~[],some (.l (uG fs')),o4,o5,o6]):=by
 intro m;induction m with
 | zero =>
  intro ls fs a b n o4 o5 o6 fuel hl hf h5;obtain rfl:ls=[]:=DB.mp hl;obtain⟨f,rfl⟩:∃ f,fuel=f+1:=⟨fuel - 1,by lia⟩
  exact⟨fs,a,b,⟨by simp,λ_=>rfl⟩,by rw[L6];simp[Nu]⟩
 | succ m ih =>
  intro ls fs a b n o4 o5 o6 fuel hl hf h5;obtain⟨f,rfl⟩:∃ f,fuel=f+1:=⟨fuel - 1,by lia⟩
  obtain⟨r,a',b',hr,e⟩:=MN a b ls.length ⋯ ⋯;obtain⟨z,hz⟩:∃ z,ls[r]?=some z:=⟨ls[r],by simp⟩
  obtain⟨fs',a2,b2,⟨hp,hh⟩,e2⟩:=ih (ls.eraseIdx r) (fs++[z]) a' b' n o4 o5 o6 f (by rw[Cu hr];lia) ⋯ (by rw[Cu hr];simp;lia);refine⟨fs',a2,b2,⟨hp.trans (Vg hz),λh0=>?_⟩,?_⟩
  ·rw[hh ↥1];cases fs with
   | nil=>exact absurd rfl h0
   | cons x r=>rfl
  rw[← e2,L6];have hb:inR 9223372036854775807 r=true:=NI ⋯;have g1:ls.length<=AC:=Ld ⋯;have g2:fs.length<=AC:=Ld ⋯;have g3:fs.length < AC:=Mm ⋯;simp[Nu,Pb,e,hb,V9 hr,hz,gd,g1,g2,g3,show 0 < ls.length by lia,UR]
theorem fI(n:Nat) row (hn:0 < n) (hrow:row.length=n) b0 b2:∀ its f o5 o6,(∀ q∈its,q.1 < f.length/\q.2 < 100)->∃ o5' o6',
  tX (vj 2 (uF (sJ 5) (uF (sJ 6) wO))) P8 (its.map λq=>.t [iT (q.2:Int),iT (q.1:Int)]) [b0,~~~(iT n),b2,some (.r (uG row)),some (.l (uG f)),o5,o6] =
   some (.nx [b0,~~~(iT n),b2,some (.r (uG row)),some (.l (uG (zD row n its f))),o5',o6']):=by
 intro its;induction its with
 | nil=>intro f o5 o6 _;exact⟨o5,o6,by rw[B4];rfl⟩
 | cons q r ih =>
  intro f o5 o6 h;obtain⟨p,k⟩:=q;have hm:(k+1) % n < n:=Ky _ hn;have h2:vB (uG row) ((k+1) % n)=some (iT (row.getD ((k+1) % n) 0)):=by
   have e:(k+1) % n=(((k+1) % n:Nat):Int):=by simp
   rw[e];refine NW ?_;rw[Aw,AU ⋯];rfl
  obtain⟨o5',o6',e⟩:=ih (f.set p (row.getD ((k+1) % n) 0)) (~~~(iT k)) (~~~(iT p)) (λq hq=>by have:=h q (AI _ hq);simpa using this);refine⟨o5',o6',?_⟩;rw[AY,Np];have hs:(uG f).set p (iT ((row.getD ((k+1) % n) 0)))=uG (f.set p (row.getD ((k+1) % n) 0)):=by simp
  have h3':xt (uG f).length p=some p:=by simpa using (Vs (h (p,k) AH).1)
  simp only[zD];rw[← e,← hs];generalize row.getD ((k+1) % n) 0=z at *;generalize uG f=FF at *;simp[P8,hn,h2,h3']
def mZ a b n (h3:3<=n) (hn:n<=5):∃ row a' b',IsT n (tm n row)/\row.Perm (AE n)/\row.getD 0 0=0/\ABy [.l [iT a,iT b],.v (iT n)]=some (.v (sF (tm n row)),[iT a',iT b']):=by
 obtain⟨row,a',b',⟨hp,hh⟩,e⟩:=kU (n - 1) (D9 1 (n - 1)) [0] a b n none none none tf ↥1 (by rw[MR];lia) ↥2;have hpr:row.Perm (AE n):=by
  have e0:[0]++D9 1 (n - 1)=AE n:=by
   obtain⟨m,rfl⟩:∃ m,n=m+1:=⟨n - 1,by lia⟩
   rw[List.range_eq_range',List.range'_succ];simp
  rw[← e0];exact hp
 have hrt:=Pk hpr;have h0:=hh ↥1;have hT:IsT n (tm n row):=by
  have:=AJ.mp lX n ↥2;have:=AJ.mp this row (MH hrt);simp at this;rcases this with z | z
  ·exact VO z
  ·exact absurd h0 z
 refine⟨row,a',b',hT,hpr,h0,?_⟩;obtain⟨o5,o6,e2⟩:=fI n row ⋯ hrt.len (~~~[iT a',iT b']) (~~~[]) row.zipIdx (Aa n 0) none none (λq hq=>by
  have h:=List.mem_zipIdx hq;have hl:=hrt.len;refine⟨?_,by lia⟩;have:q.1∈row:=by rw[h.2.2];exact ET _
  simpa using hrt.lt _ this)
 have r1:wC [.v (⇑1),.v (⇑n)]=some (t9 1 (n - 1)):=YB 1 n ⋯ ⋯;have r2:t9 1 (n - 1)=uG (D9 1 (n - 1)):=by
  simp[t9,List.range'_eq_map_range,HR]
 have m1:∀ Γ,uf Γ (.l [⇑0]) (.v (⇑n))=some (.l (uG (Aa n 0))):=λΓ=>by
  rw[jd [⇑0] n ↥2 ⋯];simp
 have gl:(uG row).length<=AC:=Ld (by simp[hrt.len];lia);have en:wj %[jV 3|0] [~~~[iT a',iT b'],~~~(iT n),~~~[],some (.l (uG row)),some (.l (uG (Aa n 0))),none,none]=some (((row.zipIdx 0).map λq=>.t [iT (q.2),iT (q.1)],[3]),[~~~[iT a',iT b'],~~~(iT n),~~~[],some (.l (uG row)),some (.l (uG (Aa n 0))),none,none]):=by
  rw[← lV];generalize uG row=RR at *;simp[wj,gd,gl]
 unfold tm;have e':su Nu Pb tf [~~~[iT a,iT b],~~~(iT n),some (.l (uG (D9 1 (n - 1)))),~~~[⇑0],none,none,none]=↥([~~~[iT a',iT b'],~~~(iT n),~~~[],some (.l (uG row)),none,none,none]):=e;rw[← r2]at e';generalize uG (Aa n 0)=R0 at *;simp[ABy,sX,ADN,r1,e',m1,en,x6,e2]
noncomputable def vJ:List (List Nat):=[[1,2,3,4,0],[1,2,4,0,3],[1,3,4,2,0],[1,3,0,4,2],[1,4,3,0,2],[1,4,0,2,3],[2,3,1,4,0],[2,4,1,0,3],[2,4,3,1,0],[2,0,3,4,1],[2,3,4,0,1],[2,0,4,1,3],[3,2,4,1,0],[3,4,0,1,2],[3,4,1,2,0],[3,0,4,2,1],[3,2,0,4,1],[3,0,1,4,2],[4,2,3,0,1],[4,3,0,2,1],[4,3,1,0,2],[4,0,3,1,2],[4,2,0,1,3],[4,0,1,2,3]]
noncomputable def AEc:List Nat->Nat
 | []=>0
 | k::r=>(r.filter λx=>decide (x < k)).length+AEc r
noncomputable def zp (t:List Nat):Bool:=AEc t % 2 == 0
noncomputable def xn:List T->Option (List Nat)
 | []=>some []
 | .a (.int n)::r=>if 0<=n then (xn r).map λks=>n.toNat::ks else none
 | _=>none
theorem xX:∀ {ts ks},xn ts=some ks->ts=uG ks
 | [],ks,e=>by cases e;rfl
 | t::r,ks,e=>by
  unfold xn at e;split at e
  ·rename_i h;cases h
  ·rename_i n r' h;cases h;split at e
   ·obtain⟨ms,e1,rfl⟩:=Lb e;rw[xX e1];simp;lia
   ·cases e
  ·cases e
noncomputable def apT:T->Option (List Nat)
 | .t as=>xn as
 | _=>none
noncomputable def apG:G->Option (List Nat×List Nat)
 | .v (.t ts)=>match ts with
  | [x,y]=>(apT x).bind λa=>(apT y).map λb=>(a,b)
  | _=>none
 | _=>none
noncomputable def apO (r:List Nat):Option (List Nat×List Nat):=(AAt [.v (sF r)]).bind λx=>if x.2=[] then apG x.1 else none
def Vm(h:apT x=some a):x=sF a:=by
 unfold apT at h;split at h
 ·rw[xX h]
 ·cases h
noncomputable def uq (r:List Nat):List Nat×List Nat:=(apO r).getD ([],[])
def cX(h:apO r=some p):AAt [.v (sF r)]=some (.v (.t [sF p.1,sF p.2]),[]):=by
 obtain⟨⟨g,l⟩,e,h⟩:=sC h;split at h
 ·rename_i hl;dsimp only at hl h;subst hl;unfold apG at h;split at h
  ·split at h
   ·obtain⟨a,e1,h⟩:=sC h;obtain⟨b,e2,h⟩:=Lb h;cases h;rw[e,Vm e1,Vm e2]
   ·cases h
  ·cases h
 ·cases h
noncomputable def ADs (r:List Nat):Bool:=match apO r with
 | some (a,b)=>vJ.contains a && vJ.contains b && (sO (sO a b) (sO (sR a) (sR b)) == r)
 | none=>false
def ACv:vJ.all ADs=true:=↥4
def ACw:(vJ.all λr=>vJ.contains (sR r) && ACN 5 r && zp r && ACY (ACD [.v (sF r)]))=true:=↥4
def ACx:((uW 5).all λrow=>row.getD 0 0 != 0 || vJ.contains (tm 5 row))=true:=↥4
def ACu:((uW 5).all λt=>!zp t || vJ.all λr=>zp (sO t r))=true:=↥4
structure Rg(r:List Nat):Prop where
 mem:r∈vJ
def Rg.facts(h:Rg r):Rg (sR r)/\IsT 5 r/\zp r=true/\ACD [.v (sF r)]=some (.v (.a (.bl true)),[]):=by
 have:=AJ.mp ACw r h.mem;simp only[Ar]at this;exact⟨⟨by simpa using this.1.1.1⟩,VO this.1.1.2,this.1.2,mK this.2⟩
def Rg.isT(h:Rg r):IsT 5 r:=h.facts.2.1
def Rg.back(h:Rg r):Rg (sR r):=h.facts.1
def Rg.ap(h:Rg r):AAt [.v (sF r)]=some (.v (.t [sF (uq r).1,sF (uq r).2]),[])/\Rg (uq r).1/\Rg (uq r).2/\sO (sO (uq r).1 (uq r).2) (sO (sR (uq r).1) (sR (uq r).2))=r:=by
 have:=AJ.mp ACv r h.mem;unfold ADs at this;unfold uq;split at this
 ·rename_i a b e;simp only[Ar]at this;rw[e];exact⟨cX e,⟨by simpa using this.1.1⟩,⟨by simpa using this.1.2⟩,by simpa using this.2⟩
 ·cases this
structure Ev(t:List Nat):Prop where
 isT:IsT 5 t
 ev:zp t=true
def Rg.even(h:Rg r):Ev r:=⟨h.isT,h.facts.2.2.1⟩
def Pp:Ev (AE 5):=⟨Lq 5,by decide⟩
def Ev.then(h:Ev t)(hr:Rg r):Ev (sO t r):=by
 refine⟨Li h.isT hr.isT,?_⟩;have:=AJ.mp ACu t (MH h.isT);rw[h.ev]at this;exact AJ.mp (by simpa using this) r hr.mem
theorem WA:∀ {st c d},IsT n c->IsT n d->ur n qs st->sh as (sO c d) st=sO c (sh as d st)
 | [],_,_,_,_,_=>rfl
 | s::r,c,d,hc,hd,hs=>by
  have hp:=On (as:=as) (hs s AH);simp[sh];rw[N7 hc hd hp];exact WA hc (Li hd hp) λx hx=>hs x (AI _ hx)
theorem TK as:∀ c st s,sh as c (st++[s])=sO (sh as c st) (tL as s)
 | _,[],_=>rfl
 | c,x::r,s=>TK as (sO c (tL as x)) r s
noncomputable def v5 (st:List yO) (t:List Nat):List yO:=match st.getLast? with
 | some s=>st.dropLast++[(s.1,sO s.2.1 t,sO s.2.2 t)]
 | none=>[]
noncomputable def Sy.steps:Sy->List Nat->List yO
 | .yes,r=>[(0,r,r)]
 | .no,_=>[(0,AE 5,AE 5)]
 | .ask q,r=>[(q,r,AE 5)]
 | .nt a,r=>v5 (a.steps (sR r)) r
 | .an a b,r=>a.steps (uq r).1++b.steps (uq r).2++a.steps (sR (uq r).1)++b.steps (sR (uq r).2)
 | _,_=>[]
noncomputable def Sy.plain:Sy->Prop
 | .yes=>True
 | .no=>True
 | .ask _=>True
 | .nt a=>a.plain
 | .an a b=>a.plain/\b.plain
 | _=>False
theorem L3:∀ s:Sy,s.spell.plain
 | .yes | .no | .ask _=>trivial
 | .nt a=>L3 a
 | .an a b | .or a b=>⟨L3 a,L3 b⟩
 | .ei a b=>⟨⟨L3 a,L3 b⟩,⟨L3 a,L3 b⟩⟩
 | .mo a b c=>⟨⟨L3 a,L3 b⟩,⟨L3 c,⟨L3 a,L3 b⟩⟩⟩
theorem MP:∀ s:Sy,s.spell.wt=s.wt
 | .yes | .no | .ask _=>rfl
 | .nt a=>by have:=MP a;simp[Sy.spell,Sy.wt];try lia
 | .an a b=>by have:=MP a;have:=MP b;simp[Sy.spell,Sy.wt];try lia
 | .or a b | .ei a b=>by have:=MP a;have:=MP b;simp[Sy.spell,orS,Sy.wt];try lia
 | .mo a b c=>by have:=MP a;have:=MP b;have:=MP c;simp[Sy.spell,orS,Sy.wt];try lia
theorem L0:∀ s:Sy,s.qs q->s.spell.qs q
 | .yes,_ | .no,_=>trivial
 | .ask _,h=>h
 | .nt a,h=>L0 a h
 | .an a b,h | .or a b,h=>⟨L0 a h.1,L0 b h.2⟩
 | .ei a b,h=>⟨⟨L0 a h.1,L0 b h.2⟩,⟨L0 a h.1,L0 b h.2⟩⟩
 | .mo a b c,h=>⟨⟨L0 a h.1,L0 b h.2.1⟩,⟨L0 c h.2.2,⟨L0 a h.1,L0 b h.2.1⟩⟩⟩
theorem eV:(v5 st t).length=st.length:=by
 unfold v5;cases h:st.getLast? with
 | none=>rw[D6.mp h];try rfl
 | some s =>
  have:st≠[]:=λz=>by rw[z]at h;cases h
  have:=C4.mpr this;simp;lia
theorem MQ:∀ (s:Sy) r,s.plain->(s.steps r).length=s.wt
 | .yes,_,_ | .no,_,_ | .ask _,_,_=>rfl
 | .nt a,r,h=>by simp[Sy.steps,eV];exact MQ a _ h
 | .an a b,r,h=>by
  simp only[Sy.steps,A8,(λr=>MQ a r h.1),(λr=>MQ b r h.2),Sy.wt];lia
theorem M8:∀ s:Sy,1<=s.wt
 | .yes | .no | .ask _=>AF _
 | .nt a=>by simp[Sy.wt];exact M8 a
 | .an a b | .or a b | .ei a b | .mo a b c=>by have:=M8 a;simp only[Sy.wt];lia
def StE (q:Nat) (st:List yO):Prop:=∀ s∈st,s.1 < q/\Ev s.2.1/\Ev s.2.2
def StE.ok(h:StE q st):ur 5 q st:=λs hs=>⟨(h s hs).1,(h s hs).2.1.isT,(h s hs).2.2.isT⟩
def StE.app(h:StE q a)(h':StE q b):StE q (a++b):=λs hs=>(A6.mp hs).elim (h s) (h' s)
theorem aL(h:StE q st)(ht:Rg t):StE q (v5 st t):=by
 unfold v5;cases e:st.getLast? with
 | none=>exact λs hs=>nomatch hs
 | some s =>
  have hs:=h s (E7 e);refine StE.app (λx hx=>h x (HZ _ hx)) λx hx=>?_
  rw[AD.mp hx];exact⟨hs.1,hs.2.1.then ht,hs.2.2.then ht⟩
theorem MF(hq:0 < q):∀ (s:Sy) r,s.plain->s.qs q->Rg r->StE q (s.steps r)
 | .yes,r,_,_,hr=>λx hx=>by rw[AD.mp hx];exact⟨hq,hr.even,hr.even⟩
 | .no,r,_,_,hr=>λx hx=>by rw[AD.mp hx];exact⟨hq,Pp,Pp⟩
 | .ask k,r,_,h,hr=>λx hx=>by rw[AD.mp hx];exact⟨h,hr.even,Pp⟩
 | .nt a,r,hp,h,hr=>aL (MF hq a _ hp h hr.back) hr
 | .an a b,r,hp,h,hr=>by
  obtain⟨_,h1,h2,_⟩:=hr.ap;exact (((MF hq a _ hp.1 h.1 h1).app (MF hq b _ hp.2 h.2 h2)).app (MF hq a _ hp.1 h.1 h1.back)).app (MF hq b _ hp.2 h.2 h2.back)
noncomputable def Sy.so (as:List Nat):Sy->Bool
 | .yes=>true
 | .no=>false
 | .ask q=>as.getD q 0 == 1
 | .nt a=>!a.so as
 | .an a b=>a.so as && b.so as
 | .or a b=>a.so as || b.so as
 | .ei a b=>a.so as != b.so as
 | .mo a b c=>(a.so as && b.so as) || (c.so as && (a.so as || b.so as))
theorem MZ as:∀ s:Sy,s.spell.so as=s.so as
 | .yes | .no | .ask _=>rfl
 | .nt a=>by simp[Sy.spell,Sy.so,MZ as a]
 | .an a b=>by simp[Sy.spell,Sy.so,MZ as a,MZ as b]
 | .or a b | .ei a b=>by simp only[Sy.spell,orS,Sy.so,MZ as a,MZ as b];cases a.so as <;> cases b.so as <;> rfl
 | .mo a b c=>by simp only[Sy.spell,orS,Sy.so,MZ as a,MZ as b,MZ as c];cases a.so as <;> cases b.so as <;> cases c.so as <;> rfl
theorem OR as:∀ a b c,sh as c (a++b)=sh as (sh as c a) b
 | [],_,_=>rfl
 | s::a,b,c=>OR as a b _
def Od(ha:ur 5 q a)(hb:ur 5 q b):sh as (AE 5) (a++b)=sO (sh as (AE 5) a) (sh as (AE 5) b):=by
 have h1:=Pq (as:=as) (Lq 5) ha;rw[OR]
 conv=>lhs;rw[← Mx h1]
 exact WA h1 (Lq 5) hb
theorem Xg(h:ur 5 q st)(hn:st≠[])(ht:IsT 5 t):sh as (AE 5) (v5 st t)=sO (sh as (AE 5) st) t:=by
 unfold v5;cases e:st.getLast? with
 | none=>exact absurd (D6.mp e) hn
 | some s =>
  have es:st=st.dropLast++[s]:=by
   have:=List.dropLast_concat_getLast hn;rw[List.getLast?_eq_some_getLast hn]at e;rw[← Av e];exact this.symm
  have h1:=Pq (as:=as) (Lq 5) (λx hx=>h x (HZ _ hx))
  conv=>rhs;rw[es]
  rw[OR,OR];simp[sh];have ep:tL as (s.1,sO s.2.1 t,sO s.2.2 t)=sO (tL as s) t:=by
   unfold tL;split <;> rfl
  rw[ep,N7 h1 (On (as:=as) (h s (E7 e))) ht]
theorem NG(hq:0 < q) as:∀ (s:Sy) r,s.plain->s.qs q->Rg r->sh as (AE 5) (s.steps r)=cond (s.so as) r (AE 5)
 | .yes,r,_,_,hr=>by
  have hp:tL as (0,r,r)=r:=by unfold tL;dsimp only;split <;> rfl
  simp[Sy.steps,sh,hp];exact Mf hr.isT
 | .no,r,_,_,hr=>by
  have hp:tL as (0,AE 5,AE 5)=AE 5:=by unfold tL;dsimp only;split <;> rfl
  simp[Sy.steps,sh,hp];exact Mf (Lq 5)
 | .ask k,r,_,_,hr=>by
  simp only[Sy.steps,sh,Sy.so];unfold tL;dsimp only;by_cases h:as.getD k 0=1
  ·rw[if_pos h,show (as.getD k 0 == 1)=true by rw[h];rfl];exact Mf hr.isT
  ·rw[if_neg h,show (as.getD k 0 == 1)=false by simpa using h];exact Mf (Lq 5)
 | .nt a,r,hp,h,hr=>by
  have hn:a.steps (sR r)≠[]:=λz=>by
   have:=MQ a (sR r) hp;rw[z]at this;have:=M8 a;simp at *;lia
  simp[Sy.steps,Sy.so];rw[Xg ((MF hq a _ hp h hr.back).ok) hn hr.isT,NG hq as a _ hp h hr.back];cases a.so as with
  | true=>simp;exact Sf hr.isT
  | false=>simp;exact Mf hr.isT
 | .an a b,r,hp,h,hr=>by
  obtain⟨_,r1,r2,er⟩:=hr.ap;have a1:=(MF hq a _ hp.1 h.1 r1).ok;have b1:=(MF hq b _ hp.2 h.2 r2).ok;have a2:=(MF hq a _ hp.1 h.1 r1.back).ok;have app:∀ {x y:List yO},ur 5 q x->ur 5 q y->ur 5 q (x++y):=λhx hy s hs=>(A6.mp hs).elim (hx s) (hy s)
  simp only[Sy.steps,Sy.so];rw[Od (app (app a1 b1) a2) ((MF hq b _ hp.2 h.2 r2.back).ok),Od (app a1 b1) a2,Od a1 b1,NG hq as a _ hp.1 h.1 r1,NG hq as b _ hp.2 h.2 r2,NG hq as a _ hp.1 h.1 r1.back,NG hq as b _ hp.2 h.2 r2.back];have i1:=r1.isT;have i2:=r2.isT;have j1:=r1.back.isT;have s5:=Lq 5;cases a.so as with
  | true =>
   cases b.so as with
   | true =>
    simp;rw[N7 (Li i1 i2) j1 r2.back.isT];exact er
   | false =>
    simp;rw[Mx i1,Mx (Li i1 j1),Pj i1]
  | false =>
   cases b.so as with
   | true =>
    simp;rw[Mf i2,Mx i2,Pj i2]
   | false =>
    kernel_rfl
noncomputable abbrev vY (n qs:Nat) (st:List yO):T:=.t [iT (n:Int),iT (qs:Int),.t (st.map uB)]
noncomputable abbrev wb (s:Sy) (r:List Nat):T:=.t [s.t,sF r]
noncomputable abbrev spT (st:List yO):T:=.t (st.map uB)
noncomputable def Sy.prs:Sy->List Nat->Rs
 | .yes,r=>.mk (wb .yes r) (spT (Sy.steps .yes r)) []
 | .no,r=>.mk (wb .no r) (spT (Sy.steps .no r)) []
 | .ask q,r=>.mk (wb (.ask q) r) (spT (Sy.steps (.ask q) r)) []
 | .nt a,r=>.mk (wb (.nt a) r) (spT (Sy.steps (.nt a) r)) [a.prs (sR r)]
 | .an a b,r=>.mk (wb (.an a b) r) (spT (Sy.steps (.an a b) r)) [a.prs (uq r).1,b.prs (uq r).2,a.prs (sR (uq r).1),b.prs (sR (uq r).2)]
 | s,r=>.mk (wb s r) (spT []) []
def Qi s r:(s.prs r).e=wb s r:=by cases s <;> rfl
theorem Ou(s:Sy) r (h:s.plain):(s.prs r).v=spT (s.steps r):=by
 cases s with
 | or a b | ei a b | mo a b c=>exact h.elim
 | _=>rfl
theorem Na:∀ (s:Sy) r,s.plain->(s.prs r).pre.length<=s.wt * s.down
 | .yes,r,_ | .no,r,_ | .ask _,r,_=>by simp[Sy.prs,L9,MI,Sy.wt,Sy.down]
 | .nt a,r,h=>by
  have h1:=Na a (sR r) h;have h2:=M8 a;simp only[Sy.prs,L9,Lv,MI,Bv,CP,Sy.wt,Sy.down];lia
 | .an a b,r,h=>by
  have a1:=Na a (uq r).1 h.1;have a2:=Na a (sR (uq r).1) h.1;have b1:=Na b (uq r).2 h.2;have b2:=Na b (sR (uq r).2) h.2;have pa:=M8 a;have ma:a.wt * a.down<=a.wt * max a.down b.down:=Du _ (GI _ _);have mb:b.wt * b.down<=b.wt * max a.down b.down:=Du _ (Fu _ _);simp only[Sy.prs,L9,Lv,MI,Bv,CP,A8,Sy.wt,Sy.down];lia
theorem Qy s r (h:s.kids=[]):wz [.v (wb s r)]=some (.l [],[]):=by
 cases s with
 | yes | no | ask q=>kernel_rfl
 | _=>cases h
def lG a r (hr:Rg r):wz [.v (wb (.nt a) r)]=some (.l [wb a (sR r)],[]):=by
 have e:=Nj 5 r hr.isT ∅;unfold wb;simp only[Sy.t];generalize sF r=R at *;generalize sF (sR r)=BR at *;simp[wz,sX,ACj,e]
def fz a b r (hr:Rg r):wz [.v (wb (.an a b) r)]=some (.l [wb a (uq r).1,wb b (uq r).2,wb a (sR (uq r).1),wb b (sR (uq r).2)],[]):=by
 obtain⟨e0,r1,r2,_⟩:=hr.ap;have e1:=Nj 5 _ r1.isT ∅;have e2:=Nj 5 _ r2.isT ∅;unfold wb;simp only[Sy.t];generalize sF r=R at *;generalize sF (sR (uq r).1)=B1 at *;generalize sF (sR (uq r).2)=B2 at *;generalize sF (uq r).1=A1 at *;generalize sF (uq r).2=A2 at *;simp[wz,sX,ACj,e0,e1,e2]
theorem NN:∀ (s:Sy) r,s.plain->Rg r->(s.prs r).In wz
 | .yes,r,_,_=>Lx.mpr ⟨.inr (Qy .yes r rfl),L4⟩
 | .no,r,_,_=>Lx.mpr ⟨.inr (Qy .no r rfl),L4⟩
 | .ask q,r,_,_=>Lx.mpr ⟨.inr (Qy (.ask q) r rfl),L4⟩
 | .nt a,r,h,hr=>Lx.mpr ⟨.inr (by rw[AY,Qi];exact lG a r hr),Lh.mpr ⟨NN a _ h hr.back,L4⟩⟩
 | .an a b,r,h,hr=>by
  obtain⟨_,r1,r2,_⟩:=hr.ap;exact Lx.mpr ⟨.inr (by simp only[AY,Qi];exact fz a b r hr),Lh.mpr ⟨NN a _ h.1 r1,Lh.mpr ⟨NN b _ h.2 r2,Lh.mpr ⟨NN a _ h.1 r1.back,Lh.mpr ⟨NN b _ h.2 r2.back,L4⟩⟩⟩⟩⟩
theorem ZR(s:Sy) r (h:s.kids=[]):ACn [.v s.t,.v (sF r)]=some (.v (.t [iT ((match s with | .ask q=>q | _=>0:Nat):Int),(match s with | .no=>sF (AE 5) | _=>sF r),(match s with | .yes=>sF r | _=>sF (AE 5))]),[]):=by
 have e':xK [.v (⇑5)]=some (.v (sF (AE 5)),[]):=(OW 5 ∅)
 cases s with
 | yes=>kernel_rfl
 | no | ask q=>kernel_rfl
 | _=>cases h
theorem Qx s r (h:s.kids=[]):xN [.v (wb s r),.r []]=some (.v (spT (s.steps r)),[]):=by
 have e:=ZR s r h;have g1:1<=AC:=by decide
 unfold wb spT;cases s with
 | yes =>
  kernel_rfl
 | no =>
  kernel_rfl
 | ask q =>
  kernel_rfl
 | _=>cases h
def cu xs (h:xs≠[]):vy xs none (some (-1))=xs.dropLast:=by
 have:HT.sIx xs.length xs.length (some (-1))=xs.length - 1:=by
  show (if (-1) < 0 then ((-1)+(xs.length:Int)).toNat else min (-1).toNat xs.length)=_
  grind
 unfold vy;rw[this,HT.sIx_none];simp[Em]
theorem eG st t (h:ur 5 q st) (hn:st≠[]) (ht:IsT 5 t) (hl:st.length<=5000):ACM [.v (spT st),.v (sF t)]=some (.v (spT (v5 st t)),[]):=by
 unfold v5;cases e:st.getLast? with
 | none=>exact absurd (D6.mp e) hn
 | some s =>
  have hs:=h s (E7 e);have e1:=Mz 5 s.2.1 t hs.2.1 ht ∅;have e2:=Mz 5 s.2.2 t hs.2.2 ht ∅;have e3:vB (st.map uB) (-1)=some (uB s):=by
   rw[Rk (by simpa using hn),Ak,Af,← List.getLast?_eq_getElem?,e];rfl
  have e4:vy (st.map uB) none (some (-1))=st.dropLast.map uB:=by rw[cu _ (by simpa using hn),List.map_dropLast]
  have g1:1<=AC:=by decide
  have g3:3<=AC:=by decide
  have gl:(st.dropLast.map uB).length+1<=AC:=Ld ↥2;unfold spT;rw[Bj,AY];generalize st.dropLast.map (λs=>T.t [iT (s.1),sF s.2.1,sF s.2.2])=DL at *;simp[ACM,sX,ADa,gd,g1,g3,gl,e1,e2,e3,e4]
def m4(hq:0 < q) a r (hp:a.plain) (h:a.qs q) (hw:a.wt<=1000) (hr:Rg r):xN [.v (wb (.nt a) r),.r [spT (a.steps (sR r))]]=some (.v (spT (Sy.steps (.nt a) r)),[]):=by
 have hl:=MQ a (sR r) hp;have hn:a.steps (sR r)≠[]:=λz=>by
  rw[z]at hl;have:=M8 a;simp at hl;lia
 have e:=eG (a.steps (sR r)) r (MF hq a _ hp h hr.back).ok hn hr.isT ⋯;simp[Sy.steps];unfold wb;simp only[Sy.t];generalize sF r=R at *;simp[xN,sX,ACi,e]
def aw a b r (hp:a.plain/\b.plain) (hw:a.wt+b.wt<=1000):xN [.v (wb (.an a b) r),.r [spT (a.steps (uq r).1),spT (b.steps (uq r).2),spT (a.steps (sR (uq r).1)),spT (b.steps (sR (uq r).2))]]=some (.v (spT (Sy.steps (.an a b) r)),[]):=by
 have l3:=MQ a (sR (uq r).1) hp.1;simp only[Sy.steps];unfold wb spT;simp only[Sy.t,Bj];have k1:((a.steps (uq r).1).map uB).length=a.wt:=by rw[Af,(MQ a (uq r).1 hp.1)]
 have k2:((b.steps (uq r).2).map uB).length=b.wt:=by rw[Af,(MQ b (uq r).2 hp.2)]
 have k3:((a.steps (sR (uq r).1)).map uB).length=a.wt:=by rw[Af,l3]
 have k4:((b.steps (sR (uq r).2)).map uB).length=b.wt:=by rw[Af,(MQ b (sR (uq r).2) hp.2)]
 generalize (a.steps (uq r).1).map uB=S1 at *;generalize (b.steps (uq r).2).map uB=S2 at *;generalize (a.steps (sR (uq r).1)).map uB=S3 at *;generalize (b.steps (sR (uq r).2)).map uB=S4 at *;generalize sF r=R;have g1:S1.length+S2.length<=AC:=Ld ⋯;have g2:S1.length+S2.length+S3.length<=AC:=Ld ⋯;have g3'':S1.length+(S2.length+S3.length)+S4.length<=AC:=Ld ⋯;simp[xN,sX,ACi,gd,g1,g2,g3'']
def aN:a.wt<=(Sy.an a b).wt/\b.wt<=(Sy.an a b).wt/\a.wt+b.wt<=(Sy.an a b).wt:=by simp[Sy.wt];lia
theorem NZ(hq:0 < q):∀ (s:Sy) r,s.plain->s.qs q->s.wt<=1000->Rg r->(s.prs r).Put xN
 | .yes,r,_,_,_,_=>Lz.mpr ⟨Qx .yes r rfl,L5⟩
 | .no,r,_,_,_,_=>Lz.mpr ⟨Qx .no r rfl,L5⟩
 | .ask q,r,_,_,_,_=>Lz.mpr ⟨Qx (.ask q) r rfl,L5⟩
 | .nt a,r,hp,h,hw,hr=>Lz.mpr ⟨by rw[AY,Ou _ _ (show a.plain from hp)];exact m4 hq a r hp h hw hr,Ls.mpr ⟨NZ hq a _ hp h hw hr.back,L5⟩⟩
 | .an a b,r,hp,h,hw,hr=>by
  obtain⟨_,r1,r2,_⟩:=hr.ap;have w:=aN (a:=a) (b:=b);exact Lz.mpr ⟨by simp only[AY,Ou _ _ hp.1,Ou _ _ hp.2];exact aw a b r hp ⋯,Ls.mpr ⟨NZ hq a _ hp.1 h.1 ⋯ r1,Ls.mpr ⟨NZ hq b _ hp.2 h.2 ⋯ r2,Ls.mpr ⟨NZ hq a _ hp.1 h.1 ⋯ r1.back,Ls.mpr ⟨NZ hq b _ hp.2 h.2 ⋯ r2.back,L5⟩⟩⟩⟩⟩
def g7:ACC.find? (λq=>decide (q.1=("pieces_in":Str)))=some (("pieces_in":Str),1,wz):=by rfl
def cT:ACI.find? (λq=>decide (q.1=("steps_of":Str)))=some (("steps_of":Str),2,xN):=by rfl
def jP:ACI.find? (λq=>decide (q.1=("weight_of":Str)))=some (("weight_of":Str),2,AAj):=by rfl
def m9(s:Sy):AAj [.v s.t,.r (s.kids.map λk=>iT (k.wt:Int))]=some (.v (iT (s.wt:Int)),[]):=by
 have c2:∀ x,ua 2 x:=λx=>.inl ⟨by decide,by decide⟩
 have c8:∀ x,ua 8 x:=λx=>.inl ⟨by decide,by decide⟩
 have c12:∀ x,ua 12 x:=λx=>.inl ⟨by decide,by decide⟩
 have c4:∀ x,ua 4 x:=λx=>.inl ⟨by decide,by decide⟩
 cases s <;> kernel_rfl
def fj(s:Sy)(h:s.parts<=80000):ACA [.v s.t]=some (.v (iT (s.wt:Int)),[]):=by
 have:=QG WB jP (s.rs λk=>iT (k.wt)) (s.rs_in _) (s.rs_put _ m9) (by rw[Sy.rs_pre];exact h);rw[← Qv,Sy.rs_e,Sy.rs_v]at this;simp[ACA,sX,AES,AAf,ACf,this]
def ZI(s:Sy) q most r (hq:0 < q) (h:s.qs q) (hr:Rg r) (hw:s.wt<=most) (hm:most<=128) (hd:s.down<=12) (hp:s.parts<=1000) :
  AAi [.v s.t,.v (iT q),.v (sF r),.v (iT most)]=some (.v (vY 5 q (s.spell.steps r)),[]):=by
 have e1:=fj s ⋯;have e2:=W8 s ⋯;have pl:=L3 s;have hb:(s.spell.prs r).pre.length<=80000:=by
  have h1:=Na s.spell r pl;rw[MP]at h1;have h2:=MJ s;have h3:s.wt * s.spell.down<=128 * 84:=Nat.mul_le_mul ⋯ ⋯;lia
 have e3:=QG g7 cT (s.spell.prs r) (NN _ r pl hr) (NZ hq _ r pl (L0 s h) (by rw[MP];lia) hr) hb;rw[← Qv,Qi,Ou _ _ pl]at e3;have e4:=hr.facts.2.2.2;have c:¬ most < (s.wt):=by lia
 have g3:3<=AC:=by decide
 unfold wb at e3;have e5:ABk [.v s.t,.v (sF r),.v (iT most)]=some (.v (.a .non),[]):=by
  generalize sF r=R at *;simp[ABk,sX,AEP,e4,e1,c]
 show _=some (G.v (.t [iT (5),iT q,spT (s.spell.steps r)]),[]);generalize sF r=R at *;simp[AAi,sX,AEY,e5,e2,e3]
noncomputable def uo:Nat->List (List Nat)
 | 0=>[[]]
 | q+1=>(uo q).map (0::·)++(uo q).map (1::·)
noncomputable def ABn (a:List Nat):List (List Nat):=[a++[0],a++[1]]
theorem US x (l:List (List Nat)):(l.map (x::·)).flatMap ABn=(l.flatMap ABn).map (x::·):=by
 induction l with
 | nil=>rfl
 | cons a r ih=>simp only[AY,IT,ih];rfl
theorem Rz:∀ q,(uo q).flatMap ABn=uo (q+1)
 | 0=>rfl
 | q+1=>by
  rw[uo,List.flatMap_append,US,US,Rz q];rfl
theorem U9:∀ q,(uo q).length=2 ^ q
 | 0=>rfl
 | q+1=>by rw[uo];simp[U9 q];lia
def VN(h:q<=10):(uo q).length<=1024:=by
 rw[U9];exact Ah (Nat.pow_le_pow_right ∅ h) ∅
theorem Qz:∀ q a,a∈uo q->vq q a
 | 0,a,h=>by
  simp[uo]at h;subst h;exact⟨rfl,λx hx=>nomatch hx⟩
 | q+1,a,h=>by
  simp[uo]at h;rcases h with ⟨b,hb,rfl⟩ | ⟨b,hb,rfl⟩
  iterate 2
   ·have:=Qz q b hb;exact⟨by simp[this.len],λx hx=>(AN.mp hx).elim (λz=>by lia) (this.lt x)⟩
theorem WQ q x1 x2:∀ (L:List (List Nat)) acc o4,acc.length+2 * L.length<=5000->(∀ a∈L,a.length<=1000)->∃ o4',tX (sJ 4) OT (L.map sF) [q,x1,x2,some (.l acc),o4]=↥([q,x1,x2,some (.l (acc++(L.flatMap ABn).map sF)),o4'])
 | [],acc,o4,_,_=>⟨o4,by rw[B4,MB];simp⟩
 | a::r,acc,o4,hl,ha=>by
  obtain⟨o4',e⟩:=WQ q x1 x2 r (acc++[sF (a++[0]),sF (a++[1])]) (~~~(sF a)) (by simp at hl ⊢;lia) λz hz=>ha z (AI _ hz)
  refine⟨o4',?_⟩;have g1:1<=AC:=by decide
  have g2:2<=AC:=by decide
  have g3:a.length+1<=AC:=Ld (by have:=ha a AH;lia);have g4:acc.length+2<=AC:=Ld ⋯;have g5:acc.length<=AC:=Ld ⋯;have turn:OT [q,x1,x2,some (.l acc),~~~(sF a)]=↥([q,x1,x2,some (.l (acc++[sF (a++[0]),sF (a++[1])])),~~~(sF a)]):=by
   simp[OT,gd,g1,g2,g3,g4,g5]
  rw[AY,Lr ↥1 turn,e];rw[ BC];rfl
theorem Wj q:∀ its k o2 o3 o4,its.length+k<=10->∃ o2' o3' o4',tX (sJ 2) Ni its [q,some (.l ((uo k).map sF)),o2,o3,o4]=↥([q,some (.l ((uo (its.length+k)).map sF)),o2',o3',o4'])
 | [],k,o2,o3,o4,_=>⟨o2,o3,o4,by rw[MB,Ca,BU]⟩
 | t::r,k,o2,o3,o4,h=>by
  have hk:=VN (q:=k) ⋯;obtain⟨p4,e1⟩:=WQ q (some (.r ((uo k).map sF))) (~~~t) (uo k) [] o4 ↥2 λa ha=>by have:=(Qz k a ha).len;simp at h;lia
  rw[ Rz]at e1;obtain⟨o2',o3',o4',e⟩:=Wj q r (k+1) (~~~t) none p4 (by simp at h ⊢;lia);refine⟨o2',o3',o4',?_⟩;have g1:(uo k).length<=AC:=Ld ⋯;have turn:Ni [q,some (.l ((uo k).map sF)),~~~t,o3,o4]=↥([q,some (.l ((uo (k+1)).map sF)),~~~t,none,p4]):=by
   simp[Ni,gd,g1,x6,e1,zV]
  rw[Lr ↥1 turn,e];have:r.length+(k+1)=(t::r).length+k:=by simp;lia
  rw[this]
def Wr(q:Nat)(hq:q<=10):ABv [.v (iT q)]=some (.l ((uo q).map sF),[]):=by
 have hr:(t9 0 q).length=q:=by simp[t9]
 obtain⟨o2,o3,o4,e⟩:=Wj (~~~(iT q)) (t9 0 q) 0 none none none ⋯;rw[hr]at e;have e':tX (sJ 2) Ni (t9 0 q) [~~~(iT q),~~~[.t []],none,none,none]=↥([~~~(iT q),some (.l ((uo q).map sF)),o2,o3,o4]):=e;simp[ABv,sX,ADm,(Mg q ⋯),e']
def QD(bs:List Bool):ue (bs.map λb=>T.a (.bl b))=some (bs.map HE)/\An (bs.map HE)=true/\xb (bs.map HE) (.bool true)=some ((bs.count true:Nat):Int):=by
 refine⟨?_,?_,?_⟩
 ·induction bs with
  | nil=>rfl
  | cons b r ih=>simp[ ue,ih];rfl
 ·induction bs with
  | nil=>rfl
  | cons b r ih=>simp only[AY,An,ih];rfl
 ·unfold xb;congr 2;induction bs with
  | nil=>rfl
  | cons b r ih =>
   rw[AY,Fl,ih,List.count_cons];cases b <;> rfl
theorem dP(ha:vq m as):∀ (n:Nat) (s:Sy),s.down<=n->s.qs m->F_2 n [.v s.t,.v (sF as)]=some (.v (.a (.bl (s.so as))),[]):=by
 intro n;induction n with
 | zero=>intro s h;have:=s.down_pos;lia
 | succ n ih =>
  intro s h hq;have g0:0<=AC:=by decide
  have g1:1<=AC:=by decide
  have g2:2<=AC:=by decide
  have g3:3<=AC:=by decide
  have nd:([.inr "yes",.inr "no",.inr "and",.inr "or",.inr "either",.inr "most"]:List tu).Nodup:=by decide +kernel
  have t1:yQ (T.a (V.bl true))=some (.bool true):=rfl;have t2:Bd (.bool true)=true/\DC (.bool true)<=100:=⟨rfl,by decide⟩
  have ea:∀ k:Sy,k.down<=n->k.qs m->OS (F_2 n) [~~~k.t,~~~(sF as)]=some (.v (.a (.bl (k.so as))),[~~~k.t,~~~(sF as)]):=λk hk hkq=>by
   have:=ih k hk hkq;generalize sF as=AS at *;simp[OS,this]
  have c0:=QD [];have c2:=λx y=>QD [x,y]
  have c3:=λx y z=>QD [x,y,z]
  simp only[AY,B4]at c0 c2 c3;cases s with
  | ask k =>
   have h0:=Tg ha (show k < m from hq);have h2:=NW h0;have e1:(decide (((as.getD k 0:Nat):Int)=1))=(as.getD k 0 == 1):=by
    by_cases c:as.getD k 0=1
    ·rw[c];rfl
    ·rw[decide_eq_false ⋯,show (as.getD k 0 == 1)=false by simpa using c]
   simp only[Sy.so];generalize as.getD k 0=x at *;unfold sF;generalize uG as=AS at *;simp only[iT]at h2;simp[F_2,sX,d_2,Sy.t,h2,e1]
  | nt a =>
   have e:=ea a (by simp only[Sy.down]at h;lia) hq;generalize sF as=AS at *;simp[F_2,sX,d_2,Sy.t,Sy.so,wa,L7,MC,gd,g1,e]
  | yes | no =>
   generalize sF as=AS;simp[F_2,sX,d_2,Sy.t,Sy.so,wa,MC,gd,g0,c0,t1,t2,nd,xF,vc]
  | an a b | or a b | ei a b =>
   have e:=ea a (by simp only[Sy.down]at h;lia) hq.1;have e':=ea b (by simp only[Sy.down]at h;lia) hq.2;simp only[Sy.so];generalize a.so as=x,b.so as=y,sF as=AS at *;simp[F_2,sX,d_2,Sy.t,wa,L7,MC,gd,g2,e,e',c2,t1,t2,nd,xF,vc]
   try (cases x <;> cases y <;> rfl)
  | mo a b c =>
   have e:=ea a (by simp only[Sy.down]at h;lia) hq.1;have e':=ea b (by simp only[Sy.down]at h;lia) hq.2.1;have e2:=ea c (by simp only[Sy.down]at h;lia) hq.2.2;simp only[Sy.so];generalize a.so as=x,b.so as=y,c.so as=z,sF as=AS at *;simp[F_2,sX,d_2,Sy.t,wa,L7,MC,gd,g3,e,e',e2,c3,t1,t2,nd,xF,vc];cases x <;> cases y <;> cases z <;> rfl
def j6(n qs:Nat) s as (hs:s.1 < qs) (ha:vq qs as):AAk [.v (uB s),.v (sF as)]=some (.v (sF (tL as s)),[]):=by
 have h0:=Tg ha hs;unfold tL;generalize as.getD s.1 0=x at h0 ⊢;have h1:=NW h0;by_cases hc:x=1
 ·subst hc;simp[AAk,sX,ACl,h1]
 ·have hc':¬ (x:Int)=1:=by lia
  simp[AAk,sX,ACl,h1,hc,hc']
theorem mO n qs (hn:n<=5) as (ha:vq qs as) d:∀ st c told o4,IsT n c->ur n qs st->st.length+told.length<=10000->∃ o4',tX (sJ 4) Oy (st.map uB) [~~~d,~~~(sF as),some (.l told),~~~(sF c),o4] =
  some (.nx [~~~d,~~~(sF as),some (.l (told++(vR as c st).map sF)),~~~(sF (sh as c st)),o4']):=by
 intro st;induction st with
 | nil=>intro c told o4 _ _ _;exact⟨o4,by simp[MB,vR,sh]⟩
 | cons s r ih =>
  intro c told o4 hc hs hl;have h1:=hs s AH;have hp:=On (as:=as) h1;obtain⟨o4',e3⟩:=ih (sO c (tL as s)) (told++[sF (sO c (tL as s))]) (~~~(uB s)) (Li hc hp) (λx hx=>hs x (AI _ hx)) (by simp at hl ⊢;lia);refine⟨o4',?_⟩;have g1:told.length<=AC:=Ld (by simp at hl;lia);have g2:told.length < AC:=Mm (by simp at hl;lia);have turn:Oy [~~~d,~~~(sF as),some (.l told),~~~(sF c),~~~(uB s)]=↥([~~~d,~~~(sF as),some (.l (told++[sF (sO c (tL as s))])),~~~(sF (sO c (tL as s))),~~~(uB s)]):=by
   simp[Oy,(j6 n qs s as h1.1 ha),(Mz n c (tL as s) hc hp hn),gd,g1,g2]
  rw[AY,Np];simp;rw[turn];simp;rw[e3];simp[vR,sh]
def ai n qs (hn:n<=5) st as (ha:vq qs as) (hs:ur n qs st) (hl:st.length<=5000):ACJ [.v (vY n qs st),.v (sF as)]=some (.l ((vR as (AE n) st).map sF),[]):=by
 obtain⟨o4',e⟩:=mO n qs hn as ha (vY n qs st) st (AE n) [] none (Lq n) hs ↥2;have g:st.length<=AC:=Ld ⋯;simp[ACJ,sX,ADc,(OW n hn),gd,g,e]
def iq n qs (hn:n<=5) st as (ha:vq qs as) (hs:ur n qs st) (hl:st.length<=5000):ABm [.v (vY n qs st),.v (sF as)]=some (.v (sF (sh as (AE n) st)),[]):=by
 have e1:=OW n hn;have g1:1<=AC:=by decide
 have g2:1+st.length<=AC:=Ld ⋯;have last:vB (sF (AE n)::(vR as (AE n) st).map sF) (-1)=some (sF (sh as (AE n) st)):=by
  rw[Rk ↥1];have:=RI as (AE n) st;rw[← AY,Af,Ak,this];rfl
 simp[ABm,sX,ADF,e1,(ai n qs hn st as ha hs hl),gd,g1,(Uy as (AE n) st),g2,last]
def iy:((uW 5).all λt=>zp t == ug.contains (tD t))=true:=↥4
def QH(h:IsT 5 t):zp t=true ↔ tD t∈ug:=by
 have:=beq_iff_eq.mp (AJ.mp iy t (MH h));rw[this,DY]
def AFN:((uW 5).all λt=>decide (t.length=5) && (t.all λk=>decide (k < 5)) && decide t.Nodup)=true:=↥4
def QO(h:t∈uW 5):IsT 5 t:=by
 have:=AJ.mp AFN t h;simp at this;exact⟨this.1.1,this.1.2,this.2⟩
noncomputable def A5t:List (List Nat):=(uW 5).filter zp
def fF:(A5t.length == 60 && ug.all λm=>A5t.any λt=>tD t == m)=true:=↥4
def YX(h:∀ z∈Z,IsT 5 z)(nd:Z.Nodup):(Z.filter zp).length=60 ↔ vT Z:=by
 have k:=fF;rw[Ar,beq_iff_eq]at k;have sub:∀ x∈Z.filter zp,x∈A5t:=λx hx=>by
  have:=Bu.mp hx;exact Bu.mpr ⟨MH (h x this.1),this.2⟩
 have le:=M7 _ _ (nd.filter _) sub;constructor
 ·intro e m hm;refine Dm λnp=>?_
  obtain⟨t,ht,em⟩:=B3.mp (AJ.mp k.2 m hm);have:=M7 (t::Z.filter zp) A5t (BI.mpr ⟨λhx=>np ⟨t,(Bu.mp hx).1,beq_iff_eq.mp em⟩,nd.filter _⟩) (λx hx=>by
   rcases AN.mp hx with q | q
   ·rw[q];exact ht
   ·exact sub x q)
  rw[CP,e,k.1]at this;lia
 ·intro f;have:=M7 A5t (Z.filter zp) ↥4 λt ht=>by
   have q:=Bu.mp ht;have it:=QO q.1;exact Bu.mpr ⟨PC.mem h it (f _ ((QH it).mp q.2)),q.2⟩
  lia
noncomputable def R0:List Nat:=[1,2,3,4,0]
noncomputable def yK:Nat->List Nat
 | 0=>R0
 | k+1=>sO (yK k) R0
noncomputable def wF:List (List Nat):=[yK 0,yK 1,yK 2,yK 3]
noncomputable def vC:List (List Nat):=[[1,2,0,3,4],[2,0,1,3,4]]
def AFT:(wF.all λr=>vC.all λt=>inM (yk [tD r,tD t]) MA)=true:=↥4
def fZ:((wF++vC).all λr=>(uW 5).contains r && ug.contains (tD r) && (uW 5).all λs=>ug.contains (tD (yN r s)))=true:=↥4
def gp:(ug.all λm=>(uW 5).any λt=>tD t == m)=true:=↥4
def vZ (ts:List (List Nat)):Prop:=∀ t,IsT 5 t->tD t∈ug->vX 5 ts t
def vZ.full(h:vZ ts)(g:yT 5 ts Z):vT Z:=λm hm=>by
 obtain⟨t,ht,e⟩:=B3.mp (AJ.mp gp m hm);exact⟨t,(g.mem t).mpr (h t (QO ht) (by simp_all)),(beq_iff_eq.mp e)⟩
def Rf(H:H5 Z)(nd:Z.Nodup):Z.length=60 ↔ vT Z:=by
 have:=YX H.tr nd;rwa [(List.filter_eq_self.mpr λz hz=>(QH (H.tr z hz)).mpr (H.ev z hz))]at this
def P5(h:r∈wF++vC):IsT 5 r/\tD r∈ug/\∀ s,IsT 5 s->tD (yN r s)∈ug:=by
 have k:=AJ.mp fZ r h;simp at k;exact⟨QO k.1.1,k.1.2,λs hs=>k.2 s (MH hs)⟩
def Mj{α:Type}{P:α->Prop}{a b}(ha:P a)(hb:P b):∀ w∈[a,b],P w:=λw hw=>by
 rcases AN.mp hw with e | e
 ·rw[e];exact ha
 ·rw[AD.mp e];exact hb
def VS{α:Type}{P:α->Prop}{a b c}(ha:P a)(hb:P b)(hc:P c):∀ w∈[a,b,c],P w:=λw hw=>by
 rcases AN.mp hw with e | e
 ·rw[e];exact ha
 ·exact Mj hb hc w e
def ji(hr:r∈wF)(ht:t∈vC)(hs:IsT 5 s):vZ [yN r s,yN t s]:=by
 obtain⟨ir,er,ar⟩:=P5 (BB _ hr);obtain⟨it,et,at'⟩:=P5 (Ab _ ht);have hw:=Mj (P:=λw=>IsT 5 w/\tD w∈ug) ⟨ir,er⟩ ⟨it,et⟩;have hw':=Mj (P:=λw=>IsT 5 w/\tD w∈ug) ⟨OE ir hs,ar s hs⟩ ⟨OE it hs,at' s hs⟩;obtain⟨Z,hZ,_⟩:=OU 5 (AF 5) [r,t] ↥1 λw h=>(hw w h).1
 obtain⟨Y,hY,_⟩:=OU 5 (AF 5) [yN r s,yN t s] ↥1 λw h=>(hw' w h).1
 have H:=Qf hw hZ;have H':=Qf hw' hY;have pt:∀ w∈[r,t],PC Z (tD w):=λw h=>⟨w,(hZ.mem w).mpr (vX.one (λw h=>(hw w h).1) h),rfl⟩
 have c:=yT.cj (λw h=>(hw w h).1) hs (λx=>by simp) hZ hY;have l:=c.len H.tr hs hZ.nd;exact λx hx he=>(hY.mem x).mp (PC.mem H'.tr hx (((Rf H' hY.nd).mp (l.trans ((Rf H hZ.nd).mpr (OM H (Mj (pt r AH) (pt t (AI _ AH))) (AJ.mp (AJ.mp AFT r hr) t ht))))) _ he))
def vZ.mono(e:vZ ts)(hu:∀ t∈us,IsT 5 t)(h:∀ t∈ts,t∈us):vZ us:=λx hx hm=>(e x hx hm).sub hu λt ht=>vX.one hu (h t ht)
def Py:IsT 5 R0:=⟨rfl,by decide,by decide⟩
theorem Oo:∀ k,IsT 5 (yK k)
 | 0=>Py
 | k+1=>Li (Oo k) Py
def Tv(ha:IsT 5 a)(hs:IsT 5 s):zy [.v (sF a),.v (sF s)]=some (.v (sF (yN a s)),[]):=by
 have e2:=PD 5 (sR s) a (Lp hs) ha ∅;unfold yN;simp[zy,sX,ADC,(Yg 5 s hs ∅),e2,(PD 5 (sO (sR s) a) s (Li (Lp hs) ha) hs ∅)]
theorem V8 B BY o4 o5:∀ its k o3,∃ o3',tX (sJ 3) Nl its [B,BY,~~~(sF (yK k)),o3,o4,o5]=↥([B,BY,~~~(sF (yK (k+its.length))),o3',o4,o5])
 | [],k,o3=>⟨o3,by simp[MB]⟩
 | it::r,k,o3=>by
  obtain⟨o3',e⟩:=V8 B BY o4 o5 r (k+1) (~~~it);have e1:=PD 5 (yK k) R0 (Oo k) Py ∅;refine⟨o3',?_⟩;have turn:Nl [B,BY,~~~(sF (yK k)),~~~it,o4,o5]=↥([B,BY,~~~(sF (yK (k+1))),~~~it,o4,o5]):=by
   have r5:sF R0=.t [iT 1,iT 2,iT 3,iT 4,iT 0]:=rfl;rw[r5]at e1;show Nl _=↥([B,BY,~~~(sF (sO (yK k) R0)),~~~it,o4,o5]);simp[Nl,e1]
  rw[show k+(it::r).length=k+1+r.length by simp;lia,← e];exact Lr ↥1 turn
def uA(h:f Γ=some (.nx Γ'))(k:g Γ'=r):sG f g Γ=r:=by simp_all
def Yd a b:∃ (ts:List (List Nat)) (a' b':Int),(∀ t∈ts,IsT 5 t)/\2<=ts.length/\ts.length<=3/\vZ (ts.take 2)/\vZ ts/\ABu [.l [iT a,iT b]]=some (.v (.t (ts.map sF)),[iT a',iT b']):=by
 obtain⟨s,a1,b1,hs,e1⟩:=Rq a b 5 ∅;obtain⟨f,a2,b2,hf,e2⟩:=MN a1 b1 4 ∅ ∅;obtain⟨h,a3,b3,hh,e3⟩:=MN a2 b2 2 ∅ ∅;obtain⟨j,a4,b4,hj,e4⟩:=MN a3 b3 2 ∅ ∅;obtain⟨g,a5,b5,hg,e5⟩:=MN a4 b4 3 ∅ ∅;obtain⟨w,a6,b6,hw,e6⟩:=Rq a5 b5 5 ∅;have e1':F_7 [.l [iT a,iT b],.v (⇑5)]=some (.v (sF s),[iT a1,iT b1]):=e1;have e2':vw [.l [iT a1,iT b1],.v (⇑4)]=some (.v (iT f),[iT a2,iT b2]):=e2;have e3':vw [.l [iT a2,iT b2],.v (⇑2)]=some (.v (iT h),[iT a3,iT b3]):=e3;have e4':vw [.l [iT a3,iT b3],.v (⇑2)]=some (.v (iT j),[iT a4,iT b4]):=e4;have e5':vw [.l [iT a4,iT b4],.v (⇑3)]=some (.v (iT g),[iT a5,iT b5]):=e5;have e6':F_7 [.l [iT a5,iT b5],.v (⇑5)]=some (.v (sF w),[iT a6,iT b6]):=e6;have r1:=Mg f ⋯;have hr:(t9 0 f).length=f:=by simp[t9]
 obtain⟨o3,e7⟩:=V8 (~~~[iT a2,iT b2]) (~~~(sF s)) none none (t9 0 f) 0 none;rw[hr,BU]at e7;have hR:yK f∈wF:=by
  have:f=0\/f=1\/f=2\/f=3:=by lia
  rcases this with rfl | rfl | rfl | rfl <;> simp[wF]
 obtain⟨t,et,ht⟩:∃ t,vC[h]?=some t/\t∈vC:=by
  have:h=0\/h=1:=by lia
  rcases this with rfl | rfl
  iterate 2
   ·exact⟨_,rfl,by simp[vC]⟩
 have hT:=(P5 (Ab _ ht)).1;have u1:=Tv (Oo f) hs;have u2:=Tv hT hs;have ev:=ji hR ht hs;have iu:=OE (Oo f) hs;have iv:=OE hT hs;have i2:vB (vC.map sF) h=some (sF t):=dj (by simp_all);have s2:vC.map sF=[.t [iT 1,iT 2,iT 0,iT 3,iT 4],.t [iT 2,iT 0,iT 1,iT 3,iT 4]]:=rfl;have s0:T.t [iT 1,iT 2,iT 3,iT 4,iT 0]=sF (yK 0):=rfl;rw[s2]at i2;obtain⟨U,hU⟩:∃ U,U=yN (yK f) s:=⟨_,rfl⟩
 obtain⟨V,hV⟩:∃ V,V=yN t s:=⟨_,rfl⟩
 rw[← hU]at u1 ev iu;rw[← hV]at u2 ev iv;obtain⟨x,y,hx,hy,he,e8⟩:∃ x y,IsT 5 x/\IsT 5 y/\vZ [x,y]/\(if (j:Int)=0 then [sF V,sF U] else [sF U,sF V])=[sF x,sF y]:=by
  by_cases c:(j:Int)=0
  ·exact⟨V,U,iv,iu,ev.mono (Mj iv iu) (Mj ↥1 ↥1),if_pos c⟩
  ·exact⟨U,V,iu,iv,ev,if_neg c⟩
 have g2:2<=AC:=by decide
 have g3:3<=AC:=by decide
 have g5:5<=AC:=by decide
 have g2':2 < AC:=by decide
 have gf:f<=AC:=Ld ⋯;have sw:∀ BY R o3 o4,uI (sM (sI uw (sE (some 0) vw [] %[jV 0,↑2|0]) ↑0)) (sQ 5 (tO %[sI sY (jV 5) ↑1,sI sY (jV 5) ↑0|0])) sU [~~~[iT a3,iT b3],BY,R,o3,o4,~~~[sF U,sF V]]=↥([~~~[iT a4,iT b4],BY,R,o3,o4,~~~[sF x,sF y]]):=λBY R o3 o4=>by
  rw[← e8];generalize sF U=UU at *;generalize sF V=VV at *;by_cases c:j=0
  ·simp[e4',c,g2]
  ·have c':¬ j=0:=by lia
   simp[e4',c,gd]
 refine⟨if g=0 then [x,y,w] else [x,y],if g=0 then a6 else a5,if g=0 then b6 else b5,?_,?_,?_,?_,?_,?_⟩
 ·split
  ·exact VS hx hy hw
  ·exact Mj hx hy
 ·split <;> simp
 ·split <;> simp
 ·split <;> exact he
 ·split
  ·exact he.mono (VS hx hy hw) (Mj ↥1 ↥1)
  ·exact he
 ·clear e1 e2 e3 e4 e5 e6 e8 ev he hR et ht hT;rw[← s0]at e7;generalize sF U=UU at *;generalize sF V=VV at *;have m2:[x,y].map sF=[sF x,sF y]:=rfl;have m3:[x,y,w].map sF=[sF x,sF y,sF w]:=rfl;have body:∃ Γ,ADx [~~~[iT a,iT b],none,none,none,none,none]=some (.rt (.v (.t ((if g=0 then [x,y,w] else [x,y]).map sF))) (some (.l [iT (if g=0 then a6 else a5),iT (if g=0 then b6 else b5)])::Γ)):=by
   by_cases c:g=0
   ·rw[if_pos c,if_pos c,if_pos c,m3];generalize sF x=XX at *;generalize sF y=YY at *;generalize sF w=WW at *;generalize sF (yK f)=RR at *;generalize sF s=SS at *;generalize sF t=TT at *;subst c;refine⟨[~~~SS,~~~RR,o3,~~~TT,~~~[XX,YY,WW]],?_⟩;refine uA (by simp[e1'];rfl) ?_;refine uA (by simp;rfl) ?_;refine uA (by simp[e2',r1,hr,gd,gf,e7];rfl) ?_;refine uA (by simp[e3',i2,gd,g2,g5];rfl) ?_;refine uA (by simp[u1,u2,gd,g2];rfl) ?_;refine uA (sw _ _ _ _) ?_;simp[e5',e6',g2,g2']
   ·rw[if_neg c,if_neg c,if_neg c,m2];have c':¬ g=0:=by lia
    generalize sF x=XX at *;generalize sF y=YY at *;generalize sF (yK f)=RR at *;generalize sF s=SS at *;generalize sF t=TT at *;refine⟨[~~~SS,~~~RR,o3,~~~TT,~~~[XX,YY]],?_⟩;refine uA (by simp[e1'];rfl) ?_;refine uA (by simp;rfl) ?_;refine uA (by simp[e2',r1,hr,gd,gf,e7];rfl) ?_;refine uA (by simp[e3',i2,gd,g2,g5];rfl) ?_;refine uA (by simp[u1,u2,gd,g2];rfl) ?_;refine uA (sw _ _ _ _) ?_;simp[e5',c,g2]
  obtain⟨Γ,e⟩:=body;simp[ABu,sX,e]
theorem Ui:∀ a c,B0 (tF a) (tF c)=decide (a=c)
 | [],[] | [],y::s | x::r,[]=>by kernel_rfl
 | x::r,y::s=>by
  have:=Ui r s;simp only[tF,AY]at this ⊢;rw[B0,this];have e:BF (.int x) (.int y)=decide (x=y):=by
   by_cases h:x=y
   ·subst h;simp[BF]
   ·have h':¬ x=(y:Int):=by lia
    simp[BF,h,h']
  rw[e];by_cases h:x=y <;> by_cases h2:r=s <;> simp
def Uv Γ t:wY Γ (.v (sF t))=some (.tuple (tF t)):=by
 have:=Om t;simp[wY,yQ,this]
def Qn Γ a c:neS Γ (.v (sF a)) (.v (sF c))= ~~~(.a (.bl (!decide (a=c)))):=by
 have e1:wH (λa b=>!PyData.eqv a b) Γ (.v (sF a)) (.v (sF c))= ~~~(.a (.bl (!decide (a=c)))):=by
  unfold wH;rw[Uv,Uv];simp only[Ai,Bd,Q8,DC,PN,BF,Ui];rfl
 show (none.or (wH (λa b=>!PyData.eqv a b) Γ (.v (sF a)) (.v (sF c))))=_;rw[IZ,e1]
def UT Γ n:zP Γ [.l (Aa n (T.a (.bl true)))]= ~~~(.a (.bl true)):=↥1
def Tt{ts:List (List Nat)}{k}(hk:k < ts.length):vB (ts.map sF) k=some (sF (ts.getD k [])):=by
 rw[ME,Ak,Aw,AU hk];rfl
def Ub{ts:List (List Nat)}(ht:∀ t∈ts,IsT 5 t){k}(hk:k < ts.length):IsT 5 (ts.getD k []):=by simp_all
section
variable {ts:List (List Nat)}(ht:∀ t∈ts,IsT 5 t)(hl:ts.length<=3)
include ht hl
theorem Se(hx:vX 5 ts x):∃ w,(∀ k∈w,k < ts.length)/\w.length<=120/\sN 5 ts w=x/\AAo [.v (iT ((5:Nat):Int)),.v (.t (ts.map sF)),.v (sF x)]=some (.v (sF w),[]):=by
 obtain⟨e,hW⟩:=Vt 5 (AF 5) ts ⋯ ht;obtain⟨p,hp,rfl⟩:=Ao.mp (((S9 (AF 5) ht hW).mem x).mpr hx);have g:=Qj (yI 5 ts) p.1;rw[Vl hW.nd hp]at g;have few:=Ng (AF 5) hW.nd λy hy=>by
  obtain⟨q,hq,rfl⟩:=Ao.mp hy;exact hW.tr q hq
 refine⟨p.2,hW.lt p hp,by have:=hW.ln p hp;simp at few;lia,hW.wk p hp,?_⟩;simp at *;simp[AAo,sX,ADM,e,g]
theorem WI RV:∀ w x o3,(∀ k∈w,k < ts.length)->IsT 5 x->∃ o3',tX (sJ 3) Os (uG w) [~~~(.t (ts.map sF)),RV,~~~(sF x),o3]=↥([~~~(.t (ts.map sF)),RV,~~~(sF (w.foldl (λt k=>sO t (ts.getD k [])) x)),o3'])
 | [],x,o3,_,_=>⟨o3,by simp[ MB]⟩
 | k::r,x,o3,h,hx=>by
  have hk:=h k AH;have hT:=Ub ht hk;obtain⟨o3',e⟩:=WI RV r (sO x (ts.getD k [])) (~~~(iT k)) (λj hj=>h j (AI _ hj)) (Li hx hT);have e1:=PD 5 x (ts.getD k []) hx hT ∅;have e2:=Tt hk;refine⟨o3',?_⟩;have turn:Os [~~~(.t (ts.map sF)),RV,~~~(sF x),~~~(iT k)]=↥([~~~(.t (ts.map sF)),RV,~~~(sF (sO x (ts.getD k []))),~~~(iT k)]):=by
   generalize sF (sO x (ts.getD k []))=Y at *;generalize sF (ts.getD k [])=Z at *;simp[Os,e1,e2]
  rw[Di,← e];exact Lr ↥1 turn
theorem TF(h:∀ k∈w,k < ts.length)(hw:w.length<=120):AAp [.v (.t (ts.map sF)),.v (sF w)]=some (.v (sF (sN 5 ts w)),[]):=by
 obtain⟨o3,e⟩:=WI ht hl (~~~(sF w)) w (AE 5) none h (Lq 5);have s0:sF (AE 5)=.t [iT 0,iT 1,iT 2,iT 3,iT 4]:=rfl;have g5:5<=AC:=by decide
 rw[s0]at e;have gw:(uG w).length<=AC:=Ld ↥2;unfold sN;generalize sF (w.foldl (λt k=>sO t (ts.getD k [])) (AE 5))=Y at *;unfold sF at *;generalize uG w=W at *;simp[AAp,sX,ADo,e,gd,g5,gw]
end
noncomputable def xa (ts:List (List Nat)) (w:List Nat) (k:Nat):List Nat:=if k < w.length then ts.getD (w.getD k 0) [] else AE 5
noncomputable def zY (ts:List (List Nat)) (q:Nat) (u v:List Nat) (k:Nat):yO:=(q,xa ts u k,xa ts v k)
noncomputable def frL (ts:List (List Nat)) (q:Nat) (u v:List Nat):List yO:=(AE (max u.length v.length)).map (zY ts q u v)
section
variable {ts:List (List Nat)}(ht:∀ t∈ts,IsT 5 t)
include ht
theorem VG(h:∀ k∈w,k < ts.length) k:IsT 5 (xa ts w k):=by
 unfold xa;split
 ·rename_i hk;refine Ub ht (h _ ?_);simp_all
 ·exact Lq 5
theorem UH(h:∀ k∈w,k < ts.length) j:sN 5 ts (w.take (j+1))=sO (sN 5 ts (w.take j)) (xa ts w j):=by
 unfold xa;split
 ·rename_i hk;obtain⟨z,hz⟩:∃ z,w[j]?=some z:=⟨_,AU hk⟩
  have hd:w.getD j 0=z:=by rw[Aw,hz];rfl
  rw[JC,hz,hd];exact OJ 5 ts _ _
 ·rw[BA ⋯,BA ⋯,Mx ((U3 w h).isT ht)]
theorem SL as q {u v} (hu:∀ k∈u,k < ts.length) (hv:∀ k∈v,k < ts.length):∀ j,sh as (AE 5) ((AE j).map (zY ts q u v))=if as.getD q 0=1 then sN 5 ts (u.take j) else sN 5 ts (v.take j)
 | 0=>by simp[sh,sN]
 | j+1=>by
  rw[List.range_succ (n:=j),Bj,List.map_singleton,TK,SL as q hu hv j,UH ht hu,UH ht hv];unfold tL zY;split <;> rfl
theorem fQ as s {u v} (hu:∀ k∈u,k < ts.length) (hv:∀ k∈v,k < ts.length) (eu:sN 5 ts u=s.2.1) (ev:sN 5 ts v=s.2.2):sh as (AE 5) (frL ts s.1 u v)=tL as s:=by
 unfold frL;rw[SL ht as s.1 hu hv,BA (GI _ _),BA (Fu _ _),eu,ev];rfl
theorem jk(hq:q < qs){u v}(hu:∀ k∈u,k < ts.length)(hv:∀ k∈v,k < ts.length):ur 5 qs (frL ts q u v):=λs hs=>by
 obtain⟨k,_,rfl⟩:=Ao.mp hs;exact⟨hq,VG ht hu k,VG ht hv k⟩
end
def ax{k:Nat}(h:k < w.length):vB (uG w) k=some (iT ((w.getD k 0:Nat):Int)):=by
 have:w[k]?=some (w.getD k 0):=by rw[Aw,AU h];rfl
 exact NW this
section
variable {ts:List (List Nat)}(ht:∀ t∈ts,IsT 5 t)(hl:ts.length<=3)
include ht hl
theorem Ro o1 o2 o3 o4 o5 o7 o10 {w} (h:∀ k∈w,k < ts.length) (k:Nat) acc (ha:acc.length<=10):Nt [~~~(.t (ts.map sF)),o1,o2,o3,o4,o5,~~~(sF w),o7,~~~(iT k),some (.l acc),o10]=↥([~~~(.t (ts.map sF)),o1,o2,o3,o4,o5,~~~(sF w),o7,~~~(iT k),some (.l (acc++[sF (xa ts w k)])),~~~(sF (xa ts w k))]):=by
 have s0:sF (AE 5)=.t [iT 0,iT 1,iT 2,iT 3,iT 4]:=rfl;have g5:5<=AC:=by decide
 have g1:acc.length < AC:=Mm ⋯;have g1':=CY g1;unfold xa;by_cases c:k < w.length
 ·rw[if_pos c];have e1:=ax c;have e2:=Tt (k:=w.getD k 0) (h _ (by simp_all));generalize sF (ts.getD (w.getD k 0) [])=Y at *;generalize w.getD k 0=z at *;simp[Nt,e1,e2,gd,g5,g1,g1',c]
 ·rw[if_neg c,s0];have c':=by omega
  simp[Nt,gd,g5,g1,g1',c]
theorem So o1 o3 o4 (q:Nat) {u v} (hu:∀ k∈u,k < ts.length) (hv:∀ k∈v,k < ts.length):∀ (is:List Nat) st o6 o8 o9 o10,is.length+st.length<=200->∃ o6' o8' o9' o10',
  tX (sJ 8) O3 (is.map λ(k:Nat)=>iT k) [~~~(.t (ts.map sF)),o1,~~~(iT q),o3,o4,some (.r [sF u,sF v]),o6,some (.l (st.map uB)),o8,o9,o10]=↥([~~~(.t (ts.map sF)),o1,~~~(iT q),o3,o4,some (.r [sF u,sF v]),o6',some (.l ((st++is.map (zY ts q u v)).map uB)),o8',o9',o10'])
 | [],st,o6,o8,o9,o10,_=>⟨o6,o8,o9,o10,by simp[MB]⟩
 | k::r,st,o6,o8,o9,o10,h=>by
  have t1:=Ro ht hl o1 (~~~(iT q)) o3 o4 (some (.r [sF u,sF v])) (some (.l (st.map uB))) o10 hu k [] ∅;have t2:=Ro ht hl o1 (~~~(iT q)) o3 o4 (some (.r [sF u,sF v])) (some (.l (st.map uB))) (~~~(sF (xa ts u k))) hv k [sF (xa ts u k)] ↥1;obtain⟨o6',o8',o9',o10',e⟩:=So o1 o3 o4 q hu hv r (st++[zY ts q u v k]) (~~~(sF v)) (~~~(iT k)) (~~~[sF (xa ts u k),sF (xa ts v k)]) (~~~(sF (xa ts v k))) (by simp at h ⊢;lia);refine⟨o6',o8',o9',o10',?_⟩;have g2:2<=AC:=by decide
  have g3:3<=AC:=by decide
  have g1:(st.map uB).length < AC:=Mm (by simp at h ⊢;lia);have g1':=CY g1;have turn:O3 [~~~(.t (ts.map sF)),o1,~~~(iT q),o3,o4,some (.r [sF u,sF v]),o6,some (.l (st.map uB)),~~~(iT k),o9,o10]=↥([~~~(.t (ts.map sF)),o1,~~~(iT q),o3,o4,some (.r [sF u,sF v]),~~~(sF v),some (.l ((st++[zY ts q u v k]).map uB)),~~~(iT k),~~~[sF (xa ts u k),sF (xa ts v k)],~~~(sF (xa ts v k))]):=by
   rw[Bj];simp only[AY,B4,uB,zY]at t1 t2 g1 g1' ⊢;generalize sF (xa ts u k)=A at *;generalize sF (xa ts v k)=B at *;generalize sF u=U at *;generalize sF v=V' at *;generalize ts.map sF=TS at *;generalize st.map (λs=>T.t [iT (s.1),sF s.2.1,sF s.2.2])=ST at *;simp at *;have e1:tX (sJ 6) Nt [U,V'] [~~~(.t TS),o1,~~~(⇑q),o3,o4,some (.r [U,V']),o6,some (.l ST),~~~(⇑k),~~~[],o10]=↥([~~~(.t TS),o1,~~~(⇑q),o3,o4,some (.r [U,V']),~~~V',some (.l ST),~~~(⇑k),~~~[A,B],~~~B]):=by
    rw[Lr ↥1 t1,Lr ↥1 t2,MB]
   simp[O3,gd,g2,g3,g1,g1',e1]
  rw[AY,AY,show st++zY ts q u v k::r.map (zY ts q u v)=(st++[zY ts q u v k])++r.map (zY ts q u v) by simp,← e];exact Lr ↥1 turn
theorem UJ{w:List Nat}:∀ r o,(∀ k∈r,k < ts.length)->∃ o',uD (sJ 0) vI O2 (uG r) [o,~~~(.t (ts.map sF))]=some (Aa r.length (T.a (.bl true)),[o',~~~(.t (ts.map sF))])
 | [],o,_=>⟨o,rfl⟩
 | k::r,o,h=>by
  obtain⟨o',e⟩:=UJ (w:=w) r (~~~(iT k)) λj hj=>h j (AI _ hj)
  have hk:=h k AH;refine⟨o',d6 rfl ?_ e⟩;simp[O2,(by omega)]
theorem SM(o1 o2 o3 o4 o5 o7 o8 o9 o10:Option G){w:List Nat}(h:∀ k∈w,k < ts.length)(hw:w.length<=120):Pa [~~~(.t (ts.map sF)),o1,o2,o3,o4,o5,~~~(sF w),o7,o8,o9,o10]=↥([~~~(.t (ts.map sF)),o1,o2,o3,o4,o5,~~~(sF w),o7,o8,o9,o10]):=by
 obtain⟨o,e⟩:=UJ ht hl (w:=w) w none h;have al:=λΓ=>UT Γ w.length
 have gw:(uG w).length<=AC:=Ld (by simp[uG];omega);generalize Aa w.length (T.a (.bl true))=BS at *;generalize ts.map sF=TS at *;unfold sF;generalize uG w=W at *;simp[Pa,e,al,xx,ACV,tyN,zF,gw,gd]
theorem iL s (h1:vX 5 ts s.2.1) (h2:vX 5 ts s.2.2):∃ fr,ACQ [.v (.t (ts.map sF)),.v (uB s)]=some (.l (fr.map uB),[])/\fr.length<=120/\(∀ qs,s.1 < qs->ur 5 qs fr)/\∀ as,sh as (AE 5) fr=tL as s:=by
 obtain⟨u,u1,u2,u3,u4⟩:=Se ht hl h1;obtain⟨v,v1,v2,v3,v4⟩:=Se ht hl h2;refine⟨frL ts s.1 u v,?_,by simp[frL];lia,λqs hq=>jk ht hq u1 v1,λas=>fQ ht as s u1 v1 u3 v3⟩;obtain⟨m,hm⟩:∃ m,m=max u.length v.length:=⟨_,rfl⟩
 obtain⟨o6,o8,o9,o10,e1⟩:=So ht hl (~~~(uB s)) (~~~(sF s.2.1)) (~~~(sF s.2.2)) s.1 u1 v1 (AE m) [] (~~~(sF v)) none none none ↥2;have et:t9 0 m=(AE m).map λ(k:Nat)=>iT k:=by simp[t9]
 have r1:=Mg m ⋯;rw[← et]at e1;have ef:frL ts s.1 u v=[]++(AE m).map (zY ts s.1 u v):=by rw[hm];rfl
 rw[ef];have k1:=TF ht hl u1 u2;have k2:=TF ht hl v1 v2;rw[u3]at k1;rw[v3]at k2;have n1:=λΓ=>Qn Γ s.2.1 s.2.1
 have n2:=λΓ=>Qn Γ s.2.2 s.2.2
 have q1:=SM ht hl (~~~(uB s)) (~~~(iT (s.1))) (~~~(sF s.2.1)) (~~~(sF s.2.2)) (some (.r [sF u,sF v])) none none none none u1 u2;have q2:=SM ht hl (~~~(uB s)) (~~~(iT (s.1))) (~~~(sF s.2.1)) (~~~(sF s.2.2)) (some (.r [sF u,sF v])) none none none none v1 v2;have hr:(t9 0 m).length=m:=by simp[t9]
 have gm:m<=AC:=Ld ⋯;have g2:2<=AC:=by decide
 have lu:(uG u).length=u.length:=by simp
 have lv:(uG v).length=v.length:=by simp
 have mx:(if u.length < v.length then (v.length:Int) else (u.length))=m:=by rw[hm];split <;> lia
 generalize ([]++(AE m).map (zY ts s.1 u v)).map uB=FR at *;have es:uB s=.t [iT (s.1),sF s.2.1,sF s.2.2]:=rfl;rw[es]at e1 q1 q2 ⊢;generalize sF s.2.1=Y at *;generalize sF s.2.2=Z at *;generalize ts.map sF=TS at *;generalize (s.1)=Q at *;have f1:tX (sJ 6) Pa [sF u,sF v] [~~~(.t TS),~~~(.t [iT Q,Y,Z]),~~~(iT Q),~~~Y,~~~Z,some (.r [sF u,sF v]),none,none,none,none,none]=↥([~~~(.t TS),~~~(.t [iT Q,Y,Z]),~~~(iT Q),~~~Y,~~~Z,some (.r [sF u,sF v]),~~~(sF v),none,none,none,none]):=by
  rw[Lr ↥1 q1,Lr ↥1 q2,MB]
 unfold sF at *;generalize uG u=U at *;generalize uG v=V' at *;simp at *;refine have go:∃ Γ,ADi [~~~(.t TS),~~~(.t [⇑Q,Y,Z]),none,none,none,none,none,none,none,none,none]=some (.rt (.s 7) Γ)/\Γ[7]?=some (some (.l FR)):=(⟨[~~~(.t TS),~~~(.t [⇑Q,Y,Z]),~~~(⇑Q),~~~Y,~~~Z,some (.r [.t U,.t V']),o6,some (.l FR),o8,o9,o10],uA (by simp;rfl) ?_,rfl⟩);by obtain⟨Γ,e,e2⟩:=go;simp[ACQ,sX,e,xl,e2]
 refine uA (by simp[u4,v4,g2];rfl) ?_;refine uA ‹_› ?_;refine uA (by simp[k1,k2,n1,n2];rfl) ?_;refine uA rfl ?_;refine uA (by simp[ lu,lv,mx,r1,e1];rfl) ?_;simp
end
theorem Ve:∀ {ys xs:List Nat},ys.Nodup->(∀ y∈ys,y∈xs)->xs.length=ys.length->ys.Perm xs
 | [],xs,_,_,h=>by rw[DB.mp h]
 | y::r,xs,nd,hs,hl=>by
  have hy:=hs y AH;have h1:=BI.mp nd;have:=Ve h1.2 (λz hz=>(HY (λ(e:z=y)=>h1.1 (e ▸ hz))).mpr (hs z (AI _ hz))) (by simp_all);exact (this.cons y).trans (List.perm_cons_erase hy).symm
def XJ(h:IsT n t):sortI (t.map λ(k:Nat)=>k)=(AE n).map λ(k:Nat)=>(k:Int):=by
 refine RB ((Q3 _).trans ((Ve DZ (λy hy=>h.mem (BN.mp hy)) (by rw[h.len,FY])).map _).symm) (QE _) ?_;rw[IL];exact J2 (λ{a b} hab=>by lia) List.pairwise_lt_range
def Zu(h:IsT n t)(hn:n<=5) Γ:sortedS Γ [.v (sF t)]=some (.l (uG (AE n))):=by
 have hl:=h.len;have e1:vP Γ (.v (sF t))=some (uG t):=rfl;unfold sortedS;dsimp only;rw[e1,Ai,QY,Ai,if_pos ↥2,XJ h,Ec];rfl
def cC(h0:eqA (λx y=>decide (x=y)) Γ a b=none)(ha:wY Γ a=some d)(hb:wY Γ b=some d)(h1:d.canLay0=true)(h2:d.depth<=100)(h3:BF d d=true):uw Γ a b= ~~~(.a (.bl true)):=by
 have e1:wH BF Γ a b= ~~~(.a (.bl true)):=by
  unfold wH;simp_all
 show ((eqA (λx y=>decide (x=y)) Γ a b).or (wH BF Γ a b))=_;simp_all
def bu Γ t:uw Γ (.l (uG t)) (.l (uG t))= ~~~(.a (.bl true)):=by
 have e0:wY Γ (.l (uG t))=some (.list (tF t)):=by
  show ((s9 Γ (.l (uG t))).bind λxs=>(ue xs).map JK)=_;rw[show s9 Γ (.l (uG t))=some (uG t) from rfl,Ai,Om];rfl
 exact cC rfl e0 e0 (by simp[Bd,Q8]) (by simp only[DC,PN];decide) (by simp[BF,SI])
def We n t (h:IsT n t) (hn:n<=5):zM [.v (iT n),.v (sF t)]=some (.v (bT true),[]):=by
 have e1:=λΓ=>Zu h hn Γ
 have e2:=λΓ=>bu Γ (AE n)
 rw[← (NQ n)]at e1 e2;simp[zM,sX,ADX,e1,(Mg n ⋯),e2]
def ij n qs (hn:n<=5) st (hs:ur n qs st) (i:Nat) s (hi:st[i]?=some s):ABo [.v (vY n qs st),.v (iT i)]=some (.v (.a .non),[]):=by
 have h:=hs s (Df hi);have k2:=We n s.2.2 h.2.2 hn;have a1:vB (st.map uB) i=some (uB s):=by rw[ME,Ak,hi];rfl
 have c2:(s.1) < qs:=by lia
 simp[ABo,sX,ADQ,a1,(We n s.2.1 h.2.1 hn),k2,c2]
theorem dJ n qs (hn:n<=5) st (hs:ur n qs st):∀ (is:List Nat) o,(∀ i∈is,i < st.length)->∃ o',tX (sJ 1) Oe (is.map λ(i:Nat)=>iT i) [~~~(vY n qs st),o]=↥([~~~(vY n qs st),o']):=by
 intro is;induction is with
 | nil=>intro o _;exact⟨o,by rw[B4,MB]⟩
 | cons i r ih =>
  intro o h;obtain⟨o',e3⟩:=ih (~~~(iT i)) λj hj=>h j (AI _ hj)
  refine⟨o',?_⟩;have hi:=h i AH;have turn:Oe [~~~(vY n qs st),~~~(iT i)]=↥([~~~(vY n qs st),~~~(iT i)]):=by
   simp[Oe,(ij n qs hn st hs i (st[i]'hi) ↥1)]
  rw[AY,Np];simp;rw[turn];simp;rw[e3]
def ZE n qs (h3:3<=n) (hn:n<=5) (h0:0 < qs) (hq:qs<=10) st (hs:ur n qs st) (hl:st.length<=5000):ABj [.v (vY n qs st)]=some (.v (bT true),[]):=by
 obtain⟨o',e⟩:=dJ n qs hn st hs (AE st.length) none λi hi=>BN.mp hi
 have r2:=NQ st.length;have r1:=Mg st.length ⋯;have c1:(3:Int)<=n:=by lia
 have c2:(n:Int)<=5:=by lia
 have c3:(1:Int)<=qs:=by lia
 have c4:(qs:Int)<=10:=by lia
 have hL:(st.map uB).length=st.length:=by simp
 rw[← hL]at r1;simp[vY]at e ⊢;generalize st.map uB=L at *;rw[← hL]at r2 e;simp[ABj,sX,ADI,c1,c2,c3,c4,r1,r2,e]
section
variable {ts:List (List Nat)}(ht:∀ t∈ts,IsT 5 t)(hl:ts.length<=3)(he:vZ ts)
include ht hl he
theorem SB(h:Ev t):vX 5 ts t:=he t h.isT ((QH h.isT).mp h.ev)
theorem WU q o0 o1 o3 o4 o5 o9 o10:∀ st D o7 o8,StE q st->ur 5 q D->D.length+120 * st.length<=4000->∃ (D':List yO) (o7' o8':Option G),ur 5 q D'/\D'.length<=4000/\(∀ as,sh as (AE 5) D'=sh as (sh as (AE 5) D) st) /\
  tX (sJ 7) O1 (st.map uB) [o0,o1,~~~(.t (ts.map sF)),o3,o4,o5,some (.l (D.map uB)),o7,o8,o9,o10]=↥([o0,o1,~~~(.t (ts.map sF)),o3,o4,o5,some (.l (D'.map uB)),o7',o8',o9,o10])
 | [],D,o7,o8,_,h,hn=>⟨D,o7,o8,h,by simp at hn;lia,λas=>rfl,by simp[MB]⟩
 | s::r,D,o7,o8,hs,h,hn=>by
  have h1:=hs s AH;obtain⟨fr,e1,f1,f2,f3⟩:=iL ht hl s (SB ht hl he h1.2.1) (SB ht hl he h1.2.2);have f4:=f2 q h1.1;obtain⟨D',o7',o8',g1,g2,g3,e⟩:=WU q o0 o1 o3 o4 o5 o9 o10 r (D++fr) (~~~(uB s)) (some (.l (fr.map uB))) (λx hx=>hs x (AI _ hx)) (λx hx=>(A6.mp hx).elim (h x) (f4 x)) (by simp at hn ⊢;lia);refine⟨D',o7',o8',g1,g2,λas=>?_,?_⟩
  ·rw[g3 as,Od h f4,f3 as];rfl
  ·have gl:(D.map uB).length+(fr.map uB).length<=AC:=Ld (by simp at hn ⊢;lia);have gx:(D.map uB).length<=AC:=Ld (by simp at hn ⊢;lia);have turn:O1 [o0,o1,~~~(.t (ts.map sF)),o3,o4,o5,some (.l (D.map uB)),~~~(uB s),o8,o9,o10]=↥([o0,o1,~~~(.t (ts.map sF)),o3,o4,o5,some (.l ((D++fr).map uB)),~~~(uB s),some (.l (fr.map uB)),o9,o10]):=by
    rw[Bj];generalize D.map uB=DD at *;generalize fr.map uB=FF at *;generalize uB s=SS at *;simp[O1,e1,vi,rfS,uP,gd,gl,gx]
   rw[ ← e];exact Lr ↥1 turn
end
def mv(hq:q<=10)(s:Sy)(hs:s.qs q)(hd:s.down<=20) r D (hD:ur 5 q D) (hl:D.length<=4000) as (ha:vq q as) (hw:sh as (AE 5) D=cond (s.so as) r (AE 5)) o0 o1 o2 o3 o6 o7 o8 :
  Ny [o0,o1,o2,o3,~~~s.t,~~~(sF r),o6,o7,o8,~~~(vY 5 q D),~~~(sF as)]=↥([o0,o1,o2,o3,~~~s.t,~~~(sF r),o6,o7,o8,~~~(vY 5 q D),~~~(sF as)]):=by
 have e1:=iq 5 q ∅ D as ha hD ⋯;have e2:=dP ha Q7 s hd hs;have n1:=λΓ=>Qn Γ (sh as (AE 5) D) (cond (s.so as) r (AE 5))
 rw[decide_eq_true hw]at n1;rw[hw]at e1 n1;have s0:sF (AE 5)=.t [iT 0,iT 1,iT 2,iT 3,iT 4]:=rfl;have g5:5<=AC:=by decide
 have g2:2<=AC:=by decide
 generalize sF as=AS at *;cases hb:s.so as
 ·rw[hb]at e1 e2 n1;simp only[cond_false]at e1 n1;rw[s0]at e1 n1;generalize sF r=R at *;simp[Ny,e1,e2,gd,g5,g2,n1]
 ·rw[hb]at e1 e2 n1;simp only[cond_true]at e1 n1;generalize sF r=R at *;simp[Ny,e1,e2,gd,g5,g2,n1]
theorem Vv(hq:q<=10)(s:Sy)(hs:s.qs q)(hd:s.down<=20) r D (hD:ur 5 q D) (hl:D.length<=4000) (hw:∀ as,sh as (AE 5) D=cond (s.so as) r (AE 5)) o0 o1 o2 o3 o6 o7 o8:∀ (L:List (List Nat)) o10,(∀ as∈L,vq q as)->∃ o10',
  tX (sJ 10) Ny (L.map sF) [o0,o1,o2,o3,~~~s.t,~~~(sF r),o6,o7,o8,~~~(vY 5 q D),o10]=↥([o0,o1,o2,o3,~~~s.t,~~~(sF r),o6,o7,o8,~~~(vY 5 q D),o10'])
 | [],o10,_=>⟨o10,by simp[MB]⟩
 | as::L,o10,h=>by
  obtain⟨o10',e⟩:=Vv hq s hs hd r D hD hl hw o0 o1 o2 o3 o6 o7 o8 L (~~~(sF as)) λx hx=>h x (AI _ hx)
  refine⟨o10',?_⟩;rw[ ← e];exact Lr ↥1 (mv hq s hs hd r D hD hl as (h as AH) (hw as) o0 o1 o2 o3 o6 o7 o8)
def aP:sE ip F [v] da Γ=(da Γ).bind λp=>if vt ip p.1=true then (uh ip p.2 0 (p.1++[.v (.a v)])).bind λgs=>(F gs).map λq=>(toS q.1,vm ip p.2 p.1 q.2) else none:=rfl
def AAA ns (hn:ns.length<=63):Mv [.k (u6 ns)]=some (.v (.a (.bl true)),[]):=by
 obtain⟨a,b,e1⟩:=V1 ns 0 ⋯ ⋯;obtain⟨ts,a1,b1,ht,l2,l3,p2,p3,e2⟩:=Yd a b;obtain⟨f,a2,b2,hf,e3⟩:=MN a1 b1 4 ∅ ∅;obtain⟨Z,more,wd,hZ,m1,m2,hwd,e4⟩:=i6 (ts.take 2) ↥2 λt h=>ht t (List.mem_of_mem_take h)
 have hlast:wd="lasting":=by
  rcases hwd with h | h
  ·exact h.1
  ·exact absurd (p2.full hZ) h.2
 subst hlast;obtain⟨a',b',e5⟩:=V1 ns 1 ⋯ ⋯;obtain⟨c,a3,b3,hc,e6⟩:=MN a' b' 4 ∅ ∅;obtain⟨q,hq⟩:∃ q:Nat,q=1+c:=⟨_,rfl⟩
 obtain⟨s,a4,b4,u1,u2,u3,u4,e7⟩:=f6 q 16 12 ⋯ ⋯ ∅ ∅ ∅ ∅ a3 b3;obtain⟨row,a5,b5,_,hp,hr0,e8⟩:=mZ a4 b4 5 ∅ ∅;have hr:Rg (tm 5 row):=by
  have:=AJ.mp ACx row (MH (Pk hp));simp at this;rcases this with z | z
  ·exact absurd hr0 z
  ·exact⟨by simpa using z⟩
 have e9:=ZI s q 128 (tm 5 row) ⋯ u2 hr ⋯ ∅ ⋯ ⋯;have pl:=L3 s;have sq:=L0 s u2;have lw:=MQ s.spell (tm 5 row) pl;rw[MP]at lw;have se:=MF ⋯ s.spell (tm 5 row) pl sq hr;have sd:=λas=>NG ⋯ as s.spell (tm 5 row) pl sq hr
 obtain⟨st,hst⟩:∃ st,st=s.spell.steps (tm 5 row):=⟨_,rfl⟩
 rw[← hst]at e9 lw se sd;obtain⟨D,o7,o8,d1,d2,d3,e10⟩:=WU ht l3 p3 q (some (.k (u6 ns))) (~~~[iT a5,iT b5]) (~~~(iT q)) (~~~s.t) (~~~(sF (tm 5 row))) none none st [] none none se (λ_ h=>nomatch h) ↥2;have hw:∀ as,sh as (AE 5) D=cond (s.so as) (tm 5 row) (AE 5):=λas=>by
  rw[d3 as,← MZ as s,← sd as];rfl
 have e11:=ZE 5 q ∅ ∅ ⋯ ⋯ D d1 ⋯;have e12:=Wr q ⋯;obtain⟨o10,e13⟩:=Vv ⋯ s u2 ⋯ (tm 5 row) D d1 d2 hw (some (.k (u6 ns))) (~~~[iT a5,iT b5]) (~~~(.t (ts.map sF))) (~~~(iT q)) (some (.l (D.map uB))) o7 o8 (uo q) none λas h=>Qz q as h
 have cq:(1:Int)+c=q:=by lia
 have tk:vy (ts.map sF) none (some ((2:Nat):Int))=(ts.take 2).map sF:=by rw[cx,List.map_take]
 have gA:((uo q).map sF).length<=AC:=Ld (by have:=VN (q:=q) ⋯;rw[Af];lia);have gs:(st.map uB).length<=AC:=Ld (by rw[Af];lia);have a2':vB [iT (5:Int),iT q,.t (st.map uB)] 2=some (.t (st.map uB)):=rfl;have g2:2<=AC:=by decide
 have gt:((ts.take 2).map sF).length<=AC:=Ld (by rw[Af,Cw];lia);unfold chT at e4;unfold vY at e9 e11 e13;generalize (Z::more).map gT=GS at *;generalize (ts.take 2).map sF=T2 at *;generalize ts.map sF=TS at *;generalize sF (tm 5 row)=R at *;generalize st.map uB=ST at *;generalize s.t=SS at *;generalize u6 ns=NS at *;generalize D.map uB=DD at *;simp at *;have go:∃ Γ,WJ [some (.k NS),none,none,none,none,none,none,none,none,none,none]=some (.rt (.v (.a (.bl true))) Γ):=by
  refine⟨[some (.k NS),~~~[⇑a5,⇑b5],~~~(.t TS),~~~(⇑q),~~~SS,~~~R,some (.l DD),o7,o8,~~~(.t [⇑5,⇑q,.t DD]),o10],?_⟩;refine uA (by simp[e1];rfl) ?_;refine uA (by simp[e2];rfl) ?_;refine uA (Γ':=[some (.k NS),~~~[⇑a2,⇑b2],~~~(.t TS),none,none,none,none,none,none,none,none]) (by
   by_cases z:f=0
   ·subst z;simp[e3,e4,tk,gd,gt,g2]
   ·have z':¬ f=0:=by lia
    simp[e3,z,z']) ?_
  refine uA (by simp[e5];rfl) ?_;refine uA (by simp[e6,cq];rfl) ?_;refine uA (by simp[e7];rfl) ?_;refine uA (by simp[e8];rfl) ?_;refine uA (by simp;rfl) ?_;refine uA (by simp[aP,e9,a2',gd,gs,e10];rfl) ?_;refine uA (by simp;rfl) ?_;refine uA (by simp[e11,AAx];rfl) ?_;refine uA (by simp[e12,e13,gd,gA];rfl) ?_;simp
 obtain⟨Γ,e⟩:=go;simp[Mv,sX,e]
noncomputable def ACS (sc:Et) (x:Str):Bool:=match sc.names.lookup x with | some .local=>true | some .cell=>true | some .free=>true | _=>false
def cI{sc:Et}{x:Str}(h:ACS sc x=true):Vis sc x:=by
 unfold ACS at h;unfold Vis;split at h <;> simp_all
def AEy{ι:Type}{K:Fg}{X:ι->Cx}{pos:Pos}(i:Nat){x:Str}(hN:∀ j,(X j).N[i]?=some x:=by intro _;kernel_rfl)(hv:∀ j,ACS (X j).env.scope x=true:=by intro _;kernel_rfl)(hd:(x == ("__debug__":Str))=false:=by kernel_rfl)
  (hcd:(x == ("__classdict__":Str))=false:=by kernel_rfl):EX K X (.Name x pos) (jV i):=jZ i hN (λj=>cI (hv j)) hd hcd
def Xs{ι:Type}{K:Fg}{X:ι->Cx}{ip:Option Nat}{x:Str}{pos:Pos}{N':List Str}{sc:Et}(i:Nat)(S:N'.Nodup:=by decide +kernel)(hi:ip≠some i:=by decide)(hx':∀ j,(zi X N' sc j).N[i]?=some x:=by intro _;rfl)(hx:∀ j,Loc (zi X N' sc j).env.scope x:=by intro _;first | exact Eo rfl | exact Dr rfl)
  (hf:∀ j,(zi X N' sc j).fn x=true\/(zi X N' sc j).env.scope.names.lookup x=some .local:=by intro _;first | exact .inl rfl | exact .inr rfl):GX K (zi X N' sc) ip (.Name x pos) (sJ i):=UB i hi (λ_=>S) hx' hx hf
def iO:CD "int"=some (.type "int"):=↥4
noncomputable abbrev yW:List (Str×Stmt):=[uQ "_law_box" ADb,uQ "_law_take" ADU,uQ "_law_turning" AEN,uQ "_law_then" AEQ,uQ "_law_back" ADP,uQ "_law_about" V2,uQ "_law_lasting" Ta,uQ "_law_saying" ADY,uQ "_law_weighed" ADD,uQ "_law_weight" AEG,uQ "_law_many_parts" ADZ,uQ "_law_light" V3,uQ "_law_ring" Vb,uQ "_law_all_answers" Ug,uQ "is_turning" Tq,uQ "row_from" U8,uQ "rings_of" Ri,uQ "is_ring" S5,uQ "is_ring_of_five" UL,uQ "inner" T3,uQ "leading" VM,uQ "then" SG,uQ "back" Uo,uQ "there_back" R8,uQ "about" WG,uQ "apart" Uc,uQ "pieces_in" Ue,uQ "all_within" RK,uQ "weight_of" U0,uQ "either_or_both" SH,uQ "spelled_of" U5,uQ "last_followed" VW,uQ "still" VR,uQ "bare_step" VL,uQ "steps_of" Sw,uQ "fold_within" VY,uQ "folded" Wg,uQ "weight" U4,uQ "look_at_making" Sd,uQ "spelled" Su,uQ "words_by" U1,uQ "word" SO,uQ "_law_come" Wh,uQ "_law_steps" WV,uQ "look_at_step" V6,uQ "look" TB,uQ "turned_by" U2,uQ "done_by_steps" VD,uQ "done" Tf,uQ "group" Ur,uQ "there_backs" Tr,uQ "chain" T5,uQ "_law_so" AER,uQ "law" Ph]
noncomputable abbrev AEX:List Str:=["all","dict","enumerate","int","isinstance","len","list","max","min","range","reversed","sorted","sum","tuple","zip"]
structure Hy(P:Aj)(wd:A5)(base:Heap)(K:Ae)(mg:Str->Option AL):Prop where
 w:∀ i:Nat,WxO K mg yW[i]?
 z:∀ x,AEX.elem x=true->mg x=none
 k_OVER:KV K mg "OVER" Nm
 k_THERE:KV K mg "THERE" Nh
 z_KC:KC K []
 e_p_made:∃ pT f fd ds,yg K "made" "made" NT pT f fd/\mg "made"=some (.ref f)/\Binds K fd ["saying","questions","ring","most"] []/\Binds K fd ["saying","questions","ring","most"] ds/\sP [.int 128] ds
set_option hygiene false
local macro_rules | `(tactic| walk_at "a")=>`(tactic| first | with_reducible assumption | exact Y.z _ (by kernel_rfl))
local macro_rules | `(tactic| walk_at "b")=>`(tactic| (intro _ _ _ _ _ _ us hl;first | (obtain⟨_,h⟩:=AEW hl;subst h;exact rfl) | (obtain⟨_,_,h⟩:=AEO hl;subst h;exact rfl) | (obtain⟨_,_,_,h⟩:=ACg hl;subst h;exact rfl) | (obtain⟨_,_,_,_,h⟩:=ADf hl;subst h;exact rfl)))
local macro_rules | `(tactic| walk_at "m")=>`(tactic| first | exact M | exact B | exact M.comp | exact B.comp)
local macro_rules | `(↑0)=>`(by walk_at "m")
local macro_rules | `(↑1)=>`(by walk_at "a")
def mkW (s:String):Lean.MacroM Lean.Term:=do
 let f:=λ(a:Array Lean.Term)=>Lean.Syntax.mkApp (a.getD 0 default) (a.extract 1 a.size)
 let st<-(s.splitOn " ").foldlM (λ(st:List (Array Lean.Term)) (t:String)=>do
  if t=="(" then return #[]::st
  let r:=(t.drop 1).toString
  let x:=Lean.mkIdent r.toName
  let p<-match t.front with
   | ')'=>pure (f (st.headD #[]))
   | '_'=>`(_)
   | '?'=>`(?_)
   | '0'=>`(by walk_at "m")
   | '1'=>`(by walk_at "a")
   | 'N'=>if t=="N" then pure ⟨(<-`(f (hN:=λ_=>S))).raw[1][0]⟩ else pure ⟨Lean.mkIdent t.toName⟩
   | '.'=>pure ⟨Lean.Syntax.node .none `Lean.Parser.Term.dotIdent #[Lean.mkAtom ".",x]⟩
   | '\''=>pure (Lean.Syntax.mkStrLit r)
   | '\\'=>`(λ_=>$x)
   | c=>if c.isDigit then pure ⟨(<-`(f (k':=$(Lean.Syntax.mkNumLit t)))).raw[1][0]⟩ else pure ⟨Lean.mkIdent t.toName⟩
  let st:=if t==")" then st.tail else st
  return ((st.headD #[]).push p)::st.tail) [#[]]
 return f (st.headD #[])
local macro_rules | `(tactic| walk_at "x")=>do
 let L:=λ(j s:String)=>(s.splitOn ";").mapM λl=>do match l.splitOn "/" with
  | [h,r]=>`(Lean.Parser.Tactic.tacticSeq| (with_reducible show $(<-mkW (j++" _ _ _ ( "++h++" )")));refine $(<-mkW r))
  | _=>`(Lean.Parser.Tactic.tacticSeq| refine $(<-mkW l))
 let g<-[("EX _ _ ( .Name _ _ ) _","jV _/AEy _;dFn _/mf 0 1;dC ( .ty 'tuple )/ak 0 1 Dn;dK _/ADw Nh 0 1;dK _/ADw Nm 0 1"),
  ("EX _ _ ( .Constant _ _ _ ) _","dC ( .int _ )/jJ;dC ( .str _ )/gS;dC ( .bl _ )/ZA;dC .non/iY"),
  ("EX _ _ ( .Call _ _ _ _ ) _","uC uM _/Mn 0 ( gi 0 ) 1 PySem.boot_len ?;t5 _ _ _/Qw 0 PySem.F.slot_list_append PySem.F.type_list_append \\iz ZM ( pv' _ ) ?;uC tT _/Mp 0 ( Nf 0 ) 1 Dn ?;uC xw _/Mp 0 kQ 1 iO ?;uk _/jB 0 1 1 ?;uC xx _/Mn 0 ( W6 0 ) 1 boot_isinstance ?;t5 _ _ _/Qw 0 PySem.F.slot_list_extend PySem.F.type_list_extend \\jA Yb ( pv' _ ) ?;t5 _ _ _/Qw 0 Gy Gz \\Xk gZ ( pv' _ ) ?;wJ _ _/gF 0 ? ?;uC w6 _/Mn 0 ( Zp 0 ) 1 boot_max ?;t5 _ _ qQ/jr 0 Gy Gz \\fK lF ( pv' _ );uC _ _/Mn 0 ( ll 0 ) 1 boot_sorted ?;uC _ _/Mn 0 ( Zh 0 ) 1 boot_min ?;y8 _/jC 0 1 1 ?;xZ _/XW 0 1 1 ?;vg _/cH 0 1 1 ?;wu _ _ _/YS 0 1 ? ?;uC _ _/Mn 0 ( Ww 0 ) 1 boot_sorted ?;uC _ _/Mp 0 ( ig 0 ) 1 Dn ?;sE _ _ _ _/Xc 0 0 1 ?;tj _ _ _/SJ 5 _ 0 0 ( OF D_20 ( OF D_27 ( WE ) ) ) ?;tj _ _ _/SJ 3 _ 0 0 ( OF D_29 ( OF D_31 ( OF D_35 ( WE ) ) ) ) ?;sE _ _ _ _/kK 0 0 1 ?"),
  ("EX _ _ ( .Subscript _ _ _ ) _","sI sY _ _/fS 0 ? ?;dSl _ _ _/XD 0 ? ? ?;sI xU _ _/Z2 0 ? ?;sI ( AAh _ ) _ _/kr 0 1 ? ?"),
  ("EX _ _ ( .BinOp _ _ _ _ ) _","sI tN _ _/Th 0 ? ?;sI uK _ _/mL ? ?;sI uf _ _/ff ? ?;sI v7 _ _/ZF ? ?;sI vv _ _/eT ? ?;sI ABh _ _/mh ? ?"),
  ("EX _ _ ( .Tuple _ _ _ ) _","Yt ?"),
  ("EX _ _ ( .List _ _ ) _","i9 ?"),
  ("EX _ _ ( .Compare _ _ _ _ ) _","sI _ _ _/AEF ? ? ?;xE _ _/jc 0 1 ? ?"),
  ("EX _ _ ( .UnaryOp _ _ _ ) _","zt wR _/bh ?;yL _/gP ?"),
  ("EX _ _ ( .IfExp _ _ _ _ ) _","bZ ? ? ?"),
  ("EX _ _ ( .Dict _ _ _ ) _","xA _ _ _/gX 0 1 ? ?;xv true/d5;wx _ _/cn ?"),
  ("EX _ _ ( .BoolOp _ _ _ ) _","Yv ?;yr _ _/iV ? ?"),
  ("AX _ _ _ _","jQ ? ?;jY"),
  ("BX _ _ _ _ _","L8 ? ?;MV ?;Tj"),
  ("SX _ _ _ _ _","mM _ ? N;Mh ?;Td ? ? ?;Px 0 \\EF ? ? ?;Yz ?;fB tf \\EF ? ?;cz;m7 _ ? ( pv' _ ) ?;bX _ _ 0 ? N;Ya _ _ ? N;eN _ 0 1 ( pv' _ ) ? ?;c6 _ _ _ 0 ? N;jn ? ?"),
  ("TX _ _ _ _","sM ( sI ( ABA _ _ ) _ _ )/jx 0 1 ? ?;AFb ? ? ?;AED 0 ?;RW ?;du ? ? ? ? ?;ADr ?"),
  ("vp _ _ _ _","TN 0;XG;iN;iG 0;lI;XM 0;k8;Ym;dz"),
  ("IX _ _ _ _ _","aQ 0 ?;kW 0 1 ?;dm 0 1 ?;YW 0 1 ?"),
  ("GX _ _ _ _ _","UB _ N;aZ _ 0 ?;Xs _"),
  ("WX _ _ _ _","Wc ? ?;gr ? ?;T4 ?;ki ?")].mapM λ((p,s):String×String)=>do
  let r:=(<-L (p.take 2).toString s).toArray
  `(Lean.Parser.Tactic.tacticSeq| (with_reducible show $(<-mkW p));first $[| $r]*)
 let e:=(<-L "" "iC ?;ZW;dS ? ?;kl;aU ? ?;X5;ZV ?").toArray
 let g:=g.toArray++e
 let z<-`(Lean.Parser.Tactic.tacticSeq| first | ((with_reducible show EX _ _ (.Call _ _ _ _) _);first | ((with_reducible show EX _ _ _ (wy _ _ _));refine fg ↑0 GO PySem.F.type_list_count (λj=>jL (M.room j)) ?_ ?_)) | ((with_reducible show EX _ _ _ _);delta Oh O0 OS O2 OP OQ O7 VZ WN Vq VB Wb Oc))
 `(tactic| repeat' first $[| $g]* | $z)
local macro_rules | `(tactic| walk_at "d")=>`(tactic| (intro _ _ _ _ _ _ _ S M B;walk_at "x"))
section
variable {P:Aj}{wd:A5}{K:Ae}{mg:Str->Option AL}{base:Heap}
variable (Y:Hy P wd base K mg)
include Y
def AFZ:FD P wd K mg base (1) "_law_box" none 2 F_5:=sj (Y.w 0) AFK
def yi:FD P wd K mg base (1) "_law_take" (some 0) 2 vw:=sj (Y.w 1) AFc
def AFV:FD P wd K mg base (2) "_law_turning" (some 0) 2 F_7:=by
 have D_6:=yi Y;exact sj (Y.w 2) AEx
def ACs:FD P wd K mg base (1) "_law_then" none 2 F_8:=sj (Y.w 3) AFH λ_ _ _ _ _ _ _ S M B=>MV (Mh (Mp M (Nf M) ↑1 Dn (jQ (Md none (N':=["_law_place","_law_other"]) (ix:=[none,some 1]) M ↥5 ↥3 ↥3 MW ↥3 (hix:=wV)) jY)))
def AEl:FD P wd K mg base (1) "_law_back" none 1 F_9:=sj (Y.w 4) AFB λ_ _ _ _ _ _ _ S M B=>MV (Mh (Mp M (Nf M) ↑1 Dn (jQ (Md none (N':=["_law_place","_law_turning_here"]) (ix:=[none,some 0]) M ↥5 ↥3 ↥3 MW ↥3 (hix:=wV)) jY)))
def Zy:FD P wd K mg base (2) "_law_about" none 2 zy:=by
 have D_8:=ACs Y;have D_9:=AEl Y;exact sj (Y.w 5) l0
def gI:FD P wd K mg base (3) "_law_lasting" (some 0) 1 ABu:=by
 have D_6:=yi Y;have D_7:=AFV Y;have D_8:=ACs Y;have D_10:=Zy Y;exact sj (Y.w 6) d9
def ADV:∀ n,FD P wd K mg base (1+n) "_law_saying" (some 0) 4 (F_1 n):=by
 have D_6:=yi Y;exact Nc (Y.w 7) ADq rfl rfl λn Drec=>sj (Y.w 7) ADq
def AFe:∀ n,FD P wd K mg base (13+n) "_law_weighed" (some 0) 4 (F_3 n):=by
 have D_6:=yi Y;have D_1:FD P wd K mg base (13) _ _ _ _:=ADV Y My;exact Nc (Y.w 8) AEi rfl rfl λn Drec=>sj (Y.w 8) AEi
def AFD:∀ n,FD P wd K mg base (0+n) "_law_weight" none 1 (F_4 n):=by
 exact Nc (Y.w 9) ACX rfl rfl λn Drec=>sj (Y.w 9) ACX λ_ _ _ _ _ _ _ S M B=>L8 (PB 1 none (N':=["_law_one"]) (ix:=[none]) M ↥5 ↥3 ↥3 ↥3 ↥3 (hix:=wV) (hN:=λ_=>ACX.nd)) ↥3
def AFP:∀ n,FD P wd K mg base (0+n) "_law_many_parts" none 1 (F_0 n):=by
 exact Nc (Y.w 10) AEA rfl rfl λn Drec=>sj (Y.w 10) AEA λ_ _ _ _ _ _ _ S M B=>MV (Mh (Th M jJ (Mn M (Z0 M) ↑1 boot_sum (jQ (Md none (N':=["_law_one"]) (ix:=[none]) M ↥5 ↥3 ↥3 ↥3 ↥3 (hix:=wV)) jY))))
def YT:FD P wd K mg base (26) "_law_light" (some 0) 4 AAw:=by
 have D_6:=yi Y;have D_1:FD P wd K mg base (13) _ _ _ _:=ADV Y My;have D_3:FD P wd K mg base (25) _ _ _ _:=AFe Y Ol;have D_4:FD P wd K mg base (12) _ _ _ _:=AFD Y P4;have D_0:FD P wd K mg base (12) _ _ _ _:=AFP Y Qg;exact sj (Y.w 11) bM
def gW:FD P wd K mg base (2) "_law_ring" (some 0) 2 ABy:=by
 have D_6:=yi Y;exact sj (Y.w 12) l5
def jR:FD P wd K mg base (1) "_law_all_answers" none 1 ABv:=sj (Y.w 13) mP
def TQ:FD P wd K mg base (1) "is_turning" none 2 zM:=sj (Y.w 14) gv
def Xv:FD P wd K mg base (1) "row_from" none 2 AEU:=sj (Y.w 15) XI
def Ru:FD P wd K mg base (2) "rings_of" none 1 ACR:=by
 have D_16:=Xv Y;exact sj (Y.w 16) SN λ_ _ _ _ _ _ _ S M B=>L8 (PB 1 none (N':=["place","turning"]) (ix:=[none,some 0]) M ↥5 ↥3 ↥3 MW ↥3 (hix:=wV) (hN:=λ_=>SN.nd)) (MV (Mh (Md none (N':=["row"]) (ix:=[none]) M ↥5 ↥3 ↥3 ↥3 (jZ 0) (hix:=wV))))
def bP:FD P wd K mg base (3) "is_ring" none 1 ADt:=by
 have D_17:=Ru Y;exact sj (Y.w 17) XQ λ_ _ _ _ _ _ _ S M B=>MV (Mh (AEF (TN M) (Md none (N':=["ring"]) (ix:=[none]) M ↥5 ↥3 ↥3 MW ↥3 (hix:=wV)) ↥3))
def j8:FD P wd K mg base (4) "is_ring_of_five" none 1 ACD:=by
 have D_15:=TQ Y;have D_18:=bP Y;exact sj (Y.w 18) gL
def Vf:FD P wd K mg base (1) "inner" none 1 yD:=sj (Y.w 19) Xn
def Zs:FD P wd K mg base (3) "leading" none 2 ADy:=by
 have D_17:=Ru Y;exact sj (Y.w 20) i8 λ_ _ _ _ _ _ _ S M B=>L8 ↥3 (MV (Mh (Mp M (Nf M) ↑1 Dn (jQ (Md none (N':=["place","led"]) (ix:=[none,some 2]) M ↥5 ↥3 ↥3 MW ↥3 (hix:=wV)) jY))))
def N0:FD P wd K mg base (1) "then" none 2 wU:=sj (Y.w 21) kz λ_ _ _ _ _ _ _ S M B=>MV (Mh (Mp M (Nf M) ↑1 Dn (jQ (Md none (N':=["place","other"]) (ix:=[none,some 1]) M ↥5 ↥3 ↥3 MW ↥3 (hix:=wV)) jY)))
def Qr:FD P wd K mg base (1) "back" none 1 xp:=sj (Y.w 22) Zo λ_ _ _ _ _ _ _ S M B=>MV (Mh (Mp M (Nf M) ↑1 Dn (jQ (Md none (N':=["place","turning"]) (ix:=[none,some 0]) M ↥5 ↥3 ↥3 MW ↥3 (hix:=wV)) jY)))
def UD:FD P wd K mg base (2) "there_back" none 2 AAg:=by
 have D_22:=N0 Y;have D_23:=Qr Y;exact sj (Y.w 23) bp
def Zi:FD P wd K mg base (2) "about" none 2 ACo:=by
 have D_22:=N0 Y;have D_23:=Qr Y;exact sj (Y.w 24) ZJ
def jj:FD P wd K mg base (4) "apart" none 1 AAt:=by
 have k_OVER:=Y.k_OVER;have k_THERE:=Y.k_THERE;have D_21:=Zs Y;have D_24:=UD Y;have D_25:=Zi Y;exact sj (Y.w 25) ck
def Tz:FD P wd K mg base (5) "pieces_in" none 1 wz:=by
 have D_23:=Qr Y;have D_26:=jj Y;exact sj (Y.w 26) lW
def c7:FD P wd K mg base (6) "all_within" none 2 ADE:=by
 have D_20:=Vf Y;have D_27:=Tz Y;exact sj (Y.w 27) dH
def lE:FD P wd K mg base (1) "weight_of" none 2 AAj:=sj (Y.w 28) kA
def YG:FD P wd K mg base (1) "either_or_both" none 2 zN:=sj (Y.w 29) bw
def lj:FD P wd K mg base (2) "spelled_of" none 2 zZ:=by
 have D_30:=YG Y;exact sj (Y.w 30) lx
def kJ:FD P wd K mg base (2) "last_followed" none 2 ACM:=by
 have D_22:=N0 Y;exact sj (Y.w 31) fP
def Ob:FD P wd K mg base (1) "still" none 1 xK:=sj (Y.w 32) gj
def cf:FD P wd K mg base (2) "bare_step" none 2 ACn:=by
 have D_33:=Ob Y;exact sj (Y.w 33) Zr
def ju:FD P wd K mg base (3) "steps_of" none 2 xN:=by
 have D_32:=kJ Y;have D_34:=cf Y;exact sj (Y.w 34) aW
def S0:FD P wd K mg base (7) "fold_within" none 3 ACE:=by
 have D_20:=Vf Y;have D_27:=Tz Y;have D_28:=c7 Y;have D_29:=lE Y;have D_31:=lj Y;have D_35:=ju Y;exact sj (Y.w 35) TJ λ_ _ _ _ _ _ _ S M B=>L8 ↥3 (L8 (Px M (λ_=>EF) ↥3 ↥3 (L8 (PB 5 (some (1,3)) (N':=["one","told"]) (ix:=[none,some 3]) M ↥5 ↥3 ↥3 MW ↥3 (hix:=AFO ∅) (hN:=λ_=>TJ.nd)) ↥3)) ↥3)
def Sg:FD P wd K mg base (8) "folded" none 2 AAf:=by
 have n_inner:=(Y.w 19:WxO K mg yW[19]?).nk;have D_36:=S0 Y;exact sj (Y.w 36) jM
def fA:FD P wd K mg base (9) "weight" none 1 ACA:=by
 have n_weight_of:=(Y.w 28:WxO K mg yW[28]?).nk;have D_37:=Sg Y;exact sj (Y.w 37) nA
def Ye:FD P wd K mg base (10) "look_at_making" none 3 ABk:=by
 have D_19:=j8 Y;have D_38:=fA Y;exact sj (Y.w 38) lU
def gU:FD P wd K mg base (9) "spelled" none 1 ABr:=by
 have n_spelled_of:=(Y.w 30:WxO K mg yW[30]?).nk;have D_37:=Sg Y;exact sj (Y.w 39) Xb
def dA:FD P wd K mg base (11) "made" none 4 AAi/\FDd P wd K mg base (11) "made" none 4 AAi [.int 128]:=by
 obtain⟨pT,f,fd,ds,Fn,hm,hb,hb2,hv⟩:=Y.e_p_made;have n_pieces_in:=(Y.w 26:WxO K mg yW[26]?).nk;have n_steps_of:=(Y.w 34:WxO K mg yW[34]?).nk;have D_36:=S0 Y;have D_39:=Ye Y;have D_40:=gU Y;exact cZ (k:=10) Fn WL hm hb hb2 hv λcdv A outer s H E M B=>(by have S:=WL.nd;exact by walk_at "x")
def V4:FD P wd K mg base (2) "words_by" none 2 zJ:=by
 have z_KC:=Y.z_KC;have D_22:=N0 Y;have D_33:=Ob Y;exact sj (Y.w 40) Yi
def Zf:FD P wd K mg base (3) "word" none 3 AAo:=by
 have z_KC:=Y.z_KC;have D_42:=V4 Y;exact sj (Y.w 41) aH
def br:FD P wd K mg base (2) "_law_come" none 2 AAp:=by
 have D_8:=ACs Y;exact sj (Y.w 42) aF
def YZ:FD P wd K mg base (4) "_law_steps" none 2 ACQ:=by
 have D_43:=Zf Y;have D_44:=br Y;exact sj (Y.w 43) kB λ_ _ _ _ _ _ _ S M B=>L8 ↥3 (L8 ↥3 (L8 (Px M (λ_=>EF) ↥3 ↥3 (MV (Td (ADr (Wc ↥3 (T4 (RW (AED M (Mn M (lT M) ↑1 boot_all (jQ (Md none (N':=["_law_k","_law_some"]) (ix:=[none,some 0]) M ↥5 ↥3 ↥3 MW ↥3 (hix:=wV)) jY))))))) ↥3 Tj))) ↥3))
def Zb:FD P wd K mg base (3) "look_at_step" none 2 ABo:=by
 have D_15:=TQ Y;exact sj (Y.w 44) cy
def Zj:FD P wd K mg base (4) "look" none 1 ABj:=by
 have D_46:=Zb Y;exact sj (Y.w 45) mq
def eL:FD P wd K mg base (1) "turned_by" none 2 AAk:=sj (Y.w 46) ZX
def bG:FD P wd K mg base (2) "done_by_steps" none 2 ACJ:=by
 have D_22:=N0 Y;have D_33:=Ob Y;have D_48:=eL Y;exact sj (Y.w 47) Y7
def aD:FD P wd K mg base (3) "done" none 2 ABm:=by
 have D_33:=Ob Y;have D_49:=bG Y;exact sj (Y.w 48) mY
def Wa:FD P wd K mg base (3) "group" none 2 AAm:=by
 have D_42:=V4 Y;exact sj (Y.w 49) eI
def kX:FD P wd K mg base (4) "there_backs" none 2 ABs:=by
 have z_KC:=Y.z_KC;have D_24:=UD Y;have D_51:=Wa Y;exact sj (Y.w 50) bj
def aR:FD P wd K mg base (5) "chain" none 2 AAl:=by
 have D_51:=Wa Y;have D_52:=kX Y;exact sj (Y.w 51) Yk
def AEu:∀ n,FD P wd K mg base (0+n) "_law_so" none 2 (F_2 n):=by
 exact Nc (Y.w 52) ACW rfl rfl λn Drec=>sj (Y.w 52) ACW λ_ _ _ _ _ _ _ S M B=>L8 ↥3 (L8 ↥3 (L8 (PB 3 none (N':=["_law_one","_law_answers"]) (ix:=[none,some 1]) M ↥5 ↥3 ↥3 MW ↥3 (hix:=wV) (hN:=λ_=>ACW.nd)) ↥3))
def cQ{f:Addr}{fd:Dc}(Fn:zm K "law" "law" Ph f fd):uj P wd K mg base xh 27 f fd ["_law_script"] (xT K none 1 Mv):=by
 have D_5:=AFZ Y;have D_6:=yi Y;have D_11:=gI Y;have D_12:=YT Y;have D_13:=gW Y;have D_14:=jR Y;have D_45:=YZ Y;have D_47:=Zj Y;have D_50:=aD Y;have D_53:=aR Y;have D_2:FD P wd K mg base (20) _ _ _ _:=AEu Y Q7;have Dd_41:=(dA Y).2;exact jS Fn SZ λcdv A outer s H E M B=>(by have S:=SZ.nd;exact by walk_at "x")
end
def ABf{l:ES}{w:A5}{K:Ae}{h:Heap}{mg:Str->Option AL}{fa:Addr}(X:K.In h)(G:h.Ns A0 mg)(hfa:mg "law"=some (.ref fa))(wT:AllK K yW)(zT:ZK K AEX)
  {f41:Addr} {od41 an41:Option Addr} {sl41:Array (Option AL)} {oc41 kV41 dc41 pm41 cd41 ct41:AL}
  {pdf41:Addr} {ndf41:Nat} {sdf41:Array (Option AL)} {tdf41:Tok} (dfl41:K.lookup pdf41=some ⟨.type "tuple",none,.seq [CA 128 tdf41].toArray ndf41,sdf41⟩)
  (a41:nsIn K A0 "made"=some (some (.ref f41))) (l41:K.lookup f41=some ⟨oc41,od41,.func (fnOf "made" "made" (tY NT) (sv NT) (sD NT) (.ref pdf41) kV41 dc41 pm41 an41 cd41 ct41),sl41⟩) (c41:Cg K cd41 "made"=true) (k41:Bq K (.ref f41)=true)
  (kc:(K.all λq=>kcC [] q.2)=true)
  {pk1:Addr} {nk1:Nat} {slk1:Array (Option AL)} {t1_0 t1_1 t1_2 t1_3 t1_4:Tok} (ka1:nsIn K A0 "OVER"=some (some (.ref pk1))) (kl1:K.lookup pk1=some ⟨.type "tuple",none,.seq [CA 1 t1_0,CA 3 t1_1,CA 0 t1_2,CA 4 t1_3,CA 2 t1_4].toArray nk1,slk1⟩)
  {pk2:Addr} {nk2:Nat} {slk2:Array (Option AL)} {t2_0 t2_1 t2_2 t2_3 t2_4:Tok} (ka2:nsIn K A0 "THERE"=some (some (.ref pk2))) (kl2:K.lookup pk2=some ⟨.type "tuple",none,.seq [CA 1 t2_0,CA 2 t2_1,CA 3 t2_2,CA 4 t2_3,CA 0 t2_4].toArray nk2,slk2⟩) :
  ∃ fd:Dc,(∀ (s:AR) (v:AL),F8 s fd ⟨[v],[]⟩ [("_law_script",v)])/\∀ base:Heap,K.In base->base.Ns A0 mg->uj l.prog w K mg base xh 27 fa fd ["_law_script"] (xT K none 1 Mv):=by
 have z_KC:=aJ kc;have k_OVER:KV K mg "OVER" Nm:=Rj [1,3,0,4,2] (mg_of X G ka1) kl1 (.cons ⟨_,rfl⟩ (.cons ⟨_,rfl⟩ (.cons ⟨_,rfl⟩ (.cons ⟨_,rfl⟩ (.cons ⟨_,rfl⟩ (.nil)))))) (by show 5<=AC;decide);have k_THERE:KV K mg "THERE" Nh:=Rj [1,2,3,4,0] (mg_of X G ka2) kl2 (.cons ⟨_,rfl⟩ (.cons ⟨_,rfl⟩ (.cons ⟨_,rfl⟩ (.cons ⟨_,rfl⟩ (.cons ⟨_,rfl⟩ (.nil)))))) (by show 5<=AC;decide);have F41:=bA (st:=NT) l41 c41 k41;have b41:=F41.binds (ps:=["saying","questions","ring","most"]) (ds:=[]) dfl41 rfl λ_ _ _ _ _ _ us hl=>by obtain⟨_,_,_,_,rfl⟩:=ADf (show us.length=4 by simpa using hl);exact⟨_,rfl,rfl⟩
 have bd41:=F41.binds (ps:=["saying","questions","ring","most"]) (ds:=[CA 128 tdf41]) dfl41 rfl λ_ _ _ _ _ _ us hl=>by obtain⟨_,_,_,rfl⟩:=ACg (show us.length=3 by simpa using hl);exact⟨_,rfl,rfl⟩
 have m41:=mg_of X G a41;have Y:∀ base,Hy l.prog w base K mg:=λ_=>{ w:=λi=>wT.at X G i,z:=λx e=>zT.at X G x e,k_OVER:=k_OVER,k_THERE:=k_THERE,z_KC:=z_KC,e_p_made:=⟨_,_,_,_,F41,m41,b41,bd41,.cons ⟨_,rfl⟩ .nil⟩ }
 exact mV ((Y h).w 53) hfa (λ_ _ _ _ _ _ _=>rfl) λf fd base Fn=>cQ (Y base) Fn
def AEw{l:ES}{q:Aj}{loose:List Str}{XP:(Str->Option AL)->Heap->Prop}{YP:A5->Heap->Prop}{d:DefRec}{K:Params->Ae}(pure:∀ ns:List Int,ns.length<=63->Mv [.k (u6 ns)]=some (.v (.a (.bl true)),[]))(hn:l.most=some 63)(hdf:d.params.defaults=[])
  (hY:∀ (w:A5) (h:Heap),YP w h->(K w.params).In h)
  (F:∀ (w:A5) (mg:Str->Option AL) (fa:Addr) (h:Heap),(K w.params).In h->h.Ns A0 mg->mg d.name=some (.ref fa) ->
   ∃ fd:Dc,(∀ (s:AR) (u:AL),F8 s fd ⟨[u],[]⟩ [("_law_script",u)])/\∀ base:Heap,(K w.params).In base->base.Ns A0 mg->uj l.prog w (K w.params) mg base xh 27 fa fd ["_law_script"] (xT (K w.params) none 1 Mv)) :
  IW q loose XP YP l.row.toRowW d [] (λf vs=>Hb f vs):=
 L2.AAX (n:=63) (k:=27) (x:="_law_script") (CX:=λ_=>xh) (sp:=λw=>xT (K w.params) none 1 Mv) hn ∅ hdf ⟨rfl,by decide,by decide,rfl⟩ hY F (λw H a ns hl hO hS=>gY hO hS (pure ns hl)) λ_ _ _ _ _ z=>z
end Lw
open PySem PySem.W PyProof.Rows
namespace PySem.W.Fast
theorem tw4806391346934335197:True:=⟨⟩
theorem tw5166550184942373995:True:=⟨⟩
theorem tw3492514043745112305:True:=⟨⟩
theorem tw8718469262202069425:True:=⟨⟩
theorem tw11704701177420725016:True:=⟨⟩
theorem tw3514615409213470334:True:=⟨⟩
theorem tw5755390947196097743:True:=⟨⟩
theorem tw12391766413559439461:True:=⟨⟩
theorem tw3815911581674867064:True:=⟨⟩
theorem tw15111734315601404878:True:=⟨⟩
theorem tw4897349010796823492:True:=⟨⟩
theorem tw16613560343111622675:True:=⟨⟩
theorem tw17348030656031842935:True:=⟨⟩
theorem tw12683834426797711675:True:=⟨⟩
theorem tw440389738651448316:True:=⟨⟩
theorem tw14570901009174099624:True:=⟨⟩
theorem tw1285955426874556415:True:=⟨⟩
theorem tw8217814836653287712:True:=⟨⟩
theorem tw2124568250813042905:True:=⟨⟩
theorem tw16016483710563257092:True:=⟨⟩
theorem tw9669242366005641665:True:=⟨⟩
theorem tw12974669571233601882:True:=⟨⟩
theorem tw10560104813669471870:True:=⟨⟩
theorem tw15536417840170982926:True:=⟨⟩
theorem tw4973402129428374654:True:=⟨⟩
theorem tw17277696407868958142:True:=⟨⟩
theorem tw16148156126071986596:True:=⟨⟩
theorem tw1124345864918477294:True:=⟨⟩
theorem tw7111416531211740543:True:=⟨⟩
theorem tw7356215727886330068:True:=⟨⟩
theorem tw6428296888339809682:True:=⟨⟩
theorem tw4443851212424642873:True:=⟨⟩
theorem tw8161110551608145501:True:=⟨⟩
theorem tw1024291502958450636:True:=⟨⟩
theorem tw9951653443810475427:True:=⟨⟩
theorem tw10010736758203457642:True:=⟨⟩
theorem tw6262459249246295018:True:=⟨⟩
theorem tw15235164236740506035:True:=⟨⟩
theorem tw923446933818904652:True:=⟨⟩
theorem tw4497907849306701054:True:=⟨⟩
theorem tw5888611729268081954:True:=⟨⟩
theorem tw11735482387845645467:True:=⟨⟩
theorem tw15665429362772185828:True:=⟨⟩
theorem tw7746856942121600196:True:=⟨⟩
theorem tw515939969930057481:True:=⟨⟩
theorem tw525654539729135134:True:=⟨⟩
theorem tw10063959648034360162:True:=⟨⟩
theorem tw13127011675483299594:True:=⟨⟩
theorem tw14841617974852429800:True:=⟨⟩
theorem tw17578415809675778851:True:=⟨⟩
theorem tw14856165177909009899:True:=⟨⟩
theorem tw4033563810113545893:True:=⟨⟩
theorem tw7145271803060856334:True:=⟨⟩
theorem tw17392516250581274783:True:=⟨⟩
theorem tw13601399461155665809:True:=⟨⟩
theorem tw15634993751182253510:True:=⟨⟩
theorem tw10505094146156793572:True:=⟨⟩
theorem tw17438515507622626804:True:=⟨⟩
theorem tw2514870177713667039:True:=⟨⟩
theorem tw10977647618068741621:True:=⟨⟩
theorem tw1196424764514420039:True:=⟨⟩
theorem tw4464315971864689891:True:=⟨⟩
theorem tw9678561259791139803:True:=⟨⟩
theorem tw8049548365736011509:True:=⟨⟩
theorem tw7826434165741190707:True:=⟨⟩
theorem tw3679371546762587405:True:=⟨⟩
theorem tw17806520958846184438:True:=⟨⟩
theorem tw17864043227755644937:True:=⟨⟩
theorem tw11759537777685453706:True:=⟨⟩
theorem tw9411101863052553075:True:=⟨⟩
theorem tw2767127754094725701:True:=⟨⟩
theorem tw8780949992460027550:True:=⟨⟩
theorem tw1483817913241100458:True:=⟨⟩
theorem tw3061037156991227267:True:=⟨⟩
theorem tw5216313492035272286:True:=⟨⟩
theorem tw6485188777132439589:True:=⟨⟩
theorem tw9756789154485329944:True:=⟨⟩
theorem tw3509095884554779738:True:=⟨⟩
theorem tw5712640931053864669:True:=⟨⟩
theorem tw12946868006658071555:True:=⟨⟩
theorem tw15117732488521313951:True:=⟨⟩
theorem tw11764015785745650407:True:=⟨⟩
theorem tw11409392412773598003:True:=⟨⟩
theorem tw11185518261384377695:True:=⟨⟩
theorem tw8940111304512501932:True:=⟨⟩
theorem tw16258086000989023299:True:=⟨⟩
theorem tw18215021328981058189:True:=⟨⟩
theorem tw13669692135212007682:True:=⟨⟩
theorem tw18401462866678697695:True:=⟨⟩
theorem tw2900346872786922538:True:=⟨⟩
theorem tw3926257990785183779:True:=⟨⟩
theorem tw774051875641770520:True:=⟨⟩
theorem tw2509989288428182974:True:=⟨⟩
theorem tw2194432896047063887:True:=⟨⟩
theorem tw18079615294052325050:True:=⟨⟩
theorem tw10234118188582639232:True:=⟨⟩
theorem tw15157991556852407130:True:=⟨⟩
theorem tw12559378187160685225:True:=⟨⟩
theorem tw7084251091896479083:True:=⟨⟩
theorem tw13158108209437128941:True:=⟨⟩
theorem tw12620258318486288605:True:=⟨⟩
theorem tw2771488420752123586:True:=⟨⟩
theorem tw14339810901308477803:True:=⟨⟩
theorem tw17003875901727906024:True:=⟨⟩
theorem tw12968326850366205803:True:=⟨⟩
theorem tw5542939644281255557:True:=⟨⟩
theorem tw16036169304360250885:True:=⟨⟩
theorem tw11211347912642141012:True:=⟨⟩
theorem tw17298852378433626366:True:=⟨⟩
theorem tw4271582606431477816:True:=⟨⟩
theorem tw7818069070884745091:True:=⟨⟩
theorem tw7317994654381813787:True:=⟨⟩
theorem tw15213060883085729264:True:=⟨⟩
theorem tw13477047166651978153:True:=⟨⟩
theorem tw11373633792117232435:True:=⟨⟩
theorem tw16421435426220211491:True:=⟨⟩
theorem tw3536181697309620094:True:=⟨⟩
theorem tw7261960485414178950:True:=⟨⟩
theorem tw12554802725130337226:True:=⟨⟩
theorem tw3370540104240719990:True:=⟨⟩
theorem tw6699676627838591571:True:=⟨⟩
theorem tw4360735237231242277:True:=⟨⟩
theorem tw17413410071020364942:True:=⟨⟩
theorem tw17834889697352533905:True:=⟨⟩
theorem tw3518579974464697747:True:=⟨⟩
theorem tw9785604531093994398:True:=⟨⟩
theorem tw13893003399930685639:True:=⟨⟩
theorem tw11613401778732885041:True:=⟨⟩
theorem tw857314882319229836:True:=⟨⟩
theorem tw6891337869482578203:True:=⟨⟩
theorem tw7958299697234107300:True:=⟨⟩
theorem tw4243987972973458025:True:=⟨⟩
theorem tw16709314238544656196:True:=⟨⟩
theorem tw13039339039329965627:True:=⟨⟩
theorem tw7912168115293927858:True:=⟨⟩
theorem tw7998052020391893448:True:=⟨⟩
theorem tw18251856666862057186:True:=⟨⟩
theorem tw635009490638462078:True:=⟨⟩
theorem tw14691041572972680315:True:=⟨⟩
theorem tw15743996952964339538:True:=⟨⟩
theorem tw18208824943484901794:True:=⟨⟩
theorem tw265726951365966869:True:=⟨⟩
theorem tw4586793954538325095:True:=⟨⟩
theorem tw17682593411207627664:True:=⟨⟩
theorem tw140784475504165292:True:=⟨⟩
theorem tw11337779841070817785:True:=⟨⟩
theorem tw17521905929677882520:True:=⟨⟩
theorem tw3918354514460424171:True:=⟨⟩
theorem tw14619774147834416215:True:=⟨⟩
theorem tw8052414182014572134:True:=⟨⟩
theorem tw3257802862946309427:True:=⟨⟩
theorem tw7902609748837699196:True:=⟨⟩
theorem tw8785236575057674845:True:=⟨⟩
theorem tw13194533968682082458:True:=⟨⟩
theorem tw9082594019241742000:True:=⟨⟩
theorem tw16678947398816866202:True:=⟨⟩
theorem tw3976715815336797503:True:=⟨⟩
theorem tw17855073166314390361:True:=⟨⟩
theorem tw13307980341934867871:True:=⟨⟩
theorem tw5755616133840458386:True:=⟨⟩
theorem tw9080106448162659136:True:=⟨⟩
theorem tw8237987948453046237:True:=⟨⟩
theorem tw8844993899342561490:True:=⟨⟩
theorem tw57191545260199370:True:=⟨⟩
theorem tw17447647157403673785:True:=⟨⟩
theorem tw6115886456242727607:True:=⟨⟩
theorem tw17227287695151665391:True:=⟨⟩
theorem tw9426203207043894237:True:=⟨⟩
theorem tw13006650760584468140:True:=⟨⟩
theorem tw8024090815813036241:True:=⟨⟩
theorem tw3236510512897382981:True:=⟨⟩
theorem tw16854069212564422139:True:=⟨⟩
theorem tw11885884402852536689:True:=⟨⟩
theorem tw6390929415058326092:True:=⟨⟩
theorem tw12135302741160733403:True:=⟨⟩
theorem tw13054967563877839098:True:=⟨⟩
theorem tw1632124757967958528:True:=⟨⟩
theorem tw3998813535275070500:True:=⟨⟩
theorem tw17237173966963229086:True:=⟨⟩
theorem tw17060670118759075027:True:=⟨⟩
theorem tw9611273144307343026:True:=⟨⟩
theorem tw1829923107774478167:True:=⟨⟩
theorem tw9647857947329854590:True:=⟨⟩
theorem tw10051133153576395586:True:=⟨⟩
theorem tw2360098822341148457:True:=⟨⟩
theorem tw1266117864569814392:True:=⟨⟩
theorem tw16706571987712143311:True:=⟨⟩
theorem tw14129693544637799229:True:=⟨⟩
theorem tw16411769300351461858:True:=⟨⟩
theorem tw7246298462620601880:True:=⟨⟩
theorem tw17703249210544922825:True:=⟨⟩
theorem tw16497126432656636624:True:=⟨⟩
theorem tw3253754181320017488:True:=⟨⟩
theorem tw8200012069099255607:True:=⟨⟩
theorem tw13274622293697475654:True:=⟨⟩
theorem tw9205391191361211364:True:=⟨⟩
theorem tw9590222996666943681:True:=⟨⟩
theorem tw8464035317098199640:True:=⟨⟩
theorem tw3385248676454171183:True:=⟨⟩
theorem tw13595858449513463999:True:=⟨⟩
theorem tw5134664039493900783:True:=⟨⟩
theorem tw12569691363061011896:True:=⟨⟩
theorem tw15749079732417300896:True:=⟨⟩
theorem tw13827555663653529709:True:=⟨⟩
theorem tw5803761818604443115:True:=⟨⟩
theorem tw6351236634351526392:True:=⟨⟩
theorem tw16855810969749233809:True:=⟨⟩
theorem tw16306645384099239230:True:=⟨⟩
theorem tw5185854952847722186:True:=⟨⟩
theorem tw1702310807547313498:True:=⟨⟩
theorem tw6077699859828587824:True:=⟨⟩
theorem tw11998967331251276851:True:=⟨⟩
theorem tw5933446080372482120:True:=⟨⟩
theorem tw13615398863947481106:True:=⟨⟩
theorem tw18367153285573895572:True:=⟨⟩
theorem tw3559720427435408125:True:=⟨⟩
theorem tw17834013355360379964:True:=⟨⟩
theorem tw15797392194368152690:True:=⟨⟩
theorem tw14414495988315041090:True:=⟨⟩
theorem tw3566791737410406121:True:=⟨⟩
theorem tw18098834524993361554:True:=⟨⟩
theorem tw2596320122911664407:True:=⟨⟩
theorem tw383458366426742714:True:=⟨⟩
theorem tw4609118258297923029:True:=⟨⟩
theorem tw5319300772262962776:True:=⟨⟩
theorem tw16034194211833556591:True:=⟨⟩
theorem tw13820207997773209781:True:=⟨⟩
theorem tw13871029146222004735:True:=⟨⟩
theorem tw7614259676223370820:True:=⟨⟩
theorem tw2498262730962595057:True:=⟨⟩
theorem tw7639800714335422478:True:=⟨⟩
theorem tw11531984233677024703:True:=⟨⟩
theorem tw17546704521087110881:True:=⟨⟩
theorem tw9538327662567857252:True:=⟨⟩
theorem tw16108020482304826737:True:=⟨⟩
theorem tw730982893658178976:True:=⟨⟩
theorem tw10271531404497682186:True:=⟨⟩
theorem tw2810819741068376768:True:=⟨⟩
theorem tw1040714705880551405:True:=⟨⟩
theorem tw14998370969967990424:True:=⟨⟩
theorem tw15977401664086070918:True:=⟨⟩
theorem tw3735207930750413954:True:=⟨⟩
theorem tw618309240070836952:True:=⟨⟩
theorem tw17366948270887076667:True:=⟨⟩
theorem tw11581099161610163717:True:=⟨⟩
theorem tw18236801642828614155:True:=⟨⟩
theorem tw5201079321201969503:True:=⟨⟩
theorem tw15520827586729118090:True:=⟨⟩
theorem tw9453341561372701579:True:=⟨⟩
theorem tw15839958776999629421:True:=⟨⟩
theorem tw15479594037954522176:True:=⟨⟩
theorem tw5638284549818045825:True:=⟨⟩
theorem tw7494385523621644495:True:=⟨⟩
theorem tw16161952048583989354:True:=⟨⟩
theorem tw12949683381229118063:True:=⟨⟩
theorem tw14126605159822997055:True:=⟨⟩
theorem tw17507142563134861629:True:=⟨⟩
theorem tw3721681290653877092:True:=⟨⟩
theorem tw5620517018581729700:True:=⟨⟩
theorem tw3394715913316924528:True:=⟨⟩
theorem tw6316720946247038722:True:=⟨⟩
theorem tw5574236813488053191:True:=⟨⟩
theorem tw18315262848262311655:True:=⟨⟩
theorem tw12325359625814320457:True:=⟨⟩
theorem tw17334316041046372074:True:=⟨⟩
theorem tw9124227601378445556:True:=⟨⟩
theorem tw7626656401706126283:True:=⟨⟩
theorem tw1647795006583806643:True:=⟨⟩
theorem tw18107886846012485531:True:=⟨⟩
theorem tw13028328481538255449:True:=⟨⟩
theorem tw15656895627872678595:True:=⟨⟩
theorem tw12345249896697759818:True:=⟨⟩
theorem tw6566777175429126771:True:=⟨⟩
theorem tw14931253136210342652:True:=⟨⟩
theorem tw14804693115676479341:True:=⟨⟩
theorem tw1287904106062677279:True:=⟨⟩
theorem tw13804772514037955663:True:=⟨⟩
theorem tw5646320277840265803:True:=⟨⟩
theorem tw10685305205315329259:True:=⟨⟩
theorem tw17352792581841821651:True:=⟨⟩
theorem tw14452835445234833078:True:=⟨⟩
theorem tw10510552817176690302:True:=⟨⟩
theorem tw14475628515764685324:True:=⟨⟩
theorem tw3276088734179349229:True:=⟨⟩
theorem tw5842119041612598724:True:=⟨⟩
theorem tw11750136913629082999:True:=⟨⟩
theorem tw501652968437033680:True:=⟨⟩
theorem tw5453367694675388203:True:=⟨⟩
theorem tw7714834127963463429:True:=⟨⟩
end PySem.W.Fast
set_option maxRecDepth 100000 in
set_option maxHeartbeats 0 in
theorem PySem.Challenge.cw_fivecups_k65_whole_words_of_made_dances_holds : PySem.Challenge.rw_fivecups_k65_whole_words_of_made_dances.Holds := by
 w_on;o_law;k_head;(case hw=>w_witness2)
 k_fill
 refine Lw.AEw (l:=PySem.Challenge.rw_fivecups_k65_whole_words_of_made_dances) Lw.AAA rfl rfl (λw h Y=>PySem.W.kIn_of Y) ?F
 case F =>
  intro w mg fa h KX G hmg;refine' Lw.ABf KX G hmg ?wT ?zT ?dfl41 ?a41 ?l41 ?c41 ?k41 ?kc ?ka1 ?kl1 ?ka2 ?kl2
  (case wT=>repeat' (first | exact trivial | (refine' D.wrK ?a ?l ?c ?k;(case a=>k_is);(case l=>k_is);(case c=>k_is);(case k=>k_is)) | refine⟨?_,?_⟩))
  (case zT=>repeat' (first | exact trivial | refine⟨?_,?_⟩ | k_is))
  (case a41=>k_is);(case l41=>k_is);(case c41=>k_is);(case k41=>k_is)
  (case dfl41=>k_is)
  (case ka1=>k_is);(case kl1=>k_is)
  (case ka2=>k_is);(case kl2=>k_is)
  (case kc=>kernel_rfl)
